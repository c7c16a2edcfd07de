import PyProof.Rows.All
import KE.KDictOf
import KE.KFromBytes
import KE.KIsAll
import KE.KItemsList
import KE.KLam
import KE.KNestM
import KE.KSortTup
import PySem.Challenge.RW_eachonce_k21_sizes_and_weights_told
noncomputable section
set_option Elab.async false
set_option linter.all false
set_option maxRecDepth 100000
def aa:=@PySem.wpAny_bind
def ab:=@PySem.Heap.get?_push_of_some
def ae:=@List.length_map
def ag:=@List.mem_cons_self
def ah:=@List.mem_cons_of_mem
def ai:=@PySem.wpAny_pure
def aj:=@if_neg
def ak:=@List.mem_singleton
def am:=@if_pos
def ao:=@PySem.Heap.get?_push_size
def aq:=@Nat.le_refl
def ar:=@List.mem_cons
def ax:=@List.getElem?_eq_some_iff
def ay:=@PySem.Heap.lt_size
def az:=@List.mem_append_right
def aA:=@Bool.false_ne_true
def aB:=@decide_eq_true
def aC:=@List.getD_eq_getElem?_getD
def aE:=@List.mem_of_getElem?
def aF:=@List.length_append
def aG:=@List.size_toArray
def aH:=@PySem.sizeLine_eq
def aI:=@PyProof.Rows.wpS_bind
def aJ:=@List.getElem?_map
def aK:=@List.getElem?_eq_getElem
def aL:=@List.mem_append
def aM:=@PyProof.Rows.wpS_pure
def aN:=@Array.length_toList
def aO:=@Nat.ne_of_lt
def aP:=@List.length_cons
def aQ:=@List.mem_append_left
def aR:=@Nat.lt_of_lt_of_le
def aU:=@of_decide_eq_true
def aV:=@decide_eq_false
def aW:=@List.mem_map
def aX:=@List.map_cons
def aY:=@List.lookup_cons
def aZ:=@List.append_assoc
def ba:=@List.map_append
def bb:=@PySem.Heap.get?_update_other
def be:=@List.pairwise_map
def bf:=@Nat.le_trans
def bg:=@List.append_nil
def bh:=@List.length_filter_le
def bi:=@Nat.zero_le
def bo:=@List.map_congr_left
def bq:=@PySem.W.mg_none_of
def br:=@Int.toNat_natCast
def bu:=@List.take_add_one
def bv:=@List.getElem?_append_right
def bw:=@List.getElem?_of_mem
def bx:=@List.take_append_drop
def bz:=@List.map_map
def bA:=@Option.some.inj
def bB:=@Array.toList_append
def bC:=@List.not_mem_nil
def bE:=@PySem.wpAny_holding
def bF:=@List.mem_filter
def bG:=@Array.getElem?_toList
def bH:=@List.filter_append
def bI:=@List.take_length
def bJ:=@List.nodup_cons
def bK:=@PySem.Heap.size_push
def bL:=@Nat.lt_succ_of_lt
def bM:=@List.length_take
def bN:=@PySem.wpAny_setField_rec
def bO:=@List.pairwise_append
def bP:=@Classical.byContradiction
def bQ:=@List.mem_map_of_mem
def bR:=@List.take_of_length_le
def bS:=@congrArg
def bU:=@List.mem_of_mem_take
def bV:=@PySem.wpAny_call_entry
def bW:=@List.length_range
def bX:=@PySem.PassesOwn.never
def bY:=@PySem.Around.under_plainId
def bZ:=@Nat.testBit_or
def b0:=@PyProof.Rows.wpS_forRange
def b8:=@Nat.lt_irrefl
def b9:=@PySem.wpAny_mono
def cb:=@decide_eq_true_iff
def cc:=@List.getElem?_eq_none
def ce:=@List.length_take_le
def cg:=@PySem.wpAny_callSpecial?_slot
def ci:=@Array.perm_iff_toList_perm
def cj:=@List.pairwise_singleton
def ck:=@PySem.wpAny_field
def cq:=@Nat.pow_le_pow_right
def cw:=@List.getElem?_append_left
def cx:=@List.getElem?_take_of_lt
def cA:=@beq_eq_false_iff_ne
def cB:=@PySem.mem_of_lookup
def cC:=@Nat.le_of_lt
def cD:=@Nat.ne_of_gt
def cE:=@PySem.wpAny_newObj_type
def cF:=@PySem.F.plainAttrs_list
def cG:=@List.mem_range
def cH:=@List.pairwise_cons
def cI:=@PySem.W.kia_one
def cJ:=@PySem.wpAny_loadPart'
def cK:=@List.length_nil
def cL:=@PySem.codeAny_builtin
def cM:=@List.all_eq_true
def cN:=@Int.le_of_lt
def cO:=@List.pairwise_iff_getElem
def cP:=@PySem.wpAny_rule
def cQ:=@PySem.wpAny_pyIter_list
def cR:=@PySem.Heap.get?_update_self
def cS:=@PySem.wpAny_seqItems
def cU:=@beq_iff_eq
def cV:=@List.mem_of_mem_drop
def cX:=@Array.toArray_toList
def cY:=@Nat.add_sub_cancel_left
def cZ:=@List.countP_cons
def db:=@Nat.testBit_two_pow_sub_one
def de:=@List.take_sublist
def df:=@Int.le_trans
def dh:=@Nat.mod_two_eq_zero_or_one
def di:=@List.replicate_succ
def dj:=@List.getElem?_range
def dq:=@Ne.symm
def dv:=@List.Perm.append_left
def dw:=@List.Pairwise.and_mem
def dy:=@PySem.wpAny_Call_Name_kw
def dz:=@List.getElem_mem
def dE:=@Bool.false_eq_true
def dF:=@PySem.wpAny_attempt
def dG:=@or_false
def dH:=@PyProof.Rows.wpS_mono
def dI:=@Array.toList_reverse
def dJ:=@PySem.wpAny_truthy_bool
def dL:=@PySem.wpAny_setState_of
def dM:=@List.filter_cons_of_pos
def dN:=@List.filter_cons_of_neg
def dO:=@Bool.eq_iff_iff
def dP:=@List.of_mem_zip
def dQ:=@Nat.not_lt_zero
def dR:=@Nat.two_pow_pos
def dS:=@PyProof.Rows.callWith_type1
def dU:=@PySem.Calls.callWith_builtin
def dW:=@PySem.plainId_quiet
def dX:=@List.filter_cons
def dY:=@List.zip_cons_cons
def dZ:=@of_decide_eq_false
def ed:=@List.perm_append_comm
def eg:=@List.extract_eq_take_drop
def eh:=@PySem.wpAny_passesOwn
def ev:=@PySem.codeAny_mono
def eB:=@Array.toList_push
def eF:=@Int.le_refl
def eG:=@PySem.wpAny_standAt
def eJ:=@PySem.F.slot_list_append
def eL:=@PySem.F.type_list_append
def eM:=@List.filterMap_cons
def eQ:=@Nat.testBit_two_pow
def eR:=@Bool.and_eq_true
def eS:=@List.nodup_nil
def eU:=@PySem.F.plain_list_iadd
def eV:=@Nat.le_add_right
def eW:=@decide_eq_false_iff_not
def eX:=@PySem.F.slot_dict_items
def eY:=@PySem.wpAny_letGo
def eZ:=@Nat.add_zero
def fb:=@PyProof.Rows.wpS_modify
def fc:=@Nat.zero_add
def fe:=@List.find?_cons
def ff:=@List.filter_nil
def fg:=@PySem.wpAny_newList
def fh:=@PyProof.Rows.listUpdate_at
def fi:=@List.flatten_cons
def fj:=@List.countP_congr
def fm:=@PySem.sizeLine_eq
def fo:=@Array.toList_extract
def fq:=@List.exists_cons_of_ne_nil
def fu:=@Array.getElem_toList
def fw:=@List.map_id
def fz:=@Bool.or_eq_false_iff
def fB:=@List.Pairwise.filter
def fH:=@if_true
def fN:=@PySem.wpAny_askSetting
def fO:=@Nat.lt_succ_self
def fQ:=@List.any_eq_true
def fY:=@Nat.testBit_zero
def ga:=@Bool.or_true
def gb:=@Nat.zero_testBit
def gc:=@PySem.Calls.call_function_entry
def ge:=@List.getElem_of_mem
def gf:=@PySem.W.codeHd_of_K
def gh:=@List.reverse_append
def gj:=@PySem.F.args_tuple_add_2
def gm:=@List.all_cons
def gn:=@PySem.wpAny_updateSeq
def gq:=@PyProof.Rows.entry_list_sort
def gt:=@List.Perm.of_eq
def gu:=@List.countP_map
def gw:=@Int.natCast_nonneg
def gx:=@PySem.tupleKind_room_in1
def gy:=@Sum.inl.inj
def gz:=@PySem.F.entry_tuple_add
def gA:=@PySem.wpAny_Call_method0_late
def gB:=@PySem.F.plainAttrs_dict
def gC:=@PySem.W.cellsFrom_some
def gE:=@PySem.F.slot_tuple_add
def gF:=@Nat.mul_comm
def gG:=@Bool.and_false
def gH:=@PyProof.Rows.slot_list_sort
def gI:=@List.Pairwise.and
def gJ:=@Bool.not_eq_true'
def gL:=@PyProof.Rows.wpS_get
def gM:=@List.Perm.append_right
def gN:=@Nat.pow_succ
def gO:=@Bool.eq_false_iff
def gP:=@PySem.wpAny_tryCatch
def gQ:=@List.length_replicate
def gR:=@PySem.F.slot_tuple_lt
def gS:=@List.length_singleton
def gU:=@PySem.builtinLookup_eq_fast
def gW:=@PySem.F.slot_dict_get
def gX:=@List.length_drop
def gY:=@PySem.call_meets
def gZ:=@beq_self_eq_true
def g0:=@PySem.wpAny_isInstance
def g5:=@PyProof.Rows.size_push'
def g6:=@PySem.Around.in1_units
def g8:=@PySem.Paired.length
def g9:=@List.any_cons
def hG:=@PySem.W.mg_of
def hV:=@if_false
def ic:=@PySem.Calls.evalArgs_plain
def ie:=@PySem.wpAny_updateSeq_pair
def ig:=@PyProof.Rows.wpS_lift
def ik:=@List.eq_nil_of_length_eq_zero
def im:=@Bool.and_eq_true_iff
def io:=@Nat.eq_of_testBit_eq
def iq:=@PySem.wpAny_execs_nil
def ir:=@List.forIn_cons
def iu:=@PyProof.Rows.get?_update_seq
def iw:=@Nat.testBit_and
def ix:=@List.countP_eq_length_filter
def iy:=@Int.natCast_add
def iA:=@PySem.evalArgs_none
def iB:=@PySem.Heap.SameBut.update
def iC:=@Nat.mul_le_mul_left
def iE:=@List.filter_sublist
def iF:=@List.map_nil
def iG:=@Nat.lt_trans
def iH:=@PySem.F.plain_proto_collect
def iI:=@PyProof.Rows.plain_sorted
def iJ:=@PyProof.Rows.entry_sorted
def iK:=@getElem?_pos
def iM:=@Int.zero_add
def iN:=@PySem.Calls.Name_function_global
def iP:=@PySem.wpAny_load
def iQ:=@Bool.false_and
def iR:=@Int.fdiv_eq_ediv_of_nonneg
def iS:=@PySem.Calls.spliced_cons
def iT:=@PySem.wpAny_call
def iU:=@PySem.wpAny_newFunctionEnv_cells
def iV:=@PySem.SeqAt.EqAt.int_int
def iW:=@PySem.Walks.list
def iX:=@PyProof.Rows.sortedHeap_old
def iY:=@List.forIn_nil
def iZ:=@PySem.wpAny_newTuple
def i4:=@List.drop_zero
def i5:=@List.drop_drop
def i6:=@List.getElem?_drop
def i7:=@Array.toList_setIfInBounds
def i8:=@List.countP_append
def i9:=@List.perm_ext_iff_of_nodup
def ja:=@List.drop_eq_getElem_cons
def jc:=@PySem.F.args_dict_items_1
def jd:=@List.drop_sublist
def jf:=@Option.some.injEq
def jg:=@PySem.Heap.SameBut.refl
def jh:=@Nat.le_succ
def ji:=@PySem.wpAny_pyIter_slot
def jk:=@List.ext_getElem?
def jl:=@PyProof.Rows.kind_sorted
def jm:=@List.nodup_append
def jo:=@PyProof.Rows.seqEpoch_at
def jp:=@bne_self_eq_false
def jq:=@List.getElem?_set
def jr:=@List.getElem?_inj
def jt:=@Nat.mul_left_comm
def ju:=@PySem.wpAny_comprehension_free
def jw:=@PyProof.Rows.sortedHeap_at
def jx:=@PySem.wpAny_onRaise
def jy:=@PySem.F.entry_dict_items
def jz:=@List.sum_cons
def ka:=@Nat.mul_assoc
def ke:=@List.getElem?_replicate
def kf:=@PySem.F.args_tuple_lt_2
def kg:=@PySem.noFill_tuple_add
def kh:=@List.length_eq_zero_iff
def kj:=@List.zipIdx_cons
def km:=@PySem.F.args_dict_get_3
def kn:=@PySem.W.kdl_dict
def ko:=@Array.toList_map
def kq:=@PySem.F.type_dict_items
def ku:=@List.getElem?_set_self
def kx:=@PySem.F.entry_tuple_lt
def kz:=@Nat.add_comm
def la:=@Nat.not_lt
def lc:=@PySem.call_meetsIn
def lg:=@PySem.F.entry_dict_get
def lh:=@List.drop_eq_nil_of_le
def lj:=@Nat.sub_self
def ln:=@Nat.testBit_lt_two_pow
def lu:=@List.pairwise_lt_range
def lv:=@List.range_succ_eq_map
def lw:=@List.nil_append
def ly:=@PySem.typeLookup_type
def lz:=@PySem.wpAny_specialOf
def lA:=@PySem.pushCells_keeps
def lC:=@List.sum_append
def lE:=@Array.Perm.refl
def lF:=@List.length_zip
def lG:=@List.range_succ
def lH:=@and_congr_right
def lI:=@PySem.F.slot_set_iter
def lJ:=@List.set_append_right
def lK:=@List.getElem?_toArray
def lN:=@List.mem_iff_getElem?
def lO:=@List.eq_nil_or_concat
def lQ:=@List.concat_eq_append
def lR:=@List.pairwise_flatMap
def lS:=@List.countP_singleton
def lT:=@List.getElem?_set_ne
def lU:=@PySem.wpAny_of_eq
def lV:=@PySem.wpAny_runValue
def lW:=@PySem.isSubtype_type
def lX:=@PySem.entryFor_alias
def lY:=@PySem.isSubtype_stop
def lZ:=@Nat.pow_lt_pow_right
def ma:=@List.reverse_reverse
def mf:=@List.take_zero
def mh:=@List.take_succ_cons
def mj:=@Bool.not_true
def mn:=@Bool.false_or
def mo:=@List.map_take
def mq:=@Array.append_assoc
def mw:=@List.mem_filterMap
def mx:=@PySem.W.callWith_K
def my:=@PySem.W.codeRec_of
def mz:=@Nat.lt_of_le_of_lt
def mB:=@Option.isSome_some
def mC:=@Array.empty_append
def mD:=@Int.emod_lt_of_pos
def mE:=@Nat.sub_zero
def mF:=@Nat.lt_or_ge
def mG:=@Nat.pow_add
def mH:=@not_or
open PySem.W (codeHdIn envX findIn fnMade instObj keepIn kitOne kitx_dict kitx_list kla_obj lookIn methodObj mg_of mroIn plainGet tabObj)
open List (any_map replicate)
open Nat (strongRecOn)
open Array (size_map)
open Option (getD_none isSome_map)
namespace L2
open PySem PySem.Spec PyProof.Rows
def kW (s:Stmt):Arguments:=match s with
 | .FunctionDef _ a _ _ _ _ _ _ _ _=>a
 | _=> { posonlyargs:=[],args:=[],vararg:=none,kwonlyargs:=[],kw_defaults:=[],kwarg:=none,defaults:=[]}
def jC (s:Stmt):List Stmt:=match s with
 | .FunctionDef _ _ b _ _ _ _ _ _ _=>b
 | _=> []
def jA (s:Stmt):Scope:=match s with
 | .FunctionDef _ _ _ _ _ _ sc _ _ _=>sc
 | _=> { kind:= .function,names:=[],isGenerator:=false,isCoroutine:=false}
end L2
namespace Eo
open PySem L2
noncomputable def top (i:Nat):Stmt:=PySem.Challenge.pw_eachonce_k21_sizes_and_weights_told.main.body.getD i (.Pass ⟨0,0,0,0⟩)
abbrev sMask:Stmt:=top 4
abbrev kY:Stmt:=top 6
abbrev sFull:Stmt:=top 7
abbrev sAt:Stmt:=top 8
abbrev sMet:Stmt:=top 9
abbrev qJ:Stmt:=top 10
abbrev qI:Stmt:=top 11
abbrev sMany:Stmt:=top 12
abbrev sSzT:Stmt:=top 15
abbrev jCO:Stmt:=top 16
abbrev sWts:Stmt:=top 17
abbrev sCell:Stmt:=top 19
abbrev sPot:Stmt:=top 20
abbrev sTake:Stmt:=top 21
abbrev sLot:Stmt:=top 22
abbrev sBox:Stmt:=top 23
abbrev jDI:Stmt:=top 24
abbrev sSame:Stmt:=top 25
abbrev jAX:Stmt:=top 26
abbrev jCP:Stmt:=top 27
abbrev kQ:Stmt:=top 28
abbrev yK:Stmt:=top 29
abbrev sLaw:Stmt:=top 30
noncomputable def kC (x:Str)(t:Nat)(l n:Int)(a:Nat)(X Y:Value)(z:Nat)(u:Int)(v:Nat):Obj:=⟨.type "code",none, .fields #[.str x t, .str x (t+1), .str "/claim/cut.py" (t+2), .int l 0, .int n 0, .int 0 0, .int 0 0, .int 3 0, .ref a, .bool true, .int 181 0, .ref (a+1), .none,X,Y, .ref z, .int u 0, .int l 0, .str "/claim/cut.py" v],#[]⟩
noncomputable def kF (x:Str)(s:Stmt)(m:Str)(t c:Nat):Obj:=⟨.type "function",none, .func (PySem.W.fnOf x x (kW s) (jC s) (jA s) .none .none .none (.str m t) none (.ref c) .none),#[]⟩
noncomputable def kM (P:Params):Obj:=
 let e (x:Str) (t:Nat) (v:Value):DictEntry:=⟨PyData.keyHash P x, .str x t,v⟩
 ⟨.type "dict",none, .dict #[e "__name__" 165 (.str "law_eachonce_k21_sizes_and_weights_told" 311),e "__doc__" 166 (.none),e "__package__" 167 (.none),e "__loader__" 168 (.builtin "__main__.__loader__#opaque"),e "__spec__" 169 (.none),e "__annotations__" 170 (.ref 6),e "__builtins__" 171 (.ref 4),e "__file__" 173 (.str "/claim/cut.py" 172),e "__cached__" 174 (.none),e "OnceError" 206 (.ref 24),e "TooMany" 222 (.ref 37),e "mask_of" 230 (.ref 44),e "choices_of" 238 (.ref 49),e "full_mask" 245 (.ref 56),e "choices_at" 251 (.ref 61),e "masks_met" 264 (.ref 68),e "gathered" 270 (.ref 73),e "ways_of" 277 (.ref 80),e "many" 284 (.ref 87),e "MOST_WEIGHED" 288 (.int 1000 287),e "sizes_together" 294 (.ref 92),e "sizes" 301 (.ref 99),e "weights" 310 (.ref 106),e "_law_cell_at" 320 (.ref 113),e "_law_pot" 330 (.ref 120),e "_law_take" 339 (.ref 127),e "_law_lot" 345 (.ref 132),e "_law_box" 351 (.ref 137),e "_law_whole" 358 (.ref 144),e "_law_same" 364 (.ref 149),e "_law_covers" 370 (.ref 154),e "_law_rank" 376 (.ref 159),e "_law_every" 382 (.ref 164),e "_law_sum_up" 388 (.ref 169),e "law" 401 (.ref 176)] 35,#[]⟩
noncomputable def kK (P:Params):W.Frag:=(nat_lit 3,kM P)::(nat_lit 4,⟨.type "module",some 0, .plain,#[]⟩)::(nat_lit 43,kC "mask_of" 225 7 1 40 (.none) (.none) 42 228 229)::(nat_lit 44,kF "mask_of" sMask "eachonce.kinds" 223 43)::(nat_lit 48,kC "choices_of" 233 10 1 45 (.none) (.none) 47 236 237)::(nat_lit 49,kF "choices_of" kY "eachonce.coverings" 231 48)::(nat_lit 55,kC "full_mask" 239 15 1 50 (.ref 52) (.ref 53) 54 243 244)::(nat_lit 56,kF "full_mask" sFull "eachonce.coverings" 231 55)::(nat_lit 60,kC "choices_at" 246 17 2 57 (.none) (.none) 59 249 250)::(nat_lit 61,kF "choices_at" sAt "eachonce.coverings" 231 60)::(nat_lit 67,kC "masks_met" 252 20 1 62 (.ref 64) (.ref 65) 66 262 263)::(nat_lit 68,kF "masks_met" sMet "eachonce.coverings" 231 67)::(nat_lit 72,kC "gathered" 265 32 3 69 (.none) (.none) 71 268 269)::(nat_lit 73,kF "gathered" qJ "eachonce.coverings" 231 72)::(nat_lit 79,kC "ways_of" 271 41 1 74 (.ref 76) (.ref 77) 78 275 276)::(nat_lit 80,kF "ways_of" qI "eachonce.coverings" 231 79)::(nat_lit 86,kC "many" 278 43 1 81 (.ref 83) (.ref 84) 85 282 283)::(nat_lit 87,kF "many" sMany "eachonce.coverings" 231 86)::(nat_lit 91,kC "sizes_together" 289 47 1 88 (.none) (.none) 90 292 293)::(nat_lit 92,kF "sizes_together" sSzT "eachonce.counts" 285 91)::(nat_lit 98,kC "sizes" 295 54 1 93 (.ref 95) (.ref 96) 97 299 300)::(nat_lit 99,kF "sizes" jCO "eachonce.counts" 285 98)::(nat_lit 105,kC "weights" 302 56 1 100 (.ref 102) (.ref 103) 104 308 309)::(nat_lit 106,kF "weights" sWts "eachonce.counts" 285 105)::(nat_lit 112,kC "_law_cell_at" 313 69 2 107 (.ref 109) (.ref 110) 111 318 319)::(nat_lit 113,kF "_law_cell_at" sCell "law_eachonce_k21_sizes_and_weights_told" 311 112)::(nat_lit 119,kC "_law_pot" 321 73 1 114 (.ref 116) (.ref 117) 118 328 329)::(nat_lit 120,kF "_law_pot" sPot "law_eachonce_k21_sizes_and_weights_told" 311 119)::(nat_lit 126,kC "_law_take" 331 82 2 121 (.ref 123) (.ref 124) 125 337 338)::(nat_lit 127,kF "_law_take" sTake "law_eachonce_k21_sizes_and_weights_told" 311 126)::(nat_lit 131,kC "_law_lot" 340 86 2 128 (.none) (.none) 130 343 344)::(nat_lit 132,kF "_law_lot" sLot "law_eachonce_k21_sizes_and_weights_told" 311 131)::(nat_lit 136,kC "_law_box" 346 95 3 133 (.none) (.none) 135 349 350)::(nat_lit 137,kF "_law_box" sBox "law_eachonce_k21_sizes_and_weights_told" 311 136)::(nat_lit 143,kC "_law_whole" 352 113 1 138 (.ref 140) (.ref 141) 142 356 357)::(nat_lit 144,kF "_law_whole" jDI "law_eachonce_k21_sizes_and_weights_told" 311 143)::(nat_lit 148,kC "_law_same" 359 115 2 145 (.none) (.none) 147 362 363)::(nat_lit 149,kF "_law_same" sSame "law_eachonce_k21_sizes_and_weights_told" 311 148)::(nat_lit 153,kC "_law_covers" 365 127 2 150 (.none) (.none) 152 368 369)::(nat_lit 154,kF "_law_covers" jAX "law_eachonce_k21_sizes_and_weights_told" 311 153)::(nat_lit 158,kC "_law_rank" 371 133 2 155 (.none) (.none) 157 374 375)::(nat_lit 159,kF "_law_rank" jCP "law_eachonce_k21_sizes_and_weights_told" 311 158)::(nat_lit 163,kC "_law_every" 377 135 1 160 (.none) (.none) 162 380 381)::(nat_lit 164,kF "_law_every" kQ "law_eachonce_k21_sizes_and_weights_told" 311 163)::(nat_lit 168,kC "_law_sum_up" 383 144 1 165 (.none) (.none) 167 386 387)::(nat_lit 169,kF "_law_sum_up" yK "law_eachonce_k21_sizes_and_weights_told" 311 168)::(nat_lit 175,kC "law" 389 153 1 170 (.ref 172) (.ref 173) 174 399 400)::(nat_lit 176,kF "law" sLaw "law_eachonce_k21_sizes_and_weights_told" 311 175)::[]
noncomputable def kA:List Addr:=[3,4,43,44,48,49,55,56,60,61,67,68,72,73,79,80,86,87,91,92,98,99,105,106,112,113,119,120,126,127,131,132,136,137,143,144,148,149,153,154,158,159,163,164,168,169,175,176]
noncomputable def vw:Program:= { PySem.Challenge.pw_eachonce_k21_sizes_and_weights_told with main:= { PySem.Challenge.pw_eachonce_k21_sizes_and_weights_told.main with body:=[top 1,top 2,top 4,top 6,top 7,top 8,top 9,top 10,top 11,top 12,top 14,top 15,top 16,top 17,top 19,top 20,top 21,top 22,top 23,top 24,top 25,top 26,top 27,top 28,top 29,top 30]}}
theorem kA_eq:∀P,kA=(kK P).map (·.1):=λ_=>by kernel_rfl
noncomputable abbrev kH:PySem.W.Hook:=PySem.W.kmHook kK kA kA_eq [75,161,101]
set_option maxHeartbeats 0 in
theorem left:PySem.W.LeftO PySem.Challenge.rw_eachonce_k21_sizes_and_weights_told.prog vw [] (λs=>PySem.W.xlAt vw [] s&&PySem.W.recOk (PySem.W.RowW.records (PySem.W.OpenRow.toRowW PySem.Challenge.rw_eachonce_k21_sizes_and_weights_told.row)) s) (PySem.W.Hook.obs kH) (PySem.W.Hook.val kH) 2900:=λw=>by kernel_rfl
end Eo
section
namespace L2
open PySem PySem.Spec PyProof.Rows
abbrev Key:=Sum Int Str
def qL:Key->Value->Bool
 | .inl k,v=>Value.isInt k v
 | .inr x,v=>Value.isStrOf x v
def keyH (w:World):Key->Int
 | .inl k=>hashInt k
 | .inr x=>hashStr w x
theorem jO:∀{k:Key}{v:Value},qL k v=true->(∃i t,k=Sum.inl i/\v=Value.int i t)\/(∃x t,k=Sum.inr x/\v=Value.str x t)
 | .inl i,v,h=>by
  obtain⟨t,e⟩:=Value.isInt_shape (k:=i) (v:=v) h
  exact .inl ⟨i,t,rfl,e⟩
 | .inr x,v,h=>by
  obtain⟨t,e⟩:=Value.isStrOf_shape (x:=x) (v:=v) h
  exact .inr ⟨x,t,rfl,e⟩
theorem jMH (i:Int)(t:Tok):qL (.inl i) (.int i t)=true:=by simp [qL,Value.isInt]
theorem jMG (x:Str)(t:Tok):qL (.inr x) (.str x t)=true:=by simp [qL,Value.isStrOf]
theorem jUX (a b:Int):decide ((Sum.inl a:Key)=Sum.inl b)=(a==b):=by
 by_cases e:a=b
 ·subst e; simp
 ·have h:¬(Sum.inl a:Key)=Sum.inl b:=λq=>e (gy q)
  rw[aV h]
  exact(cA.mpr e).symm
theorem jUU (a b:Str):decide ((Sum.inr a:Key)=Sum.inr b)=decide (a=b):=by
 by_cases e:a=b
 ·subst e; simp
 ·have h:¬(Sum.inr a:Key)=Sum.inr b:=λq=>e (Sum.inr.inj q)
  rw[aV h,aV e]
theorem jUW (a:Int)(b:Str):decide ((Sum.inl a:Key)=Sum.inr b)=false:=aV (λq=>nomatch q)
theorem jUV (a:Str)(b:Int):decide ((Sum.inr a:Key)=Sum.inl b)=false:=aV (λq=>nomatch q)
def jM (prog:Program)(w:World):PySem.KeyKind prog w Key where
 is:=qL
 hash:=keyH w
 inj:=λv a b ha hb=>by
  rcases jO ha with ⟨i,t,rfl,rfl⟩ | ⟨x,t,rfl,rfl⟩
  ·rcases jO hb with ⟨j,u,rfl,e⟩ | ⟨y,u,rfl,e⟩
   ·injection e with e1 _; rw[e1]
   ·exact nomatch e
  ·rcases jO hb with ⟨j,u,rfl,e⟩ | ⟨y,u,rfl,e⟩
   ·exact nomatch e
   ·injection e with e1 _; rw[e1]
 byValue:=λk v h=>by
  rcases jO h with ⟨i,t,rfl,rfl⟩ | ⟨x,t,rfl,rfl⟩ <;> rfl
 pyHash:=λhv h=>by
  rcases jO hv with ⟨i,t,rfl,rfl⟩ | ⟨x,t,rfl,rfl⟩
  ·exact wpAny_pyHash_int h
  ·exact wpAny_pyHash_str h
 eqBool:=λhu hv h=>by
  rcases jO hu with ⟨i,t,rfl,rfl⟩ | ⟨x,t,rfl,rfl⟩
  ·rcases jO hv with ⟨j,u,rfl,rfl⟩ | ⟨y,u,rfl,rfl⟩
   ·rw[jUX] at h; exact wpAny_eqBool_int h
   ·rw[jUW] at h; exact SeqAt.EqAt.int_str i t y u _ _ _ _ h
  ·rcases jO hv with ⟨j,u,rfl,rfl⟩ | ⟨y,u,rfl,rfl⟩
   ·rw[jUV] at h; exact SeqAt.EqAt.str_int x t j u _ _ _ _ h
   ·rw[jUU] at h; exact wpAny_eqBool_str h
 «strs»:=λk x t v h=>by
  rcases jO h with ⟨i,u,rfl,e⟩ | ⟨y,u,rfl,e⟩
  ·exact nomatch e
  ·injection e with e1 _
   subst e1
   cases v <;> rfl
theorem jHX (prog:Program)(w:World)(i:Int)(t:Tok):(jM prog w).is (.inl i) (.int i t)=true:=jMH i t
theorem jHW (prog:Program)(w:World)(x:Str)(t:Tok):(jM prog w).is (.inr x) (.str x t)=true:=jMG x t
inductive V where
 | non | bl (b:Bool) | int (i:Int) | str (x:Str) | byt (b:Array UInt8) | flt (b:UInt64) | ref (a:Addr) | ty (n:String)
 deriving DecidableEq
def RelV:V->Value->Prop
 | .non,u=>u=Value.none
 | .bl b,u=>u=Value.bool b
 | .int i,u=>∃t,u=Value.int i t
 | .str x,u=>∃t,u=Value.str x t
 | .byt b,u=>∃t,u=Value.bytes b t
 | .flt b,u=>∃t,u=Value.float b t
 | .ref a,u=>u=Value.ref a
 | .ty n,u=>u=Value.type n
abbrev Vals:List V->List Value->Prop:=Paired RelV
theorem Vals.length {xs:List V}{us:List Value}(r:Vals xs us):xs.length=us.length:=g8 r
theorem Vals.get:∀{xs:List V}{us:List Value}{i:Nat}{x:V},Vals xs us->xs[i]?=some x->∃u,us[i]?=some u/\RelV x u
 | _,_,_,_, .nil,e=>by simp at e
 | _,_,0,_, .cons r _,e=>by simp at e; subst e; exact⟨_,rfl,r⟩
 | _,_,i+1,x, .cons _ t,e=>by
  obtain⟨u,h1,h2⟩:=Vals.get (i:=i) (x:=x) t (by simpa using e)
  exact⟨u,by simpa using h1,h2⟩
theorem Vals.set {x:V}{u:Value}(r:RelV x u):∀{xs:List V}{us:List Value}(i:Nat),Vals xs us->Vals (xs.set i x) (us.set i u)
 | _,_,_, .nil=> .nil
 | _,_,0, .cons _ t=> .cons r t
 | _,_,i+1, .cons q t=> .cons q (Vals.set r i t)
theorem Vals.append:∀{xs ys:List V}{us ws:List Value},Vals xs us->Vals ys ws->Vals (xs++ys) (us++ws)
 | _,_,_,_, .nil,s=>s
 | _,_,_,_, .cons r t,s=> .cons r (Vals.append t s)
theorem Vals.take:∀{xs:List V}{us:List Value}(n:Nat),Vals xs us->Vals (xs.take n) (us.take n)
 | _,_,0,_=> .nil
 | _,_,_+1, .nil=> .nil
 | _,_,n+1, .cons r t=> .cons r (Vals.take n t)
theorem Vals.drop:∀{xs:List V}{us:List Value}(n:Nat),Vals xs us->Vals (xs.drop n) (us.drop n)
 | _,_,0,r=>r
 | _,_,_+1, .nil=> .nil
 | _,_,n+1, .cons _ t=>Vals.drop n t
def RelO:Option V->Option Value->Prop
 | some v,some u=>RelV v u
 | none,none=>True
 | _,_=>False
def KV {κ:Type} :List (κ×V)->List (κ×Value)->Prop:=Paired λ(p:κ×V) (q:κ×Value)=>p.1=q.1/\RelV p.2 q.2
noncomputable def kV:Key->V
 | .inl i=> .int i
 | .inr x=> .str x
def TupO (h:Heap)(a:Addr)(items:Array Value):Prop:=∃n,h.get? a=some { cls:= .type "tuple",data:= .seq items n}
theorem TupO.isTup {h:Heap}{a:Addr}{items:Array Value}(x:TupO h a items):IsTup h a items:=let ⟨n,e⟩:=x; ⟨_,e,rfl,n,rfl⟩
theorem TupO.new (h:Heap)(items:Array Value):TupO (h.push { cls:= .type "tuple",data:= .seq items}) h.objs.size items:=⟨0,ao _ rfl⟩
inductive HO where
  | lst (xs:List V)
  | tup (xs:List V)
  | dK (kvs:List (Key×V)) | dT (kvs:List (List Key×V))
  | set (S:Int->Bool) (n:Nat)
  | ins (C dx:Addr) (fs:List (Str×V))
  | own (x:Addr)
  | xd (fs:List (Str×V))
  | met (f x:Addr)
  | rng (lo hi:Int)
  | frz (o:Obj) (u:HO)
  | tbl (ps:Array Value)
  | ext (φ:Heap->Prop)
abbrev Hp:=Addr->Option HO
def upd (H:Hp)(a:Addr)(o:HO):Hp:=λb=>if b=a then some o else H b
theorem j5 {H:Hp}{a:Addr}{o:HO} :upd H a o a=some o:=by unfold upd; rw[am rfl]
theorem j6 {H:Hp}{a b:Addr}{o:HO}(h:b≠a):upd H a o b=H b:=by unfold upd; rw[aj h]
theorem ne_of {H:Hp}{a b:Addr}{o u:HO}(h:H a=some o)(h':H b=some u)(d:o≠u):a≠b:=by
 intro e; subst e; rw[h] at h'; exact d (bA h')
theorem j9 {H:Hp}{a b:Addr}{o:HO}(h:H a=some o)(h':H b=none):a≠b:=by
 intro e; subst e; rw[h] at h'; cases h'
section
variable (P:Program)(w:World)
def ObjOk (H:Hp)(h:Heap)(a:Addr):HO->Prop
 | .lst xs=>xs.length<=sizeLine/\∃(its:List Value) (n:Nat),Vals xs its/\h.get? a=some { cls:= .type "list",data:= .seq its.toArray n}
 | .tup xs=>xs.length<=sizeLine/\∃its:List Value,Vals xs its/\TupO h a its.toArray
 | .dK kvs=>kvs.length<=sizeLine/\(a==sysModules)=false/\∃vs,KV kvs vs/\h.DictOf (jM P w) a vs
 | .dT kvs=>kvs.length<=sizeLine/\(a==sysModules)=false/\∃xs:List (List Key×Addr×Value),
   Paired (λ(p:List Key×V) (q:List Key×Addr×Value)=>p.1=q.1/\H q.2.1=some (.tup (p.1.map kV))/\RelV p.2 q.2.2) kvs xs/\
   ∃o es ep,h.get? a=some o/\o.ExactDict/\o.data= .dict es ep/\es.toList=xs.map (entryOfKey (tupleKind (jM P w)))/\(xs.map (·.1)).Nodup
 | .set S n=>h.SetOf (intKind P w) a S n
 | .ins C dx fs=>H dx=some (.own a)/\fs.length<=1000/\dx≠a/\h.get? a=some (instObj C dx)/\
   ∃mA,h.Ns1 dx mA/\(∀f,RelO (fs.lookup f) (mA f))/\PySem.Within mA (fs.map (·.1))
 | .own _=>∃o,h.get? a=some o
 | .xd fs=>∃mA,h.Ns1 a mA/\∀f,RelO (fs.lookup f) (mA f)
 | .rng lo hi=>∃t u v,h.get? a=some { cls:= .type "range",data:= .fields #[.int lo t, .int hi u, .int 1 v]}
 | .frz o u=>h.get? a=some o/\ObjOk H h a u
 | .tbl ps=>h.get? a=some { cls:= .none,data:= .fields ps}
 | .met f x=>h.get? a=some (methodObj (.ref f) (.ref x))
 | .ext φ=>φ h/\(∃o,h.get? a=some o)/\∀h1 h2:Heap,φ h1->(∀o,h1.get? a=some o->h2.get? a=some o)->φ h2
def HOk (H:Hp)(h:Heap):Prop:=∀a o,H a=some o->ObjOk P w H h a o
end
variable {P:Program}{w:World}{H H':Hp}{h h':Heap}{a:Addr}
section
variable {o:HO}
theorem ObjOk.lt (x:ObjOk P w H h a o):a<h.objs.size:=by
 cases o with
 | lst xs=>obtain⟨_,_,_,_,e⟩:=x; exact ay e
 | tup xs=>obtain⟨_,_,_,_,e⟩:=x; exact ay e
 | dK kvs=>obtain⟨_,_,_,_,o,_,_,e,_⟩:=x; exact ay e
 | dT kvs=>obtain⟨_,_,_,_,o,_,_,e,_⟩:=x; exact ay e
 | set S n=>obtain⟨o,_,_,_,e,_⟩:=x; exact ay e
 | ins C dx fs=>obtain⟨_,_,_,e,_⟩:=x; exact ay e
 | own y=>obtain⟨_,e⟩:=x; exact ay e
 | xd fs=>obtain⟨_,⟨_,_,_,e,_⟩,_⟩:=x; exact ay e
 | rng lo hi=>obtain⟨_,_,_,e⟩:=x; exact ay e
 | frz ob u=>obtain⟨e,_⟩:=x; exact ay e
 | tbl ps=>exact ay (show h.get? a=some _ from x)
 | met f y=>exact ay (show h.get? a=some _ from x)
 | ext φ=>obtain⟨_,⟨_,e⟩,_⟩:=x; exact ay e
theorem Paired.mapP {α β:Type}{F G:α->β->Prop} :∀{l₁:List α}{l₂:List β},Paired F l₁ l₂->(∀a b,F a b->G a b)->Paired G l₁ l₂
 | _,_, .nil,_=> .nil
 | _,_, .cons r t,f=> .cons (f _ _ r) (Paired.mapP t f)
theorem ObjOk.stay (x:ObjOk P w H h a o)(k:∀b u,(b=a\/H b=some (.own a))->h.get? b=some u->h'.get? b=some u)
  (ho:∀b,H b=some (.own a)->H' b=some (.own a)) (ht:∀b xs,H b=some (.tup xs)->H' b=some (.tup xs)):ObjOk P w H' h' a o:=by
 induction o with
 | lst xs=>obtain⟨z,its,n,r,e⟩:=x; exact⟨z,its,n,r,k _ _ (.inl rfl) e⟩
 | tup xs=>obtain⟨z,its,r,n,e⟩:=x; exact⟨z,its,r,n,k _ _ (.inl rfl) e⟩
 | dK kvs=>obtain⟨z,y,vs,r,ob,es,ep,e,c⟩:=x; exact⟨z,y,vs,r,ob,es,ep,k _ _ (.inl rfl) e,c⟩
 | dT kvs=>
  obtain⟨z,y,xs,r,ob,es,ep,e,c⟩:=x
  exact⟨z,y,xs,Paired.mapP r λp q z=>⟨z.1,ht _ _ z.2.1,z.2.2⟩,ob,es,ep,k _ _ (.inl rfl) e,c⟩
 | set S n=>obtain⟨ob,es,ep,t,e,c⟩:=x; exact⟨ob,es,ep,t,k _ _ (.inl rfl) e,c⟩
 | ins C dx fs=>
  obtain⟨d,z,ne,e,mA,⟨od,es,ep,e2,c⟩,r⟩:=x
  exact⟨ho _ d,z,ne,k _ _ (.inl rfl) e,mA,⟨od,es,ep,k _ _ (.inr d) e2,c⟩,r⟩
 | own y=>obtain⟨ob,e⟩:=x; exact⟨ob,k _ _ (.inl rfl) e⟩
 | xd fs=>obtain⟨mA,⟨od,es,ep,e,c⟩,r⟩:=x; exact⟨mA,⟨od,es,ep,k _ _ (.inl rfl) e,c⟩,r⟩
 | rng lo hi=>obtain⟨t,u,v,e⟩:=x; exact⟨t,u,v,k _ _ (.inl rfl) e⟩
 | frz ob u ih=>obtain⟨e,q⟩:=x; exact⟨k _ _ (.inl rfl) e,ih q⟩
 | tbl ps=>
  have e:h.get? a=some { cls:= .none,data:= .fields ps} :=x
  show h'.get? a=some { cls:= .none,data:= .fields ps}
  exact k a _ (.inl rfl) e
 | met f y=>
  have e:h.get? a=some (methodObj (.ref f) (.ref y)):=x
  show h'.get? a=some (methodObj (.ref f) (.ref y))
  exact k a _ (.inl rfl) e
 | ext φ=>obtain⟨p,⟨o,e⟩,st⟩:=x; exact⟨st _ _ p λo q=>k _ _ (.inl rfl) q,⟨o,k _ _ (.inl rfl) e⟩,st⟩
theorem HOk.lt (x:HOk P w H h)(e:H a=some o):a<h.objs.size:=(x a o e).lt
theorem HOk.fresh (x:HOk P w H h)(e:h.objs.size<=a):H a=none:=by
 cases q:H a with
 | none=>rfl
 | some u=>exact absurd (aR (x.lt q) e) (b8 _)
theorem HOk.kept (x:HOk P w H h)(k:∀b u,h.get? b=some u->h'.get? b=some u):HOk P w H h':=λa o e=>
 (x a o e).stay (λb u _ q=>k b u q) (λ_ q=>q) λ_ _ q=>q
theorem HOk.laid (x:HOk P w H h)(k:∀b u,h.get? b=some u->h'.get? b=some u)(hp:h.objs.size<=a)(new:ObjOk P w (upd H a o) h' a o):HOk P w (upd H a o) h':=λb u e=>by
 have hn:=x.fresh hp
 by_cases hb:b=a
 ·subst hb; rw[j5] at e; cases e; exact new
 ·rw[j6 hb] at e
  exact(x b u e).stay (λc v _ q=>k c v q) (λc q=>by rw[j6 (j9 q hn)]; exact q) λc xs q=>by rw[j6 (j9 q hn)]; exact q
end
def Rd (H:Hp)(a:Addr)(u:HO):Prop:=H a=some u\/∃o,H a=some (.frz o u)
theorem Rd.ok {P:Program}{w:World}{H:Hp}{h:Heap}{a:Addr}{u:HO}(r:Rd H a u)(x:HOk P w H h):ObjOk P w H h a u:=by
 rcases r with r | ⟨o,r⟩
 ·exact x a u r
 ·obtain⟨_,q⟩:=x a _ r
  exact q
def Mut:Option HO->Prop
 | some (.lst _)=>True
 | some (.dK _)=>True
 | some (.dT _)=>True
 | some (.set _ _)=>True
 | some (.ins _ _ _)=>True
 | some (.ext _)=>True
 | _=>False
variable {x:Addr}
section
variable {e:Addr}{o':HO}
theorem HOk.write (ok:HOk P w H h)(mu:Mut (H x))(he:e=x\/H e=some (.own x))(k:∀b u,b≠e->h.get? b=some u->h'.get? b=some u)(heo:∃u,h'.get? e=some u)
  (new:ObjOk P w (upd H x o') h' x o'):HOk P w (upd H x o') h':=λb u q=>by
 have nown:∀c y,H c=some (.own y)->c≠x:=λc y r z=>by subst z; rw[r] at mu; exact mu
 have ntup:∀c xs,H c=some (.tup xs)->c≠x:=λc xs r z=>by subst z; rw[r] at mu; exact mu
 by_cases hb:b=x
 ·subst hb; rw[j5] at q; cases q; exact new
 ·rw[j6 hb] at q
  by_cases hbe:b=e
  ·have q':H b=some (.own x):=by
    rcases he with z | z
    ·exact absurd (hbe.trans z) hb
    ·rw[hbe]; exact z
   rw[q] at q'; cases q'
   obtain⟨v,hv⟩:=heo
   exact⟨v,by rw[hbe]; exact hv⟩
  ·refine(ok b u q).stay (λc v hc r=>k c v ?_ r) (λc r=>by rw[j6 (nown c b r)]; exact r) λc xs r=>by rw[j6 (ntup c xs r)]; exact r
   rcases hc with rfl | hc
   ·exact hbe
   ·rintro rfl
    rcases he with z | z
    ·exact nown c b hc z
    ·rw[hc] at z; cases z; exact hb rfl
end
structure Un (fs ex:List Addr)(H H':Hp)(h h':Heap):Prop where
 keep:∀b o,h.get? b=some o->H b=none->b∉fs->b∉ex->h'.get? b=some o
 slot:∀b o,h.get? b=some o->H b=none->b∈fs->b∉ex->∃sl,h'.get? b=some { o with slots:=sl}
 free:∀b o,h.get? b=some o->H b=none->b∉ex->H' b=none
 there:∀b o,h.get? b=some o->b∉ex->∃o',h'.get? b=some o'
 tups:∀b xs,H b=some (.tup xs)->H' b=some (.tup xs)
 frzs:∀b o u,H b=some (.frz o u)->H' b=some (.frz o u)
 tbls:∀b ps,H b=some (.tbl ps)->∃more,H' b=some (.tbl (ps++more))
section
variable {fs fs' ex ex':List Addr}{H1 H2:Hp}{h1 h2:Heap}{e:Addr}{o:HO}
theorem Un.any (u:Un fs ex H H1 h h1){b:Addr}{ob:Obj}(q:h.get? b=some ob)(n:H b=none)(hx:b∉ex):∃sl,h1.get? b=some { ob with slots:=sl} :=by
 by_cases hb:b∈fs
 ·exact u.slot b ob q n hb hx
 ·exact⟨ob.slots,u.keep b ob q n hb hx⟩
theorem Un.trans (a:Un fs ex H H1 h h1)(b:Un fs ex H1 H2 h1 h2):Un fs ex H H2 h h2 where
 keep:=λc ob q n hc hx=>b.keep c ob (a.keep c ob q n hc hx) (a.free c ob q n hx) hc hx
 slot:=λc ob q n hc hx=>by
  obtain⟨sl,e1⟩:=a.slot c ob q n hc hx
  obtain⟨sl',e2⟩:=b.slot c _ e1 (a.free c ob q n hx) hc hx
  exact⟨sl',e2⟩
 free:=λc ob q n hx=>by
  obtain⟨o',e1⟩:=a.there c ob q hx
  exact b.free c o' e1 (a.free c ob q n hx) hx
 there:=λc ob q hx=>by
  obtain⟨o',e1⟩:=a.there c ob q hx
  exact b.there c o' e1 hx
 tups:=λc xs q=>b.tups c xs (a.tups c xs q)
 frzs:=λc ob xs q=>b.frzs c ob xs (a.frzs c ob xs q)
 tbls:=λc ps q=>by
  obtain⟨m1,e1⟩:=a.tbls c ps q
  obtain⟨m2,e2⟩:=b.tbls c _ e1
  exact⟨m1++m2,by rw[e2,mq]⟩
theorem Un.kept (k:∀b u,h.get? b=some u->h'.get? b=some u):Un fs ex H H h h':=
 ⟨λb ob q _ _ _=>k b ob q,λb ob q _ _ _=>⟨ob.slots,k b ob q⟩,λ_ _ _ n _=>n,λb ob q _=>⟨ob,k b ob q⟩,λ_ _ q=>q,λ_ _ _ q=>q,λ_ ps q=>⟨#[],by rw[q]; simp⟩⟩
theorem Un.refl:Un fs ex H H h h:=Un.kept λ_ _ q=>q
theorem Un.laid (k:∀b u,h.get? b=some u->h'.get? b=some u)(hp:h.objs.size<=a)(hn:H a=none):Un fs ex H (upd H a o) h h' where
 keep:=λb u q _ _ _=>k b u q
 slot:=λb u q _ _ _=>⟨u.slots,k b u q⟩
 free:=λb u q n _=>by rw[j6 (aO (aR (ay q) hp))]; exact n
 there:=λb u q _=>⟨u,k b u q⟩
 tups:=λb xs q=>by rw[j6 (j9 q hn)]; exact q
 frzs:=λb u xs q=>by rw[j6 (j9 q hn)]; exact q
 tbls:=λb ps q=>⟨#[],by rw[j6 (j9 q hn),q]; simp⟩
theorem Un.write (mu:Mut (H x))(he:e=x\/H e=some (.own x))(k:∀b u,b≠e->h.get? b=some u->h'.get? b=some u)(heo:∃u,h'.get? e=some u):Un fs ex H (upd H x o) h h':=by
 have hx:∀b,H b=none->b≠x:=λb n z=>by subst z; rw[n] at mu; exact mu
 have hb:∀b,H b=none->b≠e:=λb n z=>by
  subst z
  rcases he with r | r
  ·exact hx b n r
  ·rw[n] at r; cases r
 have hm:∀b u,H b=some u->¬Mut (some u)->b≠x:=λb u q nm z=>by subst z; rw[q] at mu; exact nm mu
 refine⟨λb u q n _ _=>k b u (hb b n) q,λb u q n _ _=>⟨u.slots,k b u (hb b n) q⟩,λb u q n _=>by rw[j6 (hx b n)]; exact n,λb u q _=>?_,
  λb xs q=>by rw[j6 (hm b _ q λz=>z)]; exact q,λb u xs q=>by rw[j6 (hm b _ q λz=>z)]; exact q,λb ps q=>⟨#[],by rw[j6 (hm b _ q λz=>z),q]; simp⟩⟩
 by_cases hbe:b=e
 ·subst hbe; exact heo
 ·exact⟨u,k b u hbe q⟩
end
def trk (h:Heap)(H:Hp):List Addr:=(List.range h.objs.size).filter λa=>(H a).isSome
def hidT (h:Heap)(H:Hp):Heap:=PySem.W.hideAll h (trk h H)
theorem jN0 (h:Heap)(H:Hp):(hidT h H).objs.size=h.objs.size:=PySem.W.hideAll_size _ _
theorem jPC {h:Heap}{H:Hp}{b:Addr}{o:Obj}(e:h.get? b=some o)(n:H b=none):(hidT h H).get? b=some o:=
 PySem.W.hideAll_get _ e λhm=>by
  have q:(H b).isSome=true:=(bF.mp hm).2
  rw[n] at q; simp at q
theorem jS8 {h:Heap}{H:Hp}{b:Addr}{o:Obj}(e:(hidT h H).get? b=some o):h.get? b=some o/\H b=none:=by
 have e':h.get? b=some o:=PySem.W.of_hideAll (trk h H) e
 refine⟨e',?_⟩
 cases q:H b with
 | none=>rfl
 | some x=>
  have hm:b∈trk h H:=bF.mpr ⟨cG.mpr (ay e'),by simp [q]⟩
  have z:(hidT h H).get? b=none:=PySem.W.hideAll_none (trk h H) hm
  rw[z] at e; cases e
structure Mod (K:W.Frag)(mg:Str->Option Value)(base:Heap):Prop where
 kin:K.In base
 glob:base.Ns mainGlobals mg
 blt:∃mb,base.Ns builtinsNs mb/\∀x:Str,x≠ "__name__" ->mb x=bootBuiltins x
 nolimit:base.NoLimit
structure Cx where
 prog:Program
 w:World
 K:W.Frag
 mg:Str->Option Value
 base:Heap
 A:Around
 N:List Str
 s₀:Shared
 H₀:Hp
 env:Env
 outer:List Env
 stack:List Env
 ex:List Addr
 fn:Str->Bool
 calm:Bool
 pn:List (Addr×Obj)
 xe:Value->Shared->Prop
def frs (l:List Env):List Addr:=l.filterMap (·.frame)
abbrev Cx.fs (X:Cx):List Addr:=frs X.outer
def Vis (sc:Scope)(x:Str):Prop:=sc.names.lookup x=some .local\/sc.names.lookup x=some .cell\/sc.names.lookup x=some .free
def Loc (sc:Scope)(x:Str):Prop:=sc.names.lookup x=some .local\/sc.names.lookup x=some .cell
def Look (env:Env)(h:Heap)(m:Str->Option Value)(x:Str)(u:Value):Prop:=
 (env.kindOf x=some .local/\m x=some u)\/((env.kindOf x=some .cell\/env.kindOf x=some .free)/\∃c,env.cells.lookup x=some c/\h.IsCell c (some u))
structure Cx.Ok (X:Cx):Prop where
 mod:Mod X.K X.mg X.base
 kind:X.env.scope.kind= .function
 glob:X.env.globals=mainGlobals
 blt:X.env.builtins=builtinsNs
 above:X.s₀.heap.objs.size<=X.env.locals
 inj:∀x y c,X.env.cells.lookup x=some c->X.env.cells.lookup y=some c->x=y
 has:∀x,(X.env.kindOf x=some .cell\/X.env.kindOf x=some .free)->∃c,X.env.cells.lookup x=some c
 cab:∀x c,X.fn x=true->X.env.cells.lookup x=some c->X.s₀.heap.objs.size<=c
 hd:X.calm=true->X.A.handled=none
 frames:X.A.frames=some X.stack
 stk:X.stack=X.outer\/(X.stack=X.env::X.outer/\X.env.frame=some X.env.locals)
 exf:∀b∈X.ex,b≠X.env.locals/\∀x c,X.env.cells.lookup x=some c->c≠b
 bs:∀b o,X.base.get? b=some o->X.s₀.heap.get? b=some o/\X.H₀ b=none
 bsz:X.base.objs.size<=X.s₀.heap.objs.size
 noex:∀b o,X.base.get? b=some o->b∉X.ex
 exfs:∀b∈X.ex,b∉X.fs
 funs:X.s₀.heap.FunFrames X.base X.outer
 frf:∀b∈X.fs,X.H₀ b=none
structure Inv (X:Cx)(ad:List (Addr×Obj))(σ:List (Option V))(H:Hp)(s:Shared):Prop where
 ok:X.Ok
 os:s.os=X.s₀.os
 bare:AllBare s.gens
 base:Un X.fs X.ex X.H₀ H X.s₀.heap s.heap
 loc:∃m,s.heap.Ns X.env.locals m/\∀(i:Nat) (x:Str) (v:V),X.N[i]?=some x->σ[i]?=some (some v)->Vis X.env.scope x->∃u,RelV v u/\Look X.env s.heap m x u
 cell:∀x c,X.env.cells.lookup x=some c->∃v,s.heap.IsCell c v
 free:H X.env.locals=none
 freeC:∀x c,X.env.cells.lookup x=some c->H c=none
 pin:∀p∈X.pn++ad,s.heap.get? p.1=some p.2/\H p.1=none/\p.1≠X.env.locals/\p.1∉X.fs/\∀v,p.2.data≠ .cell v
 hok:HOk X.prog X.w H s.heap
 len:σ.length=X.N.length
variable {X:Cx}{ad:List (Addr×Obj)}{s:Shared}
section
variable {σ:List (Option V)}
theorem Cx.Ok.nofr (ok:X.Ok){b:Addr}{o:Obj}(e:X.base.get? b=some o):b∉X.fs:=λhb=>by
 have:=(ok.funs.mem hb).1
 rw[e] at this; cases this
theorem Inv.bs (I:Inv X ad σ H s):∀b o,X.base.get? b=some o->s.heap.get? b=some o/\H b=none:=λb o e=>
 ⟨I.base.keep b o (I.ok.bs b o e).1 (I.ok.bs b o e).2 (I.ok.nofr e) (I.ok.noex b o e),I.base.free b o (I.ok.bs b o e).1 (I.ok.bs b o e).2 (I.ok.noex b o e)⟩
theorem Inv.bk (I:Inv X ad σ H s):∀b o,X.base.get? b=some o->s.heap.get? b=some o:=λb o e=>(I.bs b o e).1
theorem Inv.mod (I:Inv X ad σ H s):Mod X.K X.mg X.base:=I.ok.mod
theorem Inv.kIn (I:Inv X ad σ H s):X.K.In s.heap:=I.ok.mod.kin.keeps I.bk
theorem Inv.lt (I:Inv X ad σ H s):X.env.locals<s.heap.objs.size:=let ⟨_,hn,_⟩:=I.loc; hn.lt
theorem Inv.sz (I:Inv X ad σ H s):X.s₀.heap.objs.size<=s.heap.objs.size:=bf I.ok.above (cC I.lt)
theorem Inv.nofs (I:Inv X ad σ H s){a:Addr}(h:s.heap.objs.size<=a):a∉X.fs:=λhb=>by
 obtain⟨_,o,ho,_⟩:=I.ok.funs.mem hb
 exact absurd (aR (ay ho) (bf I.sz h)) (b8 _)
theorem Inv.cne (I:Inv X ad σ H s):∀x c,X.env.cells.lookup x=some c->c≠X.env.locals:=λx c e z=>by
 obtain⟨v,o,ho,hd⟩:=I.cell x c e
 obtain⟨m,⟨o',es,ep,ho',hd',_⟩,_⟩:=I.loc
 rw[z,ho'] at ho; cases ho; rw[hd'] at hd; cases hd
theorem Inv.funs (I:Inv X ad σ H s):s.heap.FunFrames X.base X.outer:=by
 have all:∀(l:List Env),(∀b∈frs l,b∈X.fs)->X.s₀.heap.FunFrames X.base l->s.heap.FunFrames X.base l:=by
  intro l
  induction l with
  | nil=>intro _ _; trivial
  | cons env r ih=>
   intro hs hl
   obtain⟨hk,⟨L,o,hf,hn,ho,hd⟩,hr⟩:=hl
   have hL:L∈X.fs:=hs L (by unfold frs; rw[eM,hf]; exact ag)
   obtain⟨sl,e⟩:=I.base.slot L o ho (I.ok.frf L hL) hL λz=>I.ok.exfs L z hL
   exact⟨hk,⟨L,_,hf,hn,e,hd⟩,ih (λb hb=>hs b (by unfold frs; rw[eM,hf]; exact ah _ hb)) hr⟩
 exact all X.outer (λ_ hb=>hb) I.ok.funs
theorem Inv.stack (I:Inv X ad σ H s):s.heap.FunFrames X.base X.stack:=by
 rcases I.ok.stk with e | ⟨e,hf⟩
 ·rw[e]; exact I.funs
 ·rw[e]
  obtain⟨m,hn,_⟩:=I.loc
  refine .cons (by rw[I.ok.kind]; decide) hf hn ?_ I.funs
  exact Heap.get?_none_of_le (bf I.ok.bsz I.ok.above)
theorem Inv.stkSub (I:Inv X ad σ H s):∀b∈frs X.stack,b∈X.env.locals::X.fs:=λb hb=>by
 rcases I.ok.stk with e | ⟨e,hf⟩
 ·rw[e] at hb; exact ah _ hb
 ·rw[e] at hb
  unfold frs at hb
  rw[eM,hf] at hb
  exact hb
theorem Inv.stkFree (I:Inv X ad σ H s):∀b∈frs X.stack,H b=none:=λb hb=>by
 rcases ar.mp (I.stkSub b hb) with e | hb
 ·rw[e]; exact I.free
 ·obtain⟨_,o,ho,_⟩:=I.ok.funs.mem hb
  exact I.base.free b o ho (I.ok.frf b hb) λz=>I.ok.exfs b z hb
theorem Inv.step {g':Array GenState}{t':Nat}{d':Drawn}{ch:List Addr}(I:Inv X ad σ H s)
  (hch:∀b∈ch,(b∈X.ex\/X.s₀.heap.objs.size<=b)/\b≠X.env.locals/\(∀x c,X.env.cells.lookup x=some c->c≠b)/\∀p∈X.pn++ad,p.1≠b)
  (keep:∀b o,b≠X.env.locals->b∉X.fs->b∉ch->s.heap.get? b=some o->H b=none->h'.get? b=some o)
  (slot:∀b o,b≠X.env.locals->b∈X.fs->b∉ch->s.heap.get? b=some o->H b=none->∃sl,h'.get? b=some { o with slots:=sl}) (free:∀b o,b∉ch->s.heap.get? b=some o->H b=none->H' b=none)
  (there:∀b o,b∉ch->s.heap.get? b=some o->∃o',h'.get? b=some o')
  (tups:∀b xs,H b=some (.tup xs)->H' b=some (.tup xs)) (frzs:∀b o u,H b=some (.frz o u)->H' b=some (.frz o u)) (tbls:∀b ps,H b=some (.tbl ps)->∃more,H' b=some (.tbl (ps++more)))
  (ns:∀m,s.heap.Ns X.env.locals m->h'.Ns X.env.locals m) (hok:HOk X.prog X.w H' h') (hg:AllBare g'):
  Inv X ad σ H' { s with heap:=h',gens:=g',drawn:=d',toks:=t'} :=by
 have neL:∀b o,X.s₀.heap.get? b=some o->b≠X.env.locals:=λb o e=>aO (aR (ay e) I.ok.above)
 have neC:∀b o,X.s₀.heap.get? b=some o->b∉X.ex->b∉ch:=λb o e hx hb=>by
  rcases (hch b hb).1 with z | z
  ·exact hx z
  ·exact absurd (aR (ay e) z) (b8 _)
 have cellK:∀x c,X.env.cells.lookup x=some c->∀v,s.heap.IsCell c v->h'.IsCell c v:=λx c e v ⟨o,ho,hd⟩=>by
  have nch:c∉ch:=λz=>(hch c z).2.2.1 x c e rfl
  by_cases hc:c∈X.fs
  ·obtain⟨sl,q⟩:=slot c o (I.cne x c e) hc nch ho (I.freeC x c e)
   exact⟨_,q,hd⟩
  ·exact⟨o,keep c o (I.cne x c e) hc nch ho (I.freeC x c e),hd⟩
 refine⟨I.ok,I.os,hg,⟨λb o e n hb hx=>?_,λb o e n hb hx=>?_,λb o e n hx=>?_,λb o e hx=>?_,λb xs e=>tups b xs (I.base.tups b xs e),λb o xs e=>frzs b o xs (I.base.frzs b o xs e),λb ps e=>?_⟩,?_,λx c e=>?_,?_,λx c e=>?_,λp hp=>?_,hok,I.len⟩
 ·exact keep b o (neL b o e) hb (neC b o e hx) (I.base.keep b o e n hb hx) (I.base.free b o e n hx)
 ·obtain⟨sl,e1⟩:=I.base.slot b o e n hb hx
  obtain⟨sl',e2⟩:=slot b _ (neL b o e) hb (neC b o e hx) e1 (I.base.free b o e n hx)
  exact⟨sl',e2⟩
 ·obtain⟨o',e1⟩:=I.base.there b o e hx
  exact free b o' (neC b o e hx) e1 (I.base.free b o e n hx)
 ·obtain⟨o',e1⟩:=I.base.there b o e hx
  exact there b o' (neC b o e hx) e1
 ·obtain⟨m1,e1⟩:=I.base.tbls b ps e
  obtain⟨m2,e2⟩:=tbls b _ e1
  exact⟨m1++m2,by rw[e2,mq]⟩
 ·obtain⟨m,hn,hl⟩:=I.loc
  refine⟨m,ns m hn,λi x v e1 e2 e3=>?_⟩
  obtain⟨u,r,l⟩:=hl i x v e1 e2 e3
  refine⟨u,r,?_⟩
  rcases l with l | ⟨k,c,e,z⟩
  ·exact .inl l
  ·exact .inr ⟨k,c,e,cellK x c e _ z⟩
 ·obtain⟨v,z⟩:=I.cell x c e
  exact⟨v,cellK x c e v z⟩
 ·obtain⟨m,⟨o,_,_,ho,_⟩,_⟩:=I.loc
  exact free _ o (λz=>(hch _ z).2.1 rfl) ho I.free
 ·obtain⟨v,o,ho,hd⟩:=I.cell x c e
  exact free c o (λz=>(hch c z).2.2.1 x c e rfl) ho (I.freeC x c e)
 ·obtain⟨e,n,ne,nf,d⟩:=I.pin p hp
  have nch:p.1∉ch:=λz=>(hch p.1 z).2.2.2 p hp rfl
  exact⟨keep p.1 p.2 ne nf nch e n,free p.1 p.2 nch e n,ne,nf,d⟩
theorem Inv.un {t':Nat}(I:Inv X ad σ H s)(u:Un X.fs [] H H' s.heap h')(hok:HOk X.prog X.w H' h'):Inv X ad σ H' { s with heap:=h',toks:=t'} :=by
 obtain⟨m,⟨o,es,ep,ho,r⟩,_⟩:=id I.loc
 obtain⟨sl,hL⟩:=u.any ho I.free (by simp)
 exact I.step (g':=s.gens) (d':=s.drawn) (ch:=[]) (λ_ z=>nomatch z) (λb o _ hb _ e n=>u.keep b o e n hb (by simp)) (λb o _ hb _ e n=>u.slot b o e n hb (by simp)) (λb o _ e n=>u.free b o e n (by simp)) (λb o _ e=>u.there b o e (by simp)) u.tups u.frzs u.tbls (λm' hm=>by
  obtain⟨o',es',ep',ho',r'⟩:=hm
  rw[ho] at ho'; cases ho'
  exact⟨_,es',ep',hL,r'⟩) hok I.bare
theorem Inv.call {g':Array GenState}{t':Nat}{d':Drawn}{ch:List Addr}(I:Inv X ad σ H s)(u:Un (frs X.stack) ch H H' s.heap h')(hok:HOk X.prog X.w H' h')(hg:AllBare g')
  (hch:∀b∈ch,(b∈X.ex\/X.s₀.heap.objs.size<=b)/\b≠X.env.locals/\(∀x c,X.env.cells.lookup x=some c->c≠b)/\∀p∈X.pn++ad,p.1≠b):
  Inv X ad σ H' { s with heap:=h',gens:=g',drawn:=d',toks:=t'} :=by
 obtain⟨m,⟨o,es,ep,ho,r⟩,_⟩:=id I.loc
 obtain⟨sl,hL⟩:=u.any ho I.free λz=>(hch _ z).2.1 rfl
 exact I.step (ch:=ch) hch (λb o hL hb hc e n=>u.keep b o e n (λz=>(ar.mp (I.stkSub b z)).elim hL hb) hc) (λb o _ _ hc e n=>u.any e n hc) (λb o hc e n=>u.free b o e n hc) (λb o hc e=>u.there b o e hc) u.tups u.frzs u.tbls (λm' hm=>by
  obtain⟨o',es',ep',ho',r'⟩:=hm
  rw[ho] at ho'; cases ho'
  exact⟨_,es',ep',hL,r'⟩) hok hg
theorem Inv.turned {t':Nat}{it:Addr}(I:Inv X ad σ H s)(k:∀b o,b≠it->s.heap.get? b=some o->h'.get? b=some o)(hn:H it=none)(hL:it≠X.env.locals)
  (h1:it∈X.ex\/X.s₀.heap.objs.size<=it) (h2:∀x c,X.env.cells.lookup x=some c->c≠it) (h3:∀p∈X.pn++ad,p.1≠it):Inv X ad σ H { s with heap:=h',toks:=t'} :=by
 have nit:∀b u,H b=some u->b≠it:=λb u e z=>by rw[z,hn] at e; cases e
 refine I.step (g':=s.gens) (d':=s.drawn) (ch:=[it]) (λb hb=>?_) (λb o _ _ hc e _=>k b o (λz=>hc (by simp [z])) e) (λb o _ _ hc e _=>⟨o.slots,k b o (λz=>hc (by simp [z])) e⟩) (λ_ _ _ _ n=>n)
  (λb o hc e=>⟨o,k b o (λz=>hc (by simp [z])) e⟩) (λ_ _ e=>e) (λ_ _ _ e=>e) (λb ps e=>⟨#[],by rw[e]; simp⟩) (λm hm=>?_) (λb u e=>?_) I.bare
 ·have e:b=it:=by simpa using hb
  subst e
  exact⟨h1,hL,h2,h3⟩
 ·obtain⟨o,es,ep,ho,r⟩:=hm
  exact⟨o,es,ep,k _ o (dq hL) ho,r⟩
 ·refine(I.hok b u e).stay (λc v hc q=>k c v ?_ q) (λ_ q=>q) λ_ _ q=>q
  rcases hc with z | z
  ·rw[z]; exact nit b u e
  ·exact nit c _ z
theorem Inv.tok (I:Inv X ad σ H s)(t:Nat):Inv X ad σ H { s with toks:=t} :=I.un (h':=s.heap) (t':=t) Un.refl I.hok
theorem Inv.kept {t':Nat}(I:Inv X ad σ H s)(k:∀b u,s.heap.get? b=some u->h'.get? b=some u):Inv X ad σ H { s with heap:=h',toks:=t'} :=I.un (Un.kept k) (I.hok.kept k)
theorem Inv.laid {a:Addr}{o:HO}{t':Nat}(I:Inv X ad σ H s)(k:∀b u,s.heap.get? b=some u->h'.get? b=some u)(hp:s.heap.objs.size<=a)(new:ObjOk X.prog X.w (upd H a o) h' a o):
  Inv X ad σ (upd H a o) { s with heap:=h',toks:=t'} :=I.un (Un.laid k hp (I.hok.fresh hp)) (I.hok.laid k hp new)
theorem Inv.write {x e:Addr}{o:HO}{t':Nat}(I:Inv X ad σ H s)(mu:Mut (H x))(he:e=x\/H e=some (.own x))(k:∀b u,b≠e->s.heap.get? b=some u->h'.get? b=some u)(heo:∃u,h'.get? e=some u)
  (new:ObjOk X.prog X.w (upd H x o) h' x o):Inv X ad σ (upd H x o) { s with heap:=h',toks:=t'} :=I.un (Un.write mu he k heo) (I.hok.write mu he k heo new)
theorem Inv.pins_of {ad':List (Addr×Obj)}(I:Inv X ad σ H s)(h:∀p∈ad',s.heap.get? p.1=some p.2/\H p.1=none/\p.1≠X.env.locals/\p.1∉X.fs/\∀v,p.2.data≠ .cell v):Inv X ad' σ H s:=
 ⟨I.ok,I.os,I.bare,I.base,I.loc,I.cell,I.free,I.freeC,λp hp=>(aL.mp hp).elim (λz=>I.pin p (aQ _ z)) (h p),I.hok,I.len⟩
theorem jIZ {N:List Str}(hN:N.Nodup){i j:Nat}{x:Str}(a:N[i]?=some x)(b:N[j]?=some x):i=j:=by
 obtain⟨h1,e1⟩:=ax.mp a
 obtain⟨h2,e2⟩:=ax.mp b
 exact(List.getElem_inj hN).mp (e1.trans e2.symm)
theorem jFY {M:Model}{A:Around}{E:Value->Shared->Prop}{i:Nat}{x:Str}{v:V}{u:Value}{Q:Unit->Shared->Prop}(I:Inv X ad σ H s)(hN:X.N.Nodup)(hi:X.N[i]?=some x)(hx:Loc X.env.scope x)(r:RelV v u)
  (h:∀s',Inv X ad (σ.set i (some v)) H s'->(∃a,Heap.SameBut a s.heap s'.heap/\(a=X.env.locals\/X.env.cells.lookup x=some a))->Q () s') (hf:X.fn x=true\/X.env.scope.names.lookup x=some .local:=by first | exact .inl rfl | exact .inr rfl | assumption):wpAny M A (storeName X.env x u) Q E s:=by
 obtain⟨m,hn,hl⟩:=id I.loc
 have hcls:(X.env.scope.kind== .class || (X.env.scope.kind== .module&&X.env.locals != X.env.globals))=false:=by rw[I.ok.kind]; rfl
 have hiσ:i<σ.length:=by rw[I.len]; exact(ax.mp hi).1
 have cne:=I.cne
 have tracked:∀{a:Addr}{h':Heap},(∃o,s.heap.get? a=some o/\H a=none)->Heap.SameBut a s.heap h'->HOk X.prog X.w H h':=λ{a h'} ha hs b ob e=>by
  obtain⟨_,_,hfree⟩:=ha
  refine(I.hok b ob e).stay (λc w' hc q=>(hs.2 c ?_).trans q) (λ_ q=>q) λ_ _ q=>q
  rintro rfl
  rcases hc with rfl | hc
  ·rw[hfree] at e; cases e
  ·rw[hfree] at hc; cases hc
 rcases hx with hk | hk
 ·refine wpAny_storeName_local hk hn (λh' hn' hs=>?_) hcls
  obtain⟨oL,_,_,hoL,_⟩:=id hn
  refine h _ ⟨I.ok,I.os,I.bare,⟨λb o e n hb hx=>?_,λb o e n hb hx=>?_,I.base.free,λb o e hx=>?_,I.base.tups,I.base.frzs,I.base.tbls⟩,⟨_,hn',λj y v' e1 e2 e3=>?_⟩,λy c e=>?_,I.free,I.freeC,λp hp=>?_,tracked ⟨oL,hoL,I.free⟩ hs,by simpa using I.len⟩ ⟨_,hs, .inl rfl⟩
  ·exact(hs.2 b (aO (aR (ay e) I.ok.above))).trans (I.base.keep b o e n hb hx)
  ·obtain⟨sl,e1⟩:=I.base.slot b o e n hb hx
   exact⟨sl,(hs.2 b (aO (aR (ay e) I.ok.above))).trans e1⟩
  ·obtain⟨o',e1⟩:=I.base.there b o e hx
   exact⟨o',(hs.2 b (aO (aR (ay e) I.ok.above))).trans e1⟩
  ·by_cases hj:j=i
   ·subst hj
    rw[hi] at e1; cases e1
    rw[ku hiσ] at e2
    cases e2
    exact⟨u,r, .inl ⟨hk,by simp⟩⟩
   ·rw[lT (dq hj)] at e2
    obtain⟨u',r',q⟩:=hl j y v' e1 e2 e3
    refine⟨u',r',?_⟩
    rcases q with ⟨k,e⟩ | ⟨k,c,e,z⟩
    ·refine .inl ⟨k,?_⟩
     have:y≠x:=λe=>hj (jIZ hN e1 (e ▸ hi))
     simp [this,e]
    ·exact .inr ⟨k,c,e,z.sameBut hs (cne y c e)⟩
  ·obtain⟨w',z⟩:=I.cell y c e
   exact⟨w',z.sameBut hs (cne y c e)⟩
  ·obtain⟨e,n,ne,nf,d⟩:=I.pin p hp
   exact⟨(hs.2 p.1 ne).trans e,n,ne,nf,d⟩
 ·have hfn:X.fn x=true:=by
   rcases hf with z | z
   ·exact z
   ·rw[z] at hk; cases hk
  obtain⟨c,hc⟩:=I.ok.has x (.inl hk)
  obtain⟨w',z⟩:=I.cell x c hc
  refine wpAny_storeName_cell I.ok.kind hk hc z (λh' hc' hs=>?_)
  obtain⟨oc,hoc,hocd⟩:=id z
  refine h { s with heap:=h'} ⟨I.ok,I.os,I.bare,⟨λb o e n hb hx=>?_,λb o e n hb hx=>?_,I.base.free,λb o e hx=>?_,I.base.tups,I.base.frzs,I.base.tbls⟩,⟨m,hn.sameBut hs (dq (cne x c hc)),λj y v' e1 e2 e3=>?_⟩,λy c' e=>?_,I.free,I.freeC,λp hp=>?_,tracked ⟨oc,hoc,I.freeC x c hc⟩ hs,by simpa using I.len⟩ ⟨c,hs, .inr hc⟩
  ·exact(hs.2 b (aO (aR (ay e) (I.ok.cab x c hfn hc)))).trans (I.base.keep b o e n hb hx)
  ·obtain⟨sl,e1⟩:=I.base.slot b o e n hb hx
   exact⟨sl,(hs.2 b (aO (aR (ay e) (I.ok.cab x c hfn hc)))).trans e1⟩
  ·obtain⟨o',e1⟩:=I.base.there b o e hx
   exact⟨o',(hs.2 b (aO (aR (ay e) (I.ok.cab x c hfn hc)))).trans e1⟩
  ·by_cases hj:j=i
   ·subst hj
    rw[hi] at e1; cases e1
    rw[ku hiσ] at e2
    cases e2
    exact⟨u,r, .inr ⟨.inl hk,c,hc,hc'⟩⟩
   ·rw[lT (dq hj)] at e2
    obtain⟨u',r',q⟩:=hl j y v' e1 e2 e3
    refine⟨u',r',?_⟩
    rcases q with q | ⟨k,c',e,z'⟩
    ·exact .inl q
    ·refine .inr ⟨k,c',e,z'.sameBut hs ?_⟩
     rintro rfl
     exact hj (jIZ hN e1 (I.ok.inj _ _ _ e hc ▸ hi))
  ·by_cases hcc:c'=c
   ·subst hcc; exact⟨_,hc'⟩
   ·obtain⟨w2,z2⟩:=I.cell y c' e
    exact⟨w2,z2.sameBut hs hcc⟩
  ·obtain⟨e,n,ne,nf,d⟩:=I.pin p hp
   refine⟨(hs.2 p.1 ?_).trans e,n,ne,nf,d⟩
   intro q
   rw[q,hoc] at e
   have q':oc=p.2:=bA e
   exact d w' (by rw[<- q']; exact hocd)
theorem jCY {M:Model}{A:Around}{E:Value->Shared->Prop}{i:Nat}{x:Str}{v:V}{u:Value}{Q:Unit->Shared->Prop}(I:Inv X ad σ H s)(hN:X.N.Nodup)(hi:X.N[i]?=some x)(hx:Loc X.env.scope x)(r:RelV v u)
  (h:∀s',Inv X ad (σ.set i (some v)) H s'->Q () s') (hf:X.fn x=true\/X.env.scope.names.lookup x=some .local:=by first | exact .inl rfl | exact .inr rfl | assumption):wpAny M A (storeName X.env x u) Q E s:=
 jFY I hN hi hx r (λs' I' _=>h s' I') hf
theorem Inv.call' {s':Shared}{ch:List Addr}(I:Inv X ad σ H s)(ho:s'.os=s.os)(u:Un (frs X.stack) ch H H' s.heap s'.heap)(hok:HOk X.prog X.w H' s'.heap)(hg:AllBare s'.gens)
  (hch:∀b∈ch,(b∈X.ex\/X.s₀.heap.objs.size<=b)/\b≠X.env.locals/\(∀x c,X.env.cells.lookup x=some c->c≠b)/\∀p∈X.pn++ad,p.1≠b):Inv X ad σ H' s':=by
 obtain⟨h',g',d',t',o'⟩:=s'
 have e:o'=s.os:=ho
 subst e
 exact I.call (g':=g') (t':=t') (d':=d') u hok hg hch
end
abbrev XK:=Value->Option Addr->Hp->Prop
abbrev St:=List (Option V)
abbrev VK:=V->Hp->Prop
abbrev TE:=St->Hp->VK->Prop
abbrev TT:=St->Hp->(Bool->Hp->Prop)->Prop
abbrev TA:=St->Hp->(List V->Hp->Prop)->Prop
structure Ends where
 nx:St->Hp->Prop
 rt:VK
 bk:St->Hp->Prop:=λ_ _=>False
 ct:St->Hp->Prop:=λ_ _=>False
abbrev TS:=Ends->St->Hp->Prop
def EP (X:Cx)(ad:List (Addr×Obj))(σ:St)(Q:VK)(u:Value)(s':Shared):Prop:=∃v H',Inv X ad σ H' s'/\RelV v u/\Q v H'
def TP (X:Cx)(ad:List (Addr×Obj))(σ:St)(Q:Bool->Hp->Prop)(b:Bool)(s':Shared):Prop:=∃H',Inv X ad σ H' s'/\Q b H'
def AP (X:Cx)(ad:List (Addr×Obj))(σ:St)(Q:List V->Hp->Prop)(us:List Value)(s':Shared):Prop:=∃vs H',Inv X ad σ H' s'/\Vals vs us/\Q vs H'
def SP (X:Cx)(ad:List (Addr×Obj))(D:Ends)(f:Flow)(s':Shared):Prop:=
 match f with
 | .next=>∃σ' H',Inv X ad σ' H' s'/\D.nx σ' H'
 | .brk=>∃σ' H',Inv X ad σ' H' s'/\D.bk σ' H'
 | .cont=>∃σ' H',Inv X ad σ' H' s'/\D.ct σ' H'
 | .ret u=>∃v σ' H',Inv X ad σ' H' s'/\RelV v u/\D.rt v H'
def PE (X:Cx)(e:Expr)(t:TE):Prop:=
 ∀(ad:List (Addr×Obj)) (s:Shared) (σ:St) (H:Hp) (Q:VK),Inv X ad σ H s->t σ H Q->wpAny (model X.prog X.w) X.A (eval e X.env) (EP X ad σ Q) X.xe s
def PT (X:Cx)(e:Expr)(t:TT):Prop:=
 ∀(ad:List (Addr×Obj)) (s:Shared) (σ:St) (H:Hp) (Q:Bool->Hp->Prop),Inv X ad σ H s->t σ H Q->wpAny (model X.prog X.w) X.A (isTrue e X.env (eval e X.env)) (TP X ad σ Q) X.xe s
def PW (X:Cx)(e:Expr)(t:TT):Prop:=
 ∀(whole:Sem Value) (ad:List (Addr×Obj)) (s:Shared) (σ:St) (H:Hp) (Q:Bool->Hp->Prop),Inv X ad σ H s->t σ H Q->wpAny (model X.prog X.w) X.A (isTrue e X.env whole) (TP X ad σ Q) X.xe s
theorem PW.pt {X:Cx}{e:Expr}{t:TT}(h:PW X e t):PT X e t:=h _
def PA (X:Cx)(es:List Expr)(t:TA):Prop:=
 ∀(pos:Pos) (ad:List (Addr×Obj)) (s:Shared) (σ:St) (H:Hp) (Q:List V->Hp->Prop),Inv X ad σ H s->t σ H Q->wpAny (model X.prog X.w) X.A (spliced (backTo pos (starEach es X.env))) (AP X ad σ Q) X.xe s
def PS (X:Cx)(st:Stmt)(t:TS):Prop:=
 ∀(ad:List (Addr×Obj)) (s:Shared) (σ:St) (H:Hp) (D:Ends),Inv X ad σ H s->t D σ H->wpAny (model X.prog X.w) X.A (exec st X.env) (SP X ad D) X.xe s
def PSs (X:Cx)(st:List Stmt)(t:TS):Prop:=
 ∀(ad:List (Addr×Obj)) (s:Shared) (σ:St) (H:Hp) (D:Ends),Inv X ad σ H s->t D σ H->wpAny (model X.prog X.w) X.A (execs st X.env) (SP X ad D) X.xe s
theorem mI {α:Type}{t:Sem α}{Q Q':α->Shared->Prop}{M:Model}{A:Around}{E:Value->Shared->Prop}{s:Shared}(h:wpAny M A t Q E s)(hQ:∀a s,Q a s->Q' a s):wpAny M A t Q' E s:=b9 h hQ λ_ _ x=>x
variable {b:Expr}{ta tb:TE}{pos:Pos}
section
def tVar (i:Nat):TE:=λσ H Q=>∃v,σ[i]?=some (some v)/\Q v H
def tC (v:V):TE:=λ_ H Q=>Q v H
theorem jLP {i:Nat}{x:Str}{pos:Pos}(hN:X.N[i]?=some x)(hv:Vis X.env.scope x)(hd:(x==("__debug__" :Str))=false:=by decide)(hcd:(x==("__classdict__" :Str))=false:=by decide):PE X (.Name x pos) (tVar i):=by
 intro ad s σ H Q I h
 obtain⟨v,e,h⟩:=h
 obtain⟨m,hn,hl⟩:=I.loc
 obtain⟨u,r,l⟩:=hl i x v hN e hv
 have fin:EP X ad σ Q u s:=⟨v,H,I,r,h⟩
 rcases l with ⟨hk,hm⟩ | ⟨hk,c,hc,hcell⟩
 ·exact wpAny_Name (wpAny_loadName_local I.ok.kind hk hn hm fin) hd
 ·rcases hk with hk | hk
  ·exact wpAny_Name (wpAny_loadName_cell I.ok.kind hk hc hcell fin) hd
  ·exact wpAny_Name (wpAny_loadName_free I.ok.kind hk hc hcell fin hcd) hd
theorem jK {i j pos} :PE X (.Constant (.int i) j pos) (tC (.int i)):=λ_ _ _ H _ I h=>wpAny_Constant_int ⟨.int i,H,I.tok _,⟨_,rfl⟩,h⟩
theorem pe_bl {b j pos} :PE X (.Constant (.bool b) j pos) (tC (.bl b)):=λ_ _ _ H _ I h=>Constant_bool ⟨.bl b,H,I,rfl,h⟩
theorem jU9 {j pos} :PE X (.Constant .none j pos) (tC .non):=λ_ _ _ H _ I h=>Constant_none ⟨.non,H,I,rfl,h⟩
def Gl (X:Cx)(x:Str):Prop:=X.env.kindOf x=some .globalImplicit
theorem jI0 {E:Value->Shared->Prop}{ad:List (Addr×Obj)}{s:Shared}{σ:St}{H:Hp}{x:Str}{u:Value}{pos:Pos}{Q:Value->Shared->Prop}(I:Inv X ad σ H s)(hg:Gl X x)(hm:X.mg x=some u)(h:Q u s)
  (hd:(x==("__debug__" :Str))=false:=by decide):wpAny (model X.prog X.w) X.A (eval (.Name x pos) X.env) Q E s:=
 iN I.ok.kind hg (Calls.loadGlobal_global (by rw[I.ok.glob]; exact I.mod.glob.keeps I.bk) hm h) hd
theorem jCU {E:Value->Shared->Prop}{ad:List (Addr×Obj)}{s:Shared}{σ:St}{H:Hp}{x:Str}{u:Value}{pos:Pos}{Q:Value->Shared->Prop}(I:Inv X ad σ H s)(hg:Gl X x)(hm:X.mg x=none)(hv:bootBuiltins x=some u)(h:Q u s)
  (hn:x≠ "__name__" :=by decide) (hd:(x==("__debug__" :Str))=false:=by decide):wpAny (model X.prog X.w) X.A (eval (.Name x pos) X.env) Q E s:=by
 obtain⟨mb,h1,h2⟩:=I.mod.blt
 exact iN I.ok.kind hg (Calls.loadGlobal_builtin (by rw[I.ok.glob]; exact I.mod.glob.keeps I.bk) hm (by rw[I.ok.blt]; exact h1.keeps I.bk) ((h2 x hn).trans hv) h) hd
theorem jRP {x:Str}{v:V}{u:Value}{pos:Pos}(hg:Gl X x)(hm:X.mg x=some u)(r:RelV v u)(hd:(x==("__debug__" :Str))=false:=by decide):PE X (.Name x pos) (tC v):=
 λ_ _ _ H _ I h=>jI0 I hg hm ⟨v,H,I,r,h⟩ hd
theorem jRW {x:Str}{v:V}{u:Value}{pos:Pos}(hg:Gl X x)(hm:X.mg x=none)(hv:bootBuiltins x=some u)(r:RelV v u)(hn:x≠ "__name__" :=by decide)(hd:(x==("__debug__" :Str))=false:=by decide):PE X (.Name x pos) (tC v):=
 λ_ _ _ H _ I h=>jCU I hg hm hv ⟨v,H,I,r,h⟩ hn hd
variable {a:Expr}
def PC (X:Cx)(op:CmpOp)(a b:Expr)(t:TE):Prop:=
 ∀(ad:List (Addr×Obj)) (s:Shared) (σ:St) (H:Hp) (Q:VK),Inv X ad σ H s->t σ H Q->
  wpAny (model X.prog X.w) X.A (eval a X.env) (λv s₁=>wpAny (model X.prog X.w) X.A (eval b X.env) (λu s₂=>wpAny (model X.prog X.w) X.A (compareOp op v u) (EP X ad σ Q) X.xe s₂) X.xe s₁) X.xe s
def tB (t:TE):TT:=λσ H Q=>t σ H λx H1=>∃c,x= .bl c/\Q c H1
theorem jTY {op:CmpOp}{t:TE}(h:PC X op a b t)(h1:behindInMarks op b=false:=by first | exact nobehind _ (by decide) (by decide) | rfl):PT X (.Compare a [op] [b] pos) (tB t):=by
 intro ad s σ H Q I hw
 refine wpAny_isTrue_Compare1 (mI (h ad s σ H _ I hw) λv s1 h1=>mI h1 λu s2 h2=>mI h2 λc s3 ⟨x,H1,I1,r1,q1⟩=>?_) h1
 obtain⟨d,rfl,q⟩:=q1
 cases r1
 exact dJ ⟨H1,I1,q⟩
theorem jTW {e:Expr}{t:TE}(h:PE X e t)(he:∀whole,isTrue e X.env whole=(do let v <- whole; standAt e.pos; holding [v] (truthy v)):=by intro _; rfl):PT X e (tB t):=by
 intro ad s σ H Q I hw
 refine isTrue_plain (mI (h ad s σ H _ I hw) λv s1 ⟨x,H1,I1,r1,q1⟩=>?_) (he _)
 obtain⟨d,rfl,q⟩:=q1
 cases r1
 exact dJ ⟨H1,I1,q⟩
variable {tA tB':TT}{rest:List Expr}
def tAnd (t u:TT):TT:=λσ H Q=>t σ H λc H1=>if c=true then u σ H1 Q else Q false H1
def tOr (t u:TT):TT:=λσ H Q=>t σ H λc H1=>if c=true then Q true H1 else u σ H1 Q
def tNot (t:TT):TT:=λσ H Q=>t σ H λc H1=>Q (!c) H1
theorem jRB (ha:PT X a tA):PW X (.BoolOp .And [a] pos) tA:=by
 intro wh ad s σ H Q I h
 refine isTrue_and (mI (ha ad s σ H Q I h) λc s1 e=>?_)
 cases c with
 | true=>exact isTrue_and_nil e
 | false=>exact e
theorem jTU (ha:PT X a tA):PW X (.BoolOp .Or [a] pos) tA:=by
 intro wh ad s σ H Q I h
 refine isTrue_or (mI (ha ad s σ H Q I h) λc s1 e=>?_)
 cases c with
 | false=>exact isTrue_or_nil e
 | true=>exact e
theorem jTV (ha:PT X a tA)(hb:PW X (.BoolOp .And (b::rest) pos) tB'):PW X (.BoolOp .And (a::b::rest) pos) (tAnd tA tB'):=by
 intro wh ad s σ H Q I h
 refine isTrue_and (mI (ha ad s σ H _ I h) λc s1 ⟨H1,I1,q1⟩=>?_)
 cases c with
 | true=>exact hb wh ad s1 σ H1 Q I1 q1
 | false=>exact⟨H1,I1,q1⟩
theorem pw_or (ha:PT X a tA)(hb:PW X (.BoolOp .Or (b::rest) pos) tB'):PW X (.BoolOp .Or (a::b::rest) pos) (tOr tA tB'):=by
 intro wh ad s σ H Q I h
 refine isTrue_or (mI (ha ad s σ H _ I h) λc s1 ⟨H1,I1,q1⟩=>?_)
 cases c with
 | true=>exact⟨H1,I1,q1⟩
 | false=>exact hb wh ad s1 σ H1 Q I1 q1
theorem jTX (ha:PT X a tA):PT X (.UnaryOp .Not a pos) (tNot tA):=by
 intro ad s σ H Q I h
 exact isTrue_not (ha ad s σ H (λc H1=>Q (!c) H1) I h)
def tAndV (ta tb:TE):TE:=λσ H Q=>ta σ H λx H1=>∃c,x= .bl c/\if c=true then tb σ H1 Q else Q (.bl false) H1
def tNotV (ta:TE):TE:=λσ H Q=>ta σ H λx H1=>∃c,x= .bl c/\Q (.bl (!c)) H1
theorem jU7 {op}{t:TE}(h:PE X a t):PE X (.BoolOp op [a] pos) t:=λad s σ H Q I hw=>BoolOp_one (h ad s σ H Q I hw)
theorem jUC (ha:PE X a ta)(hb:PE X (.BoolOp .And (b::rest) pos) tb):PE X (.BoolOp .And (a::b::rest) pos) (tAndV ta tb):=by
 intro ad s σ H Q I h
 refine BoolOp_and (mI (ha ad s σ H _ I h) λv s1 ⟨x,H1,I1,r1,q1⟩=>?_)
 obtain⟨c,rfl,q1⟩:=q1
 cases r1
 refine dJ ?_
 cases c with
 | true=>exact hb ad s1 σ H1 Q I1 q1
 | false=>exact⟨.bl false,H1,I1,rfl,q1⟩
theorem jU8 (ha:PE X a ta):PE X (.UnaryOp .Not a pos) (tNotV ta):=by
 intro ad s σ H Q I h
 refine UnaryOp_ (mI (ha ad s σ H _ I h) λv s1 ⟨x,H1,I1,r1,q1⟩=>?_)
 obtain⟨c,rfl,q1⟩:=q1
 cases r1
 exact not_of (dJ ⟨.bl (!c),H1,I1,rfl,q1⟩)
def tIf (t:TT)(ta tb:TE):TE:=λσ H Q=>t σ H λc H1=>if c=true then ta σ H1 Q else tb σ H1 Q
theorem jOJ {c:Expr}(hc:PT X c tA)(ha:PE X a ta)(hb:PE X b tb):PE X (.IfExp c a b pos) (tIf tA ta tb):=by
 intro ad s σ H Q I h
 refine wpAny_IfExp (mI (hc ad s σ H _ I h) λd s1 ⟨H1,I1,q1⟩=>?_)
 cases d with
 | true=>exact ha ad s1 σ H1 Q I1 q1
 | false=>exact hb ad s1 σ H1 Q I1 q1
end
def SqL (K:W.Frag)(H:Hp)(a:Addr)(xs:List V):Prop:=
 Rd H a (.lst xs)\/
  ∃(o:Obj) (its:Array Value) (n:Nat),K.lookup a=some o/\o.cls= .type "list" /\o.dict=none/\o.data= .seq its n/\its.size<=sizeLine/\Vals xs its.toList
def SqT (K:W.Frag)(H:Hp)(a:Addr)(xs:List V):Prop:=
 Rd H a (.tup xs)\/
  ∃(o:Obj) (its:Array Value) (n:Nat),K.lookup a=some o/\o.cls= .type "tuple" /\o.data= .seq its n/\its.size<=sizeLine/\Vals xs its.toList
noncomputable def absV:Value->Option V
 | .none=>some .non
 | .bool b=>some (.bl b)
 | .int i _=>some (.int i)
 | .str x _=>some (.str x)
 | .bytes b _=>some (.byt b)
 | .float b _=>some (.flt b)
 | .ref a=>some (.ref a)
 | .type n=>some (.ty n)
 | _=>none
theorem RelV.abs {x:V}{u:Value}(r:RelV x u):absV u=some x:=by
 cases x with
 | non=>cases r; rfl
 | bl _=>cases r; rfl
 | int _=>obtain⟨t,rfl⟩:=r; rfl
 | str _=>obtain⟨t,rfl⟩:=r; rfl
 | byt _=>obtain⟨t,rfl⟩:=r; rfl
 | flt _=>obtain⟨t,rfl⟩:=r; rfl
 | ref _=>cases r; rfl
 | ty _=>cases r; rfl
theorem RelV.inj {x y:V}{u:Value}(r:RelV x u)(q:RelV y u):x=y:=bA (r.abs.symm.trans q.abs)
theorem Vals.inj:∀{xs ys:List V}{us:List Value},Vals xs us->Vals ys us->xs=ys
 | _,_,_, .nil, .nil=>rfl
 | _,_,_, .cons r t, .cons r' t'=>by rw[r.inj r',Vals.inj t t']
section
variable {σ:St}{xs ys:List V}
theorem SqL.of {K:W.Frag}(h:H a=some (.lst xs)):SqL K H a xs:= .inl (.inl h)
theorem SqT.of {K:W.Frag}(h:H a=some (.tup xs)):SqT K H a xs:= .inl (.inl h)
theorem Inv.list (I:Inv X ad σ H s)(h:SqL X.K H a xs):∃its:List Value,Vals xs its/\PlainL s.heap a its.toArray/\xs.length<=sizeLine:=by
 rcases h with h | ⟨o,its,n,hk,hc,hd,hs,hz,r⟩
 ·obtain⟨z,its,n,r,e⟩:=h.ok I.hok
  exact⟨its,r,⟨_,n,e,rfl,rfl,rfl⟩,z⟩
 ·refine⟨its.toList,r,⟨o,n,I.kIn a o hk,hc,hd,by simpa using hs⟩,?_⟩
  have e:=r.length
  simp only [aN] at e
  lia
theorem Inv.tuple (I:Inv X ad σ H s)(h:SqT X.K H a xs):∃its:List Value,Vals xs its/\IsTup s.heap a its.toArray/\xs.length<=sizeLine:=by
 rcases h with h | ⟨o,its,n,hk,hc,hs,hz,r⟩
 ·obtain⟨z,its,r,p⟩:=h.ok I.hok
  exact⟨its,r,p.isTup,z⟩
 ·refine⟨its.toList,r,⟨o,I.kIn a o hk,hc,n,by simpa using hs⟩,?_⟩
  have e:=r.length
  simp only [aN] at e
  lia
theorem Inv.list_inj (I:Inv X ad σ H s)(h:SqL X.K H a xs)(h':SqL X.K H a ys):xs=ys:=by
 obtain⟨its,r,⟨o,n,e,_,_,d⟩,_⟩:=I.list h
 obtain⟨its',r',⟨o',n',e',_,_,d'⟩,_⟩:=I.list h'
 rw[e] at e'; cases e'
 rw[d] at d'
 injection d' with d1 _
 have:its=its':=by simpa using bS Array.toList d1
 subst this
 exact r.inj r'
theorem Inv.tuple_inj (I:Inv X ad σ H s)(h:SqT X.K H a xs)(h':SqT X.K H a ys):xs=ys:=by
 obtain⟨its,r,⟨o,e,_,n,d⟩,_⟩:=I.tuple h
 obtain⟨its',r',⟨o',e',_,n',d'⟩,_⟩:=I.tuple h'
 rw[e] at e'; cases e'
 rw[d] at d'
 injection d' with d1 _
 have:its=its':=by simpa using bS Array.toList d1
 subst this
 exact r.inj r'
end
abbrev Cx.wish (X:Cx)(E:Value->Shared->Prop):Cx:= { X with xe:=E}
abbrev Cx.nox (X:Cx):Cx:=X.wish λ_ _=>False
theorem Cx.Ok.wish {X:Cx}(ok:X.Ok)(E:Value->Shared->Prop):(X.wish E).Ok:=
 ⟨ok.mod,ok.kind,ok.glob,ok.blt,ok.above,ok.inj,ok.has,ok.cab,ok.hd,ok.frames,ok.stk,ok.exf,ok.bs,ok.bsz,ok.noex,ok.exfs,ok.funs,ok.frf⟩
theorem Cx.Ok.unwish {X:Cx}{E:Value->Shared->Prop}(ok:(X.wish E).Ok):X.Ok:=
 ⟨ok.mod,ok.kind,ok.glob,ok.blt,ok.above,ok.inj,ok.has,ok.cab,ok.hd,ok.frames,ok.stk,ok.exf,ok.bs,ok.bsz,ok.noex,ok.exfs,ok.funs,ok.frf⟩
variable {E:Value->Shared->Prop}
section
variable {σ:St}
theorem Inv.wish (I:Inv X ad σ H s)(E:Value->Shared->Prop):Inv (X.wish E) ad σ H s:=⟨I.ok.wish E,I.os,I.bare,I.base,I.loc,I.cell,I.free,I.freeC,I.pin,I.hok,I.len⟩
theorem Inv.unwish (I:Inv (X.wish E) ad σ H s):Inv X ad σ H s:=⟨I.ok.unwish,I.os,I.bare,I.base,I.loc,I.cell,I.free,I.freeC,I.pin,I.hok,I.len⟩
theorem SP.unwish {D:Ends}{f:Flow}{s':Shared}(h:SP (X.wish E) ad D f s'):SP X ad D f s':=by
 cases f with
 | next=>obtain⟨σ',H',I,q⟩:=h; exact⟨σ',H',I.unwish,q⟩
 | brk=>obtain⟨σ',H',I,q⟩:=h; exact⟨σ',H',I.unwish,q⟩
 | cont=>obtain⟨σ',H',I,q⟩:=h; exact⟨σ',H',I.unwish,q⟩
 | ret u=>obtain⟨v,σ',H',I,r,q⟩:=h; exact⟨v,σ',H',I.unwish,r,q⟩
theorem PSs.nox {st:List Stmt}{t:TS}(h:PSs X.nox st t):PSs X st t:=λad s σ H D I hw=>
 b9 (h ad s σ H D (I.wish _) hw) (λ_ _ q=>q.unwish) λ_ _ z=>False.elim z
end
variable {e:Expr}{te:TE}
section
variable {st:Stmt}{rest:List Stmt}{t u:TS}
def tNext:TS:=λD σ H=>D.nx σ H
def tSeq (t u:TS):TS:=λD σ H=>t { D with nx:=u D} σ H
theorem jEX:PSs X [] tNext:=λ_ _ σ H _ I h=>iq ⟨σ,H,I,h⟩
theorem kG (h1:PS X st t)(h2:PSs X rest u):PSs X (st::rest) (tSeq t u):=by
 intro ad s σ H D I h
 refine wpAny_execs_cons (mI (h1 ad s σ H { D with nx:=u D} I h) λf s1 q=>?_)
 cases f with
 | next=>
  obtain⟨σ',H',I',q⟩:=q
  exact h2 ad s1 σ' H' D I' q
 | ret v=>exact q
 | brk=>exact q
 | cont=>exact q
theorem jAZ (h1:PS X st t):PSs X [st] t:=by
 intro ad s σ H D I h
 refine wpAny_execs_cons (mI (h1 ad s σ H D I h) λf s1 q=>?_)
 cases f with
 | next=>exact iq q
 | ret v=>exact q
 | brk=>exact q
 | cont=>exact q
theorem Inv.quiet {ad:List (Addr×Obj)}{σ:St}{H:Hp}{s:Shared}(I:Inv X ad σ H s):interactive X.env=false:=by simp [interactive,I.ok.kind]
def tDrop (te:TE):TS:=λD σ H=>te σ H λ_ H1=>D.nx σ H1
theorem jRE (he:PE X e te)(hs:swapsWith e none pos.line X.env=pure false:=by rfl):PS X (.Expr e pos) (tDrop te):=by
 intro ad s σ H D I h
 exact wpAny_Expr_any (mI (he ad s σ H _ I h) λv s1 ⟨x,H1,I1,r1,q1⟩=>⟨σ,H1,I1,q1⟩) I.quiet hs
def tRet (te:TE):TS:=λD σ H=>te σ H D.rt
theorem jCQ (he:PE X e te):PS X (.Return (some e) pos) (tRet te):=by
 intro ad s σ H D I h
 exact wpAny_Return_some (mI (he ad s σ H _ I h) λv s1 ⟨x,H1,I1,r1,q1⟩=>⟨x,σ,H1,I1,r1,q1⟩)
def tIfS (c:TT)(t u:TS):TS:=λD σ H=>c σ H λb H1=>if b=true then t D σ H1 else u D σ H1
theorem ps_if {c:Expr}{a b:List Stmt}{tc:TT}(hc:PT X c tc)(ha:PSs X a t)(hb:PSs X b u):PS X (.If c a b pos) (tIfS tc t u):=by
 intro ad s σ H D I h
 refine wpAny_If (mI (hc ad s σ H _ I h) λd s1 ⟨H1,I1,q1⟩=>?_)
 cases d with
 | true=>exact ha ad s1 σ H1 D I1 q1
 | false=>exact hb ad s1 σ H1 D I1 q1
end
abbrev TG:=V->St->Hp->(St->Hp->Prop)->Prop
abbrev TGs:=List V->St->Hp->(St->Hp->Prop)->Prop
def PG (X:Cx)(target:Expr)(t:TG):Prop:=
 ∀(ad:List (Addr×Obj)) (s:Shared) (σ:St) (H:Hp) (v:V) (u:Value) (Q:St->Hp->Prop),Inv X ad σ H s->RelV v u->t v σ H Q->
  wpAny (model X.prog X.w) X.A (assign target X.env u) (λ_ s'=>∃σ' H',Inv X ad σ' H' s'/\Q σ' H') X.xe s
def PGs (X:Cx)(ts:List Expr)(t:TGs):Prop:=
 ∀(ad:List (Addr×Obj)) (s:Shared) (σ:St) (H:Hp) (vs:List V) (us:List Value) (Q:St->Hp->Prop),Inv X ad σ H s->Vals vs us->t vs σ H Q->
  wpAny (model X.prog X.w) X.A (assignInOrder ((assignEach ts X.env).map (·.2)) us) (λ_ s'=>∃σ' H',Inv X ad σ' H' s'/\Q σ' H') X.xe s
abbrev TSet:=V->V->V->Hp->(Hp->Prop)->Prop
def PSet (X:Cx)(t:TSet):Prop:=
 ∀(ad:List (Addr×Obj)) (s:Shared) (σ:St) (H:Hp) (o i v:V) (ov iv u:Value) (Q:Hp->Prop),Inv X ad σ H s->RelV o ov->RelV i iv->RelV v u->t o i v H Q->
  wpAny (model X.prog X.w) X.A (setItem ov iv u) (λ_ s'=>∃H',Inv X ad σ H' s'/\Q H') X.xe s
abbrev TIp:=V->V->Hp->VK->Prop
def PIp (X:Cx)(op:Operator)(t:TIp):Prop:=
 ∀(ad:List (Addr×Obj)) (s:Shared) (σ:St) (H:Hp) (x y:V) (v u:Value) (Q:VK),Inv X ad σ H s->RelV x v->RelV y u->t x y H Q->
  wpAny (model X.prog X.w) X.A (inplaceOp op v u) (EP X ad σ Q) X.xe s
noncomputable def kE (i:Nat):TG:=λv σ H Q=>Q (σ.set i (some v)) H
theorem jEY {i:Nat}{x:Str}(hN:X.N.Nodup)(hi:X.N[i]?=some x)(hx:Loc X.env.scope x)(hf:X.fn x=true\/X.env.scope.names.lookup x=some .local:=by first | exact .inl rfl | exact .inr rfl | assumption):PG X (.Name x pos) (kE i):=by
 intro ad s σ H v u Q I r h
 exact wpAny_assign_Name (jCY I hN hi hx r (λs' I'=>⟨_,H,I',h⟩) hf)
def gNil:TGs:=λvs σ H Q=>vs=[]/\Q σ H
def qA (t:TG)(u:TGs):TGs:=λvs σ H Q=>∃v r,vs=v::r/\t v σ H λσ' H'=>u r σ' H' Q
theorem jRO:PGs X [] gNil:=by
 intro ad s σ H vs us Q I r h
 obtain⟨e,h⟩:=h
 subst e
 cases r
 exact assignInOrder_nil ⟨σ,H,I,h⟩
theorem jOH {e:Expr}{es:List Expr}{t:TG}{u:TGs}(h1:PG X e t)(h2:PGs X es u)
  (hs:(assignEach (e::es) X.env).map (·.2)=assign e X.env::(assignEach es X.env).map (·.2):=by rfl):PGs X (e::es) (qA t u):=by
 intro ad s σ H vs us Q I r h
 obtain⟨v,vr,e1,h⟩:=h
 subst e1
 cases r with
 | cons r rr=>
  rw[hs]
  refine assignInOrder_cons (mI (h1 ad s σ H _ _ _ I r h) λ_ s1 ⟨σ1,H1,I1,q1⟩=>?_)
  exact h2 ad s1 σ1 H1 _ _ Q I1 rr q1
def gTup (K:W.Frag)(n:Nat)(t:TGs):TG:=λv σ H Q=>∃a xs,v= .ref a/\SqT K H a xs/\xs.length=n/\t xs σ H Q
theorem jU3 {es:List Expr}{k:Nat}{t:TGs}{n:Nat}(hc:X.calm=true)(h:PGs X es t)
  (hn:(assignEach es X.env).length=n:=by rfl) (hst:(assignEach es X.env).findIdx? (·.1)=none:=by rfl):PG X (.Tuple es k pos) (gTup X.K n t):=by
 intro ad s σ H v u Q I r hw
 obtain⟨a,xs,e1,hq,hl,hw⟩:=hw
 subst e1
 cases r
 obtain⟨its,rv,ht,hz⟩:=I.tuple hq
 refine assign_Tuple_tuple (I.ok.hd hc) ht (by simp [hn,<- hl,rv.length]) hst λh' hx=>?_
 have I1:Inv X ad σ H { s with heap:=h'} :=I.kept (t':=s.toks) λb o e=>hx b o (aO (ay e)) e
 exact h ad _ σ H xs _ Q I1 (by simpa using rv) hw
def gSub (to ti:TE)(t:TSet):TG:=λv σ H Q=>to σ H λo H1=>ti σ H1 λi H2=>t o i v H2 λH3=>Q σ H3
theorem jU4 {o i:Expr}{to ti:TE}{t:TSet}(ho:PE X o to)(hi:PE X i ti)(hs:PSet X t)
  (ha:∀v,assign (.Subscript o i pos) X.env v=(do
   let ov <- holding [v] (eval o X.env)
   let iv <- holding [v,ov] (eval i X.env)
   standAt pos
   holding [v,ov,iv] (setItem ov iv v)
   release [v,ov,iv] []):=by intro _; rfl):PG X (.Subscript o i pos) (gSub to ti t):=by
 intro ad s σ H v u Q I r h
 rw[ha]
 refine aa (bE (mI (ho ad s σ H _ I h) λov s1 ⟨x,H1,I1,r1,q1⟩=>?_))
 refine aa (bE (mI (hi ad s1 σ H1 _ I1 q1) λiv s2 ⟨y,H2,I2,r2,q2⟩=>?_))
 refine aa (eG (aa (bE (mI (hs ad s2 σ H2 x y v ov iv u _ I2 r1 r2 r q2) λ_ s3 ⟨H3,I3,q3⟩=>?_))))
 exact wpAny_release ⟨σ,H3,I3,q3⟩
def tAsg (te:TE)(g:TG):TS:=λD σ H=>te σ H λx H1=>g x σ H1 D.nx
theorem jQ6 {tg e:Expr}{te:TE}{g:TG}(he:PE X e te)(hg:PG X tg g)(hs:swapsWithSole [tg] e pos.line X.env=pure false:=by rfl)(hw:swappedStores [tg] e X.env=pure none:=by rfl)
  (h1:(assignEach [tg] X.env).map (·.2)=[assign tg X.env]:=by rfl):PS X (.Assign [tg] e pos) (tAsg te g):=by
 intro ad s σ H D I h
 refine wpAny_Assign_stores (mI (he ad s σ H _ I h) λv s1 ⟨x,H1,I1,r1,q1⟩=>?_) hs hw
 rw[h1]
 exact mI (hg ad s1 σ H1 x v _ I1 r1 q1) λ_ s2 q=>q
theorem qB {i:Nat}{x:Str}{e:Expr}{te:TE}{pos':Pos}(hN:X.N.Nodup)(hi:X.N[i]?=some x)(hx:Loc X.env.scope x)(he:PE X e te)(hs:swapsWith e (some (.Name x pos')) pos.line X.env=pure false:=by rfl)(hf:X.fn x=true\/X.env.scope.names.lookup x=some .local:=by first | exact .inl rfl | exact .inr rfl | assumption):
  PS X (.Assign [.Name x pos'] e pos) (tAsg te (kE i)):=by
 intro ad s σ H D I h
 refine wpAny_Assign_Name (mI (he ad s σ H _ I h) λv s1 ⟨y,H1,I1,r1,q1⟩=>?_) hs
 exact jCY I1 hN hi hx r1 (λs2 I2=>⟨_,H1,I2,q1⟩) hf
def tAugS (to ti te:TE)(tget:V->V->Hp->VK->Prop)(tip:TIp)(tset:TSet):TS:=λD σ H=>to σ H λo H1=>ti σ H1 λi H2=>tget o i H2 λx H3=>te σ H3 λy H4=>tip x y H4 λz H5=>tset o i z H5 λH6=>D.nx σ H6
def PGet (X:Cx)(t:V->V->Hp->VK->Prop):Prop:=
 ∀(ad:List (Addr×Obj)) (s:Shared) (σ:St) (H:Hp) (o i:V) (ov iv:Value) (Q:VK),Inv X ad σ H s->RelV o ov->RelV i iv->t o i H Q->
  wpAny (model X.prog X.w) X.A (getItem ov iv) (EP X ad σ Q) X.xe s
theorem jRG {o i e:Expr}{to ti te:TE}{tget:V->V->Hp->VK->Prop}{tip:TIp}{tset:TSet}{op:Operator}{tpos:Pos}(ho:PE X o to)(hi:PE X i ti)(hg:PGet X tget)(he:PE X e te)(hp:PIp X op tip)(hs:PSet X tset)
  (ha:∀ov iv new,augStore i ov iv new=(do holding [new,ov,iv] (setItem ov iv new); release [new,ov,iv] []; pure .next):=by intros; rfl):PS X (.AugAssign (.Subscript o i tpos) op e pos) (tAugS to ti te tget tip tset):=by
 intro ad s σ H D I h
 refine wpAny_AugAssign_SubscriptAny (mI (ho ad s σ H _ I h) λov s1 ⟨x1,H1,I1,r1,q1⟩=>?_) ha
 refine mI (hi ad s1 σ H1 _ I1 q1) λiv s2 ⟨x2,H2,I2,r2,q2⟩=>?_
 refine mI (hg ad s2 σ H2 x1 x2 ov iv _ I2 r1 r2 q2) λold s3 ⟨x3,H3,I3,r3,q3⟩=>?_
 refine mI (he ad s3 σ H3 _ I3 q3) λv s4 ⟨x4,H4,I4,r4,q4⟩=>?_
 refine mI (hp ad s4 σ H4 x3 x4 old v _ I4 r3 r4 q4) λnew s5 ⟨x5,H5,I5,r5,q5⟩=>?_
 exact mI (hs ad s5 σ H5 x1 x2 x5 ov iv new _ I5 r1 r2 r5 q5) λ_ s6 ⟨H6,I6,q6⟩=>⟨σ,H6,I6,q6⟩
def ipI (f:Int->Int->Int):TIp:=λx y H Q=>∃i j,x= .int i/\y= .int j/\Q (.int (f i j)) H
theorem jV5:PIp X .Add (ipI λi j=>i+j):=by
 intro ad s σ H x y v u Q I r1 r2 h
 obtain⟨i,j,e1,e2,q⟩:=h
 subst e1; subst e2
 obtain⟨t,rfl⟩:=r1
 obtain⟨t',rfl⟩:=r2
 exact iadd_int ⟨.int _,H,I.tok _,⟨_,rfl⟩,q⟩
def jPU (c:TT)(tb:TS):TS:=λD σ H=>∃W:Nat->St->Hp->Prop,(∃m,W m σ H)/\∀m σ H,W m σ H->
 c σ H λb H1=>if b=true then ∃N:St->Hp->Prop,(∀σ' H',N σ' H'->∃m',m'<m/\W m' σ' H')/\tb { D with nx:=N,ct:=N,bk:=D.nx} σ H1 else D.nx σ H1
theorem jOD {c:Expr}{body:List Stmt}{tc:TT}{tb:TS}(hp:PassesOwn (model X.prog X.w) X.A X.env X.xe)(hc:PT X c tc)(hb:PSs X body tb):PS X (.While c body [] pos) (jPU tc tb):=by
 intro ad s σ H D I h
 obtain⟨W,⟨m0,w0⟩,turn⟩:=h
 refine wpAny_While (codeAny_whileLoop (λn s'=>∃σ' H',Inv X ad σ' H' s'/\W n σ' H') ?_ m0 ⟨σ,H,I,w0⟩)
 rintro n s1 ⟨σ1,H1,I1,w1⟩
 refine eh hp (mI (hc ad s1 σ1 H1 _ I1 (turn n σ1 H1 w1)) λb s2 ⟨H2,I2,q2⟩=>?_)
 cases b with
 | true=>
  obtain⟨N,hN,q2⟩:=q2
  rw[am rfl]
  refine eh hp (mI (hb ad s2 σ1 H2 _ I2 q2) λf s3 q3=>?_)
  cases f with
  | next=>
   obtain⟨σ3,H3,I3,n3⟩:=q3
   obtain⟨m',hm,w3⟩:=hN σ3 H3 n3
   exact⟨m',hm,σ3,H3,I3,w3⟩
  | cont=>
   obtain⟨σ3,H3,I3,n3⟩:=q3
   obtain⟨m',hm,w3⟩:=hN σ3 H3 n3
   exact⟨m',hm,σ3,H3,I3,w3⟩
  | brk=>exact q3
  | ret v=>exact q3
 | false=>
  rw[aj aA]
  exact iq ⟨σ1,H2,I2,q2⟩
structure It where
 go:Nat->Hp->Prop
 yld:Nat->Hp->V->Hp->Prop
 stop:Nat->Hp->Prop
def FpOk (X:Cx)(ad:List (Addr×Obj))(H:Hp)(b:Addr):Prop:=
 H b=none/\b≠X.env.locals/\b∉X.fs/\(b∈X.ex\/X.s₀.heap.objs.size<=b)/\(∀x c,X.env.cells.lookup x=some c->c≠b)/\∀p∈X.pn++ad,p.1≠b
theorem Inv.fpOk {X:Cx}{ad:List (Addr×Obj)}{σ:St}{H H':Hp}{s:Shared}{b:Addr}(I:Inv X ad σ H s)(hb:s.heap.objs.size<=b)(hn:H' b=none):FpOk X ad H' b:=by
 refine⟨hn,cD (aR I.lt hb),I.nofs hb, .inr (bf I.sz hb),λx c e z=>?_,λp hp z=>?_⟩
 ·obtain⟨v,q⟩:=I.cell x c e
  exact absurd (aR q.lt (by rw[z]; exact hb)) (b8 _)
 ·exact absurd (aR (ay (I.pin p hp).1) (by rw[z]; exact hb)) (b8 _)
structure Turn (P:Program)(w:World)(K:W.Frag)(tg:Expr)(J:It)(fp:List Addr)(it:Addr)(tn:Nat->Heap->Prop):Prop where
 mem:it∈fp
 obj:∀i h,tn i h->∀b∈fp,∃o,h.get? b=some o/\∀v,o.data≠ .cell v
 keep:∀i h h',tn i h->(∀b∈fp,∀o,h.get? b=some o->h'.get? b=some o)->tn i h'
 item:∀(X:Cx),X.prog=P->X.w=w->X.K=K->X.calm=true->∀(i:Nat) (ad:List (Addr×Obj)) (s:Shared) (σ:St) (H:Hp) (E:Value->Shared->Prop),Inv X ad σ H s->(∀b∈fp,FpOk X ad H b)->tn i s.heap->J.go i H->
  wpAny (model P w) X.A (pyNext (.ref it)) (λr s1=>∃u,r=some u/\
   wpAny (model P w) X.A (letOwnedTupleGo tg (.ref it) u) (λ_ s2=>∃x H',Inv X ad σ H' s2/\RelV x u/\J.yld i H x H'/\tn (i+1) s2.heap/\∀b∈fp,H' b=none) E s1) E s
 done:∀(X:Cx),X.prog=P->X.w=w->X.K=K->X.calm=true->∀(i:Nat) (ad:List (Addr×Obj)) (s:Shared) (σ:St) (H:Hp) (E:Value->Shared->Prop),Inv X ad σ H s->(∀b∈fp,FpOk X ad H b)->tn i s.heap->J.stop i H->
  wpAny (model P w) X.A (pyNext (.ref it)) (λr s1=>r=none/\Inv X ad σ H s1) E s
 self:∀(A:Around) (i:Nat) (s:Shared) (Q:Value->Shared->Prop) (E:Value->Shared->Prop),tn i s.heap->Q (.ref it) s->wpAny (model P w) A (pyIter (.ref it)) Q E s
abbrev TI:=St->Hp->(It->Hp->Prop)->Prop
def PIE (X:Cx)(ad:List (Addr×Obj))(σ:St)(tg:Expr)(R:It->Hp->Prop)(itv:Value)(s2:Shared):Prop:=
 ∃(it:Addr) (fp:List Addr) (tn:Nat->Heap->Prop) (J:It) (H':Hp),itv= .ref it/\Inv X ad σ H' s2/\Turn X.prog X.w X.K tg J fp it tn/\tn 0 s2.heap/\(∀b∈fp,FpOk X ad H' b)/\R J H'
def PI (X:Cx)(tg iter:Expr)(wi:TI):Prop:=
 ∀(ad:List (Addr×Obj)) (s:Shared) (σ:St) (H:Hp) (R:It->Hp->Prop),Inv X ad σ H s->wi σ H R->
  wpAny (model X.prog X.w) X.A (eval iter X.env) (λv s1=>wpAny (model X.prog X.w) X.A (pyIter v) (PIE X ad σ tg R) X.xe s1) X.xe s
theorem go_of {M:Model}{A:Around}{E:Value->Shared->Prop}{s:Shared}{tg:Expr}{it:Addr}{u:Value}{o:Obj}{n:String}{vs:Array Value}{Q:Unit->Shared->Prop}(ho:s.heap.get? it=some o)(hc:o.cls= .type n)(hd:o.data= .fields vs)
  (hn: ["enumerate","zip","dict_itemiterator","dict_reverseitemiterator","odict_iterator","itertools.zip_longest","itertools.pairwise"].contains n=false) (hQ:Q () s):wpAny M A (letOwnedTupleGo tg (.ref it) u) Q E s:=by
 unfold letOwnedTupleGo
 cases tg <;> first
  | exact ai hQ
  | (cases u <;> first
    | exact ai hQ
    | (refine aa (iP ho ?_)
       rw [hc, hd]
       show wpAny M A (if (["enumerate", "zip", "dict_itemiterator", "dict_reverseitemiterator", "odict_iterator", "itertools.zip_longest", "itertools.pairwise"].contains n && vs[0]? == some (rawInt _)) = true then _ else _) Q E s
       rw [aj (by intro h; rw [hn, iQ] at h; cases h)]
       exact ai hQ))
def Itl (K:W.Frag)(a:Addr):It:=
 ⟨λi H=>∃xs x,SqL K H a xs/\xs[i]?=some x,λi H x H'=>H'=H/\∀xs,SqL K H a xs->xs[i]?=some x,λi H=>∃xs,SqL K H a xs/\xs.length<=i⟩
def Itt (K:W.Frag)(a:Addr):It:=
 ⟨λi H=>∃xs x,SqT K H a xs/\xs[i]?=some x,λi H x H'=>H'=H/\∀xs,SqT K H a xs->xs[i]?=some x,λi H=>∃xs,SqT K H a xs/\xs.length<=i⟩
def Itr (lo:Int)(n:Nat):It:=⟨λi _=>i<n,λi H x H'=>H'=H/\x= .int (lo+i),λi _=>n<=i⟩
theorem jKX {P:Program}{w:World}{K:W.Frag}{tg:Expr}(a it:Addr):Turn P w K tg (Itl K a) [it] it (λi h=>h.IsListIter it a i) where
 mem:=by simp
 obj:=λi h st b hb=>by
  have e:b=it:=by simpa using hb
  subst e
  obtain⟨o,e,c,d⟩:=st
  exact⟨o,e,λv z=>by rw[d] at z; cases z⟩
 keep:=λi h h' st k=>st.at λo e=>k it (by simp) o e
 item:=by
  intro X hP hw hK hc i ad s σ H E I hf st hg
  subst hP hw hK
  obtain⟨xs,x,hq,hx⟩:=hg
  obtain⟨its,rv,p,hz⟩:=I.list hq
  obtain⟨u,hu,ru⟩:=rv.get hx
  obtain⟨f0,f1,f2,f3,f4,f5⟩:=hf it (by simp)
  refine wpAny_pyNext_list_item st p.isList (x:=u) (by simpa using hu) λh' st' sb=>?_
  have I1:Inv X ad σ H { s with heap:=h'} :=I.turned (t':=s.toks) (λb o hb e=>(sb.2 b hb).trans e) f0 f1 f3 f4 f5
  obtain⟨o,e,c,d⟩:=id st'
  exact⟨u,rfl,go_of (s:= { s with heap:=h'}) e c d (by decide) ⟨x,H,I1,ru,⟨rfl,λys hy=>by rw[I.list_inj hy hq]; exact hx⟩,st',λb hb=>(hf b hb).1⟩⟩
 done:=by
  intro X hP hw hK hc i ad s σ H E I hf st hg
  subst hP hw hK
  obtain⟨xs,hq,hx⟩:=hg
  obtain⟨its,rv,p,hz⟩:=I.list hq
  obtain⟨f0,f1,f2,f3,f4,f5⟩:=hf it (by simp)
  have hl:=rv.length
  exact wpAny_pyNext_list_end (I.ok.hd hc) st p.isList (by simp; lia) λh' eb=>⟨rfl,I.turned (t':=s.toks) (λb o hb e=>eb b o hb e) f0 f1 f3 f4 f5⟩
 self:=λ_ _ _ _ _ st h=>wpAny_pyIter_listiter st h
theorem jJP {P:Program}{w:World}{K:W.Frag}{tg:Expr}(a it:Addr):Turn P w K tg (Itt K a) [it] it (λi h=>h.IsTupleIter it a i) where
 mem:=by simp
 obj:=λi h st b hb=>by
  have e:b=it:=by simpa using hb
  subst e
  obtain⟨o,e,c,d⟩:=st
  exact⟨o,e,λv z=>by rw[d] at z; cases z⟩
 keep:=λi h h' st k=>st.at λo e=>k it (by simp) o e
 item:=by
  intro X hP hw hK hc i ad s σ H E I hf st hg
  subst hP hw hK
  obtain⟨xs,x,hq,hx⟩:=hg
  obtain⟨its,rv,p,hz⟩:=I.tuple hq
  obtain⟨u,hu,ru⟩:=rv.get hx
  obtain⟨f0,f1,f2,f3,f4,f5⟩:=hf it (by simp)
  refine wpAny_pyNext_tuple_item st (show s.heap.IsTuple a its.toArray from p) (x:=u) (by simpa using hu) λh' st' sb=>?_
  have I1:Inv X ad σ H { s with heap:=h'} :=I.turned (t':=s.toks) (λb o hb e=>(sb.2 b hb).trans e) f0 f1 f3 f4 f5
  obtain⟨o,e,c,d⟩:=id st'
  exact⟨u,rfl,go_of (s:= { s with heap:=h'}) e c d (by decide) ⟨x,H,I1,ru,⟨rfl,λys hy=>by rw[I.tuple_inj hy hq]; exact hx⟩,st',λb hb=>(hf b hb).1⟩⟩
 done:=by
  intro X hP hw hK hc i ad s σ H E I hf st hg
  subst hP hw hK
  obtain⟨xs,hq,hx⟩:=hg
  obtain⟨its,rv,p,hz⟩:=I.tuple hq
  obtain⟨f0,f1,f2,f3,f4,f5⟩:=hf it (by simp)
  have hl:=rv.length
  exact wpAny_pyNext_tuple_end (I.ok.hd hc) st (show s.heap.IsTuple a its.toArray from p) (by simp; lia) λh' eb=>⟨rfl,I.turned (t':=s.toks) (λb o hb e=>eb b o hb e) f0 f1 f3 f4 f5⟩
 self:=λ_ _ _ _ _ st h=>wpAny_pyIter_tupleiter st h
theorem jJQ {P:Program}{w:World}{K:W.Frag}{tg:Expr}(it:Addr)(lo:Int)(n:Nat):Turn P w K tg (Itr lo n) [it] it (λi h=>IsRangeIter h it (lo+(i:Nat)*1) ((n:Int) - (i:Nat)) 1) where
 mem:=by simp
 obj:=λi h st b hb=>by
  have e:b=it:=by simpa using hb
  subst e
  exact⟨_,st,λv z=>by
   have z':Data.fields _=Data.cell v:=z
   cases z'⟩
 keep:=λi h h' st k=>k it (by simp) _ st
 item:=by
  intro X hP hw hK hc i ad s σ H E I hf st hg
  subst hP hw hK
  obtain⟨f0,f1,f2,f3,f4,f5⟩:=hf it (by simp)
  have W:=Walks.range (prog:=X.prog) (w:=X.w) (I.ok.hd hc) it lo 1 n
  refine W.item i s _ _ hg st λv h' tk hv st' kk=>?_
  obtain⟨t,rfl⟩:=hv
  have I1:Inv X ad σ H { s with heap:=h',toks:=tk} :=I.turned (λb o hb e=>kk b o (by simpa using hb) e) f0 f1 f3 f4 f5
  refine⟨_,rfl,go_of (s:= { s with heap:=h',toks:=tk}) (n:= "range_iterator") st' rfl rfl (by decide) ⟨.int (lo+i),H,I1,⟨t,?_⟩,⟨rfl,rfl⟩,st',λb hb=>(hf b hb).1⟩⟩
  rw[Int.mul_one]
 done:=by
  intro X hP hw hK hc i ad s σ H E I hf st hg
  subst hP hw hK
  obtain⟨f0,f1,f2,f3,f4,f5⟩:=hf it (by simp)
  exact wpAny_pyNext_range_end (I.ok.hd hc) st (by have:n<=i:=hg; lia) λh' eb=>⟨rfl,I.turned (t':=s.toks) (λb o hb e=>eb b o hb e) f0 f1 f3 f4 f5⟩
 self:=λ_ _ _ _ _ st h=>wpAny_pyIter_rangeiter st h
section
variable {tg:Expr}
def iList (K:W.Frag)(tl:TE):TI:=λσ H R=>tl σ H λx H1=>∃a,x= .ref a/\(∃xs,SqL K H1 a xs)/\R (Itl K a) H1
def iTup (K:W.Frag)(tl:TE):TI:=λσ H R=>tl σ H λx H1=>∃a,x= .ref a/\(∃xs,SqT K H1 a xs)/\R (Itt K a) H1
theorem jRM {l:Expr}{tl:TE}(hl:PE X l tl):PI X tg l (iList X.K tl):=by
 intro ad s σ H R I h
 refine mI (hl ad s σ H _ I h) λv s1 ⟨x,H1,I1,r1,q1⟩=>?_
 obtain⟨a,e,⟨xs,hq⟩,q⟩:=q1
 subst e
 cases r1
 obtain⟨its,rv,p,hz⟩:=I1.list hq
 refine cQ p.isList ?_
 refine⟨s1.heap.objs.size,[s1.heap.objs.size],_,_,H1,rfl,I1.kept (t':=s1.toks) λb o e=>ab _ e,jKX a _,⟨_,ao _ rfl,rfl,rfl⟩,λb hb=>?_,q⟩
 have e:b=s1.heap.objs.size:=by simpa using hb
 subst e
 exact I1.fpOk (aq _) (I1.hok.fresh (aq _))
theorem jU2 {l:Expr}{tl:TE}(hl:PE X l tl):PI X tg l (iTup X.K tl):=by
 intro ad s σ H R I h
 refine mI (hl ad s σ H _ I h) λv s1 ⟨x,H1,I1,r1,q1⟩=>?_
 obtain⟨a,e,⟨xs,hq⟩,q⟩:=q1
 subst e
 cases r1
 obtain⟨its,rv,p,hz⟩:=I1.tuple hq
 refine wpAny_pyIter_tuple (show s1.heap.IsTuple a its.toArray from p) ?_
 refine⟨s1.heap.objs.size,[s1.heap.objs.size],_,_,H1,rfl,I1.kept (t':=s1.toks) λb o e=>ab _ e,jJP a _,⟨_,ao _ rfl,rfl,rfl⟩,λb hb=>?_,q⟩
 have e:b=s1.heap.objs.size:=by simpa using hb
 subst e
 exact I1.fpOk (aq _) (I1.hok.fresh (aq _))
theorem jOC {ad:List (Addr×Obj)}{σ:St}{H:Hp}{s:Shared}{R:It->Hp->Prop}{E:Value->Shared->Prop}{lo hi:Int}{t u v:Tok}{tk:Nat}(I:Inv X ad σ H s)(h1: -(2 ^ 62)<=lo)(h2:lo<2 ^ 62)(h3: -(2 ^ 62)<=hi)(h4:hi<2 ^ 62)
  (q:R (Itr lo (hi - lo).toNat) H):wpAny (model X.prog X.w) X.A (pyIter (.ref s.heap.objs.size)) (PIE X ad σ tg R) E { s with heap:=s.heap.push { cls:= .type "range",data:= .fields #[.int lo t, .int hi u, .int 1 v]},toks:=tk} :=by
 refine wpAny_pyIter_range (IsRange.new ..) (small_one h1 h2 h3 h4) ?_
 have I1:Inv X ad σ H { s with heap:=s.heap.push { cls:= .type "range",data:= .fields #[.int lo t, .int hi u, .int 1 v]},toks:=tk} :=I.kept λb o e=>ab _ e
 refine⟨(s.heap.push { cls:= .type "range",data:= .fields #[.int lo t, .int hi u, .int 1 v]}).objs.size,[(s.heap.push { cls:= .type "range",data:= .fields #[.int lo t, .int hi u, .int 1 v]}).objs.size],_,_,H,rfl,
  I1.kept (t':=tk) λb o e=>ab _ e,jJQ _ lo (hi - lo).toNat,?_,λb hb=>?_,q⟩
 ·have e1:lo+((0:Nat):Int)*1=lo:=by simp
  have e2:(((hi - lo).toNat:Nat):Int) - ((0:Nat):Int)=Builtin.Range.rangeSize lo hi 1:=by rw[rangeSize_one]; split <;> lia
  show IsRangeIter _ _ (lo+((0:Nat):Int)*1) ((((hi - lo).toNat:Nat):Int) - ((0:Nat):Int)) 1
  rw[e1,e2]
  exact ao _ rfl
 ·have e:b=(s.heap.push { cls:= .type "range",data:= .fields #[.int lo t, .int hi u, .int 1 v]}).objs.size:=by simpa using hb
  subst e
  exact I1.fpOk (aq _) (I1.hok.fresh (aq _))
def iRng1 (ta:TA):TI:=λσ H R=>ta σ H λvs H1=>∃j:Int,vs=[.int j]/\ -(2 ^ 62)<=j/\j<2 ^ 62/\R (Itr 0 j.toNat) H1
theorem jBR {a:Expr}{ta:TA}{p pos:Pos}(hg:Gl X "range")(hm:X.mg "range" =none)(ha:PA X [a] ta)(hs:starEach [a] X.env=[(false,eval a X.env)]:=by rfl):PI X tg (.Call (.Name "range" p) [a] [] pos) (iRng1 ta):=by
 intro ad s σ H R I h
 refine Call_ (jCU I hg hm boot_range (dS (mI (ha pos ad s σ H _ I h) λus s1 ⟨vs,H1,I1,r1,q1⟩=>?_) hs rfl))
 obtain⟨j,e,q1,q2,q⟩:=q1
 subst e
 cases r1 with
 | cons r rr=>
  cases rr
  obtain⟨t,rfl⟩:=r
  exact call_range_1 (jOC I1 (by lia) (by lia) q1 q2 (by simpa using q))
def tFor (wi:TI)(g:TG)(tb:TS):TS:=λD σ H=>wi σ H λJ H1=>∃W:Nat->Nat->St->Hp->Prop,(∃m,W 0 m σ H1)/\∀i m σ H,W i m σ H->
 (J.stop i H/\D.nx σ H)\/(J.go i H/\∃N:St->Hp->Prop,(∀σ' H',N σ' H'->∃m',m'<m/\W (i+1) m' σ' H')/\∀x H',J.yld i H x H'->g x σ H' λσ2 H2=>tb { D with nx:=N,ct:=N,bk:=D.nx} σ2 H2)
def jE9 (fp:List Addr)(h:Heap):List (Addr×Obj):=fp.filterMap λb=>(h.get? b).map λo=>(b,o)
theorem jAF {fp:List Addr}{h:Heap}{b:Addr}{o:Obj}(hb:b∈fp)(e:h.get? b=some o):(b,o)∈jE9 fp h:=mw.mpr ⟨b,hb,by rw[e]; rfl⟩
theorem jLW {fp:List Addr}{h:Heap}{p:Addr×Obj}(hp:p∈jE9 fp h):p.1∈fp/\h.get? p.1=some p.2:=by
 obtain⟨b,hb,e⟩:=mw.mp hp
 cases q:h.get? b with
 | none=>rw[q] at e; cases e
 | some o=>
  rw[q] at e
  have e':(b,o)=p:=bA e
  subst e'
  exact⟨hb,q⟩
theorem Inv.pinned {ad:List (Addr×Obj)}{σ:St}{H:Hp}{s:Shared}{fp:List Addr}(I:Inv X ad σ H s)(hf:∀b∈fp,FpOk X ad H b)(ho:∀b∈fp,∃o,s.heap.get? b=some o/\∀v,o.data≠ .cell v):Inv X (ad++jE9 fp s.heap) σ H s:=
 I.pins_of λp hp=>(aL.mp hp).elim (λz=>I.pin p (az _ z)) λz=>by
  obtain⟨hb,e⟩:=jLW z
  obtain⟨f0,f1,f2,_⟩:=hf p.1 hb
  obtain⟨o,e',d⟩:=ho p.1 hb
  rw[e] at e'; cases e'
  exact⟨e,f0,f1,f2,d⟩
theorem Inv.unpinned {ad pl:List (Addr×Obj)}{σ:St}{H:Hp}{s:Shared}(I:Inv X (ad++pl) σ H s):Inv X ad σ H s:=I.pins_of λp hp=>I.pin p (az _ (aQ _ hp))
theorem jQ5 {iter:Expr}{body:List Stmt}{wi:TI}{g:TG}{tb:TS}{pos:Pos}(hp:PassesOwn (model X.prog X.w) X.A X.env X.xe)(hc:X.calm=true)(hi:PI X tg iter wi)(hg:PG X tg g)(hb:PSs X body tb)
  (hs:∀x,foldedSetIterable iter X.env x=pure x:=by intro _; rfl):PS X (.For tg iter body [] pos) (tFor wi g tb):=by
 intro ad s σ H D I h
 refine wpAny_For (mI (hi ad s σ H _ I h) λv s1 h1=>mI h1 λitv s2 h2=>?_) hs
 obtain⟨it,fp,tn,J,H2,e,I2,T,st2,f2,W,⟨m0,w0⟩,turn⟩:=h2
 subst e
 have stat:∀{H':Hp},(∀b∈fp,H' b=none)->∀b∈fp,FpOk X ad H' b:=λhn b hb=>⟨hn b hb,(f2 b hb).2⟩
 refine codeAny_forLoop_any (λn s'=>∃i σ' H',Inv X ad σ' H' s'/\tn i s'.heap/\(∀b∈fp,H' b=none)/\W i n σ' H') ?_ m0 ⟨0,σ,H2,I2,st2,λb hb=>(f2 b hb).1,w0⟩
 rintro n s3 ⟨i,σ3,H3,I3,st3,fr3,w3⟩
 rcases turn i n σ3 H3 w3 with ⟨stop,qn⟩ | ⟨go,N,hN,step⟩
 ·refine eh hp (mI (T.done X rfl rfl rfl hc i ad s3 σ3 H3 X.xe I3 (stat fr3) st3 stop) λr s4 ⟨hr,I4⟩=>?_)
  subst hr
  exact iq ⟨σ3,H3,I4,qn⟩
 ·refine eh hp (mI (T.item X rfl rfl rfl hc i ad s3 σ3 H3 X.xe I3 (stat fr3) st3 go) λr s4 ⟨u,hr,h4⟩=>?_)
  subst hr
  refine eh hp (mI h4 λ_ s5 ⟨x,H5,I5,r5,y5,st5,fr5⟩=>?_)
  have I5':=I5.pinned (stat fr5) (T.obj _ _ st5)
  refine eh hp (mI (hg _ s5 σ3 H5 x u _ I5' r5 (step x H5 y5)) λ_ s6 ⟨σ6,H6,I6,q6⟩=>?_)
  refine eh hp (mI (hb _ s6 σ6 H6 _ I6 q6) λf s7 q7=>?_)
  have again:∀{σ7:St}{H7:Hp},Inv X (ad++jE9 fp s5.heap) σ7 H7 s7->N σ7 H7->∃m,m<n/\∃i σ' H',Inv X ad σ' H' s7/\tn i s7.heap/\(∀b∈fp,H' b=none)/\W i m σ' H':=λ{σ7 H7} I7 n7=>by
   obtain⟨m',hm,w7⟩:=hN σ7 H7 n7
   refine⟨m',hm,i+1,σ7,H7,I7.unpinned,T.keep _ _ _ st5 λb hb o e=>(I7.pin (b,o) (az _ (az _ (jAF hb e)))).1,λb hb=>?_,w7⟩
   obtain⟨o,e,d⟩:=T.obj _ _ st5 b hb
   exact(I7.pin (b,o) (az _ (az _ (jAF hb e)))).2.1
  cases f with
  | next=>obtain⟨σ7,H7,I7,n7⟩:=q7; exact again I7 n7
  | cont=>obtain⟨σ7,H7,I7,n7⟩:=q7; exact again I7 n7
  | brk=>obtain⟨σ7,H7,I7,q7⟩:=q7; exact⟨σ7,H7,I7.unpinned,q7⟩
  | ret v=>obtain⟨x7,σ7,H7,I7,r7,q7⟩:=q7; exact⟨x7,σ7,H7,I7.unpinned,r7,q7⟩
end
theorem jBA {K:W.Frag}{a:Addr}{xs:List V}{g:TG}{tb:TS}{D:Ends}{σ:St}{H:Hp}(Pv:Nat->St->Hp->Prop)(h0:Pv 0 σ H)(hl:∀i σ H,i<=xs.length->Pv i σ H->SqL K H a xs)
  (hs:∀i x σ H,xs[i]?=some x->Pv i σ H->g x σ H λσ2 H2=>tb { D with nx:=Pv (i+1),ct:=Pv (i+1),bk:=D.nx} σ2 H2) (hd:∀σ H,Pv xs.length σ H->D.nx σ H):
  ∃W:Nat->Nat->St->Hp->Prop,(∃m,W 0 m σ H)/\∀i m σ H,W i m σ H->
   ((Itl K a).stop i H/\D.nx σ H)\/((Itl K a).go i H/\∃N:St->Hp->Prop,(∀σ' H',N σ' H'->∃m',m'<m/\W (i+1) m' σ' H')/\∀x H',(Itl K a).yld i H x H'->g x σ H' λσ2 H2=>tb { D with nx:=N,ct:=N,bk:=D.nx} σ2 H2):=by
 refine⟨λi m σ H=>m=xs.length - i/\i<=xs.length/\Pv i σ H,⟨xs.length,by simp,bi _,h0⟩,?_⟩
 rintro i m σ H ⟨rfl,hi,p⟩
 have q:=hl i σ H hi p
 by_cases hlt:i<xs.length
 ·refine .inr ⟨⟨xs,xs[i],q,by simp [hlt]⟩,Pv (i+1),λσ' H' p'=>⟨xs.length - (i+1),by lia,rfl,hlt,p'⟩,λx H' y=>?_⟩
  obtain⟨e,y⟩:=y
  subst e
  exact hs i x σ _ (y xs q) p
 ·have e:i=xs.length:=by lia
  subst e
  exact .inl ⟨⟨xs,q,aq _⟩,hd σ H p⟩
theorem jC2 {lo:Int}{n:Nat}{g:TG}{tb:TS}{D:Ends}{σ:St}{H:Hp}(Pv:Nat->St->Hp->Prop)(h0:Pv 0 σ H)
  (hs:∀i σ H,i<n->Pv i σ H->g (.int (lo+i)) σ H λσ2 H2=>tb { D with nx:=Pv (i+1),ct:=Pv (i+1),bk:=D.nx} σ2 H2) (hd:∀σ H,Pv n σ H->D.nx σ H):
  ∃W:Nat->Nat->St->Hp->Prop,(∃m,W 0 m σ H)/\∀i m σ H,W i m σ H->
   ((Itr lo n).stop i H/\D.nx σ H)\/((Itr lo n).go i H/\∃N:St->Hp->Prop,(∀σ' H',N σ' H'->∃m',m'<m/\W (i+1) m' σ' H')/\∀x H',(Itr lo n).yld i H x H'->g x σ H' λσ2 H2=>tb { D with nx:=N,ct:=N,bk:=D.nx} σ2 H2):=by
 refine⟨λi m σ H=>m=n - i/\i<=n/\Pv i σ H,⟨n,by simp,bi _,h0⟩,?_⟩
 rintro i m σ H ⟨rfl,hi,p⟩
 by_cases hlt:i<n
 ·refine .inr ⟨hlt,Pv (i+1),λσ' H' p'=>⟨n - (i+1),by lia,rfl,hlt,p'⟩,λx H' y=>?_⟩
  obtain⟨e,y⟩:=y
  subst e y
  exact hs i σ _ hlt p
 ·have e:i=n:=by lia
  subst e
  exact .inl ⟨aq _,hd σ H p⟩
abbrev R2:=V->V->Hp->VK->Prop
def OpR (X:Cx)(f:Value->Value->Sem Value)(r:R2):Prop:=
 ∀(ad:List (Addr×Obj)) (s:Shared) (σ:St) (H:Hp) (x y:V) (v u:Value) (Q:VK),Inv X ad σ H s->RelV x v->RelV y u->r x y H Q->
  wpAny (model X.prog X.w) X.A (f v u) (EP X ad σ Q) X.xe s
def UnR (X:Cx)(f:Value->Sem Value)(r:V->Hp->VK->Prop):Prop:=
 ∀(ad:List (Addr×Obj)) (s:Shared) (σ:St) (H:Hp) (x:V) (v:Value) (Q:VK),Inv X ad σ H s->RelV x v->r x H Q->
  wpAny (model X.prog X.w) X.A (f v) (EP X ad σ Q) X.xe s
def y9 (X:Cx)(f:Value)(r:List V->Hp->VK->Prop):Prop:=
 ∀(ad:List (Addr×Obj)) (s:Shared) (σ:St) (H:Hp) (xs:List V) (us:List Value) (Q:VK),Inv X ad σ H s->Vals xs us->r xs H Q->
  wpAny (model X.prog X.w) X.A (call f us) (EP X ad σ Q) X.xe s
def tOp (r:R2)(ta tb:TE):TE:=λσ H Q=>ta σ H λx H1=>tb σ H1 λy H2=>r x y H2 Q
def tUn (r:V->Hp->VK->Prop)(ta:TE):TE:=λσ H Q=>ta σ H λx H1=>r x H1 Q
def rI (C:Int->Int->Prop)(g:Int->Int->V):R2:=λx y H Q=>∃i j,x= .int i/\y= .int j/\C i j/\Q (g i j) H
def rI0 (g:Int->Int->V):R2:=λx y H Q=>∃i j,x= .int i/\y= .int j/\Q (g i j) H
def rU (g:Int->V):V->Hp->VK->Prop:=λx H Q=>∃i,x= .int i/\Q (g i) H
variable {c:Expr}{tc:TE}
section
variable {a:Expr}
theorem binT (ha:PE X a ta)(hb:PE X b tb){ad:List (Addr×Obj)}{s:Shared}{σ:St}{H:Hp}{R:V->V->Hp->Prop}(I:Inv X ad σ H s)
  (h:ta σ H λx H1=>tb σ H1 λy H2=>R x y H2) {Q:Value->Shared->Prop}{f:Value->Value->Sem Value}
  (hf:∀v u s2 x y H2,Inv X ad σ H2 s2->RelV x v->RelV y u->R x y H2->wpAny (model X.prog X.w) X.A (f v u) Q X.xe s2):
  wpAny (model X.prog X.w) X.A (eval a X.env) (λv s₁=>wpAny (model X.prog X.w) X.A (eval b X.env) (λu s₂=>wpAny (model X.prog X.w) X.A (f v u) Q X.xe s₂) X.xe s₁) X.xe s:=by
 refine mI (ha ad s σ H _ I h) λv s1 ⟨x,H1,I1,r1,q1⟩=>?_
 refine mI (hb ad s1 σ H1 _ I1 q1) λu s2 ⟨y,H2,I2,r2,q2⟩=>?_
 exact hf v u s2 x y H2 I2 r1 r2 q2
theorem kD {op:Operator}{r:R2}(ho:OpR X (binaryOp op) r)(ha:PE X a ta)(hb:PE X b tb):PE X (.BinOp a op b pos) (tOp r ta tb):=by
 intro ad s σ H Q I h
 exact wpAny_BinOp (binT ha hb I h λv u s2 x y H2 I2 rx ry q=>ho ad s2 σ H2 x y v u Q I2 rx ry q)
theorem pe_un {op:UnaryOp}{r:V->Hp->VK->Prop}(ho:UnR X (unaryOp op) r)(ha:PE X a ta):PE X (.UnaryOp op a pos) (tUn r ta):=by
 intro ad s σ H Q I h
 exact UnaryOp_ (mI (ha ad s σ H _ I h) λv s1 ⟨x,H1,I1,r1,q1⟩=>ho ad s1 σ H1 x v Q I1 r1 q1)
theorem opI {f:Value->Value->Sem Value}{C:Int->Int->Prop}{g:Int->Int->Int}
  (rule:∀(i j:Int) (t u:Tok) (s:Shared) (Q:Value->Shared->Prop) (E:Value->Shared->Prop),C i j->Q (.int (g i j) s.toks) { s with toks:=s.toks+1} ->wpAny (model X.prog X.w) X.A (f (.int i t) (.int j u)) Q E s):
  OpR X f (rI C λi j=> .int (g i j)):=by
 intro ad s σ H x y v u Q I rx ry h
 obtain⟨i,j,rfl,rfl,hc,q⟩:=h
 obtain⟨t,rfl⟩:=rx
 obtain⟨t',rfl⟩:=ry
 exact rule i j t t' s _ _ hc ⟨.int (g i j),H,I.tok _,⟨_,rfl⟩,q⟩
theorem opI0 {f:Value->Value->Sem Value}{g:Int->Int->Int}
  (rule:∀(i j:Int) (t u:Tok) (s:Shared) (Q:Value->Shared->Prop) (E:Value->Shared->Prop),Q (.int (g i j) s.toks) { s with toks:=s.toks+1} ->wpAny (model X.prog X.w) X.A (f (.int i t) (.int j u)) Q E s):
  OpR X f (rI0 λi j=> .int (g i j)):=by
 intro ad s σ H x y v u Q I rx ry h
 obtain⟨i,j,rfl,rfl,q⟩:=h
 obtain⟨t,rfl⟩:=rx
 obtain⟨t',rfl⟩:=ry
 exact rule i j t t' s _ _ ⟨.int (g i j),H,I.tok _,⟨_,rfl⟩,q⟩
theorem opB0 {f:Value->Value->Sem Value}{g:Int->Int->Bool}
  (rule:∀(i j:Int) (t u:Tok) (s:Shared) (Q:Value->Shared->Prop) (E:Value->Shared->Prop),Q (.bool (g i j)) s->wpAny (model X.prog X.w) X.A (f (.int i t) (.int j u)) Q E s):
  OpR X f (rI0 λi j=> .bl (g i j)):=by
 intro ad s σ H x y v u Q I rx ry h
 obtain⟨i,j,rfl,rfl,q⟩:=h
 obtain⟨t,rfl⟩:=rx
 obtain⟨t',rfl⟩:=ry
 exact rule i j t t' s _ _ ⟨.bl (g i j),H,I,rfl,q⟩
def CPow (i j:Int):Prop:=0<=j/\j<=1000000/\i.natAbs<2 ^ 64
def CMul (i j:Int):Prop:=(-(2 ^ 64)<i/\i<2 ^ 64)\/(-(2 ^ 64)<j/\j<2 ^ 64)
theorem CMul.ok {i j:Int}(h:CMul i j):IntMulOk i j:=by
 rcases h with ⟨h1,h2⟩ | ⟨h1,h2⟩
 ·exact .of_left (intBits_le_64 h1 h2)
 ·exact .of_right (intBits_le_64 h1 h2)
theorem jJO (k:Nat):(0:Int)<=2 ^ k:=by
 rw[two_pow_cast]
 exact gw _
theorem kP:OpR X (binaryOp .Add) (rI0 λi j=> .int (i+j)):=opI0 λ_ _ _ _ _ _ _ q=>add_int q
theorem jEC:OpR X (binaryOp .Sub) (rI0 λi j=> .int (i - j)):=opI0 λ_ _ _ _ _ _ _ q=>sub_int q
theorem jCT:OpR X (binaryOp .Mult) (rI CMul λi j=> .int (i*j)):=opI λ_ _ _ _ _ _ _ hc q=>mul_int q hc.ok
theorem jGD:OpR X (binaryOp .Mod) (rI (λ_ j=>0<j) λi j=> .int (i % j)):=opI λi j _ _ _ _ _ hc q=>by
 have h1:(0:Int)<j:=hc
 exact mod_int' (by lia) (by rw[Int.fmod_eq_emod_of_nonneg i (by lia)]; exact q)
theorem jLS:OpR X (binaryOp .Pow) (rI CPow λi j=> .int (i ^ j.toNat)):=opI λ_ _ _ _ _ _ _ hc q=>pow_int_small hc.1 hc.2.1 hc.2.2 q
theorem jIU:OpR X (binaryOp .LShift) (rI CPow λi j=> .int (i*2 ^ j.toNat)):=opI λ_ _ _ _ _ _ _ hc q=>lshift_int_small hc.1 hc.2.1 hc.2.2 q
theorem jUD:OpR X (binaryOp .RShift) (rI (λ_ j=>0<=j) λi j=> .int (i / 2 ^ j.toNat)):=opI λi j _ _ _ _ _ hc q=>
 rshift_int hc (by rw[iR i (jJO _)]; exact q)
theorem jLU:OpR X (binaryOp .BitAnd) (rI0 λi j=> .int (Builtin.bitAnd i j)):=opI0 λ_ _ _ _ _ _ _ q=>and_int q
theorem op_or:OpR X (binaryOp .BitOr) (rI0 λi j=> .int (Builtin.bitOr i j)):=opI0 λ_ _ _ _ _ _ _ q=>or_int q
theorem unI {f:Value->Sem Value}{g:Int->Int}
  (rule:∀(i:Int) (t:Tok) (s:Shared) (Q:Value->Shared->Prop) (E:Value->Shared->Prop),Q (.int (g i) s.toks) { s with toks:=s.toks+1} ->wpAny (model X.prog X.w) X.A (f (.int i t)) Q E s):
  UnR X f (rU λi=> .int (g i)):=by
 intro ad s σ H x v Q I rx h
 obtain⟨i,rfl,q⟩:=h
 obtain⟨t,rfl⟩:=rx
 exact rule i t s _ _ ⟨.int (g i),H,I.tok _,⟨_,rfl⟩,q⟩
theorem jKV:UnR X (unaryOp .USub) (rU λi=> .int (-i)):=unI λ_ _ _ _ _ q=>neg_int q
theorem jTB:UnR X (unaryOp .Invert) (rU λi=> .int (Builtin.bitNot i)):=unI λ_ _ _ _ _ q=>invert_int q
end
noncomputable def scal:V->V->Bool
 | .non, .non=>true | .non, .int _=>true | .int _, .non=>true | .non, .bl _=>true | .bl _, .non=>true | .non, .str _=>true | .str _, .non=>true
 | .int _, .int _=>true | .bl _, .bl _=>true | .str _, .str _=>true | .byt _, .byt _=>true
 | .int _, .str _=>true | .str _, .int _=>true | .bl _, .str _=>true | .str _, .bl _=>true
 | _,_=>false
def rEq:R2:=λx y H Q=>scal x y=true/\Q (.bl (decide (x=y))) H
def rNe:R2:=λx y H Q=>scal x y=true/\Q (.bl (!decide (x=y))) H
theorem jN7 {i j:Int} :decide (V.int i=V.int j)=(i==j):=by
 rw[dO]
 simp
theorem jQN {i j:Bool} :decide (V.bl i=V.bl j)=(i==j):=by
 rw[dO]
 simp
theorem jN6 {i j:Str} :decide (V.str i=V.str j)=(i==j):=by
 rw[dO]
 simp
theorem jN8 {i j:Array UInt8} :decide (V.byt i=V.byt j)=(i.toList==j.toList):=by
 rw[dO]
 cases i
 cases j
 simp
section
variable {a:Expr}
theorem jR {ad:List (Addr×Obj)}{σ:St}{H:Hp}{s:Shared}{Q:VK}{k k':Bool}(I:Inv X ad σ H s)(q:Q (.bl k) H)(e:k=k'):EP X ad σ Q (.bool k') s:=by
 subst e
 exact⟨.bl k,H,I,rfl,q⟩
theorem qK:OpR X (compareOp .Eq) rEq:=by
 intro ad s σ H x y v u Q I rx ry h
 obtain⟨hs,q⟩:=h
 cases x with
 | non=>
  cases rx
  cases y with
  | non=>cases ry; exact PySem.EqNone.eq_none_none (jR I q (by simp))
  | bl j=>cases ry; exact PySem.EqNone.eq_none_bool (jR I q (by simp))
  | int j=>obtain⟨t',rfl⟩:=ry; exact PySem.EqNone.eq_none_int (jR I q (by simp))
  | str j=>obtain⟨t',rfl⟩:=ry; exact PySem.EqNone.eq_none_str (jR I q (by simp))
  | _=>exact absurd (show false=true from hs) aA
 | bl i=>
  cases rx
  cases y with
  | non=>cases ry; exact PySem.EqNone.eq_bool_none (jR I q (by simp))
  | bl j=>cases ry; exact eq_bool (jR I q jQN)
  | str j=>obtain⟨t',rfl⟩:=ry; exact PySem.EqMixed.eq_bool_str (jR I q (by simp))
  | _=>exact absurd (show false=true from hs) aA
 | int i=>
  obtain⟨t,rfl⟩:=rx
  cases y with
  | non=>cases ry; exact PySem.EqNone.eq_int_none (jR I q (by simp))
  | int j=>obtain⟨t',rfl⟩:=ry; exact eq_int (jR I q jN7)
  | str j=>obtain⟨t',rfl⟩:=ry; exact PySem.EqMixed.eq_int_str (jR I q (by simp))
  | _=>exact absurd (show false=true from hs) aA
 | str i=>
  obtain⟨t,rfl⟩:=rx
  cases y with
  | non=>cases ry; exact PySem.EqNone.eq_str_none (jR I q (by simp))
  | bl j=>cases ry; exact PySem.EqMixed.eq_str_bool (jR I q (by simp))
  | int j=>obtain⟨t',rfl⟩:=ry; exact PySem.EqMixed.eq_str_int (jR I q (by simp))
  | str j=>obtain⟨t',rfl⟩:=ry; exact eq_str (jR I q jN6)
  | _=>exact absurd (show false=true from hs) aA
 | byt i=>
  obtain⟨t,rfl⟩:=rx
  cases y with
  | byt j=>obtain⟨t',rfl⟩:=ry; exact PySem.W.eq_bytes (jR I q jN8)
  | _=>exact absurd (show false=true from hs) aA
 | _=>cases y <;> exact absurd (show false=true from hs) aA
theorem op_ne:OpR X (compareOp .NotEq) rNe:=by
 intro ad s σ H x y v u Q I rx ry h
 obtain⟨hs,q⟩:=h
 cases x with
 | non=>
  cases rx
  cases y with
  | non=>cases ry; exact PySem.EqNone.ne_none_none (jR I q (by simp))
  | bl j=>cases ry; exact PySem.EqNone.ne_none_bool (jR I q (by simp))
  | int j=>obtain⟨t',rfl⟩:=ry; exact PySem.EqNone.ne_none_int (jR I q (by simp))
  | str j=>obtain⟨t',rfl⟩:=ry; exact PySem.EqNone.ne_none_str (jR I q (by simp))
  | _=>exact absurd (show false=true from hs) aA
 | bl i=>
  cases rx
  cases y with
  | non=>cases ry; exact PySem.EqNone.ne_bool_none (jR I q (by simp))
  | bl j=>cases ry; exact ne_bool (jR I q (bS not jQN))
  | str j=>obtain⟨t',rfl⟩:=ry; exact PySem.EqMixed.ne_bool_str (jR I q (by simp))
  | _=>exact absurd (show false=true from hs) aA
 | int i=>
  obtain⟨t,rfl⟩:=rx
  cases y with
  | non=>cases ry; exact PySem.EqNone.ne_int_none (jR I q (by simp))
  | int j=>obtain⟨t',rfl⟩:=ry; exact ne_int (jR I q (bS not jN7))
  | str j=>obtain⟨t',rfl⟩:=ry; exact PySem.EqMixed.ne_int_str (jR I q (by simp))
  | _=>exact absurd (show false=true from hs) aA
 | str i=>
  obtain⟨t,rfl⟩:=rx
  cases y with
  | non=>cases ry; exact PySem.EqNone.ne_str_none (jR I q (by simp))
  | bl j=>cases ry; exact PySem.EqMixed.ne_str_bool (jR I q (by simp))
  | int j=>obtain⟨t',rfl⟩:=ry; exact PySem.EqMixed.ne_str_int (jR I q (by simp))
  | str j=>obtain⟨t',rfl⟩:=ry; exact ne_str (jR I q (bS not jN6))
  | _=>exact absurd (show false=true from hs) aA
 | byt i=>
  obtain⟨t,rfl⟩:=rx
  cases y with
  | byt j=>obtain⟨t',rfl⟩:=ry; exact PySem.W.ne_bytes (jR I q (bS not jN8))
  | _=>exact absurd (show false=true from hs) aA
 | _=>cases y <;> exact absurd (show false=true from hs) aA
theorem op_lt:OpR X (compareOp .Lt) (rI0 λi j=> .bl (decide (i<j))):=opB0 λ_ _ _ _ _ _ _ q=>lt_int q
theorem op_gt:OpR X (compareOp .Gt) (rI0 λi j=> .bl (decide (j<i))):=opB0 λ_ _ _ _ _ _ _ q=>gt_int q
theorem op_ge:OpR X (compareOp .GtE) (rI0 λi j=> .bl (decide (j<=i))):=opB0 λ_ _ _ _ _ _ _ q=>ge_int q
theorem jQ8:OpR X (compareOp .Is) (λx y H Q=>y= .non/\Q (.bl (decide (x= .non))) H):=by
 intro ad s σ H x y v u Q I rx ry h
 obtain⟨rfl,q⟩:=h
 cases ry
 refine is_none_gen (jR I q ?_)
 cases x <;> first
  | (cases rx; rfl)
  | (obtain⟨t,rfl⟩:=rx; rfl)
theorem jX (b:Expr){op:CmpOp}(h:op≠ .In:=by decide)(h2:op≠ .NotIn:=by decide):behindInMarks op b=false:=by
 have e1:(op==CmpOp.In)=false:=by cases op <;> first | rfl | exact absurd rfl h
 have e2:(op==CmpOp.NotIn)=false:=by cases op <;> first | rfl | exact absurd rfl h2
 cases b <;> simp [behindInMarks,e1,e2]
theorem jRT {op:CmpOp}{r:R2}(ho:OpR X (compareOp op) r)(ha:PE X a ta)(hb:PE X b tb)(hm:behindInMarks op b=false):PE X (.Compare a [op] [b] pos) (tOp r ta tb):=by
 intro ad s σ H Q I h
 exact wpAny_Compare1 (binT ha hb I h λv u s2 x y H2 I2 rx ry q=>ho ad s2 σ H2 x y v u Q I2 rx ry q) hm
def tTest (t:TE):TT:=λσ H Q=>t σ H λx H'=>∃k,x= .bl k/\Q k H'
theorem jDM {op:CmpOp}{r:R2}(ho:OpR X (compareOp op) r)(ha:PE X a ta)(hb:PE X b tb)(hm:behindInMarks op b=false):PT X (.Compare a [op] [b] pos) (tTest (tOp r ta tb)):=by
 intro ad s σ H Q I h
 refine wpAny_isTrue_Compare1 (mI (ha ad s σ H _ I h) λv s1 ⟨x,H1,I1,r1,q1⟩=>mI (hb ad s1 σ H1 _ I1 q1) λu s2 ⟨y,H2,I2,r2,q2⟩=>
  mI (ho ad s2 σ H2 x y v u _ I2 r1 r2 q2) λc s3 ⟨z,H3,I3,r3,k,e,q3⟩=>?_) hm
 subst e
 cases r3
 exact dJ ⟨H3,I3,q3⟩
theorem jEF:(sizeLine:Nat)<2 ^ 63:=by rw[fm]; decide
theorem vals1 {x:V}{us:List Value}(r:Vals [x] us):∃u,us=[u]/\RelV x u:=by
 cases r with
 | cons r1 r2=>cases r2; exact⟨_,rfl,r1⟩
theorem vals2 {x y:V}{us:List Value}(r:Vals [x,y] us):∃u w',us=[u,w']/\RelV x u/\RelV y w':=by
 cases r with
 | cons r1 r2=>
  cases r2 with
  | cons r3 r4=>cases r4; exact⟨_,_,rfl,r1,r3⟩
theorem jNR (hc:X.calm=true):y9 X (.builtin "max") (λxs H Q=>∃i j,xs=[.int i, .int j]/\Q (.int (if j>i then j else i)) H):=by
 intro ad s σ H xs us Q I r h
 obtain⟨i,j,rfl,q⟩:=h
 obtain⟨u,w',rfl,⟨t,rfl⟩,⟨t',rfl⟩⟩:=vals2 r
 refine max_two_ints (I.ok.hd hc) λh' tk k=>⟨_,H,I.kept k,?_,q⟩
 by_cases hj:j>i
 ·rw[am hj,am hj]; exact⟨_,rfl⟩
 ·rw[aj hj,aj hj]; exact⟨_,rfl⟩
theorem jNO (hc:X.calm=true):y9 X (.builtin "min") (λxs H Q=>∃i j,xs=[.int i, .int j]/\Q (.int (if j<i then j else i)) H):=by
 intro ad s σ H xs us Q I r h
 obtain⟨i,j,rfl,q⟩:=h
 obtain⟨u,w',rfl,⟨t,rfl⟩,⟨t',rfl⟩⟩:=vals2 r
 refine min_two_ints (I.ok.hd hc) λh' tk k=>⟨_,H,I.kept k,?_,q⟩
 by_cases hj:j<i
 ·rw[am hj,am hj]; exact⟨_,rfl⟩
 ·rw[aj hj,aj hj]; exact⟨_,rfl⟩
theorem jNS:y9 X (.type "int") (λxs H Q=>(∃i,xs=[.int i]/\Q (.int i) H)\/∃k,xs=[.bl k]/\Q (.int (if k then 1 else 0)) H):=by
 intro ad s σ H xs us Q I r h
 rcases h with ⟨i,rfl,q⟩ | ⟨k,rfl,q⟩
 ·obtain⟨u,rfl,t,rfl⟩:=vals1 r
  exact call_int_int ⟨.int i,H,I,⟨_,rfl⟩,q⟩
 ·obtain⟨u,rfl,r1⟩:=vals1 r
  cases r1
  exact call_int_bool ⟨.int (if k then 1 else 0),H,I.tok _,⟨_,rfl⟩,q⟩
end
structure ObjM (h:Heap)(x dx C:Addr)(mA:Str->Option Value):Prop where
 obj:h.get? x=some (instObj C dx)
 ns:h.Ns1 dx mA
 ne:dx≠x
theorem jM6 {h:Heap}{dx:Addr}{mA:Str->Option Value}(n:h.Ns1 dx mA):∃od,h.get? dx=some od/\∀name,lookIn name od=some (mA name):=by
 obtain⟨o,es,ep,ho,hd,hk,_,hm⟩:=n
 refine⟨o,ho,λname=>?_⟩
 have e:=hm name
 unfold nsFind findBy at e
 rw[<- Array.find?_toList] at e
 unfold lookIn
 rw[hd]
 dsimp only
 split
 ·rename_i y q
  rw[q] at e
  exact bS some e
 ·rename_i q
  rw[q] at e
  have a:es.toList.any (·.refKey)=false:=by
   rw[List.any_eq_false]
   intro y hy
   obtain⟨z,t,hkey⟩:=hk y (Array.mem_toList_iff.mp hy)
   simp [DictEntry.refKey,hkey]
  have a':¬es.toList.any (·.refKey)=true:=by rw[a]; exact aA
  rw[aj a']
  exact bS some e
theorem ObjM.look {h:Heap}{x dx C:Addr}{mA:Str->Option Value}(I:ObjM h x dx C mA):∃od,PySem.W.InstAt h x (instObj C dx) C (some od)/\∀name,lookIn name od=some (mA name):=
 let ⟨od,ho,hl⟩:=jM6 I.ns
 ⟨od,⟨I.obj,rfl,rfl,ho⟩,hl⟩
variable {A:Around}{dx C f:Addr}
section
variable {prog:Program}{K:W.Frag}{mA:Str->Option Value}{name:Str}{v:Value}
end
theorem RelO.some_of {v:V}{o:Option Value}(r:RelO (some v) o):∃u,o=some u/\RelV v u:=by
 cases o with
 | none=>exact(show False from r).elim
 | some u=>exact⟨u,rfl,r⟩
section
variable {fs fs':List (Str×V)}
theorem jSK (hok:HOk P w H h)(e:H a=some (.ins C dx fs)):∃mA,ObjM h a dx C mA/\(∀f,RelO (fs.lookup f) (mA f))/\PySem.Within mA (fs.map (·.1))/\fs.length<=1000/\H dx=some (.own a):=by
 obtain⟨d,z,ne,ob,mA,n,r,q⟩:=(show ObjOk P w H h a (.ins C dx fs) from hok a _ e)
 exact⟨mA,⟨ob,n,ne⟩,r,q,z,d⟩
end
structure Cls (K:W.Frag)(C:Addr):Prop where
 pg:plainGet K C Str.empty=true
 hd:PySem.W.hasDictIn K C=true
 po:PySem.W.plainOver K C=true
 sa:findIn K (.ref C) "__setattr__" =some (some (.builtin "object.__setattr__"))
theorem Cls.get {K:W.Frag}{C:Addr}(c:Cls K C)(f:Str):plainGet K C f=true:=c.pg
section
variable {σ:St}{fs:List (Str×V)}{f:Str}{v:V}
end
variable {o:Expr}
section
variable {value:Expr}{f:Str}{pos' tpos:Pos}{tv:TE}
end
section
variable {σ:St}{Q:Value->Shared->Prop}{c:Value}{b:Bool}
inductive TyOf (K:W.Frag) (H:Hp):V->Value->Prop where
 | non:TyOf K H .non (.type "NoneType")
 | bl (x:Bool):TyOf K H (.bl x) (.type "bool")
 | int (i:Int):TyOf K H (.int i) (.type "int")
 | str (x:Str):TyOf K H (.str x) (.type "str")
 | flt (x:UInt64):TyOf K H (.flt x) (.type "float")
 | lst {a:Addr}{xs:List V}(e:H a=some (.lst xs)):TyOf K H (.ref a) (.type "list")
 | frz {a:Addr}{o:Obj}{xs:List V}(e:H a=some (.frz o (.lst xs))):TyOf K H (.ref a) (.type "list")
 | tup {a:Addr}{xs:List V}(e:H a=some (.tup xs)):TyOf K H (.ref a) (.type "tuple")
 | dK {a:Addr}{kvs:List (Key×V)}(e:H a=some (.dK kvs)):TyOf K H (.ref a) (.type "dict")
 | dT {a:Addr}{kvs:List (List Key×V)}(e:H a=some (.dT kvs)):TyOf K H (.ref a) (.type "dict")
 | ins {a C dx:Addr}{fs:List (Str×V)}(e:H a=some (.ins C dx fs)) (cl:Cls K C) (ha:findIn K (.ref C) "__class__" =some (some (.builtin "object.__class__")))
   (hn:PySem.W.specialIn K (.builtin "object.__class__") "__get__" =some (some (.builtin "getset_descriptor.__get__"))) (htk:PySem.W.takesIn K (.builtin "object.__class__")=some true)
   (hm:mroIn K C (.type "object")=some true):TyOf K H (.ref a) (.ref C)
theorem jMV {x:V}{u t:Value}(I:Inv X ad σ H s)(rx:RelV x u)(ty:TyOf X.K H x t)(e:kitOne X.K t c=some b)(h:∀tk,Q (.bool b) { s with toks:=tk}):
  wpAny (model X.prog X.w) A (call (.builtin "isinstance") [u,c]) Q E s:=by
 cases ty with
 | non=>cases (show u=Value.none from rx); exact cI PySem.W.kitx_none I.kIn True.intro e (λz=>nomatch z) h
 | bl y=>cases (show u=Value.bool y from rx); exact cI PySem.W.kitx_bool I.kIn True.intro e (λz=>nomatch z) h
 | int i=>obtain⟨t,q⟩:=(show ∃t,u=Value.int i t from rx); cases q; exact cI PySem.W.kitx_int I.kIn True.intro e (λz=>nomatch z) h
 | str y=>obtain⟨t,q⟩:=(show ∃t,u=Value.str y t from rx); cases q; exact cI PySem.W.kitx_str I.kIn True.intro e (λz=>nomatch z) h
 | flt y=>obtain⟨t,q⟩:=(show ∃t,u=Value.float y t from rx); cases q; exact cI PySem.W.kitx_float I.kIn True.intro e (λz=>nomatch z) h
 | @lst a xs ea=>
  cases (show u=Value.ref a from rx)
  obtain⟨_,_,n,_,h1⟩:=(show ObjOk X.prog X.w H s.heap a (.lst xs) from I.hok a _ ea)
  exact cI kitx_list I.kIn ⟨_,h1,rfl⟩ e (λz=>nomatch z) h
 | @frz a ob xs ea=>
  cases (show u=Value.ref a from rx)
  obtain⟨_,_,_,n,_,h1⟩:=(show ObjOk X.prog X.w H s.heap a (.frz ob (.lst xs)) from I.hok a _ ea)
  exact cI kitx_list I.kIn ⟨_,h1,rfl⟩ e (λz=>nomatch z) h
 | @tup a xs ea=>
  cases (show u=Value.ref a from rx)
  obtain⟨_,_,_,p⟩:=(show ObjOk X.prog X.w H s.heap a (.tup xs) from I.hok a _ ea)
  obtain⟨o,h1,h2,_⟩:=p.isTup
  exact cI PySem.W.kitx_tuple I.kIn ⟨o,h1,h2⟩ e (λz=>nomatch z) h
 | @dK a kvs ea=>
  cases (show u=Value.ref a from rx)
  obtain⟨_,_,vs,_,p⟩:=(show ObjOk X.prog X.w H s.heap a (.dK kvs) from I.hok a _ ea)
  obtain⟨o,es,ep,h1,h2,_⟩:=p
  exact cI kitx_dict I.kIn ⟨o,h1,h2.1⟩ e (λz=>nomatch z) h
 | @dT a kvs ea=>
  cases (show u=Value.ref a from rx)
  obtain⟨_,_,xs,_,o,es,ep,h1,h2,_⟩:=(show ObjOk X.prog X.w H s.heap a (.dT kvs) from I.hok a _ ea)
  exact cI kitx_dict I.kIn ⟨o,h1,h2.1⟩ e (λz=>nomatch z) h
 | @ins a C dx fs ea cl ha hn htk hm=>
  cases (show u=Value.ref a from rx)
  obtain⟨mA,O,_⟩:=jSK I.hok ea
  obtain⟨od,J,_⟩:=O.look
  exact cI (PySem.W.kitx_own (cl.get _) cl.hd ha hn htk hm) I.kIn J e (λz=>nomatch z) h
end
structure Room (k:Nat)(A:Around):Prop where
 hd:A.handled=none
 dp:A.depth+3*k+5<recursionLimit
 un:A.units+16*k+200<cLine
theorem Room.mono {j k:Nat}{A:Around}(r:Room k A)(h:j<=k):Room j A:=⟨r.hd,by have:=r.dp; lia,by have:=r.un; lia⟩
theorem Room.deeper {k:Nat}{A:Around}(r:Room (k+1) A)(env:Env):Room k (A.deeper env):=
 ⟨r.hd,by have:=r.dp; show A.depth+1+3*k+5<_; lia,by have:=r.un; show A.units+3+16*k+200<_; lia⟩
theorem Room.in1 {k:Nat}{A:Around}(r:Room (k+1) A):Room k A.in1:=
 ⟨r.hd,by have:=r.dp; show A.depth+3*k+5<_; lia,by have:=r.un; show A.units+1+16*k+200<_; lia⟩
theorem Room.depth {k:Nat}{A:Around}(r:Room k A):A.depth<recursionLimit:=by have:=r.dp; lia
theorem Room.units {k:Nat}{A:Around}(r:Room k A):A.units+64<cLine:=by have:=r.un; lia
theorem Room.units0 {k:Nat}{A:Around}(r:Room k A):A.units<cLine:=by have:=r.un; lia
def tNil:TA:=λ_ H Q=>Q [] H
def tCons (ta:TE)(tr:TA):TA:=λσ H Q=>ta σ H λx H1=>tr σ H1 λxs H2=>Q (x::xs) H2
variable {es:List Expr}{t:TA}
theorem y8:PA X [] tNil:=λ_ _ _ _ H Q I h=>Calls.spliced_nil ⟨[],H,I, .nil,h⟩
theorem jS (ha:PE X e te)(hr:PA X es t)(hs:starEach (e::es) X.env=(false,eval e X.env)::starEach es X.env:=by rfl):PA X (e::es) (tCons te t):=by
 intro pos ad s σ H Q I h
 rw[hs]
 show wpAny _ _ (spliced ((false,eval e X.env)::backTo pos (starEach es X.env))) _ _ s
 refine iS (mI (ha ad s σ H _ I h) λu s1 ⟨x,H1,I1,r1,q1⟩=>?_)
 exact mI (hr pos ad s1 σ H1 _ I1 q1) λus s2 ⟨xs,H2,I2,r2,q2⟩=>⟨x::xs,H2,I2, .cons r1 r2,q2⟩
def tTup (t:TA):TE:=λσ H Q=>t σ H λxs H1=>xs.length<=sizeLine/\∀p,H1 p=none->Q (.ref p) (upd H1 p (.tup xs))
def tLst (t:TA):TE:=λσ H Q=>t σ H λxs H1=>xs.length<=sizeLine/\∀p,H1 p=none->Q (.ref p) (upd H1 p (.lst xs))
theorem jU6 {x1}(h:PA X es t):PE X (.Tuple es x1 pos) (tTup t):=by
 intro ad s σ H Q I hq
 refine wpAny_Tuple_spliced (mI (h pos ad s σ H _ I hq) λus s1 ⟨xs,H1,I1,r,z,q⟩=>⟨by rw[<- r.length]; exact z,?_⟩)
 have hf:H1 s1.heap.objs.size=none:=I1.hok.fresh (aq _)
 refine⟨.ref s1.heap.objs.size,upd H1 s1.heap.objs.size (.tup xs),I1.laid (t':=s1.toks) (λb u e=>ab _ e) (aq _) ?_,rfl,q _ hf⟩
 exact⟨z,us,r,TupO.new _ _⟩
theorem jIT (h:PA X es t):PE X (.List es pos) (tLst t):=by
 intro ad s σ H Q I hq
 refine wpAny_List_spliced (mI (h pos ad s σ H _ I hq) λus s1 ⟨xs,H1,I1,r,z,q⟩=>⟨by rw[<- r.length]; exact z,?_⟩)
 have hf:H1 s1.heap.objs.size=none:=I1.hok.fresh (aq _)
 refine⟨.ref s1.heap.objs.size,upd H1 s1.heap.objs.size (.lst xs),I1.laid (t':=s1.toks) (λb u e=>ab _ e) (aq _) ?_,rfl,q _ hf⟩
 exact⟨z,us,0,r,ao _ rfl⟩
abbrev Sp:=List V->Hp->VK->XK->Prop
abbrev CXT:=List Env->Hp->Shared->XK->Value->Shared->Prop
structure Env0 (P:Program)(w:World)(K:W.Frag)(mg:Str->Option Value)(base:Heap)(A:Around)(outer:List Env)(s:Shared)(H:Hp):Prop where
 frames:A.frames=some outer
 mod:Mod K mg base
 bs:∀b o,base.get? b=some o->s.heap.get? b=some o/\H b=none
 bsz:base.objs.size<=s.heap.objs.size
 funs:s.heap.FunFrames base outer
 frf:∀b∈frs outer,H b=none
 hok:HOk P w H s.heap
 bare:AllBare s.gens
def CE (outer:List Env)(P:Program)(w:World)(H:Hp)(s:Shared)(Q:VK)(u:Value)(s':Shared):Prop:=
 ∃v H',s'.os=s.os/\AllBare s'.gens/\Un (frs outer) [] H H' s.heap s'.heap/\HOk P w H' s'.heap/\RelV v u/\Q v H'
def CR (CX:CXT)(outer:List Env)(P:Program)(w:World)(H:Hp)(s:Shared)(Q:VK)(E:XK)(r:Result)(s':Shared):Prop:=
 match r with
 | .ok (.ret u)=>CE outer P w H s Q u s'
 | .ok _=>False
 | .error e=>CX outer H s E e s'
structure FnOk (P:Program)(w:World)(K:W.Frag)(mg:Str->Option Value)(base:Heap)(CX:CXT)(k:Nat)(f:Addr)(fd:FuncData)(ps:List Str)(sp:Sp):Prop where
 len:∀vs H Q E,sp vs H Q E->vs.length=ps.length
 run:∀(A:Around) (outer:List Env) (s:Shared) (H:Hp) (args:Args) (us:List Value) (vs:List V) (Q:VK) (E:XK),Room k A->Env0 P w K mg base A outer s H->BindsTo s fd args (ps.zip us)->Vals vs us->sp vs H Q E->
  codeAny (model P w) A (.call (.ref f) args) (CR CX outer P w H s Q E) s
theorem Env0.in1 {P:Program}{w:World}{K:W.Frag}{mg:Str->Option Value}{base:Heap}{A:Around}{outer:List Env}{s:Shared}{H:Hp}(e:Env0 P w K mg base A outer s H):
  Env0 P w K mg base A.in1 outer s H:=⟨e.frames,e.mod,e.bs,e.bsz,e.funs,e.frf,e.hok,e.bare⟩
section
variable {σ:St}{s':Shared}
theorem Inv.env0 (I:Inv X ad σ H s):Env0 X.prog X.w X.K X.mg X.base X.A X.stack s H:=
 ⟨I.ok.frames,I.ok.mod,I.bs,bf I.ok.bsz I.sz,I.stack,I.stkFree,I.hok,I.bare⟩
theorem Inv.after {Q:VK}{u:Value}(I:Inv X ad σ H s)(h:CE X.stack X.prog X.w H s Q u s'):EP X ad σ Q u s':=by
 obtain⟨v,H',os,bare,un,hok,r,q⟩:=h
 obtain⟨hh,g,d,t,os'⟩:=s'
 obtain rfl:os'=s.os:=os
 exact⟨v,H',I.call (h':=hh) (g':=g) (d':=d) (t':=t) (ch:=[]) un hok bare (λb z=>absurd z (by simp)),r,q⟩
end
def tCall (sp:Sp)(dvs:List V)(E:XK)(t:TA):TE:=λσ H Q=>t σ H λvs H1=>sp (vs++dvs) H1 Q E
def Binds (K:W.Frag)(fd:FuncData)(ps:List Str)(ds:List Value):Prop:=
 ∀(s:Shared) (us:List Value),K.In s.heap->(us++ds).length=ps.length->BindsTo s fd ⟨us,[]⟩ (ps.zip (us++ds))
theorem Binds.all {K:W.Frag}{fd:FuncData}{ps:List Str}(h:∀us:List Value,us.length=ps.length->bindArgs fd ⟨us,[]⟩=pure (ps.zip us)):Binds K fd ps []:=λs us _ hl=>by
 rw[bg] at hl ⊢
 exact .of_eq (h us hl)
def jO1 (CX:CXT)(X:Cx)(E:XK):Prop:=∀(ad:List (Addr×Obj)) (σ:St) (H:Hp) (s:Shared) (e:Value) (s':Shared),Inv X ad σ H s->CX X.stack H s E e s'->X.xe e s'
variable {CX:CXT}{fd:FuncData}{ps:List Str}{sp:Sp}{m:Str}{p apos:Pos}
section
variable {k:Nat}{dvs:List V}{ds:List Value}{E:XK}{x:Str}
theorem jTQ {ad:List (Addr×Obj)}{σ:St}{H:Hp}{s:Shared}{Q:VK}{us:List Value}{vs:List V}(F:FnOk X.prog X.w X.K X.mg X.base CX k f fd ps sp)(hr:Room k X.A)(hb:Binds X.K fd ps ds)(hd:Vals dvs ds)(hx:jO1 CX X E)
  (I:Inv X ad σ H s) (r:Vals vs us) (h:sp (vs++dvs) H Q E):wpAny (model X.prog X.w) X.A (call (.ref f) us) (EP X ad σ Q) X.xe s:=by
 have r2:Vals (vs++dvs) (us++ds):=r.append hd
 have hl:(us++ds).length=ps.length:=by rw[<- r2.length]; exact F.len _ _ _ _ h
 refine iT (ev (F.run X.A X.stack s H ⟨us,[]⟩ (us++ds) (vs++dvs) Q E hr I.env0 (hb s us I.kIn hl) r2 h) λr s' hq=>?_)
 cases r with
 | error e=>exact hx ad σ H s e s' I hq
 | ok fl=>
  cases fl with
  | ret u=>exact I.after hq
  | next=>exact False.elim hq
  | brk=>exact False.elim hq
  | cont=>exact False.elim hq
theorem jRU (F:FnOk X.prog X.w X.K X.mg X.base CX k f fd ps sp)(hr:Room k X.A)(hg:Gl X x)(hm:X.mg x=some (.ref f))(hk:keepIn X.K (.ref f)=true)(hb:Binds X.K fd ps ds)(hd:Vals dvs ds)(hx:jO1 CX X E)
  (ha:PA X (e::es) t) (hdb:(x==("__debug__" :Str))=false:=by decide) (he:starEach (e::es) X.env=(false,eval e X.env)::starEach es X.env:=by rfl) (hpl:(backTo pos (starEach es X.env)).any (·.1)=false:=by rfl):
  PE X (.Call (.Name x p) (e::es) [] pos) (tCall sp dvs E t):=by
 intro ad s σ H Q I h
 refine dy (jI0 I hg hm ?_ hdb)
 refine mx (h₀:=X.base) I.ok.mod.kin hk (mI (ha pos ad s σ H _ I h) λus s1 ⟨vs,H1,I1,r,q⟩=>⟨I1.kIn,?_⟩) he hpl
 exact jTQ F hr hb hd hx I1 r q
end
def PK (X:Cx)(kws:List Keyword)(t:TA):Prop:=
 ∀(pos:Pos) (ad:List (Addr×Obj)) (s:Shared) (σ:St) (H:Hp) (Q:List V->Hp->Prop),Inv X ad σ H s->t σ H Q->wpAny (model X.prog X.w) X.A (evalAll ((backToKw pos (keywordEach kws X.env)).map (·.2))) (AP X ad σ Q) X.xe s
section
variable {k:Nat}{ks:List Str}{E:XK}{x:Str}{kpos:Pos}{kws:List Keyword}{tk:TA}{nm:Option Str}
theorem jU0:PK X [] tNil:=λ_ _ _ _ H Q I h=>wpAny_evalAll_nil ⟨[],H,I, .nil,h⟩
theorem jRK (ha:PE X e te)(hr:PK X kws t):PK X (⟨nm,e,kpos⟩::kws) (tCons te t):=by
 intro pos ad s σ H Q I h
 show wpAny _ _ (evalAll ((do let v <- eval e X.env; standAt pos; pure v)::(backToKw pos (keywordEach kws X.env)).map (·.2))) _ _ s
 refine wpAny_evalAll_cons (aa (mI (ha ad s σ H _ I h) λu s1 ⟨x,H1,I1,r1,q1⟩=>aa (eG (ai ?_))))
 exact mI (hr pos ad s1 σ H1 _ I1 q1) λus s2 ⟨xs,H2,I2,r2,q2⟩=>⟨x::xs,H2,I2, .cons r1 r2,q2⟩
variable {g:List Value->List Value->List Value}{gV:List V->List V->List V}
end
structure FnScope (N P:List Str)(sc:Scope):Prop where
 kind:sc.kind= .function:=by rfl
 co:sc.isCoroutine=false:=by rfl
 gen:sc.isGenerator=false:=by rfl
 nd:N.Nodup:=by decide+kernel
 pre:N.take P.length=P:=by rfl
 par:∀x∈P,sc.names.lookup x=some .local\/sc.names.lookup x=some .cell:=by decide+kernel
 nofree:∀y∈sc.names,y.2≠ .free:=by decide+kernel
theorem jH6 {kindOf:Str->Option NameKind}{x:Str} :∀{binds:List (Str×Value)}{m:Str->Option Value},(∀v,(x,v)∉binds)->bindL kindOf binds m x=m x
 | [],_,_=>rfl
 | (n,v)::r,m,h=>by
  unfold bindL
  rw[jH6 λw hw=>h w (ah _ hw)]
  split
  ·have:x≠n:=by rintro rfl; exact h v ag
   simp [this]
  ·rfl
theorem jH8 {kindOf:Str->Option NameKind}{x:Str} :∀{binds:List (Str×Value)}{m:Str->Option Value},(∀v,(x,v)∉binds)->bindC kindOf binds m x=m x
 | [],_,_=>rfl
 | (n,v)::r,m,h=>by
  unfold bindC
  rw[jH8 λw hw=>h w (ah _ hw)]
  split
  ·rfl
  ·have:x≠n:=by rintro rfl; exact h v ag
   simp [this]
theorem jH7 {kindOf:Str->Option NameKind}{x:Str}{v:Value} :∀{P:List Str}{vs:List Value}{i:Nat}{m:Str->Option Value},P.Nodup->P[i]?=some x->vs[i]?=some v->kindOf x=some .local->
  bindL kindOf (P.zip vs) m x=some v
 | [],_,_,_,_,h,_,_=>by simp at h
 | _::_,[],_,_,_,_,h,_=>by simp at h
 | p::P,w::vs,0,m,nd,h1,h2,hk=>by
  simp at h1 h2; subst h1; subst h2
  show bindL kindOf ((p,w)::P.zip vs) m p=_
  unfold bindL
  rw[jH6 λv hv=>(bJ.mp nd).1 (dP hv).1,am hk]
  simp
 | p::P,w::vs,i+1,m,nd,h1,h2,hk=>by
  show bindL kindOf ((p,w)::P.zip vs) m x=_
  unfold bindL
  exact jH7 (i:=i) (bJ.mp nd).2 (by simpa using h1) (by simpa using h2) hk
theorem jH9 {kindOf:Str->Option NameKind}{x:Str}{v:Value} :∀{P:List Str}{vs:List Value}{i:Nat}{m:Str->Option Value},P.Nodup->P[i]?=some x->vs[i]?=some v->kindOf x≠some .local->
  bindC kindOf (P.zip vs) m x=some v
 | [],_,_,_,_,h,_,_=>by simp at h
 | _::_,[],_,_,_,_,h,_=>by simp at h
 | p::P,w::vs,0,m,nd,h1,h2,hk=>by
  simp at h1 h2; subst h1; subst h2
  show bindC kindOf ((p,w)::P.zip vs) m p=_
  unfold bindC
  rw[jH8 λv hv=>(bJ.mp nd).1 (dP hv).1,aj hk]
  simp
 | p::P,w::vs,i+1,m,nd,h1,h2,hk=>by
  show bindC kindOf ((p,w)::P.zip vs) m x=_
  unfold bindC
  exact jH9 (i:=i) (bJ.mp nd).2 (by simpa using h1) (by simpa using h2) hk
def kT (N:List Str)(vs:List V):St:=vs.map some++replicate (N.length - vs.length) none
def cxOf (CX:CXT)(P:Program)(w:World)(K:W.Frag)(mg:Str->Option Value)(base:Heap)(N:List Str)(qual:Str)(scope:Scope)(f:Addr)(cd:Value)(A:Around)(outer:List Env)(s:Shared)(H:Hp)(E:XK):Cx where
 prog:=P
 w:=w
 K:=K
 mg:=mg
 base:=base
 A:=A.deeper (envOfC qual scope s.heap.objs.size f cd)
 N:=N
 s₀:=s
 H₀:=H
 env:=envOfC qual scope s.heap.objs.size f cd
 outer:=outer
 stack:=envOfC qual scope s.heap.objs.size f cd::outer
 ex:=[]
 calm:=true
 fn:=λ_=>true
 pn:=[]
 xe:=λe s'=>wpAny (model P w) (A.deeper (envOfC qual scope s.heap.objs.size f cd)) (leaving (envOfC qual scope s.heap.objs.size f cd) e) (λ_ s''=>CX outer H s E e s'') (λe' s''=>CX outer H s E e' s'') s'
theorem jJM {sc:Scope}{n:Nat}{x:Str}(h:sc.names.lookup x=some .cell):∃c,(cellsFrom n sc.names []).lookup x=some c:=by
 have q:=gC sc.names n [] (.inl h)
 exact Option.isSome_iff_exists.mp q
theorem jGQ {CX:CXT}{P:Program}{w:World}{K:W.Frag}{mg:Str->Option Value}{base:Heap}{N ps:List Str}{qual:Str}{scope:Scope}{f:Addr}{cd:Value}{A:Around}{outer:List Env}{s s1:Shared}{H:Hp}{E:XK}{us:List Value}{vs:List V}
  (S:FnScope N ps scope) (hd:A.handled=none) (e0:Env0 P w K mg base A outer s H) (hl:vs.length=ps.length) (r:Vals vs us)
  (x:InCallC s s.heap.objs.size (bindL (envOfC qual scope s.heap.objs.size f cd).kindOf (ps.zip us) λ_=>none) (cellsFrom (s.heap.objs.size+1) scope.names []) (bindC (envOfC qual scope s.heap.objs.size f cd).kindOf (ps.zip us) λ_=>none) s1):
  Inv (cxOf CX P w K mg base N qual scope f cd A outer s H E) [] (kT N vs) H s1:=by
 have hpl:ps.length<=N.length:=by have:=bS List.length S.pre; rw[bM] at this; lia
 obtain⟨h1,tk,rfl,hk⟩:=x.done
 have noA:∀b:Addr,b∉(cxOf CX P w K mg base N qual scope f cd A outer s H E).ex:=λb z=>absurd (show b∈([]:List Addr) from z) (by simp)
 refine⟨⟨e0.mod,S.kind,rfl,rfl,aq _,λy z c h1 h2=>?_,λy hy=>?_,λy c _ h=>?_,λ_=>hd,Around.frames_deeper e0.frames, .inr ⟨rfl,rfl⟩,λb z=>absurd z (noA b),e0.bs,e0.bsz,λb _ _=>noA b,λb z=>absurd z (noA b),e0.funs,e0.frf⟩,
  rfl,e0.bare,Un.kept hk,⟨_,x.toInCall.ns,λi y v h1 h2 h3=>?_⟩,λy c h=>⟨_,x.cell y c h⟩,e0.hok.fresh (aq _),λy c h=>?_,λp hp=>absurd (show p∈([]:List (Addr×Obj)) from hp) (by simp),e0.hok.kept hk,?_⟩
 ·exact name_of_addr x.apart (cB h1) (cB h2)
 ·have hy:scope.names.lookup y=some .cell\/scope.names.lookup y=some .free:=hy
  rcases hy with hy | hy
  ·exact jJM hy
  ·exact absurd rfl (S.nofree _ (cB hy))
 ·exact cC (x.above y c (cB h))
 ·have hi:i<vs.length:=by
   unfold kT at h2
   by_cases hi:i<vs.length
   ·exact hi
   ·rw[bv (by simpa using hi)] at h2
    rw[ke] at h2
    split at h2 <;> cases h2
  have ha:vs[i]?=some v:=by
   unfold kT at h2
   rw[cw (by simpa using hi),aJ] at h2
   cases e:vs[i]? with
   | none=>rw[e] at h2; cases h2
   | some a=>rw[e] at h2; cases h2; rfl
  obtain⟨u,hu,rv⟩:=r.get ha
  have hp:ps[i]?=some y:=by
   rw[<- S.pre,cx (by lia)]; exact h1
  have ndP:ps.Nodup:=by rw[<- S.pre]; exact S.nd.sublist (de _ _)
  refine⟨u,rv,?_⟩
  rcases S.par y (aE hp) with k | k
  ·exact .inl ⟨k,jH7 ndP hp hu k⟩
  ·obtain⟨c,e⟩:=jJM (n:=s.heap.objs.size+1) k
   refine .inr ⟨.inl k,c,e,?_⟩
   have q:=x.cell y c e
   rw[jH9 ndP hp hu (by show scope.names.lookup y≠_; rw[k]; decide)] at q
   exact q
 ·exact e0.hok.fresh (cC (x.above y c (cB h)))
 ·unfold kT
  show _=N.length
  rw[aF,ae,gQ]
  lia
theorem fn_of {CX:CXT}{P:Program}{w:World}{K:W.Frag}{mg:Str->Option Value}{base:Heap}{k:Nat}{f:Addr}{name qual:Str}{params:Arguments}{body:List Stmt}{scope:Scope}{dV kV doc pm cdv ct oc:Value}{an od:Option Addr}
  {osl:Array (Option Value)}{N ps:List Str}{sp:Sp}(lk:K.lookup f=some ⟨oc,od, .func (PySem.W.fnOf name qual params body scope dV kV doc pm an cdv ct),osl⟩) (hcd:PySem.W.codeIn K cdv qual=true) (S:FnScope N ps scope)
  (len:∀vs H Q E,sp vs H Q E->vs.length=ps.length)
  (hbody:∀(A:Around) (outer:List Env) (s:Shared) (H:Hp) (vs:List V) (Q:VK) (E:XK),Room k (A.deeper (envOfC qual scope s.heap.objs.size f cdv))->sp vs H Q E->
   ∃t,PSs (cxOf CX P w K mg base N qual scope f cdv A outer s H E) body t/\t { nx:=λ_ H'=>Q .non H',rt:=Q} (kT N vs) H):
  FnOk P w K mg base CX (k+1) f (PySem.W.fnOf name qual params body scope dV kV doc pm an cdv ct) ps sp:=by
 refine⟨len,λA outer s H args us vs Q E hr e0 hb r hsp=>?_⟩
 have hl:=len _ _ _ _ hsp
 have KX:K.In s.heap:=e0.mod.kin.keeps λb o e=>(e0.bs b o e).1
 have lim:s.heap.NoLimit:=e0.mod.nolimit.keeps λb o e=>(e0.bs b o e).1
 have hkind:∀y∈ps.zip us,scope.names.lookup y.1=some .local\/(scope.names.lookup y.1=some .cell/\((cellsFrom (s.heap.objs.size+1) scope.names []).lookup y.1).isSome=true):=λ⟨n,v⟩ hy=>by
  rcases S.par n (dP hy).1 with q | q
  ·exact .inl q
  ·exact .inr ⟨q,gC _ _ _ (.inl q)⟩
 refine codeAny_call_function hr.depth (KX _ _ lk) rfl S.co S.gen rfl (my KX hcd) (hb _ _ _ _ ?_)
 refine iU S.kind hkind λenv he s1 x=>?_
 subst he
 refine⟨lim.keeps x.toInCall.keep,codeAny_func ?_⟩
 obtain⟨t,ht,hq⟩:=hbody A outer s H vs Q E (hr.deeper _) hsp
 have I:Inv (cxOf CX P w K mg base N qual scope f cdv A outer s H E) [] (kT N vs) H s1:=jGQ S hr.hd e0 hl r x
 refine b9 (ht [] s1 (kT N vs) H _ I hq) (λfl s' hs=>?_) λe s' hs=>hs
 have fin:∀{σ':St}{H':Hp}{v:V}{u:Value},Inv (cxOf CX P w K mg base N qual scope f cdv A outer s H E) [] σ' H' s'->RelV v u->Q v H'->CE outer P w H s Q u s':=
  λ{σ' H' v u} J rv q=>⟨v,H',J.os,J.bare,J.base,J.hok,rv,q⟩
 cases fl with
 | ret u=>
  obtain⟨v,σ',H',J,rv,q⟩:=hs
  exact fin J rv q
 | next=>
  obtain⟨σ',H',J,q⟩:=hs
  exact fin (v:=V.non) (u:=Value.none) J rfl q
 | brk=>
  obtain⟨_,_,_,q⟩:=hs
  exact False.elim q
 | cont=>
  obtain⟨_,_,_,q⟩:=hs
  exact False.elim q
section
variable {x:Str}{id T:String}{r:List V->Hp->VK->Prop}
def tCB (r:List V->Hp->VK->Prop)(t:TA):TE:=λσ H Q=>t σ H λvs H1=>r vs H1 Q
theorem jEZ (hc:y9 X (.builtin id) r)(hg:Gl X x)(hm:X.mg x=none)(hv:bootBuiltins x=some (.builtin id))(ha:PA X (e::es) t)(hn:x≠ "__name__" :=by decide)(hdb:(x==("__debug__" :Str))=false:=by decide)
  (he:starEach (e::es) X.env=(false,eval e X.env)::starEach es X.env:=by rfl) (hpl:(backTo pos (starEach es X.env)).any (·.1)=false:=by rfl):PE X (.Call (.Name x p) (e::es) [] pos) (tCB r t):=by
 intro ad s σ H Q I h
 refine dy (jCU I hg hm hv ?_ hn hdb)
 exact PyProof.Rows.callWith_builtin1 (mI (ha pos ad s σ H _ I h) λus s1 ⟨vs,H1,I1,r1,q1⟩=>hc ad s1 σ H1 vs us Q I1 r1 q1) he hpl
theorem jBS (hc:y9 X (.type T) r)(hg:Gl X x)(hm:X.mg x=none)(hv:bootBuiltins x=some (.type T))(ha:PA X (e::es) t)(hn:x≠ "__name__" :=by decide)(hdb:(x==("__debug__" :Str))=false:=by decide)
  (he:starEach (e::es) X.env=(false,eval e X.env)::starEach es X.env:=by rfl) (hpl:(backTo pos (starEach es X.env)).any (·.1)=false:=by rfl):PE X (.Call (.Name x p) (e::es) [] pos) (tCB r t):=by
 intro ad s σ H Q I h
 refine dy (jCU I hg hm hv ?_ hn hdb)
 exact dS (mI (ha pos ad s σ H _ I h) λus s1 ⟨vs,H1,I1,r1,q1⟩=>hc ad s1 σ H1 vs us Q I1 r1 q1) he hpl
end
end L2
namespace HT
open PySem PyProof.Rows
noncomputable def lexLt:List Int->List Int->Bool
 | [],[]=>false
 | [],_::_=>true
 | _::_,[]=>false
 | x::xs,y::ys=>if x=y then lexLt xs ys else decide (x<y)
theorem lexLt_cons (x y:Int)(xs ys:List Int):lexLt (x::xs) (y::ys)=if x=y then lexLt xs ys else decide (x<y):=rfl
theorem jF5:lexLt [] []=false:=rfl
theorem jE2 (y:Int)(ys:List Int):lexLt [] (y::ys)=true:=rfl
theorem jE3 (x:Int)(xs:List Int):lexLt (x::xs) []=false:=rfl
theorem jPG (A:Around)(s:Shared)(a:Int)(t:Tok)(c:Int)(u:Tok):∃e,SeqAt.EqAt A s (.int a t) (.int c u) e/\(e=true↔a=c):=
 ⟨(a==c),iV a t c u,by simp⟩
theorem rcLt_int (A:Around)(s:Shared)(a:Int)(t:Tok)(c:Int)(u:Tok)(prog:Program)(w:World)(E:Value->Shared->Prop)(Q:Value->Shared->Prop)(h:Q (.bool (decide (a<c))) s):
  wpAny (model prog w) A (richCompare .Lt (.int a t) (.int c u)) Q E s:=
 (PyProof.Rows.lt_int h:wpAny (model prog w) A (compareOp .Lt (.int a t) (.int c u)) Q E s)
section
open PySem.SeqAt
open PySem.AutoSeq1 (wpAny_loadPart')
open PySem.MeetsSeq PySem.MeetsSeq2 PySem.MeetsSeq3
theorem tuple_lt_ints (l b:Addr)(items items2:Array Value)(n n2:Nat)(dd dd2:Option Addr)(sl sl2:Array (Option Value))(ns ms:List Int)(hi:IntsAre items.toList ns)(hj:IntsAre items2.toList ms):
  Meets (Builtin.«tuple.__lt__» ⟨[.ref l, .ref b],[]⟩)
   (λ_ R s=>s.heap.get? l=some { cls:= .type "tuple",dict:=dd,data:= .seq items n,slots:=sl} /\s.heap.get? b=some { cls:= .type "tuple",dict:=dd2,data:= .seq items2 n2,slots:=sl2} /\
    R (.ok (.ret (.bool (lexLt ns ms)))) s):=
 .of_wp λprog w A R s h=>by
  obtain⟨hp,g,d,tk,os⟩:=s; obtain⟨hl,hb,h⟩:=h
  have f2:=AutoSeq1.sub_tuple_tuple
  have z1:items.size=ns.length:=by rw[<- hi.length]; simp
  have z2:items2.size=ms.length:=by rw[<- hj.length]; simp
  wp_walk using cJ hl,cJ hb,wpAny_forIn_list _ (λrest b s'=>b.1=none/\s'=⟨hp,g,d,tk,os⟩/\∃(vs ws:List Value) (ns' ms':List Int),rest=vs.zip ws/\
   IntsAre vs ns'/\IntsAre ws ms'/\ns'.length+items2.size=ms'.length+items.size/\R (.ok (.ret (.bool (lexLt ns' ms')))) ⟨hp,g,d,tk,os⟩) _
  case turn=>
   rintro ⟨y,x⟩ rest b s' ⟨hb',rfl,vs,ws,ns',ms',hz,hvi,hwi,hlen,hR⟩
   cases hvi with
   | nil=>rw[List.zip_nil_left] at hz; cases hz
   | cons a t hvi'=>
    cases hwi with
    | nil=>rw[List.zip_nil_right] at hz; cases hz
    | cons c u hwi'=>
     rw[dY] at hz
     injection hz with hyx hrest
     injection hyx with hy hx
     subst hy hx
     rw[lexLt_cons] at hR
     simp only [aP] at hlen
     obtain⟨e,he,hiff⟩:=jPG A.in1 ⟨hp,g,d,tk,os⟩ a t c u
     refine aa (he prog w _ _ ?_)
     cases e with
     | true=>
      rw[am (hiff.mp rfl)] at hR
      wp_walk
      exact⟨rfl,rfl,_,_,_,_,hrest,hvi',hwi',by lia,hR⟩
     | false=>
      rw[aj (λq=>absurd (hiff.mpr q) aA)] at hR
      have hri:=rcLt_int A.in1 ⟨hp,g,d,tk,os⟩ a t c u prog w
      wp_walk using hri
      exact⟨_,rfl,by simpa using hR⟩
  case fin=>
   rintro ⟨b1,b2⟩ s' ⟨hb',rfl,vs,ws,ns',ms',hz,hvi,hwi,hlen,hR⟩
   simp only at hb'
   subst hb'
   have hv:lexLt ns' ms'=decide (items.size<items2.size):=by
    cases hvi with
    | nil=>
     cases hwi with
     | nil=>
      simp only [cK] at hlen
      rw[jF5]
      exact(aV (by lia)).symm
     | cons c u hw=>
      simp only [cK,aP] at hlen
      rw[jE2]
      exact(aB (by lia)).symm
    | cons a t hv=>
     cases hwi with
     | nil=>
      simp only [cK,aP] at hlen
      rw[jE3]
      exact(aV (by lia)).symm
     | cons c u hw=>
      rw[dY] at hz
      cases hz
   rw[hv] at hR
   wp_walk
   exact⟨_,rfl,by simpa [Builtin.Tuple.tupleCompareSizes] using hR⟩
  case h=>
   exact⟨rfl,rfl,items.toList,items2.toList,ns,ms,rfl,hi,hj,by lia,h⟩
end
section
variable {prog:Program}{w:World}{A:Around}{E:Value->Shared->Prop}{s:Shared}
theorem lt_tupInts {l b:Addr}{items items2:Array Value}{ns ms:List Int}{Q:Value->Shared->Prop}(hl:IsTup s.heap l items)(hb:IsTup s.heap b items2)(hi:IntsAre items.toList ns)(hj:IntsAre items2.toList ms)
  (hu:A.units<cLine) (h:Q (.bool (lexLt ns ms)) s):wpAny (model prog w) A (compareOp .Lt (.ref l) (.ref b)) Q E s:=by
 obtain⟨⟨cls,dd,data,sl⟩,ho,hc,n,hd⟩:=id hl
 obtain⟨⟨cls2,dd2,data2,sl2⟩,ho2,hc2,n2,hd2⟩:=id hb
 simp only at hc hd hc2 hd2
 subst hc hd hc2 hd2
 exact richCompare_meets_room (op:= .Lt) ⟨_,ho,rfl⟩ ⟨_,ho2,rfl⟩ gR kx (kf _ _) (tuple_lt_ints l b items items2 n n2 dd dd2 sl sl2 ns ms hi hj)
  ⟨ho,ho2,show Value.bool (lexLt ns ms)≠Value.notImplemented/\Q (.bool (lexLt ns ms)) s from ⟨(λx=>nomatch x),h⟩⟩ hu
theorem cat_tup {t b:Addr}{vs ws:List Value}{Q:Value->Shared->Prop}(ht:IsTup s.heap t vs.toArray)(hb:IsTup s.heap b ws.toArray)(hv:vs≠ [])
  (h1:ws=[]->Q (.ref t) s) (h2:ws≠ []->Q (.ref s.heap.objs.size) { s with heap:=s.heap.push { cls:= .type "tuple",data:= .seq (vs++ws).toArray}})
  (hsz:vs.length+ws.length<=sizeLine):wpAny (model prog w) A (binaryOp .Add (.ref t) (.ref b)) Q E s:=by
 obtain⟨⟨cls,dd,data,sl⟩,ho,hc,n,hd⟩:=id ht
 obtain⟨⟨cls2,dd2,data2,sl2⟩,ho2,hc2,n2,hd2⟩:=id hb
 simp only at hc hd hc2 hd2
 subst hc hd hc2 hd2
 have e:vs.toArray++ws.toArray=(vs++ws).toArray:=by simp
 by_cases hw:ws=[]
 ·exact concat_meets ⟨_,ho,rfl⟩ ⟨_,ho2,rfl⟩ kg seq_tuple_add gE gz (gj _ _)
   (tuple_addW1 t b vs.toArray ws.toArray n n2 dd dd2 sl sl2 (by simpa using hv) (by simp [hw])) ⟨ho,ho2,h1 hw⟩
 ·refine concat_meets ⟨_,ho,rfl⟩ ⟨_,ho2,rfl⟩ kg seq_tuple_add gE gz (gj _ _)
   (tuple_addW2 t b vs.toArray ws.toArray n n2 dd dd2 sl sl2 (by simpa using hv) (by simpa using hw) (by rw[aG,aG]; exact hsz)) ⟨ho,ho2,?_⟩
  rw[e]
  exact h2 hw
noncomputable def sIx (n d:Nat):Option Int->Nat
 | none=>d
 | some v=>if v<0 then (v+(n:Int)).toNat else min v.toNat n
end
end HT
namespace L2
open PySem PySem.Spec PyProof.Rows
abbrev TO:=St->Hp->(Option Int->Hp->Prop)->Prop
def PO (X:Cx)(e:Option Expr)(t:TO):Prop:=
 ∀(ad:List (Addr×Obj)) (s:Shared) (σ:St) (H:Hp) (Q:Option Int->Hp->Prop),Inv X ad σ H s->t σ H Q->
  wpAny (model X.prog X.w) X.A (evalPart e X.env) (λu s'=>∃o H',Inv X ad σ H' s'/\IsPart u o/\Q o H') X.xe s
def jL4:TO:=λ_ H Q=>Q none H
def tPart (t:TE):TO:=λσ H Q=>t σ H λx H1=>∃i,x= .int i/\Q (some i) H1
theorem jK8 {ns:List Int} :∀{us:List Value},Vals (ns.map V.int) us->IntsAre us ns:=by
 induction ns with
 | nil=>intro us r; rw[iF] at r; cases r; exact .nil
 | cons n ns ih=>
  intro us r
  rw[aX] at r
  cases r with
  | cons r1 r2=>
   obtain⟨t,e⟩:=r1
   subst e
   exact .cons n t (ih r2)
variable {X:Cx}{e:Expr}{pos:Pos}
section
variable {te:TE}{lo hi:Option Expr}{tl th:TO}{p2:Pos}
theorem jRJ:PO X none jL4:=by
 intro ad s σ H Q I h
 rw[evalPart_none]
 exact ai ⟨none,H,I, .none,h⟩
theorem jRI (h:PE X e te):PO X (some e) (tPart te):=by
 intro ad s σ H Q I hw
 rw[evalPart_some]
 refine mI (h ad s σ H _ I hw) λu s1 ⟨x,H1,I1,r1,q1⟩=>?_
 obtain⟨i,rfl,q⟩:=q1
 obtain⟨t,rfl⟩:=r1
 exact⟨some i,H1,I1, .int i t,q⟩
def SlR (X:Cx)(r:V->Option Int->Option Int->Hp->VK->Prop):Prop:=
 ∀(ad:List (Addr×Obj)) (s:Shared) (σ:St) (H:Hp) (x:V) (v vl vu:Value) (lo hi:Option Int) (sl:Addr) (Q:VK),Inv X ad σ H s->RelV x v->s.heap.IsSliceOf sl vl vu .none->IsPart vl lo->IsPart vu hi->r x lo hi H Q->
  ∃T id,typeLookup (.type T) "__getitem__" =pure (some (.builtin id))/\s.TypeIs v T/\wpAny (model X.prog X.w) X.A (getItem v (.ref sl)) (EP X ad σ Q) X.xe s
def tSl (r:V->Option Int->Option Int->Hp->VK->Prop)(te:TE)(tl th:TO):TE:=λσ H Q=>te σ H λx H1=>tl σ H1 λl H2=>th σ H2 λu H3=>r x l u H3 Q
theorem jOI {r:V->Option Int->Option Int->Hp->VK->Prop}(hr:SlR X r)(he:PE X e te)(hl:PO X lo tl)(hu:PO X hi th):PE X (.Subscript e (.Slice lo hi none p2) pos) (tSl r te tl th):=by
 intro ad s σ H Q I h
 refine Subscript_ (mI (he ad s σ H _ I h) λv s1 ⟨x,H1,I1,r1,q1⟩=>?_)
 refine wpAny_Slice (mI (hl ad s1 σ H1 _ I1 q1) λvl s2 ⟨l,H2,I2,pl,q2⟩=>mI (hu ad s2 σ H2 _ I2 q2) λvu s3 ⟨u,H3,I3,pu,q3⟩=>?_)
 rw[evalPart_none]
 refine ai ?_
 have I4:Inv X ad σ H3 { s3 with heap:=s3.heap.push { cls:= .type "slice",data:= .fields #[vl,vu, .none]}} :=I3.kept (t':=s3.toks) λb ob q=>ab _ q
 obtain⟨T,id,hT,ht,hg⟩:=hr ad { s3 with heap:=s3.heap.push { cls:= .type "slice",data:= .fields #[vl,vu, .none]}} σ H3 x v vl vu l u s3.heap.objs.size Q I4 r1 (Heap.IsSliceOf.new ..) pl pu q3
 show wpAny (model X.prog X.w) X.A (subscriptTail e (.Slice lo hi none p2) v (.ref s3.heap.objs.size)) (EP X ad σ Q) X.xe { s3 with heap:=s3.heap.push { cls:= .type "slice",data:= .fields #[vl,vu, .none]}}
 exact tail_any (ops:=[.ref s3.heap.objs.size,v]) ht hT hg (by with_unfolding_all rfl)
def cutV (xs:List V)(lo hi:Option Int):List V:=(xs.drop (HT.sIx xs.length 0 lo)).take (HT.sIx xs.length xs.length hi - HT.sIx xs.length 0 lo)
theorem jI9 (xs:List V)(lo hi:Option Int):(cutV xs lo hi).length<=xs.length:=by
 unfold cutV
 rw[bM,gX]
 lia
def rCatT (K:W.Frag):R2:=λx y H Q=>∃a b xs ys,x= .ref a/\y= .ref b/\SqT K H a xs/\SqT K H b ys/\xs≠ []/\xs.length+ys.length<=sizeLine/\
 (ys=[]->Q (.ref a) H)/\(ys≠ []->∀p,H p=none->Q (.ref p) (upd H p (.tup (xs++ys))))
theorem Vals.nil_iff {xs:List V}{us:List Value}(r:Vals xs us):us=[]↔xs=[]:=by
 cases r with
 | nil=>simp
 | cons _ _=>simp
theorem jRY:OpR X (binaryOp .Add) (rCatT X.K):=by
 intro ad s σ H x y v u Q I rx ry h
 obtain⟨a,b,xs,ys,rfl,rfl,ha,hb,hx,hz,q1,q2⟩:=h
 cases rx
 cases ry
 obtain⟨its,r1,p1,_⟩:=I.tuple ha
 obtain⟨its2,r2,p2,_⟩:=I.tuple hb
 refine HT.cat_tup p1 p2 (λz=>hx (r1.nil_iff.mp z)) (λz=>⟨.ref a,H,I,rfl,q1 (r2.nil_iff.mp z)⟩) (λz=>?_) (by rw[<- r1.length,<- r2.length]; exact hz)
 refine⟨.ref s.heap.objs.size,_,I.laid (t':=s.toks) (o:= .tup (xs++ys)) (λb ob q=>ab _ q) (aq _) ?_,rfl,q2 (λw=>z (r2.nil_iff.mpr w)) _ (I.hok.fresh (aq _))⟩
 exact⟨by rw[aF]; exact hz,_,r1.append r2,TupO.new _ _⟩
end
noncomputable def ixN (n:Nat)(i:Int):Option Nat:=if 0<=i then (if i<n then some i.toNat else none) else if -(n:Int)<=i then some (i+n).toNat else none
def atI {α:Type}(xs:List α)(i:Int):Option α:=(ixN xs.length i).bind λj=>xs[j]?
theorem jMT {n:Nat}{i:Int}{j:Nat}(h:ixN n i=some j):seqIndex? i n=some j/\j<n/\ -(n:Int)<=i/\i<n:=by
 unfold ixN at h
 by_cases h0:0<=i
 ·rw[am h0] at h
  by_cases h1:i<n
  ·rw[am h1] at h
   have e:i.toNat=j:=bA h
   exact⟨by rw[seqIndex_of h0 h1,e],by lia,by lia,h1⟩
  ·rw[aj h1] at h; cases h
 ·rw[aj h0] at h
  by_cases h1: -(n:Int)<=i
  ·rw[am h1] at h
   have e:(i+n).toNat=j:=bA h
   exact⟨by rw[seqIndex_neg (by lia) h1,e],by lia,h1,by lia⟩
  ·rw[aj h1] at h; cases h
theorem jNY {α:Type}{xs:List α}{i:Int}{v:α}(h:atI xs i=some v):∃j,seqIndex? i xs.length=some j/\xs[j]?=some v/\j<xs.length/\ -(xs.length:Int)<=i/\i<xs.length:=by
 unfold atI at h
 cases e:ixN xs.length i with
 | none=>rw[e] at h; cases h
 | some j=>
  rw[e] at h
  obtain⟨h1,h2,h3,h4⟩:=jMT e
  exact⟨j,h1,h,h2,h3,h4⟩
theorem jB2 {α:Type}{xs:List α}{j:Nat}{v:α}(h:xs[j]?=some v):atI xs (j:Int)=some v:=by
 have hj:j<xs.length:=(ax.mp h).1
 have e:ixN xs.length (j:Int)=some j:=by
  unfold ixN
  rw[am (by lia),am (by lia)]; simp
 unfold atI; rw[e]; exact h
def jB5 (b:Expr):Prop:=∀o i,subscripted b false o i=operate [o,i] (getItem o i)
def IxR (X:Cx)(r:R2):Prop:=
 ∀(value slice:Expr) (ad:List (Addr×Obj)) (s:Shared) (σ:St) (H:Hp) (x y:V) (v u:Value) (Q:VK),Inv X ad σ H s->RelV x v->RelV y u->r x y H Q->
  subscripted slice false v u=operate [v,u] (getItem v u)->wpAny (model X.prog X.w) X.A (subscriptTail value slice v u) (EP X ad σ Q) X.xe s
def MtR (X:Cx)(id:String)(r:V->List V->Hp->VK->Prop):Prop:=
 ∀(ad:List (Addr×Obj)) (s:Shared) (σ:St) (H:Hp) (x:V) (xs:List V) (v:Value) (us:List Value) (Q:VK),Inv X ad σ H s->RelV x v->Vals xs us->r x xs H Q->
  wpAny (model X.prog X.w) X.A (call (.builtin id) (v::us)) (EP X ad σ Q) X.xe s
section
variable {a b:Expr}{ta tb:TE}
theorem pe_ix {r:R2}(hr:IxR X r)(ha:PE X a ta)(hb:PE X b tb)(hs:jB5 b):PE X (.Subscript a b pos) (tOp r ta tb):=by
 intro ad s σ H Q I h
 exact Subscript_ (binT ha hb I h λv u s2 x y H2 I2 rx ry q=>hr a b ad s2 σ H2 x y v u Q I2 rx ry q (hs _ _))
def rIxL (K:W.Frag):R2:=λx y H Q=>∃p xs i v,x= .ref p/\y= .int i/\SqL K H p xs/\atI xs i=some v/\Q v H
def rIxT (K:W.Frag):R2:=λx y H Q=>∃p xs i v,x= .ref p/\y= .int i/\SqT K H p xs/\atI xs i=some v/\Q v H
theorem jB3:IxR X (rIxL X.K):=by
 intro value slice ad s σ H x y v u Q I rx ry h hs
 obtain⟨p,xs,i,z,rfl,rfl,hq,he,q⟩:=h
 cases rx
 obtain⟨t,rfl⟩:=ry
 obtain⟨its,r,pl,hz⟩:=I.list hq
 obtain⟨j,h1,h2,h3,h4,h5⟩:=jNY he
 obtain⟨w,ew,rw'⟩:=r.get h2
 have hl:=r.length
 have hn:=jEF
 have fin:EP X ad σ Q w s:=⟨z,H,I,rw',q⟩
 by_cases h0:0<=i
 ·have hj:i.toNat=j:=by
   rw[seqIndex_of h0 h5] at h1
   exact bA h1
  exact item_listR pl.isList h0 (by lia) (by rw[hj]; simpa using ew) fin hs
 ·have hj:(i+(its.toArray.size:Int)).toNat=j:=by
   rw[seqIndex_neg (by lia) h4] at h1
   rw[aG,<- hl]
   exact bA h1
  exact subscriptTail_builtinR (x:=w) pl.isList.typeIs slot_list_getitem.lookup
   (wpAny_getItem_list_neg (Q:=λr s'=>r=w/\EP X ad σ Q r s') pl.isList (by lia) (by rw[aG] <;> lia) (by lia) (by rw[hj]; simpa using ew) ⟨rfl,fin⟩) hs
theorem yL:IxR X (rIxT X.K):=by
 intro value slice ad s σ H x y v u Q I rx ry h hs
 obtain⟨p,xs,i,z,rfl,rfl,hq,he,q⟩:=h
 cases rx
 obtain⟨t,rfl⟩:=ry
 obtain⟨its,r,pl,hz⟩:=I.tuple hq
 obtain⟨j,h1,h2,h3,h4,h5⟩:=jNY he
 obtain⟨w,ew,rw'⟩:=r.get h2
 have hl:=r.length
 have hn:=jEF
 have fin:EP X ad σ Q w s:=⟨z,H,I,rw',q⟩
 exact subscriptTail_builtinR (x:=w) pl.typeIs slot_tuple_getitem.lookup
  (getItem_tuple (j:=j) (Q:=λr s'=>r=w/\EP X ad σ Q r s') pl (by lia) (by lia) (by rw[aG,<- hl]; exact h1) (by simpa using ew) ⟨rfl,fin⟩) hs
theorem jK1 (its:List Value)(n j:Nat)(u:Value):Obj.mapSeq (·.setIfInBounds j u) { cls:= .type "list",data:= .seq its.toArray n} = { cls:= .type "list",data:= .seq (its.set j u).toArray n} :=by
 simp [Obj.mapSeq]
theorem Inv.lst {ad:List (Addr×Obj)}{σ:St}{H:Hp}{s:Shared}{p:Addr}{xs:List V}(I:Inv X ad σ H s)(h:H p=some (.lst xs)):
  ∃(its:List Value) (n:Nat),Vals xs its/\s.heap.get? p=some { cls:= .type "list",data:= .seq its.toArray n} /\xs.length<=sizeLine:=by
 obtain⟨z,its,n,r,e⟩:=I.hok p _ h
 exact⟨its,n,r,e,z⟩
theorem Inv.lstUpd {ad:List (Addr×Obj)}{σ:St}{H:Hp}{s:Shared}{p:Addr}{xs ys:List V}{its its':List Value}{n n':Nat}{f:Obj->Obj}(I:Inv X ad σ H s)(h:H p=some (.lst xs))
  (ho:s.heap.get? p=some { cls:= .type "list",data:= .seq its.toArray n}) (hf:f { cls:= .type "list",data:= .seq its.toArray n} = { cls:= .type "list",data:= .seq its'.toArray n'}) (r:Vals ys its') (hz:ys.length<=sizeLine) (t:Nat):
  Inv X ad σ (upd H p (.lst ys)) { s with heap:=s.heap.update p f,toks:=t} :=by
 have e:(s.heap.update p f).get? p=some { cls:= .type "list",data:= .seq its'.toArray n'} :=by
  rw[cR f ho (by rw[hf] <;> rfl),hf]
 refine I.write (x:=p) (e:=p) (by rw[h]; trivial) (.inl rfl) (λb u hb q=>(bb _ _ (dq hb)).trans q) ⟨_,e⟩ ?_
 exact⟨hz,its',n',r,e⟩
def rSetL:V->V->V->Hp->(Hp->Prop)->Prop:=λo i v H Q=>∃p xs k j,o= .ref p/\i= .int k/\H p=some (.lst xs)/\ixN xs.length k=some j/\Q (upd H p (.lst (xs.set j v)))
theorem jIO:PSet X rSetL:=by
 intro ad s σ H o i v ov iv u Q I ro ri rv h
 obtain⟨p,xs,k,j,rfl,rfl,hp,hj,q⟩:=h
 cases ro
 obtain⟨t,rfl⟩:=ri
 obtain⟨its,n,r,ho,hz⟩:=I.lst hp
 obtain⟨h1,h2,h3,h4⟩:=jMT hj
 have hl:=r.length
 have hn:=jEF
 have I':Inv X ad σ (upd H p (.lst (xs.set j v))) { s with heap:=s.heap.update p (Obj.mapSeq (·.setIfInBounds j u))} :=
  I.lstUpd hp ho (jK1 its n j u) (r.set rv j) (by rw[List.length_set]; exact hz) s.toks
 by_cases h0:0<=k
 ·have hk:k.toNat=j:=by
   rw[seqIndex_of h0 h4] at h1
   exact bA h1
  exact PySem.W.ki_setAt ho h0 (by lia) (by rw[aG,<- hl]; exact h4) (by rw[hk]; exact⟨_,I',q⟩)
 ·have hk:(k+(its.toArray.size:Int)).toNat=j:=by
   rw[seqIndex_neg (by lia) h3] at h1
   rw[aG,<- hl]
   exact bA h1
  exact PySem.W.ki_setBack ho (by lia) (by rw[aG,<- hl]; exact h3) (by lia) (by rw[hk]; exact⟨_,I',q⟩)
theorem jG4 (lo hi:Option Int)(n:Nat):(sliceBounds lo hi none n).1=((HT.sIx n 0 lo:Nat):Int)/\(sliceBounds lo hi none n).2.1=((HT.sIx n n hi:Nat):Int)/\(sliceBounds lo hi none n).2.2=1:=by
 refine⟨?_,?_,rfl⟩
 ·cases lo with
  | none=>simp [sliceBounds,HT.sIx]
  | some i=>
   simp only [sliceBounds,HT.sIx,getD_none,show (1:Int)>0 by decide,fH]
   by_cases h:i<0
   ·simp only [h,fH] <;> lia
   ·simp only [h,hV] <;> lia
 ·cases hi with
  | none=>simp [sliceBounds,HT.sIx]
  | some i=>
   simp only [sliceBounds,HT.sIx,getD_none,show (1:Int)>0 by decide,fH]
   by_cases h:i<0
   ·simp only [h,fH] <;> lia
   ·simp only [h,hV] <;> lia
theorem jEU (its:List Value)(lo hi:Option Int):slicePick its.toArray lo hi none=((its.drop (HT.sIx its.length 0 lo)).take (HT.sIx its.length its.length hi - HT.sIx its.length 0 lo)).toArray:=by
 obtain⟨h1,h2,h3⟩:=jG4 lo hi its.toArray.size
 unfold slicePick
 rw[h1,h2,h3]
 simp only [sliceRange_one,pick_run,aG] <;> rfl
def rSlL (K:W.Frag):V->Option Int->Option Int->Hp->VK->Prop:=λx lo hi H Q=>∃a xs,x= .ref a/\SqL K H a xs/\∀p,H p=none->Q (.ref p) (upd H p (.lst (cutV xs lo hi)))
theorem jLD:SlR X (rSlL X.K):=by
 intro ad s σ H x v vl vu lo hi sl Q I rx hs pl pu h
 obtain⟨a,xs,rfl,hx,q⟩:=h
 cases rx
 obtain⟨its,r,ht,hz⟩:=I.list hx
 have hlen:=r.length
 refine⟨"list",_,slot_list_getitem.lookup,ht.isList.typeIs,?_⟩
 refine wpAny_getItem_list_slice ht.isList hs pl pu .none (by simp) ?_ (by rw[aG] <;> lia)
 rw[jEU,<- hlen]
 refine⟨.ref s.heap.objs.size,_,I.laid (t':=s.toks) (o:= .lst (cutV xs lo hi)) (λb ob q=>ab _ q) (aq _) ?_,rfl,q _ (I.hok.fresh (aq _))⟩
 exact⟨bf (jI9 xs lo hi) hz,_,0,(r.drop (HT.sIx xs.length 0 lo)).take (HT.sIx xs.length xs.length hi - HT.sIx xs.length 0 lo),ao _ rfl⟩
def flatV:V->Bool
 | .non=>true
 | .bl _=>true
 | .int _=>true
 | .str _=>true
 | _=>false
noncomputable def eqV:V->V->Bool
 | .non, .non=>true
 | .bl a, .bl b=>a==b
 | .bl a, .int b=>(if a then 1 else 0)==b
 | .int a, .bl b=>a==(if b then 1 else 0)
 | .int a, .int b=>a==b
 | .str a, .str b=>a==b
 | _,_=>false
theorem jVE {A:Around}{s:Shared}{y x:V}{u v:Value}(ry:RelV y u)(rx:RelV x v)(fy:flatV y=true)(fx:flatV x=true):SeqAt.EqAt A s u v (eqV y x):=by
 cases y with
 | non=>
  cases ry
  cases x with
  | non=>cases rx; exact SeqAt.EqAt.same _
  | bl b=>cases rx; exact SeqAt.EqAt.none_bool b
  | int b=>obtain⟨t,rfl⟩:=rx; exact SeqAt.EqAt.none_int b t
  | str b=>obtain⟨t,rfl⟩:=rx; exact SeqAt.EqAt.none_str b t
  | _=>exact absurd (show false=true from fx) aA
 | bl a=>
  cases ry
  cases x with
  | non=>cases rx; exact SeqAt.EqAt.bool_none a
  | bl b=>cases rx; exact SeqAt.EqAt.bool_bool a b
  | int b=>obtain⟨t,rfl⟩:=rx; exact SeqAt.EqAt.bool_int a b t
  | str b=>obtain⟨t,rfl⟩:=rx; exact SeqAt.EqAt.bool_str a b t
  | _=>exact absurd (show false=true from fx) aA
 | int a=>
  obtain⟨t',rfl⟩:=ry
  cases x with
  | non=>cases rx; exact SeqAt.EqAt.int_none a t'
  | bl b=>cases rx; exact SeqAt.EqAt.int_bool a t' b
  | int b=>obtain⟨t,rfl⟩:=rx; exact iV a t' b t
  | str b=>obtain⟨t,rfl⟩:=rx; exact SeqAt.EqAt.int_str a t' b t
  | _=>exact absurd (show false=true from fx) aA
 | str a=>
  obtain⟨t',rfl⟩:=ry
  cases x with
  | non=>cases rx; exact SeqAt.EqAt.str_none a t'
  | bl b=>cases rx; exact SeqAt.EqAt.str_bool a t' b
  | int b=>obtain⟨t,rfl⟩:=rx; exact SeqAt.EqAt.str_int a t' b t
  | str b=>obtain⟨t,rfl⟩:=rx; exact SeqAt.EqAt.str_str a t' b t
  | _=>exact absurd (show false=true from fx) aA
 | _=>exact absurd (show false=true from fy) aA
noncomputable def eqU (x:V)(u:Value):Bool:=match u with
 | .none=>eqV .non x
 | .bool b=>eqV (.bl b) x
 | .int i _=>eqV (.int i) x
 | .str z _=>eqV (.str z) x
 | _=>false
theorem jQL {x y:V}{u:Value}(r:RelV y u)(f:flatV y=true):eqU x u=eqV y x:=by
 cases y with
 | non=>cases r; rfl
 | bl b=>cases r; rfl
 | int i=>obtain⟨t,rfl⟩:=r; rfl
 | str z=>obtain⟨t,rfl⟩:=r; rfl
 | _=>exact absurd (show false=true from f) aA
theorem jE1 {x:V} :∀{xs:List V}{us:List Value},Vals xs us->xs.all flatV=true->us.any (eqU x)=xs.any λy=>eqV y x
 | _,_, .nil,_=>rfl
 | y::xs,u::us, .cons r t,f=>by
  rw[gm,eR] at f
  rw[g9,g9,jQL r f.1,jE1 t f.2]
theorem jBU {A:Around}{s:Shared}{x:V}{v:Value}(rx:RelV x v)(fx:flatV x=true):∀{xs:List V}{us:List Value},Vals xs us->xs.all flatV=true->∀u∈us,SeqAt.EqAt A s u v (eqU x u)
 | _,_, .nil,_=>λu hu=>by cases hu
 | y::xs,u::us, .cons r t,f=>λu' hu=>by
  rw[gm,eR] at f
  rcases ar.mp hu with rfl | hu
  ·rw[jQL r f.1]; exact jVE r rx f.1 fx
  ·exact jBU rx fx t f.2 u' hu
def inV (x:V)(xs:List V):Bool:=xs.any λy=>eqV y x
def rIn (K:W.Frag)(neg:Bool):R2:=λx y H Q=>∃p xs,y= .ref p/\(SqL K H p xs\/SqT K H p xs)/\flatV x=true/\xs.all flatV=true/\Q (.bl (if neg then !inV x xs else inV x xs)) H
theorem jGE:OpR X (compareOp .In) (rIn X.K false):=by
 intro ad s σ H x y v u Q I rx ry h
 obtain⟨p,xs,rfl,hq,fx,fs,q⟩:=h
 cases ry
 rcases hq with hq | hq
 ·obtain⟨its,r,pl,hz⟩:=I.list hq
  refine SeqAt.in_listAt (eqU x) pl.isList (λw hw=>jBU rx fx r fs w (by simpa using hw)) ⟨.bl _,H,I,rfl,?_⟩
  rw[show its.toArray.any (eqU x)=its.any (eqU x) by simp,jE1 r fs]
  exact q
 ·obtain⟨its,r,pl,hz⟩:=I.tuple hq
  refine SeqAt.in_tupleAt (eqU x) pl (λw hw=>jBU rx fx r fs w (by simpa using hw)) ⟨.bl _,H,I,rfl,?_⟩
  rw[show its.toArray.any (eqU x)=its.any (eqU x) by simp,jE1 r fs]
  exact q
theorem jGC:OpR X (compareOp .NotIn) (rIn X.K true):=by
 intro ad s σ H x y v u Q I rx ry h
 obtain⟨p,xs,rfl,hq,fx,fs,q⟩:=h
 cases ry
 rcases hq with hq | hq
 ·obtain⟨its,r,pl,hz⟩:=I.list hq
  refine SeqAt.notIn_listAt (eqU x) pl.isList (λw hw=>jBU rx fx r fs w (by simpa using hw)) ⟨.bl _,H,I,rfl,?_⟩
  rw[show its.toArray.any (eqU x)=its.any (eqU x) by simp,jE1 r fs]
  exact q
 ·obtain⟨its,r,pl,hz⟩:=I.tuple hq
  refine SeqAt.notIn_tupleAt (eqU x) pl (λw hw=>jBU rx fx r fs w (by simpa using hw)) ⟨.bl _,H,I,rfl,?_⟩
  rw[show its.toArray.any (eqU x)=its.any (eqU x) by simp,jE1 r fs]
  exact q
theorem jU:y9 X (.builtin "len") (λxs H Q=>∃p ys,xs=[.ref p]/\(SqL X.K H p ys\/SqT X.K H p ys)/\Q (.int ys.length) H):=by
 intro ad s σ H xs us Q I r h
 obtain⟨p,ys,rfl,hq,q⟩:=h
 obtain⟨u,rfl,rx⟩:=vals1 r
 cases rx
 have hn:=jEF
 rcases hq with hq | hq
 ·obtain⟨its,r',pl,hz⟩:=I.list hq
  have hlen:=r'.length
  exact Calls.call_len_list pl.isList (by simp only [aG] <;> lia) ⟨.int ys.length,H,I.tok _,⟨s.toks+1,by rw[aG,hlen]⟩,q⟩
 ·obtain⟨its,r',pl,hz⟩:=I.tuple hq
  have hlen:=r'.length
  exact len_tuple pl (by simp only [aG] <;> lia) ⟨.int ys.length,H,I.tok _,⟨s.toks+1,by rw[aG,hlen]⟩,q⟩
theorem jA1:y9 X (.type "tuple") (λxs H Q=>∃p ys,xs=[.ref p]/\((SqL X.K H p ys/\∀l,H l=none->Q (.ref l) (upd H l (.tup ys)))\/(SqT X.K H p ys/\Q (.ref p) H))):=by
 intro ad s σ H xs us Q I r h
 obtain⟨p,ys,rfl,h⟩:=h
 obtain⟨u,rfl,rx⟩:=vals1 r
 cases rx
 rcases h with ⟨hq,q⟩ | ⟨hq,q⟩
 ·obtain⟨its,r',pl,hz⟩:=I.list hq
  have hlen:=r'.length
  refine call_tuple_list pl.isList (λh' kp=>?_) (by simp only [aG] <;> lia)
  have I1:Inv X ad σ H { s with heap:=h'} :=I.kept (t':=s.toks) kp
  have I2:Inv X ad σ (upd H h'.objs.size (.tup ys)) { s with heap:=h'.push { cls:= .type "tuple",data:= .seq its.toArray}} :=
   I1.laid (t':=s.toks) (λb o e=>ab _ e) (aq _) (show ObjOk X.prog X.w _ _ _ (.tup ys) from ⟨hz,its,r',TupO.new _ _⟩)
  exact⟨.ref h'.objs.size,_,I2,rfl,q _ (I1.hok.fresh (aq _))⟩
 ·obtain⟨its,r',pl,hz⟩:=I.tuple hq
  exact call_tuple_same pl ⟨.ref p,H,I,rfl,q⟩
def tyV (K:W.Frag)(T:String)(x:V)(H:Hp):Prop:=match x with
 | .str _=>T= "str"
 | .int _=>T= "int"
 | .ref p=>(T= "list" /\∃xs,SqL K H p xs)\/(T= "tuple" /\∃o,K.lookup p=some o/\o.cls= .type "tuple" /\o.dict=none)\/
   (T= "dict" /\((∃kvs,H p=some (.dK kvs))\/∃kvs,H p=some (.dT kvs)))\/(T= "set" /\∃S n,H p=some (.set S n))
 | _=>False
theorem jPT {ad:List (Addr×Obj)}{σ:St}{H:Hp}{s:Shared}{T:String}{x:V}{v:Value}(I:Inv X ad σ H s)(r:RelV x v)(ty:tyV X.K T x H):
  s.TypeIs v T/\∀a,v= .ref a->∃ob,s.heap.get? a=some ob/\ob.dict=none:=by
 cases x with
 | str z=>
  obtain⟨t,rfl⟩:=r
  cases (show T= "str" from ty)
  exact⟨typeIs_str s z t,λ_ e=>nomatch e⟩
 | int i=>
  obtain⟨t,rfl⟩:=r
  cases (show T= "int" from ty)
  exact⟨typeIs_int s i t,λ_ e=>nomatch e⟩
 | ref p=>
  cases r
  rcases ty with ⟨rfl,xs,hq⟩ | ⟨rfl,o,hk,hc,hd⟩ | ⟨rfl,hk⟩ | ⟨rfl,S,n,hk⟩
  ·obtain⟨its,_,pl,_⟩:=I.list hq
   refine⟨pl.isList.typeIs,λa e=>?_⟩
   cases e
   obtain⟨o,n,e,c,hd,_⟩:=pl
   exact⟨o,e,hd⟩
  ·refine⟨⟨o,I.kIn p o hk,hc⟩,λa e=>?_⟩
   cases e
   exact⟨o,I.kIn _ o hk,hd⟩
  ·have z:∃o,s.heap.get? p=some o/\o.ExactDict:=by
    rcases hk with ⟨kvs,hk⟩ | ⟨kvs,hk⟩
    ·obtain⟨_,_,_,_,o,_,_,e,ex,_⟩:=I.hok p _ hk
     exact⟨o,e,ex⟩
    ·obtain⟨_,_,_,_,o,_,_,e,ex,_⟩:=I.hok p _ hk
     exact⟨o,e,ex⟩
   obtain⟨o,e,ex⟩:=z
   refine⟨⟨o,e,ex.1⟩,λa e2=>?_⟩
   cases e2
   exact⟨o,e,ex.2.1⟩
  ·obtain⟨o,_,_,_,e,ex,_⟩:=I.hok p _ hk
   refine⟨⟨o,e,ex.1⟩,λa e2=>?_⟩
   cases e2
   exact⟨o,e,ex.2.1⟩
 | _=>exact False.elim ty
def tBM0 (K:W.Frag)(T:String)(r:V->List V->Hp->VK->Prop)(to:TE):TE:=λσ H Q=>to σ H λx H1=>tyV K T x H1/\r x [] H1 Q
def tBM (K:W.Frag)(T:String)(r:V->List V->Hp->VK->Prop)(to:TE)(t:TA):TE:=λσ H Q=>to σ H λx H1=>tyV K T x H1/\t σ H1 λxs H2=>r x xs H2 Q
variable {o:Expr}{es:List Expr}{to:TE}{t:TA}{name:Str}{apos cpos:Pos}{T id:String}{r:V->List V->Hp->VK->Prop}
theorem jUA (pa:PlainAttrs T)(slot:Slot T name id)(hty:typeOf (.builtin id)=pure (.type "method_descriptor"))(hm:MtR X id r)(ho:PE X o to)
  (hbase:attributeBase o name X.env (eval o X.env)=eval o X.env:=by rfl) (hline:(apos.endLine==cpos.line)=true:=by rfl):PE X (.Call (.Attribute o name apos) [] [] cpos) (tBM0 X.K T r to):=by
 intro ad s σ H Q I h
 refine gA hbase hline (mI (ho ad s σ H _ I h) λv s1 ⟨x,H1,I1,r1,ty,q1⟩=>?_)
 obtain⟨h1,h2⟩:=jPT I1 r1 ty
 exact⟨T,id,pa,slot,hty,h1,h2,dU rfl (iA (hm ad s1 σ H1 x [] v [] Q I1 r1 .nil q1))⟩
theorem pe_bm (pa:PlainAttrs T)(slot:Slot T name id)(hty:typeOf (.builtin id)=pure (.type "method_descriptor"))(hm:MtR X id r)(ho:PE X o to)(ha:PA X (e::es) t)
  (hbase:attributeBase o name X.env (eval o X.env)=eval o X.env:=by rfl)
  (hfew:((backTo cpos (starEach (e::es) X.env)).all (λx=>!x.1)&&(backToKw cpos (keywordEach [] X.env)).all (λx=>x.1.isSome)
   &&decide ((e::es).length+([]:List Keyword).length+(if ([]:List Keyword).isEmpty then 0 else 1)<30))=true:=by rfl)
  (hline:(apos.endLine==cpos.line)=true:=by rfl) (hs:starEach (e::es) X.env=(false,eval e X.env)::starEach es X.env:=by rfl) (hplain:(backTo cpos (starEach es X.env)).any (·.1)=false:=by rfl):
  PE X (.Call (.Attribute o name apos) (e::es) [] cpos) (tBM X.K T r to t):=by
 intro ad s σ H Q I h
 refine wpAny_Call_method_late hbase hfew hline rfl (mI (ho ad s σ H _ I h) λv s1 ⟨x,H1,I1,r1,ty,q1⟩=>?_)
 obtain⟨h1,h2⟩:=jPT I1 r1 ty
 refine⟨T,id,pa,slot,hty,h1,h2,?_⟩
 have hA:=ha cpos ad s1 σ H1 _ I1 q1
 rw[hs] at hA ⊢
 refine dU (by show (false || (backTo cpos (starEach es X.env)).any (·.1))=false; rw[hplain] <;> rfl) (ic ?_)
 exact mI hA λus s2 ⟨vs,H2,I2,r2,q2⟩=>hm ad s2 σ H2 x vs v us Q I2 r1 r2 q2
/- xs.append(e),list.index on a module's tuple .. are MtR facts of 06m -/
end
def MtM (X:Cx)(id:String)(r:V->List V->Hp->VK->Prop):Prop:=
 ∀(ad:List (Addr×Obj)) (s:Shared) (σ:St) (H:Hp) (x:V) (xs:List V) (v:Value) (us:List Value) (Q:VK),Inv X ad σ H s->RelV x v->Vals xs us->r x xs H Q->
  wpAny (model X.prog X.w) X.A (call (.builtin id) (v::us)) (EP X ad σ Q) X.xe s
theorem Vals.one:∀{x:V}{us:List Value},Vals [x] us->∃u,us=[u]/\RelV x u
 | _,_, .cons r .nil=>⟨_,rfl,r⟩
theorem Vals.two:∀{x y:V}{us:List Value},Vals [x,y] us->∃u v,us=[u,v]/\RelV x u/\RelV y v
 | _,_,_, .cons r (.cons q .nil)=>⟨_,_,rfl,r,q⟩
theorem Vals.zero:∀{us:List Value},Vals [] us->us=[]
 | _, .nil=>rfl
theorem Vals.dropLast {xs:List V}{us:List Value}(h:Vals xs us):Vals xs.dropLast us.dropLast:=by
 induction h with
 | nil=>exact .nil
 | cons r t ih=>
  cases t with
  | nil=>exact .nil
  | cons q t'=>exact .cons r ih
theorem Vals.rep {xs:List V}{us:List Value}(h:Vals xs us):∀k:Nat,Vals (replicate k xs).flatten (replicate k us).flatten
 | 0=> .nil
 | k+1=>by
  rw[di,di,fi,fi]
  exact Vals.append h (Vals.rep h k)
theorem jKD {α:Type}(l:List α):l.eraseIdx (l.length - 1)=l.dropLast:=by
 induction l with
 | nil=>rfl
 | cons a r ih=>
  cases r with
  | nil=>rfl
  | cons b r=>
   have e:(a::b::r).length - 1=((b::r).length - 1)+1:=by
    have h1:(a::b::r).length=r.length+2:=rfl
    have h2:(b::r).length=r.length+1:=rfl
    lia
   rw[e,List.eraseIdx_cons_succ,ih]
   all_goals rfl
theorem jGR (its:List Value):∀(k:Nat) (acc:List Value),
  List.foldl (λx1 x2=>x1++x2) acc.toArray (replicate k its.toArray)=(acc++(replicate k its).flatten).toArray
 | 0,acc=>by simp
 | k+1,acc=>by
  have e:acc.toArray++its.toArray=(acc++its).toArray:=by simp
  have e2:(acc++its)++(replicate k its).flatten=acc++(replicate (k+1) its).flatten:=by
   rw[di,fi,aZ]
  rw[<- e2,<- jGR its k (acc++its),<- e,di,List.foldl_cons]
variable {s:Shared}
section
variable {ad:List (Addr×Obj)}{σ:St}{H:Hp}{l b:Addr}{xs ys zs:List V}
theorem Inv.lset {its its':List Value}{n:Nat}{f:Array Value->Array Value}{t':Nat}(I:Inv X ad σ H s)(hH:H l=some (.lst xs))
  (e:s.heap.get? l=some { cls:= .type "list",data:= .seq its.toArray n}) (hf:f its.toArray=its'.toArray) (hv:Vals ys its') (hz:ys.length<=sizeLine):
  Inv X ad σ (upd H l (.lst ys)) { s with heap:=s.heap.update l (Obj.mapSeq f),toks:=t'} :=by
 have q:=PySem.IsL.update e f
 rw[hf] at q
 refine I.write (x:=l) (e:=l) (by rw[hH]; exact trivial) (.inl rfl) (λb' u hb hu=>(bb s.heap (Obj.mapSeq f) (dq hb)).trans hu) ⟨_,q⟩ ?_
 exact⟨hz,its',_,hv,q⟩
theorem Inv.lnew {its:List Value}{t':Nat}(I:Inv X ad σ H s)(hv:Vals ys its)(hz:ys.length<=sizeLine):
  Inv X ad σ (upd H s.heap.objs.size (.lst ys)) { s with heap:=s.heap.push { cls:= .type "list",data:= .seq its.toArray},toks:=t'} :=
 I.laid (λ_ _ q=>ab _ q) (aq _) ⟨hz,its,0,hv,ao _ rfl⟩
theorem Inv.fresh (I:Inv X ad σ H s):H s.heap.objs.size=none:=I.hok.fresh (aq _)
theorem Inv.lstM (I:Inv X ad σ H s)(hH:H l=some (.lst xs)):xs.length<=sizeLine/\∃(its:List Value) (n:Nat),Vals xs its/\xs.length=its.length/\s.heap.get? l=some { cls:= .type "list",data:= .seq its.toArray n} :=by
 obtain⟨z,its,n,r,e⟩:=I.hok l _ hH
 exact⟨z,its,n,r,r.length,e⟩
theorem jOS {n:Nat}(h:n<=sizeLine):Builtin.List.listTooLong n=false:=by
 unfold Builtin.List.listTooLong
 exact aV (by lia)
end
def jR9:V->List V->Hp->VK->Prop:=λx vs H Q=>∃l xs y,x= .ref l/\vs=[y]/\H l=some (.lst xs)/\xs.length<sizeLine/\Q .non (upd H l (.lst (xs++[y])))
theorem jAP:MtM X "list.append" jR9:=by
 intro ad s σ H x vs v us Q I rx rv h
 obtain⟨l,xs,y,rfl,rfl,hH,hz,q⟩:=h
 cases rx
 obtain⟨u,rfl,ru⟩:=rv.one
 obtain⟨z,its,n,r,hl,e⟩:=I.lstM hH
 refine gY F.slot_list_append ⟨_,e,rfl⟩ F.entry_list_append (F.args_list_append_2 _ _) (PySem.list_append l its.toArray n u (by rw[aG]; lia)) ⟨e,?_⟩
 refine⟨.non,_,I.lset (its':=its++[u]) hH e (by simp) (r.append (.cons ru .nil)) ?_,rfl,q⟩
 rw[aF,gS]
 lia
def rPop:V->List V->Hp->VK->Prop:=λx vs H Q=>∃l xs y,x= .ref l/\vs=[]/\H l=some (.lst xs)/\xs[xs.length - 1]?=some y/\Q y (upd H l (.lst xs.dropLast))
theorem jUP:MtM X "list.pop" rPop:=by
 intro ad s σ H x vs v us Q I rx rv h
 obtain⟨l,xs,y,rfl,rfl,hH,hy,q⟩:=h
 cases rx
 have hus:=rv.zero
 subst hus
 obtain⟨z,its,n,r,hl,e⟩:=I.lstM hH
 obtain⟨u,hu,ru⟩:=r.get hy
 have hy':its.toArray[its.toArray.size - 1]?=some u:=by
  show its.toArray[its.length - 1]?=some u
  rw[<- bG,<- hl]
  exact hu
 refine gY F.slot_list_pop ⟨_,e,rfl⟩ F.entry_list_pop (F.args_list_pop_1 _) (MeetsSeq.list_pop_last l its.toArray n u hy' (by rw[aG]; lia)) ⟨e,?_⟩
 refine⟨y,_,I.lset (its':=its.dropLast) hH e ?_ r.dropLast ?_,ru,q⟩
 ·show its.toArray.eraseIdxIfInBounds (its.toArray.size - 1)=its.dropLast.toArray
  rw[aG,List.eraseIdxIfInBounds_toArray,jKD]
 ·rw[List.length_dropLast]
  lia
def jTR:V->List V->Hp->VK->Prop:=λx vs H Q=>∃l xs,x= .ref l/\vs=[]/\H l=some (.lst xs)/\Q .non (upd H l (.lst []))
theorem jOU:MtM X "list.clear" jTR:=by
 intro ad s σ H x vs v us Q I rx rv h
 obtain⟨l,xs,rfl,rfl,hH,q⟩:=h
 cases rx
 have hus:=rv.zero
 subst hus
 obtain⟨z,its,n,r,hl,e⟩:=I.lstM hH
 refine gY F.slot_list_clear ⟨_,e,rfl⟩ F.entry_list_clear (F.args_list_clear_1 _) (AutoSeq1.list_clear_list_0 l its.toArray n (by rw[aG]; lia)) ⟨e,?_⟩
 exact⟨.non,_,I.lset (its':=[]) (ys:=[]) hH e rfl .nil (bi _),rfl,q⟩
def rCat:R2:=λx y H Q=>∃l b xs zs,x= .ref l/\y= .ref b/\H l=some (.lst xs)/\H b=some (.lst zs)/\xs.length+zs.length<=sizeLine/\∀p,H p=none->Q (.ref p) (upd H p (.lst (xs++zs)))
theorem jUG:OpR X (binaryOp .Add) rCat:=by
 intro ad s σ H x y v u Q I rx ry h
 obtain⟨l,b,xs,zs,rfl,rfl,hH,hB,hz,q⟩:=h
 cases rx
 cases ry
 obtain⟨z,its,n,r,hl,e⟩:=I.lstM hH
 obtain⟨z2,its2,n2,r2,hl2,e2⟩:=I.lstM hB
 refine PySem.P.add_list e e2 ?_ (by rw[aG,aG]; lia)
 have ea:its.toArray++its2.toArray=(its++its2).toArray:=by simp
 rw[ea]
 exact⟨.ref _,_,I.lnew (t':=s.toks) (r.append r2) (by rw[aF]; lia),rfl,q _ I.fresh⟩
def rRep:R2:=λx y H Q=>∃l k xs,x= .ref l/\y= .int k/\H l=some (.lst xs)/\ -(2 ^ 63)<=k/\k<2 ^ 63/\xs.length*k.toNat<=sizeLine/\
 ∀p,H p=none->Q (.ref p) (upd H p (.lst (replicate k.toNat xs).flatten))
theorem jSG {α:Type}(xs:List α)(k:Nat):(replicate k xs).flatten.length=k*xs.length:=by
 induction k with
 | zero=>simp
 | succ k ih=>rw[di,fi,aF,ih,Nat.succ_mul,kz]
theorem jUE:OpR X (binaryOp .Mult) rRep:=by
 intro ad s σ H x y v u Q I rx ry h
 obtain⟨l,k,xs,rfl,rfl,hH,h1,h2,hz,q⟩:=h
 cases rx
 obtain⟨t,rfl⟩:=ry
 obtain⟨z,its,n,r,hl,e⟩:=I.lstM hH
 have hlen:its.toArray.size*k.toNat<=sizeLine:=by rw[aG,<- hl]; exact hz
 have hcap:¬its.toArray.size*k.toNat>(2 ^ 63 - 1) / 8:=by
  have:(sizeLine:Nat)<=(2 ^ 63 - 1) / 8:=by decide
  lia
 have hfit:¬(!Builtin.List.listFitsIndex k)=true:=by
  rw[fitsIndex_both h1 h2]
  exact aA
 have hlong:¬Builtin.List.listTooLong (its.toArray.size*k.toNat)=true:=by
  rw[jOS hlen]
  exact aA
 have hnew:List.foldl (λx1 x2=>x1++x2) #[] (replicate (if its.toArray.isEmpty=true then 0 else k.toNat) its.toArray)=(replicate k.toNat its).flatten.toArray:=by
  have f0:∀m:Nat,List.foldl (λx1 x2=>x1++x2) #[] (replicate m its.toArray)=(replicate m its).flatten.toArray:=λm=>by
   have:=jGR its m []
   rw[lw] at this
   exact this
  rw[f0]
  cases its with
  | nil=>simp
  | cons a r'=>rw[aj (by simp)]
 refine wpAny_binaryOp_repeat_ref (T:= "list") (U:= "int") (by decide) ⟨_,e,rfl⟩ (λs'=>typeIs_int s' k t) noFill_list_mul F.fills_int_mul F.slot_int_rmul repeat_list F.slot_int_index.lookup
  (gY F.slot_int_rmul (typeIs_int s k t) F.entry_int_rmul (F.args_int_rmul_2 _ _) (int___rmul___int_list k t l its.toArray n)
   ⟨e,rfl,⟨_,e,rfl⟩,gY F.slot_list_mul ⟨_,e,rfl⟩ F.entry_list_mul (F.args_list_mul_2 _ _) (AutoListH.list___mul___list_int_3 l its.toArray n k t hfit hcap hlong) ⟨e,?_⟩⟩)
 rw[hnew]
 exact⟨.ref _,_,I.lnew (t':=s.toks) (r.rep k.toNat) (by rw[jSG,gF]; exact hz),rfl,q _ I.fresh⟩
section
variable {prog:Program}{w:World}{A:Around}{E:Value->Shared->Prop}
set_option maxRecDepth 100000 in
end
end L2
namespace Att
open PySem PySem.W PySem.Calls PyProof.Rows
theorem jDS {P:Params}{h:Heap} :∀(ns:List Int) (vs:List Value),WellAll P h vs (ns.map WData.int)->IntsAre vs ns:=by
 intro ns
 induction ns with
 | nil=>
  intro vs w
  rw[iF] at w
  cases w
  exact .nil
 | cons n ns ih=>
  intro vs w
  rw[aX] at w
  cases w with
  | cons a b=>
   cases a
   exact .cons _ _ (ih _ b)
theorem jLG {l:OpenLaw}{n:Nat}(hn:l.most=some n){P:Params}{h:Heap}{args:List WData}{vals:List Value}
  (hpre:l.row.toRowW.claim.pre args=true) (hwl:WellAll P h vals args):
  ∃a vs ns,vals=[Value.ref a]/\args=[WData.list (ns.map WData.int)]/\h.get? a=some { cls:= .type "list",data:= .seq vs.toArray} /\IntsAre vs ns/\ns.length<=n:=by
 have hsh:WShape.hasAll [] args [.list .int]=true:=(pre_splitW hpre).1
 have hc:l.pre.holds [] { args:=args} =true:=(pre_splitW hpre).2
 obtain⟨d,r,rfl,h1,h2⟩:=hasAllW_cons hsh
 obtain rfl:=hasAllW_nil h2
 obtain⟨xs,rfl,h3⟩:=hasW_list h1
 obtain⟨ns,rfl⟩:=items_int h3
 have hlen:ns.length<=n:=by
  unfold OpenLaw.pre at hc
  have h4:(WTm.not (.lt (.lit (.int (n:Int))) (.len (.arg 0)))).holds [] { args:=[.list (ns.map .int)]} =true:=by
   have h4:=(holds_andW hc).1
   rw[hn] at h4
   exact h4
  have h5:=condW_of h4 (w_not (w_lt w_lit (w_len_list (w_arg rfl))))
  rw[ae] at h5
  refine Nat.le_of_not_lt λq=>?_
  have q':(n:Int)<((ns.length:Nat):Int):=by lia
  first
   | (rw[aB q'] at h5; exact absurd h5 (by decide))
   | (simp at h5; lia)
 cases hwl with
 | cons w1 w2=>
  cases w2
  cases w1 with
  | list ho hall=>exact⟨_,_,ns,rfl,rfl,ho,jDS ns _ hall,hlen⟩
theorem jLO (l:OpenLaw)(args:List WData):l.row.toRowW.claim.post args (.bool true) args=true:=
 postW_of (r:=l.row.toRowW) (X:=(true==true))
  (show WShape.has [] (.bool true) .bool=true by first | rfl | decide | simp [WShape.has,WShape.arms,WShape.armsAll])
  (show (WTm.eq .res (.lit (.bool true))).value [] { args:=args,res:=some (.bool true),after:=args} =some (.bool (true==true)) from w_eq_bool (w_res rfl) w_lit) rfl
theorem attach_call {l:OpenLaw}{n:Nat}{q:Program}{loose:List Str}{XP:(Str->Option Value)->Heap->Prop}{YP:World->Heap->Prop}{d:DefRec}
  (hn:l.most=some n) (hdf:d.params.defaults=[])
  (call:∀(w:World) (s₀ s₁:Shared) (mg mb:Str->Option Value) (fa:Addr) (o:Obj) (pm cd doc:Value) (a:Addr) (vs:List Value) (ns:List Int),
   Ground q loose [] XP w s₀ mg mb s₁.heap->YP w s₁.heap->
   s₁.heap.get? fa=some o->o.data= .func (docDef d.name d.params d.body d.scope pm cd doc)->s₁.heap.CodeRec cd d.name->mg d.name=some (.ref fa)->
   s₁.heap.get? a=some { cls:= .type "list",data:= .seq vs.toArray} ->IntsAre vs ns->ns.length<=n->s₁.gens=#[]->
   codeAny (model l.prog w) callerA (.call (.ref fa) ⟨[.ref a],[]⟩) (λr s'=>r= .ok (.ret (.bool true))/\OldK s₁.heap s'.heap/\s'.os=s₁.os/\AllBare s'.gens) s₁):
  WalkO q loose XP YP l.row.toRowW d [] (λf vs=>PySem.call f vs):=by
 intro w s₀ s₁ mg mb G Y fa o pm cd doc dV kV ho hd hcd hD hmg hg args vals as hpre hlay hrd hwl hlo
 obtain rfl:dV= .none:=Dflts.none hD hdf
 obtain rfl:kV= .none:=Dflts.noKw hD
 obtain⟨a,vs,ns,rfl,rfl,hobj,hints,hlen⟩:=jLG hn hpre hwl
 refine enter_call (ev (call w s₀ s₁ mg mb fa o pm cd doc a vs ns G Y ho (fd_plain hd) hcd hmg hobj hints hlen hg) λr s' hq=>?_)
 obtain⟨rfl,h2,h3,h4⟩:=hq
 exact⟨.inl ⟨.bool true, .bool true,[],rfl,λ_=>rfl, .bool true,jLO l _,λ_=>⟨List.Pairwise.nil,λ_ hm=>(nomatch hm)⟩⟩,h2,h3,h4⟩
section
variable {prog:Program}{w:World}{A:Around}{E:Value->Shared->Prop}{s:Shared}{K:Frag}
end
end Att
namespace L2
open PySem PySem.Spec PyProof.Rows
theorem jFS:∀{vs:List Value}{ns:List Int},IntsAre vs ns->Vals (ns.map V.int) vs
 | _,_, .nil=> .nil
 | _,_, .cons n t h=> .cons ⟨t,rfl⟩ (jFS h)
end L2
/- THE LAST THEOREM (shape; LID,My.* are yours):
  My.Adr:a structure of the addresses that your layer names (classes,functions); My.Txt K t:a structure (Prop) of the equations over K;
  My.txt_mk: {K} {implicit addresses ..} (e1:nsIn K mainGlobals "law" =some (some (.ref f))) (e2:K.lookup f=some ⟨oc,od, .func (fnOf "law" "law" params body scope dV kV doc pm an cdv ct),sl⟩) (e3:codeIn K cdv "law" =true) .. :∃t,My.Txt K t
set_option maxRecDepth 100000 in
set_option maxHeartbeats 0 in
theorem PySem.Challenge.cw_LID_holds : PySem.Challenge.rw_LID.Holds := by
 w_on; o_law; k_head; (case hw=>w_witness2)
 k_fill
 refine L2.walk_of (l:=PySem.Challenge.rw_LID) (n:=63) (k:=40) (x:= "script") (CX:=λw=> ..) (sp:=λ_=>My.sp_law) rfl (by decide) rfl ⟨rfl,by decide,by decide⟩ (λw h Y=>PySem.W.kIn_of Y) ?F ?S ?C
 case F=>
  intro w mg fa h KX G hmg
  have T:∃t,My.Txt (L2.KOf KX) t:=by
   dsimp only [L2.KOf] -- K must stand as «<heap const>w.params» for k_is
   refine' My.txt_mk ?e1 ?e2 ?e3 ..
   (case e1=>PySem.W.k_is) -- in the order:a name->its address->its object->its parts
   (case e2=>PySem.W.k_is)
   ..
  obtain⟨t,T⟩:=T
  have e0:=hmg.symm.trans (hG KX G T.law)
  cases e0 -- fa is the law's own address
  exact⟨_,λs u=> .of_eq rfl,λbase kb nb=>My.law_fn T kb nb⟩ -- if «.of_eq rfl» comes too early:refine' ⟨_,?b,λbase kb nb=>My.law_fn T kb nb⟩; exact λs u=> .of_eq rfl
 case S=>exact λw H a ns hl hO hS=> ..
 case C=>exact ..
(the tactic k_is has no namespace:write k_is) -/
namespace L2
open PySem PySem.Spec PyProof.Rows
abbrev CX0:CXT:=λ_ _ _ _ _ _=>False
abbrev E0:XK:=λ_ _ _=>False
theorem pass0 {X:Cx} :jO1 CX0 X E0:=λ_ _ _ _ _ _ _ h=>h.elim
structure Fun (K:W.Frag)(x qual:Str)(st:Stmt)(f:Addr)(fd:FuncData):Prop where
 ex:∃(oc:Value) (od:Option Addr) (kV doc pm:Value) (an:Option Addr) (cdv ct:Value) (osl:Array (Option Value)),
  fd=PySem.W.fnOf x qual (kW st) (jC st) (jA st) .none kV doc pm an cdv ct/\K.lookup f=some ⟨oc,od, .func fd,osl⟩/\PySem.W.codeIn K cdv qual=true
 kp:keepIn K (.ref f)=true
variable {w:World}
section
variable {P:Program}{K:W.Frag}{mg:Str->Option Value}{base:Heap}
theorem Fun.ok {x qual:Str}{st:Stmt}{f:Addr}{fd:FuncData}{N ps:List Str}{k:Nat}{sp:Sp}(F:Fun K x qual st f fd)(S:FnScope N ps (jA st))(len:∀vs H Q E,sp vs H Q E->vs.length=ps.length)
  (hbody:∀(cdv:Value) (A:Around) (outer:List Env) (s:Shared) (H:Hp) (vs:List V) (Q:VK) (E:XK),Room k (A.deeper (envOfC qual (jA st) s.heap.objs.size f cdv))->sp vs H Q E->
   ∃t,PSs (cxOf CX0 P w K mg base N qual (jA st) f cdv A outer s H E).nox (jC st) t/\t { nx:=λ_ H'=>Q .non H',rt:=Q} (kT N vs) H):FnOk P w K mg base CX0 (k+1) f fd ps sp:=by
 obtain⟨oc,od,kV,doc,pm,an,cdv,ct,osl,rfl,lk,hcd⟩:=F.ex
 refine fn_of lk hcd S len λA outer s H vs Q E hr hsp=>?_
 obtain⟨t,h,q⟩:=hbody cdv A outer s H vs Q E hr hsp
 exact⟨t,h.nox,q⟩
theorem Fun.binds {x qual:Str}{st:Stmt}{f:Addr}{fd:FuncData}{ps:List Str}(F:Fun K x qual st f fd)
  (h:∀(kV doc pm:Value) (an:Option Addr) (cdv ct:Value) (us:List Value),us.length=ps.length->bindArgs (PySem.W.fnOf x qual (kW st) (jC st) (jA st) .none kV doc pm an cdv ct) ⟨us,[]⟩=pure (ps.zip us)):Binds K fd ps []:=by
 obtain⟨oc,od,kV,doc,pm,an,cdv,ct,osl,rfl,lk,hcd⟩:=F.ex
 exact .all (h kV doc pm an cdv ct)
theorem kL {x qual:Str}{st:Stmt}{f:Addr}{oc:Value}{od an:Option Addr}{osl:Array (Option Value)}{kV doc pm cdv ct:Value}(l:K.lookup f=some ⟨oc,od, .func (PySem.W.fnOf x qual (kW st) (jC st) (jA st) .none kV doc pm an cdv ct),osl⟩)
  (c:PySem.W.codeIn K cdv qual=true) (k:keepIn K (.ref f)=true):Fun K x qual st f (PySem.W.fnOf x qual (kW st) (jC st) (jA st) .none kV doc pm an cdv ct):=⟨⟨oc,od,kV,doc,pm,an,cdv,ct,osl,rfl,l,c⟩,k⟩
end
theorem yZ {A:Around}{k:Nat}(hr:Room k A):A.units+1<cLine:=mz (Nat.add_le_add_left (by decide:1<=64) _) hr.units
variable {X:Cx}
theorem pv (i:Nat){x:Str}{pos:Pos}(hN:X.N[i]?=some x:=by rfl)(hv:Vis X.env.scope x:=by first | exact Or.inl rfl | exact Or.inr (Or.inl rfl) | exact Or.inr (Or.inr rfl))(hd:(x==("__debug__" :Str))=false:=by decide)
  (hcd:(x==("__classdict__" :Str))=false:=by decide):PE X (.Name x pos) (tVar i):=jLP hN hv hd hcd
theorem iteF {A B:Prop}(h:B):if false=true then A else B:=by
 rw[aj aA]
 exact h
theorem iteT {A B:Prop}(h:A):if true=true then A else B:=by
 rw[am rfl]
 exact h
theorem ite2 {c A B:Prop} [Decidable c](h1:c->A)(h2:¬c->B):if c then A else B:=by
 by_cases h:c
 ·rw[am h]
  exact h1 h
 ·rw[aj h]
  exact h2 h
def jF (cells:List (Str×Addr)):List (Str×NameKind)->List (Str×Addr)->List (Str×Addr)
 | [],acc=>acc
 | (n,k)::r,acc=>if k= .free then jF cells r ((n,(cells.lookup n).getD 0)::acc) else jF cells r acc
theorem jCM {env:Env} :∀(l:List (Str×NameKind)) (acc:List (Str×Addr)),(∀y∈l,y.2= .free->∃c,env.cells.lookup y.1=some c)->
  (forIn l acc λ(x:Str×NameKind) (cs:List (Str×Addr))=>(if (x.2==NameKind.free)=true then (do let a <- cellOf env x.1; pure (ForInStep.yield ((x.1,a)::cs))) else pure (ForInStep.yield cs):Sem (ForInStep (List (Str×Addr)))))=pure (jF env.cells l acc)
 | [],acc,_=>rfl
 | (n,k)::r,acc,h=>by
  have hr:∀y∈r,y.2= .free->∃c,env.cells.lookup y.1=some c:=λy hy=>h y (ah _ hy)
  rw[ir]
  by_cases hk:k= .free
  ·subst hk
   obtain⟨c,hc⟩:=h (n, .free) ag rfl
   have e:cellOf env n=pure c:=by unfold cellOf; rw[hc]
   have e2:jF env.cells ((n,NameKind.free)::r) acc=jF env.cells r ((n,c)::acc):=by
    show (if NameKind.free=NameKind.free then jF env.cells r ((n,(env.cells.lookup n).getD 0)::acc) else _)=_
    rw[am rfl,hc]; rfl
   rw[e2,<- jCM r ((n,c)::acc) hr]
   show ((do let a <- cellOf env n; pure (ForInStep.yield ((n,a)::acc))) >>= _)=_
   rw[e]; rfl
  ·have hb:(k==NameKind.free)=false:=by cases k <;> first | rfl | exact absurd rfl hk
   have e2:jF env.cells ((n,k)::r) acc=jF env.cells r acc:=by
    show (if k=NameKind.free then _ else jF env.cells r acc)=_
    rw[aj hk]
   rw[e2,<- jCM r acc hr]
   show ((if (k==NameKind.free)=true then _ else pure (ForInStep.yield acc)) >>= _)=_
   rw[hb]; rfl
theorem jFF {env:Env}{sc:Scope}(h:∀y∈sc.names,y.2= .free->∃c,env.cells.lookup y.1=some c):closureFor sc env=pure (jF env.cells sc.names []):=by
 unfold closureFor
 show (forIn sc.names [] _ >>= λcs=>pure cs)=_
 rw[show (forIn sc.names ([]:List (Str×Addr)) _:Sem _)=_ from jCM sc.names [] h]
 rfl
theorem jAH {cells:List (Str×Addr)} :∀(l:List (Str×NameKind)) (acc:List (Str×Addr)),(∀y∈l,y.2= .free->∃c,cells.lookup y.1=some c)->
  (∀x c,acc.lookup x=some c->cells.lookup x=some c)->∀x c,(jF cells l acc).lookup x=some c->cells.lookup x=some c
 | [],acc,_,ha=>ha
 | (n,k)::r,acc,h,ha=>by
  have hr:∀y∈r,y.2= .free->∃c,cells.lookup y.1=some c:=λy hy=>h y (ah _ hy)
  unfold jF
  by_cases hk:k= .free
  ·rw[am hk]
   obtain⟨c0,hc⟩:=h (n,k) ag hk
   refine jAH r _ hr λx c e=>?_
   rw[aY] at e
   cases hx:x==n with
   | true=>
    rw[hx] at e
    have exn:x=n:=eq_of_beq hx
    subst exn
    have hc':cells.lookup x=some c0:=hc
    rw[hc'] at e ⊢
    exact e
   | false=>rw[hx] at e; exact ha x c e
  ·rw[aj hk]; exact jAH r acc hr ha
theorem jA7 {cells:List (Str×Addr)}{x:Str} :∀(l:List (Str×NameKind)) (acc:List (Str×Addr)),((x,NameKind.free)∈l\/∃c,acc.lookup x=some c)->∃c,(jF cells l acc).lookup x=some c
 | [],acc,h=>by
  rcases h with h | h
  ·cases h
  ·exact h
 | (n,k)::r,acc,h=>by
  unfold jF
  by_cases hk:k= .free
  ·rw[am hk]
   refine jA7 r _ ?_
   by_cases e:x=n
   ·subst e
    exact .inr ⟨_,by rw[aY,gZ]⟩
   ·rcases h with h | ⟨c,h⟩
    ·rcases ar.mp h with q | q
     ·cases q; exact absurd rfl e
     ·exact .inl q
    ·refine .inr ⟨c,?_⟩
     rw[aY,cA.mpr e]
     exact h
  ·rw[aj hk]
   refine jA7 r _ ?_
   rcases h with h | h
   ·rcases ar.mp h with q | q
    ·cases q; exact absurd rfl hk
    ·exact .inl q
   ·exact .inr h
theorem jA3 {x:Str}{k:NameKind} :∀{l:List (Str×NameKind)},l.lookup x=some k->(x,k)∈l
 | [],h=>by cases h
 | (n,k')::r,h=>by
  rw[aY] at h
  cases hx:x==n with
  | true=>rw[hx] at h; cases h; rw[eq_of_beq hx]; exact ag
  | false=>rw[hx] at h; exact ah _ (jA3 h)
theorem jCB {env:Env}{x:Str}{k:NameKind}(hk:k= .cell\/k= .free):∀{l:List (Str×NameKind)},(∀y∈l,y.2≠ .cell)->
  (l.map λ(n,k)=>if (k==NameKind.free&&env.scope.kind== .function&&env.kindOf n==some .cell) then (n,NameKind.cell) else (n,k)).lookup x=some k->l.lookup x=some .free
 | [],_,h=>by simp at h
 | (n,k')::r,hc,h=>by
  have ih:= @jCB env x k hk r (λy hy=>hc y (ah _ hy))
  have hc0:k'≠ .cell:=hc (n,k') ag
  rw[aY]
  rw[aX] at h
  dsimp only at h
  by_cases hb:(k'==NameKind.free&&env.scope.kind== .function&&env.kindOf n==some .cell)=true
  ·rw[am hb,aY] at h
   cases hx:x==n with
   | true=>
    have:k'= .free:=by
     simp only [eR] at hb
     exact eq_of_beq hb.1.1
    rw[this]
   | false=>rw[hx] at h; exact ih h
  ·rw[aj hb,aY] at h
   cases hx:x==n with
   | true=>
    rw[hx] at h
    have e:k'=k:=bA h
    rcases hk with q | q
    ·exact absurd (e.trans q) hc0
    ·rw[e,q]
   | false=>rw[hx] at h; exact ih h
theorem jAG {env:Env}{x:Str} :∀{l:List (Str×NameKind)},l.lookup x=some .free->
  (l.map λ(n,k)=>if (k==NameKind.free&&env.scope.kind== .function&&env.kindOf n==some .cell) then (n,NameKind.cell) else (n,k)).lookup x=some .cell\/
  (l.map λ(n,k)=>if (k==NameKind.free&&env.scope.kind== .function&&env.kindOf n==some .cell) then (n,NameKind.cell) else (n,k)).lookup x=some .free
 | [],h=>by cases h
 | (n,k')::r,h=>by
  have ih:= @jAG env x r
  rw[aY] at h
  rw[aX]
  dsimp only
  by_cases hb:(k'==NameKind.free&&env.scope.kind== .function&&env.kindOf n==some .cell)=true
  ·rw[am hb,aY]
   cases hx:x==n with
   | true=>exact .inl rfl
   | false=>rw[hx] at h; exact ih h
  ·rw[aj hb,aY]
   cases hx:x==n with
   | true=>rw[hx] at h; exact .inr h
   | false=>rw[hx] at h; exact ih h
section
variable {prog:Program}{A:Around}{R:Result->Shared->Prop}{s:Shared}
abbrev jL1 (ifs:List Expr)(env:Env):Sem Bool:=forIn ifs true λc r=>if r=true then do let ok <- isTrue c env (eval c env); pure (ForInStep.yield ok) else pure (ForInStep.yield r)
theorem jEK {elt tg iter:Expr}{ifs:List Expr}{sc:Scope}{pos:Pos}{it acc:Value}{env:Env}(J:Nat->Shared->Prop)
  (turn:∀n z,J n z->wpAny (model prog w) A (pyNext it) (λr z1=>match r with
   | none=>R (.ok .next) z1
   | some v=>wpAny (model prog w) A (letOwnedTupleGo tg it v) (λ_ z2=>wpAny (model prog w) A (assign tg env v) (λ_ z3=>wpAny (model prog w) A (jL1 ifs env) (λok z4=>
     if ok=true then wpAny (model prog w) A (eval elt env) (λx z5=>wpAny (model prog w) A (call (.builtin "list.append") [acc,x]) (λ_ z6=>∃k,k<n/\J k z6) (λ_ _=>False) z5) (λ_ _=>False) z4
     else ∃k,k<n/\J k z4) (λ_ _=>False) z3) (λ_ _=>False) z2) (λ_ _=>False) z1) (λ_ _=>False) z)
  (n:Nat) (h:J n s):codeAny (model prog w) A (.compLoop (.ListComp elt [⟨tg,iter,ifs,0⟩] sc pos) 0 it acc env) R s:=by
 refine codeAny_loop rfl J (λk z hJ=>?_) n h
 have noE:∀{α:Type}{t:Sem α}{Q:α->Shared->Prop}{E:Value->Shared->Prop}{z:Shared},wpAny (model prog w) A t Q (λ_ _=>False) z->wpAny (model prog w) A t Q E z:=
  λq=>b9 q (λ_ _ a=>a) λ_ _ f=>f.elim
 show wpAny _ A ((compTurn (.ListComp elt [⟨tg,iter,ifs,0⟩] sc pos) 0 it acc env).onRaise (λx=>do noteFrame x env; theTreesLotGoes x)) _ _ z
 refine wpAny_noted ?_
 rw[compTurn_list]
 refine aa (eG (aa (b9 (turn k z hJ) (λr z1 q1=>?_) λ_ _ f=>f.elim)))
 cases r with
 | none=>exact ai q1
 | some v=>
  refine aa (b9 q1 (λ_ z2 q2=>?_) λ_ _ f=>f.elim)
  refine aa (b9 q2 (λ_ z3 q3=>?_) λ_ _ f=>f.elim)
  refine aa (b9 q3 (λok z4 q4=>?_) λ_ _ f=>f.elim)
  cases ok with
  | false=>exact ai ⟨rfl,q4⟩
  | true=>
   refine aa (aa (b9 q4 (λx z5 q5=>?_) λ_ _ f=>f.elim))
   exact aa (b9 q5 (λ_ z6 q6=>ai (ai ⟨rfl,q6⟩)) λ_ _ f=>f.elim)
end
noncomputable def blk (X:Cx)(sc:Scope)(cl:List (Str×Addr))(C:Addr)(Nc:List Str)(fp:List Addr)(s:Shared)(H:Hp):Cx where
 prog:=X.prog
 w:=X.w
 K:=X.K
 mg:=X.mg
 base:=X.base
 A:=X.A
 N:=Nc
 s₀:=s
 H₀:=H
 env:=compEnvC sc cl C X.env
 outer:=X.stack
 stack:=X.stack
 ex:=fp
 fn:=λ_=>false
 calm:=X.calm
 pn:=[]
 xe:=λ_ _=>False
def blkσ (m:List (Option Nat))(σ:St):St:=m.map λo=>match o with
 | none=>none
 | some i=>(σ[i]?).getD none
def PTs (X:Cx)(ifs:List Expr)(t:TT):Prop:=
 ∀(ad:List (Addr×Obj)) (s:Shared) (σ:St) (H:Hp) (Q:Bool->Hp->Prop),Inv X ad σ H s->t σ H Q->wpAny (model X.prog X.w) X.A (jL1 ifs X.env) (TP X ad σ Q) X.xe s
def yW:TT:=λ_ H Q=>Q true H
theorem jLK {X:Cx} :PTs X [] yW:=λ_ _ _ H _ I h=>wpAny_tests_nil ⟨H,I,h⟩
theorem jLJ {X:Cx}{c:Expr}{t:TT}(h:PT X c t):PTs X [c] t:=λad s σ H Q I q=>wpAny_tests_one (h ad s σ H Q I q)
def CompW (m:List (Option Nat))(g:TG)(tt:TT)(te:TE)(σ:St)(Q:VK)(J:It)(H1:Hp):Prop:=∀D,H1 D=none->∃W:Nat->Nat->St->Hp->List V->Prop,
  (∃n,W 0 n (blkσ m σ) (upd H1 D (.lst [])) [])/\∀i n σ' H' ys,W i n σ' H' ys->H' D=some (.lst ys)/\ys.length<sizeLine/\
   ((J.stop i H'/\Q (.ref D) H')\/(J.go i H'/\∃N:St->Hp->List V->Prop,(∀σ2 H2 zs,N σ2 H2 zs->∃n',n'<n/\W (i+1) n' σ2 H2 zs)/\∀x H'',J.yld i H' x H''->g x σ' H'' λσ2 H2=>tt σ2 H2 λb H3=>
    if b=true then te σ2 H3 λv H4=>H4 D=some (.lst ys)/\N σ2 (upd H4 D (.lst (ys++[v]))) (ys++[v])
    else N σ2 H3 ys))
def tComp (m:List (Option Nat))(wi:TI)(g:TG)(tt:TT)(te:TE):TE:=λσ H Q=>wi σ H (CompW m g tt te σ Q)
theorem Un.sameBut {fs ex:List Addr}{H H':Hp}{h h1 h2:Heap}{C:Addr}(u:Un fs ex H H' h h1)(sb:Heap.SameBut C h1 h2)(hC:h.objs.size<=C):Un fs ex H H' h h2:=by
 have ne:∀{b:Addr}{o:Obj},h.get? b=some o->b≠C:=λe=>aO (aR (ay e) hC)
 refine⟨λb o e n hf hx=>(sb.2 b (ne e)).trans (u.keep b o e n hf hx),λb o e n hf hx=>?_,u.free,λb o e hx=>?_,u.tups,u.frzs,u.tbls⟩
 ·obtain⟨sl,q⟩:=u.slot b o e n hf hx
  exact⟨sl,(sb.2 b (ne e)).trans q⟩
 ·obtain⟨o',q⟩:=u.there b o e hx
  exact⟨o',(sb.2 b (ne e)).trans q⟩
theorem HOk.sameBut {P:Program}{w:World}{H:Hp}{h1 h2:Heap}{C:Addr}(x:HOk P w H h1)(sb:Heap.SameBut C h1 h2)(hC:H C=none):HOk P w H h2:=λa o e=>
 (x a o e).stay (λb u hb q=>(sb.2 b (by
  rintro rfl
  rcases hb with rfl | hb
  ·rw[hC] at e; cases e
  ·rw[hC] at hb; cases hb)).trans q) (λ_ q=>q) λ_ _ q=>q
variable {g:TG}{tt:TT}{te:TE}{m:List (Option Nat)}
section
variable {tg iter elt:Expr}{ifs:List Expr}{sc:Scope}{pos:Pos}{wi:TI}{Nc:List Str}
def qE (X:Cx)(sc:Scope)(Nc:List Str)(m:List (Option Nat)):Prop:=
 m.length=Nc.length/\∀(k i:Nat),m[k]?=some (some i)->∃x,Nc[k]?=some x/\X.N[i]?=some x/\sc.names.lookup x=some .free
theorem jNX {ad:List (Addr×Obj)}{s:Shared}{σ:St}{H:Hp}{fp:List Addr}(I:Inv X ad σ H s)(hkind:sc.kind= .function)(hcell:∀y∈sc.names,y.2≠ .cell)
  (hfree:∀y∈sc.names,y.2= .free->X.env.scope.names.lookup y.1=some .cell\/X.env.scope.names.lookup y.1=some .free) (hm:qE X sc Nc m) (hfp:∀b∈fp,FpOk X ad H b) (hlt:∀b∈fp,b<s.heap.objs.size)
  {h1:Heap}{tk:Nat}{md:Str->Option Value}(hns:h1.Ns s.heap.objs.size md) (old:∀b o,s.heap.get? b=some o->h1.get? b=some o):
  Inv (blk X sc (jF X.env.cells sc.names []) s.heap.objs.size Nc fp s H) [] (blkσ m σ) H { s with heap:=h1,toks:=tk} :=by
 have hcl:∀y∈sc.names,y.2= .free->∃c,X.env.cells.lookup y.1=some c:=λy hy hf=>I.ok.has y.1 (hfree y hy hf)
 have sub:∀x c,(jF X.env.cells sc.names []).lookup x=some c->X.env.cells.lookup x=some c:=jAH sc.names [] hcl (λx c e=>by cases e)
 have isfree:∀x,(compEnvC sc (jF X.env.cells sc.names []) s.heap.objs.size X.env).kindOf x=some .cell\/(compEnvC sc (jF X.env.cells sc.names []) s.heap.objs.size X.env).kindOf x=some .free->sc.names.lookup x=some .free:=λx h=>by
  rcases h with h | h
  ·exact jCB (.inl rfl) hcell h
  ·exact jCB (.inr rfl) hcell h
 refine⟨⟨I.ok.mod,hkind,I.ok.glob,I.ok.blt,aq _,λx y c h1 h2=>I.ok.inj x y c (sub x c h1) (sub y c h2),λx hx=>?_,λx c hf _=>?_,I.ok.hd,I.ok.frames, .inl rfl,λb hb=>?_,I.bs,bf I.ok.bsz I.sz,λb o e hb=>?_,λb hb hz=>?_,I.stack,I.stkFree⟩,
  rfl,I.bare,Un.kept old,⟨md,hns,λk x v e1 e2 e3=>?_⟩,λx c e=>?_,I.hok.fresh (aq _),λx c e=>I.freeC x c (sub x c e),λp hp=>absurd (show p∈([]:List (Addr×Obj)) from hp) (by simp),I.hok.kept old,?_⟩
 ·exact jA7 sc.names [] (.inl (jA3 (isfree x hx)))
 ·exact absurd (show false=true from hf) aA
 ·obtain⟨f0,f1,f2,f3,f4,f5⟩:=hfp b hb
  exact⟨aO (hlt b hb),λx c e=>f4 x c (sub x c e)⟩
 ·obtain⟨f0,f1,f2,f3,f4,f5⟩:=hfp b hb
  rcases f3 with q | q
  ·exact I.ok.noex b o e q
  ·exact absurd (aR (ay (I.ok.bs b o e).1) q) (b8 _)
 ·obtain⟨f0,f1,f2,f3,f4,f5⟩:=hfp b hb
  rcases ar.mp (I.stkSub b hz) with q | q
  ·exact f1 q
  ·exact f2 q
 ·have e2':∃i,m[k]?=some (some i)/\σ[i]?=some (some v):=by
   unfold blkσ at e2
   rw[aJ] at e2
   cases q:m[k]? with
   | none=>rw[q] at e2; cases e2
   | some o=>
    rw[q] at e2
    cases o with
    | none=>cases e2
    | some i=>
     refine⟨i,rfl,?_⟩
     have e2:(σ[i]?).getD none=some v:=bA e2
     cases r:σ[i]? with
     | none=>rw[r] at e2; cases e2
     | some z=>rw[r] at e2; exact bS some e2
  obtain⟨i,q1,q2⟩:=e2'
  obtain⟨x',a1,a2,a3⟩:=hm.2 k i q1
  have e1':Nc[k]?=some x:=e1
  rw[e1'] at a1
  cases a1
  have vis:=hfree (x, .free) (jA3 a3) rfl
  obtain⟨m0,hn0,hl0⟩:=I.loc
  obtain⟨u,r,l⟩:=hl0 i x v a2 q2 (.inr vis)
  refine⟨u,r, .inr ⟨jAG a3,?_⟩⟩
  obtain⟨c,hc⟩:=jA7 (cells:=X.env.cells) (x:=x) sc.names [] (.inl (jA3 a3))
  rcases l with ⟨lk,_⟩ | ⟨_,c',hc',o,ho,hd⟩
  ·have lk':X.env.scope.names.lookup x=some .local:=lk
   rcases vis with z | z
   ·rw[lk'] at z; cases z
   ·rw[lk'] at z; cases z
  ·have:=sub x c hc
   rw[hc'] at this
   cases this
   exact⟨c,hc,o,old _ _ ho,hd⟩
 ·obtain⟨v,o,ho,hd⟩:=I.cell x c (sub x c e)
  exact⟨v,o,old _ _ ho,hd⟩
 ·show (blkσ m σ).length=Nc.length
  unfold blkσ
  rw[ae]
  exact hm.1
theorem jJK {tf:St->TE}(hc:X.calm=true)(hi:PI X tg iter wi)(hkind:sc.kind= .function)(hcell:∀y∈sc.names,y.2≠ .cell)(hnames:∀y∈sc.names,y.2= .local->sc.names.lookup y.1=some .local)
  (hfree:∀y∈sc.names,y.2= .free->X.env.scope.names.lookup y.1=some .cell\/X.env.scope.names.lookup y.1=some .free) (hm:qE X sc Nc m)
  (hg:∀cl C fp s H,PG (blk X sc cl C Nc fp s H) tg g) (ht:∀cl C fp s H,PTs (blk X sc cl C Nc fp s H) ifs tt) (he:∀cl C fp s H ad σ,Inv X ad σ H s->(∀b∈fp,FpOk X ad H b)->PE (blk X sc cl C Nc fp s H) elt (tf σ))
  (hs:∀x,foldedSetIterable iter X.env x=pure x) {fpos:Pos}{use:Option (Value->Sem Unit)}{R:Value->Shared->Prop}{ad:List (Addr×Obj)}{s:Shared}{σ:St}{H:Hp}{Q:VK}(I:Inv X ad σ H s) (h:tComp m wi g tt (tf σ) σ H Q)
  (fin:∀(D C:Addr) (H5:Hp) (z1:Shared) (r:Flow),(∃mm,z1.heap.Ns C mm)->FpOk X ad H5 C->(∀h',Heap.SameBut C z1.heap h'->Inv X ad σ H5 { z1 with heap:=h'})->Q (.ref D) H5->compPost (model X.prog X.w) X.A X.xe use R (.ref D) C (.ok r) z1):
  wpAny (model X.prog X.w) X.A (comprehension (.ListComp elt [⟨tg,iter,ifs,0⟩] sc pos) sc X.env fpos (newList []) false (eval iter X.env) use) R X.xe s:=by
 have hcl:∀y∈sc.names,y.2= .free->∃c,X.env.cells.lookup y.1=some c:=λy hy hf=>I.ok.has y.1 (hfree y hy hf)
 refine ju (use:=use) rfl hs (jFF hcl) hkind hnames (mI (hi ad s σ H _ I h) λv s1 h1=>mI h1 λitv s2 h2=>?_)
 obtain⟨it,fp,tn,J,H2,e,I2,T,st2,f2,hQ⟩:=h2
 subst e
 have hlt:∀b∈fp,b<s2.heap.objs.size:=λb hb=>by
  obtain⟨o,e,_⟩:=T.obj 0 _ st2 b hb
  exact ay e
 refine cE (wpAny_newFunctionEnv hcell (by intro y hy; simp at hy) (λh₁ hns₁ hsb₁=>?_) hkind)
 have I3:Inv X ad σ (upd H2 s2.heap.objs.size (.lst [])) { s2 with heap:=s2.heap.push { cls:= .type "list",data:= .seq ([]:List Value).toArray}} :=I2.lnew (t':=s2.toks) .nil (bi _)
 obtain⟨W,⟨n0,w0⟩,turn⟩:=hQ s2.heap.objs.size I2.fresh
 have hD3:∀b∈fp,b≠s2.heap.objs.size:=λb hb=>aO (hlt b hb)
 have f3:∀b∈fp,FpOk X ad (upd H2 s2.heap.objs.size (.lst [])) b:=λb hb=>by
  obtain⟨a0,a1⟩:=f2 b hb
  exact⟨by rw[j6 (hD3 b hb)]; exact a0,a1⟩
 generalize hE:({ s2 with heap:=s2.heap.push { cls:= .type "list",data:= .seq ([]:List Value).toArray}} :Shared)=s3 at I3 hns₁ hsb₁ ⊢
 generalize hH3:upd H2 s2.heap.objs.size (.lst [])=H3 at I3 f3 w0
 have hsz3:s3.heap.objs.size=s2.heap.objs.size+1:=by rw[<- hE]; exact bK _ _
 have old:∀b o,s3.heap.get? b=some o->h₁.get? b=some o:=λb o e=>hsb₁.extBut b o (aO (ay e)) (ab _ e)
 have old2:∀b o,s2.heap.get? b=some o->h₁.get? b=some o:=λb o e=>old b o (by rw[<- hE]; exact ab _ e)
 have I4:=jNX (fp:=fp) (tk:=s3.toks+([]:List (Str×Value)).length) I3 hkind hcell hfree hm f3 (λb hb=>show b<s3.heap.objs.size by rw[hsz3]; exact bL (hlt b hb)) hns₁ old
 have st4:tn 0 h₁:=T.keep _ _ _ st2 λb hb o e=>old2 b o e
 have loop:codeAny (model X.prog X.w) X.A (.compLoop (.ListComp elt [⟨tg,iter,ifs,0⟩] sc pos) 0 (.ref it) (.ref s2.heap.objs.size) (compEnvC sc (jF X.env.cells sc.names []) s3.heap.objs.size X.env))
   (compPost (model X.prog X.w) X.A X.xe use R (.ref s2.heap.objs.size) s3.heap.objs.size) { s3 with heap:=h₁,toks:=s3.toks+([]:List (Str×Value)).length} :=by
  generalize hX:blk X sc (jF X.env.cells sc.names []) s3.heap.objs.size Nc fp s3 H3=Xb at I4
  have eP:Xb.prog=X.prog:=by rw[<- hX]; rfl
  have ew:Xb.w=X.w:=by rw[<- hX]; rfl
  have eK:Xb.K=X.K:=by rw[<- hX]; rfl
  have eA:Xb.A=X.A:=by rw[<- hX]; rfl
  have ec:Xb.calm=true:=by rw[<- hX]; exact hc
  have ee:Xb.env=compEnvC sc (jF X.env.cells sc.names []) s3.heap.objs.size X.env:=by rw[<- hX]; rfl
  have ex:Xb.xe=λ_ _=>False:=by rw[<- hX]; rfl
  have hgb:PG Xb tg g:=by rw[<- hX]; exact hg _ _ _ _ _
  have htb:PTs Xb ifs tt:=by rw[<- hX]; exact ht _ _ _ _ _
  have heb:PE Xb elt (tf σ):=by rw[<- hX]; exact he _ _ _ _ _ _ _ I3 f3
  have stat:∀{H':Hp},(∀b∈fp,H' b=none)->∀b∈fp,FpOk Xb [] H' b:=λ{H'} hn b hb=>by
   obtain⟨o,eo,_⟩:=T.obj _ _ st4 b hb
   have q:=I4.ok.exf b (by rw[<- hX]; exact hb)
   exact⟨hn b hb,q.1,I4.ok.exfs b (by rw[<- hX]; exact hb), .inl (by rw[<- hX]; exact hb),q.2,λp hp=>absurd hp (by rw[<- hX]; simp [blk])⟩
  have fr4:∀b∈fp,H3 b=none:=λb hb=>(f3 b hb).1
  unfold PG at hgb
  unfold PTs at htb
  unfold PE at heb
  rw[eP,ew,eA,ee,ex] at hgb htb heb
  refine jEK (λn z=>∃i σ' H' ys,Inv Xb [] σ' H' z/\tn i z.heap/\(∀b∈fp,H' b=none)/\W i n σ' H' ys) ?_ n0 ⟨0,_,H3,[],I4,st4,fr4,w0⟩
  rintro n z ⟨i,σ5,H5,ys,I5,st5,fr5,w5⟩
  obtain⟨hD,hlen,way⟩:=turn i n σ5 H5 ys w5
  rcases way with ⟨stop,q⟩ | ⟨go,N,hN,step⟩
  ·have RR:=T.done Xb eP ew eK ec i [] z σ5 H5 (λ_ _=>False) I5 (stat fr5) st5 stop
   rw[eA] at RR
   refine mI RR λr z1 ⟨hr,I6⟩=>?_
   subst hr
   obtain⟨mm,hn6,_⟩:=I6.loc
   rw[ee] at hn6
   have u6:Un (frs X.stack) fp H3 H5 s3.heap z1.heap:=by
    have:=I6.base
    rw[<- hX] at this
    exact this
   have fC:H5 s3.heap.objs.size=none:=by
    have:=I6.free
    rw[ee] at this
    exact this
   have hok6:HOk X.prog X.w H5 z1.heap:=by
    have:=I6.hok
    rw[eP,ew] at this
    exact this
   have os6:z1.os=s3.os:=by
    have:=I6.os
    rw[<- hX] at this
    exact this
   refine fin s2.heap.objs.size s3.heap.objs.size H5 z1 .next ⟨mm,hn6⟩ (I3.fpOk (aq _) fC) (λh' sb=>?_) q
   refine I3.call' (s':= { z1 with heap:=h'}) (ch:=fp) os6 (u6.sameBut sb (aq _)) (hok6.sameBut sb fC) I6.bare (λb hb=>?_)
   obtain⟨a0,a1,a2,a3,a4,a5⟩:=f3 b hb
   exact⟨a3,a1,a4,a5⟩
  ·have RR:=T.item Xb eP ew eK ec i [] z σ5 H5 (λ_ _=>False) I5 (stat fr5) st5 go
   rw[eA] at RR
   refine mI RR λr z1 ⟨u,hr,h6⟩=>?_
   subst hr
   refine mI h6 λ_ z2 ⟨x,H7,I7,r7,y7,st7,fr7⟩=>?_
   have I7':=I7.pinned (stat fr7) (T.obj _ _ st7)
   refine mI (hgb _ z2 σ5 H7 x u _ I7' r7 (step x H7 y7)) λ_ z3 ⟨σ8,H8,I8,q8⟩=>?_
   refine mI (htb _ z3 σ8 H8 _ I8 q8) λok z4 ⟨H9,I9,q9⟩=>?_
   have again:∀{σ7:St}{Hz:Hp}{zz:Shared}{yy:List V}{n':Nat},Inv Xb ([]++jE9 fp z2.heap) σ7 Hz zz->n'<n->W (i+1) n' σ7 Hz yy->∃k,k<n/\∃i σ' H' ys,Inv Xb [] σ' H' zz/\tn i zz.heap/\(∀b∈fp,H' b=none)/\W i k σ' H' ys:=λ{σ7 Hz zz yy n'} Iz hn wz=>by
    refine⟨n',hn,i+1,σ7,Hz,yy,Iz.unpinned,T.keep _ _ _ st7 λb hb o e=>(Iz.pin (b,o) (az _ (az _ (jAF hb e)))).1,λb hb=>?_,wz⟩
    obtain⟨o,e,d⟩:=T.obj _ _ st7 b hb
    exact(Iz.pin (b,o) (az _ (az _ (jAF hb e)))).2.1
   cases ok with
   | false=>
    obtain⟨n',hn,w9⟩:=hN _ _ _ (show N σ8 H9 ys from q9)
    exact again I9 hn w9
   | true=>
    refine mI (heb _ z4 σ8 H9 _ I9 q9) λxv z5 ⟨vv,H10,I10,r10,hD10,n10⟩=>?_
    obtain⟨n',hn,w10⟩:=hN _ _ _ n10
    have RR:=jAP (X:=Xb) _ z5 σ8 H10 (.ref s2.heap.objs.size) [vv] (.ref s2.heap.objs.size) [xv] (λ_ H'=>H'=upd H10 s2.heap.objs.size (.lst (ys++[vv]))) I10 rfl (.cons r10 .nil) ⟨_,ys,vv,rfl,rfl,hD10,hlen,rfl⟩
    rw[eP,ew,eA,ex] at RR
    refine mI RR λ_ z6 ⟨_,H11,I11,_,e11⟩=>?_
    subst e11
    exact again I11 hn w10
 exact codeAny_compStart_list loop (T.self _ 0 _ _ _ st4 loop)
theorem jHR (hc:X.calm=true)(hi:PI X tg iter wi)(hkind:sc.kind= .function)(hcell:∀y∈sc.names,y.2≠ .cell)(hnames:∀y∈sc.names,y.2= .local->sc.names.lookup y.1=some .local)
  (hfree:∀y∈sc.names,y.2= .free->X.env.scope.names.lookup y.1=some .cell\/X.env.scope.names.lookup y.1=some .free) (hm:qE X sc Nc m)
  (hg:∀cl C fp s H,PG (blk X sc cl C Nc fp s H) tg g) (ht:∀cl C fp s H,PTs (blk X sc cl C Nc fp s H) ifs tt) (he:∀cl C fp s H,PE (blk X sc cl C Nc fp s H) elt te)
  (hs:∀x,foldedSetIterable iter X.env x=pure x:=by intro _; rfl):PE X (.ListComp elt [⟨tg,iter,ifs,0⟩] sc pos) (tComp m wi g tt te):=by
 intro ad s σ H Q I h
 rw[eval_ListComp]
 exact jJK (tf:=λ_=>te) (use:=none) hc hi hkind hcell hnames hfree hm hg ht (λcl C fp s H _ _ _ _=>he cl C fp s H) hs I h (λD C H5 z1 r ⟨mm,hn⟩ fC sb q=>⟨mm,hn,λh' s2=>⟨.ref D,H5,sb h' s2,rfl,q⟩⟩)
end
theorem jT {X:Cx}{sc psc:Scope}(h:(sc.names.all λy=>decide (y.2= .free->psc.names.lookup y.1=some .cell\/psc.names.lookup y.1=some .free))=true:=by decide+kernel)(e:X.env.scope=psc:=by rfl):
  ∀y∈sc.names,y.2= .free->X.env.scope.names.lookup y.1=some .cell\/X.env.scope.names.lookup y.1=some .free:=by
 rw[e]
 intro y hy
 exact aU (cM.mp h y hy)
def jN3 (sc:Scope)(N Nc:List Str)(m:List (Option Nat))(k:Nat):Bool:=match m[k]? with
 | some (some i)=>match Nc[k]? with
  | some x=>decide (N[i]?=some x)&&decide (sc.names.lookup x=some .free)
  | none=>false
 | _=>true
theorem jL {X:Cx}{sc:Scope}{N Nc:List Str}{m:List (Option Nat)}(e:X.N=N)(hl:m.length=Nc.length)(h:((List.range m.length).all (jN3 sc N Nc m))=true):qE X sc Nc m:=by
 refine⟨hl,λk i hk=>?_⟩
 have hlt:k<m.length:=(ax.mp hk).1
 have q:=cM.mp h k (cG.mpr hlt)
 unfold jN3 at q
 rw[hk] at q
 cases e2:Nc[k]? with
 | none=>rw[e2] at q; cases q
 | some x=>
  rw[e2] at q
  have q:(decide (N[i]?=some x)&&decide (sc.names.lookup x=some .free))=true:=q
  rw[eR] at q
  exact⟨x,rfl,by rw[e]; exact aU q.1,aU q.2⟩
section
variable {σ:St}{H1:Hp}{Q:VK}
theorem jC4 {lo:Int}{n:Nat}(hn:n<sizeLine)(Pv:Addr->Nat->St->Hp->List V->Prop)(h0:∀D,H1 D=none->Pv D 0 (blkσ m σ) (upd H1 D (.lst [])) [])
  (hD:∀D i σ' H' ys,H1 D=none->i<=n->Pv D i σ' H' ys->H' D=some (.lst ys)/\ys.length<=i)
  (hs:∀D i σ' H' ys,H1 D=none->i<n->Pv D i σ' H' ys->g (.int (lo+i)) σ' H' λσ2 H2=>tt σ2 H2 λb H3=>if b=true then te σ2 H3 λv H4=>H4 D=some (.lst ys)/\Pv D (i+1) σ2 (upd H4 D (.lst (ys++[v]))) (ys++[v]) else Pv D (i+1) σ2 H3 ys)
  (hd:∀D σ' H' ys,H1 D=none->Pv D n σ' H' ys->Q (.ref D) H'):CompW m g tt te σ Q (Itr lo n) H1:=by
 intro D hDn
 refine⟨λi k σ' H' ys=>k=n - i/\i<=n/\Pv D i σ' H' ys,⟨n,rfl,bi _,h0 D hDn⟩,?_⟩
 rintro i k σ' H' ys ⟨rfl,hi,p⟩
 obtain⟨q1,q2⟩:=hD D i σ' H' ys hDn hi p
 refine⟨q1,by lia,?_⟩
 by_cases hlt:i<n
 ·refine .inr ⟨hlt,Pv D (i+1),λσ2 H2 zs z=>⟨n - (i+1),by lia,rfl,hlt,z⟩,λx H'' y=>?_⟩
  obtain⟨e1,e2⟩:=y
  subst e1 e2
  exact hs D i σ' _ ys hDn hlt p
 ·have e:i=n:=by lia
  subst e
  exact .inl ⟨aq _,hd D σ' H' ys hDn p⟩
end
end L2
end
namespace SS
open PySem PySem.SetTable
abbrev Ris (xs:Array Nat):Prop:=xs.toList.Pairwise (· < ·)
theorem jCA {xs:Array Nat}(h:Ris xs){a b:Nat}(hab:a<b)(hb:b<xs.size):xs.getD a 0<xs.getD b 0:=by
 have h1:a<xs.size:=iG hab hb
 have:=cO.mp h a b (by simpa using h1) (by simpa using hb) hab
 simpa [Array.getD,h1,hb] using this
theorem jSO {xs:Array Nat}{j:Nat}(hr:Ris xs):∀(fuel lo hi:Nat),hi - lo<=fuel->lo<=hi->hi<=xs.size->(∀a,a<lo->xs.getD a 0<j)->(∀a,hi<=a->a<xs.size->j<=xs.getD a 0)->
  (below.go xs j fuel lo hi<=xs.size/\(∀a,a<below.go xs j fuel lo hi->xs.getD a 0<j)/\(∀a,below.go xs j fuel lo hi<=a->a<xs.size->j<=xs.getD a 0)):=by
 intro fuel
 induction fuel with
 | zero=>
  intro lo hi h1 h2 h3 h4 h5
  have e:lo=hi:=by lia
  subst e
  exact⟨h3,h4,h5⟩
 | succ fuel ih=>
  intro lo hi h1 h2 h3 h4 h5
  unfold below.go
  by_cases hlt:lo<hi
  ·rw[am hlt]
   have hm:(lo+hi) / 2<xs.size:=by lia
   have e:xs.getD ((lo+hi) / 2) j=xs.getD ((lo+hi) / 2) 0:=by simp [Array.getD,hm]
   dsimp only
   rw[e]
   by_cases hc:xs.getD ((lo+hi) / 2) 0<j
   ·rw[am hc]
    refine ih _ _ (by lia) (by lia) h3 (λa ha=>?_) h5
    by_cases e2:a=(lo+hi) / 2
    ·rw[e2]; exact hc
    ·exact iG (jCA hr (by lia) hm) hc
   ·rw[aj hc]
    refine ih _ _ (by lia) (by lia) (by lia) h4 (λa ha hs=>?_)
    by_cases e2:a=(lo+hi) / 2
    ·rw[e2]; lia
    ·have:=jCA hr (show (lo+hi) / 2<a by lia) hs
     lia
  ·rw[aj hlt]
   have e:lo=hi:=by lia
   subst e
   exact⟨h3,h4,h5⟩
theorem jEO {xs:Array Nat}(hr:Ris xs)(j:Nat):below xs j<=xs.size/\(∀a,a<below xs j->xs.getD a 0<j)/\(∀a,below xs j<=a->a<xs.size->j<=xs.getD a 0):=
 jSO hr xs.size 0 xs.size (by lia) (bi _) (aq _) (λa h=>absurd h (dQ _)) (λa h1 h2=>absurd h2 (by lia))
theorem jFL {xs:Array Nat}(hr:Ris xs){j i:Nat}(hi:i<=xs.size)(h1:∀a,a<i->xs.getD a 0<j)(h2:∀a,i<=a->a<xs.size->j<=xs.getD a 0):below xs j=i:=by
 obtain⟨b1,b2,b3⟩:=jEO hr j
 rcases Nat.lt_trichotomy (below xs j) i with h | h | h
 ·have q1:=h1 _ h
  have q2:=b3 _ (aq _) (by lia)
  lia
 ·exact h
 ·have q1:=b2 _ h
  have q2:=h2 _ (aq _) (by lia)
  lia
theorem jAI {α:Type}(xs:Array α)(p:Nat)(x:α):(insertAt xs p x).toList=xs.toList.take p++x::xs.toList.drop p:=by
 unfold insertAt
 simp [fo,List.extract]
 rw[bR (by simp)]
theorem jBP {α:Type}(xs:Array α)(p:Nat)(x:α):(insertAt xs p x).size=xs.size+1:=by
 rw[<- aN,jAI]
 simp
 lia
theorem jJU {xs:Array Nat}{j:Nat}(hr:Ris xs)(hj:j∉xs.toList):Ris (insertAt xs (below xs j) j):=by
 obtain⟨b1,b2,b3⟩:=jEO hr j
 show (insertAt xs (below xs j) j).toList.Pairwise (· < ·)
 rw[jAI,bO,cH]
 have hl:∀a∈xs.toList.take (below xs j),a<j:=by
  intro a ha
  obtain⟨i,hi,e⟩:=List.mem_take_iff_getElem.mp ha
  have:=b2 i (by lia)
  have hs:i<xs.size:=by simp at hi; lia
  simp [Array.getD,hs] at this
  simp at e
  lia
 have hg:∀a∈xs.toList.drop (below xs j),j<a:=by
  intro a ha
  obtain⟨i,hi,e⟩:=List.mem_drop_iff_getElem.mp ha
  have hs:i+below xs j<xs.size:=by simpa [kz] using hi
  have:=b3 (i+below xs j) (by lia) hs
  simp [Array.getD,hs] at this
  have e':xs[i+below xs j]=a:=by simpa [kz] using e
  have hne:a≠j:=by
   intro z
   apply hj
   rw[<- z]
   exact cV ha
  lia
 refine⟨hr.sublist (de _ _),⟨hg,hr.sublist (jd _ _)⟩,?_⟩
 intro a ha b hb
 rcases ar.mp hb with rfl | hb
 ·exact hl a ha
 ·exact iG (hl a ha) (hg b hb)
theorem jDO {t:SetTable}{j:Nat}(hr:Ris t.place)(h:t.slot j= .empty):j∉t.place.toList:=by
 intro hm
 obtain⟨i,hi,e⟩:=ge hm
 have hs:i<t.place.size:=by simpa using hi
 have e0:t.place[i]=j:=by simpa using e
 have eb:below t.place j=i:=by
  refine jFL hr (cC hs) (λa ha=>?_) (λa h1 h2=>?_)
  ·have:=jCA hr ha hs
   simp only [Array.getD,hs] at this ⊢
   simp [e0] at this ⊢
   exact this
  ·by_cases e2:a=i
   ·subst e2
    simp [Array.getD,hs,e0]
   ·have:=jCA hr (show i<a by lia) h2
    simp only [Array.getD,hs] at this
    simp [e0] at this
    simp [Array.getD]
    lia
 unfold SetTable.slot at h
 dsimp only at h
 rw[eb] at h
 rw[am (by simp [hs,e0])] at h
 cases h
theorem jI4 (j:Nat):has #[] j=false:=by
 unfold has
 simp
theorem jIR {t:SetTable}(hd:t.dummies=#[]){f:Nat->Int}{h:Int} :∀(fuel:Nat) (p:Probe) (m:Met),p.dummy=none->probe.go t f h fuel p=some m->
  (∃j,m= .empty j none/\t.slot j= .empty)\/(∃j i n,m= .candidate j i n):=by
 intro fuel
 induction fuel with
 | zero=>intro p m _ e; simp [probe.go] at e
 | succ fuel ih=>
  intro p m hp e
  unfold probe.go at e
  cases hs:t.slot p.j with
  | empty=>
   rw[hs] at e
   simp only [jf] at e
   subst e
   exact .inl ⟨p.j,by rw[hp],hs⟩
  | dummy=>
   unfold SetTable.slot at hs
   dsimp only at hs
   rw[hd,jI4] at hs
   split at hs
   ·cases hs
   ·simp at hs
  | live i=>
   rw[hs] at e
   dsimp only at e
   split at e
   ·simp only [jf] at e
    subst e
    exact .inr ⟨_,_,_,rfl⟩
   ·refine ih _ _ ?_ e
    unfold advance
    split
    ·exact hp
    ·exact hp
theorem jFA {t:SetTable}(hr:Ris t.place)(hd:t.dummies=#[]){h:Int}{slot:Nat}{d:Bool}(e:t.freeSlot h=some (slot,d)):slot∉t.place.toList:=by
 unfold SetTable.freeSlot at e
 split at e
 ·rename_i j dummy hp
  simp only [jf,Prod.mk.injEq] at e
  have hp':probe.go t (λ_=>h+1) h (10*turns t.mask) (t.probeStart h)=some (.empty j dummy):=hp
  rcases jIR hd _ _ _ (by unfold probeStart; rfl) hp' with ⟨j',em,hs⟩ | ⟨_,_,_,em⟩
  ·cases em
   have:slot=j:=by rw[<- e.1]; rfl
   rw[this]
   exact jDO hr hs
  ·cases em
 ·cases e
theorem jJT {t:SetTable}{j:Nat}(hd:t.dummies=#[])(h:t.slot j≠ .empty):(∃i,t.slot j= .live i)/\j∈t.place.toList:=by
 unfold SetTable.slot at h ⊢
 dsimp only at h ⊢
 by_cases q:(t.place[below t.place j]?==some j)=true
 ·rw[am q]
  refine⟨⟨_,rfl⟩,?_⟩
  have e:t.place[below t.place j]?=some j:=eq_of_beq q
  obtain⟨hi,e⟩:=Array.getElem?_eq_some_iff.mp e
  rw[<- e]
  exact Array.getElem_mem_toList hi
 ·rw[aj q,hd,jI4] at h
  exact absurd rfl h
theorem run7 (i:Nat):runEnd 7 i=i:=by unfold runEnd; rw[aj (by lia)]
theorem jLL {t:SetTable}(hm:t.mask=7)(hd:t.dummies=#[]){h:Int} :∀(k fuel:Nat) (p:Probe),p.j=p.i->p.more=0->p.i<8->p.perturb<32->k<=fuel->
  probe.go t (λ_=>h+1) h fuel p=none->∀r,r<k->Nat.repeat (λi=>(i*5+1) % 8) r p.i∈t.place.toList:=by
 intro k
 induction k with
 | zero=>intro fuel p _ _ _ _ _ _ r hr; lia
 | succ k ih=>
  intro fuel p h1 h2 h3 h4 h5 h6 r hr
  obtain⟨f,rfl⟩:∃f,fuel=f+1:=⟨fuel - 1,by lia⟩
  unfold probe.go at h6
  by_cases he:t.slot p.j= .empty
  ·rw[he] at h6; cases h6
  ·obtain⟨⟨i,hl⟩,hmem⟩:=jJT hd he
   rw[hl] at h6
   dsimp only at h6
   rw[aj (by simp; lia)] at h6
   have hz:p.perturb / 32=0:=by lia
   have ea:t.advance p= { p with j:=(p.i*5+1) % 8,more:=0,i:=(p.i*5+1) % 8,perturb:=0} :=by
    unfold advance leap
    rw[aj (by lia),hm,hz]
    simp [run7]
   rw[ea] at h6
   cases r with
   | zero=>show p.i∈_; rw[<- h1]; exact hmem
   | succ r=>
    have q:=ih f _ (by rfl) (by rfl) (by show (p.i*5+1) % 8<8; lia) (by show 0<32; lia) (by lia) h6 r (by lia)
    have e:∀(r i:Nat),Nat.repeat (λi=>(i*5+1) % 8) (r+1) i=Nat.repeat (λi=>(i*5+1) % 8) r ((i*5+1) % 8):=by
     intro r
     induction r with
     | zero=>intro i; rfl
     | succ r ihr=>
      intro i
      show ((Nat.repeat _ (r+1) i)*5+1) % 8=((Nat.repeat _ r ((i*5+1) % 8))*5+1) % 8
      rw[ihr]
    rw[e]
    exact q
theorem jO0:∀i,i<8->∀j,j<8->∃r,r<8/\Nat.repeat (λi=>(i*5+1) % 8) r i=j:=by decide+kernel
theorem jF9 {t:SetTable}(hm:t.mask=7)(hd:t.dummies=#[])(hz:t.place.size<8){h:Int}(h0:0<=h)(h1:h<32):∃q,t.freeSlot h=some q:=by
 unfold SetTable.freeSlot
 have hb:bits h<32:=by unfold bits; lia
 have hps:t.probeStart h= { j:=bits h % 8,more:=0,i:=bits h % 8,perturb:=bits h,dummy:=none} :=by
  unfold probeStart
  rw[hm]
  simp [run7]
 cases e:t.probe (λ_=>h+1) h (t.probeStart h) with
 | none=>
  exfalso
  have e':probe.go t (λ_=>h+1) h (10*turns t.mask) (t.probeStart h)=none:=e
  rw[hps] at e'
  have q:=jLL hm hd 8 _ _ (by rfl) (by rfl) (by show bits h % 8<8; lia) (by exact hb) (by rw[hm]; decide) e'
  have sub:List.range 8 ⊆ t.place.toList:=by
   intro j hj
   obtain⟨r,hr,er⟩:=jO0 (bits h % 8) (by lia) j (cG.mp hj)
   rw[<- er]
   exact q r hr
  have:=List.Nodup.length_le_of_subset (List.nodup_range (n:=8)) sub
  simp at this
  lia
 | some m=>
  rcases jIR hd _ _ _ (by rw[hps]) (show probe.go t (λ_=>h+1) h (10*turns t.mask) (t.probeStart h)=some m from e) with ⟨j,rfl,_⟩ | ⟨j,i,n,rfl⟩
  ·exact⟨_,rfl⟩
  ·exfalso
   have nc:∀(fuel:Nat) (p:Probe) (j i:Nat) (n:Probe),probe.go t (λ_=>h+1) h fuel p≠some (.candidate j i n):=by
    intro fuel
    induction fuel with
    | zero=>intro p j i n; simp [probe.go]
    | succ f ih=>
     intro p j i n
     unfold probe.go
     cases t.slot p.j with
     | empty=>simp
     | dummy=>exact ih _ _ _ _
     | live i'=>
      dsimp only
      rw[aj (by simp; lia)]
      exact ih _ _ _ _
   exact nc _ _ _ _ _ e
structure Tab (t:SetTable)(n:Nat)(led:Bool):Prop where
 ris:Ris t.place
 sz:t.place.size=n
 dm:t.dummies=#[]
 msk:t.mask=7
 pl:t.plain=true
 ld:t.led=led
theorem Tab.fits {t:SetTable}{n:Nat}{led:Bool}(T:Tab t n led)(hn:n<=4):t.fits n=true:=by
 unfold SetTable.fits fill
 simp [T.sz,T.dm,T.msk]
 lia
theorem Tab.full {t:SetTable}{n:Nat}{led:Bool}(T:Tab t n led)(hn:n<=4):t.tooFull=false:=by
 unfold tooFull fill
 simp [T.sz,T.dm,T.msk]
 lia
theorem jL2 (led:Bool):Tab (fresh 0 0 led) 0 led:=⟨List.Pairwise.nil,rfl,rfl,rfl,rfl,rfl⟩
theorem jK4 {t:SetTable}{n:Nat}{led:Bool}(T:Tab t n led)(hn:n+1<=4)(es:Array (Int×Value))(he:es.size=n){h:Int}(h0:0<=h)(h1:h<32)(x:Value):
  Tab (layNew t es h x).2.1 (n+1) led/\∃p,(layNew t es h x).1.toList=es.toList.take p++(h,x)::es.toList.drop p:=by
 obtain⟨⟨slot,d⟩,hf⟩:=jF9 T.msk T.dm (by rw[T.sz]; lia) h0 h1
 unfold layNew
 rw[hf]
 dsimp only [SetTable.put]
 have hnm:=jFA T.ris T.dm hf
 have T2:Tab { t with place:=insertAt t.place (below t.place slot) slot,dummies:=if has t.dummies slot then eraseAt t.dummies (below t.dummies slot) else t.dummies} (n+1) led:=by
  refine⟨jJU T.ris hnm,by rw[jBP,T.sz],?_,T.msk,T.pl,T.ld⟩
  rw[T.dm,jI4]
  rfl
 refine⟨?_,_,jAI _ _ _⟩
 unfold SetTable.orStandIn
 rw[jBP,he,T2.fits hn]
 exact T2
def jIN (xs:Array Nat):Nat->Nat
 | 0=>0
 | i+1=>xs.getD i 0+1
theorem jHA {xs:Array Nat}(hr:Ris xs){i:Nat}(hi:i<=xs.size):below xs (jIN xs i)=i:=by
 cases i with
 | zero=>exact jFL hr (bi _) (λa h=>absurd h (dQ _)) (λa _ _=>bi _)
 | succ i=>
  refine jFL hr hi (λa ha=>?_) (λa h1 h2=>?_)
  ·show _<xs.getD i 0+1
   by_cases e:a=i
   ·rw[e]; lia
   ·have:=jCA hr (show a<i by lia) (show i<xs.size by lia)
    lia
  ·show xs.getD i 0+1<=_
   exact jCA hr (show i<a by lia) h2
theorem jKC {α:Type}{l:List α}{i:Nat}(h:i<l.length):(l[i]::l.eraseIdx i).Perm l:=by
 rw[List.eraseIdx_eq_take_drop_succ]
 have e:l=l.take i++l[i]::l.drop (i+1):=by rw[<- ja h,bx]
 conv=>rhs; rw[e]
 exact List.perm_middle.symm
theorem jRL {α:Type}(next:Nat->Nat):∀(fuel k:Nat) (left:List α) (out:Array α),fuel=left.length->(pickOrder.go next fuel k left out).toList.Perm (out.toList++left):=by
 intro fuel
 induction fuel with
 | zero=>
  intro k left out h
  have:left=[]:=kh.mp h.symm
  subst this
  simp [pickOrder.go]
 | succ f ih=>
  intro k left out h
  have hl:next k % left.length<left.length:=Nat.mod_lt _ (by lia)
  unfold pickOrder.go
  rw[aK hl]
  dsimp only
  refine(ih _ _ _ (by rw[List.length_eraseIdx_of_lt hl]; lia)).trans ?_
  rw[eB,aZ]
  exact dv _ (jKC hl)
theorem jGA {α:Type}(next:Nat->Nat)(xs:Array α):(pickOrder next xs).toList.Perm xs.toList:=by
 unfold pickOrder
 have:=jRL next xs.size 0 xs.toList #[] (by simp)
 simpa using this
end SS
namespace SS
open PySem
abbrev ledW (w:World):Bool:=!(w.params.followText "set-order")
def El (e:Int×Value)(k:Int):Prop:=e.1=hashInt k/\∃t,e.2= .int k t
theorem jBJ {α β:Type}{F:α->β->Prop} :∀{l:List α}{r:List β},Paired F l r->∀a∈l,∃b∈r,F a b
 | _,_, .nil=>λa h=>by cases h
 | _,_, .cons f t=>λa h=>by
  rcases ar.mp h with rfl | h
  ·exact⟨_,ag,f⟩
  ·obtain⟨b,hb,q⟩:=jBJ t a h
   exact⟨b,ah _ hb,q⟩
theorem jCS {α β:Type}{F:α->β->Prop} :∀{l:List α}{r:List β},Paired F l r->∀b∈r,∃a∈l,F a b
 | _,_, .nil=>λa h=>by cases h
 | _,_, .cons f t=>λb h=>by
  rcases ar.mp h with rfl | h
  ·exact⟨_,ag,f⟩
  ·obtain⟨a,ha,q⟩:=jCS t b h
   exact⟨a,ah _ ha,q⟩
theorem jEA {α β:Type}{F:α->β->Prop}{a:α}{b:β}(f:F a b):∀{l:List α}{r:List β}(p:Nat),Paired F l r->Paired F (l.take p++a::l.drop p) (r.take p++b::r.drop p)
 | _,_,0,q=>by simpa using Paired.cons f q
 | _,_,p+1, .nil=>by simpa using Paired.cons f .nil
 | _,_,p+1, .cons g t=>by
  simp only [mh,List.drop_succ_cons,List.cons_append]
  exact .cons g (jEA f p t)
theorem jRC {α:Type}(l:List α)(p:Nat)(x z:α):z∈l.take p++x::l.drop p↔z=x\/z∈l:=by
 conv=>rhs; rw[<- bx p l]
 simp only [aL,ar]
 constructor
 ·rintro (h | h | h)
  ·exact .inr (.inl h)
  ·exact .inl h
  ·exact .inr (.inr h)
 ·rintro (h | h | h)
  ·exact .inr (.inl h)
  ·exact .inl h
  ·exact .inr (.inr h)
theorem jEV {α:Type}(l:List α)(p:Nat)(x:α):(l.take p++x::l.drop p).Perm (x::l):=by
 have h:(l.take p++x::l.drop p).Perm (x::(l.take p++l.drop p)):=List.perm_middle
 rw[bx] at h
 exact h
structure SetG (w:World)(h:Heap)(a:Addr)(ks:List Int):Prop where
 ex:∃o es ep t,h.get? a=some o/\o.ExactSet/\o.data= .set es ep t/\Paired El es.toList ks/\Tab t es.size (ledW w)
 nd:ks.Nodup
 len:ks.length<=4
variable {prog:Program}{w:World}{A:Around}{E:Value->Shared->Prop}{s:Shared}{a:Addr}
section
variable {ks:List Int}{k:Int}{tk:Tok}
theorem elems {es:List (Int×Value)}(h:Paired El es ks):ElemsOf (intKind prog w) es:=λe he=>by
 obtain⟨k,_,h1,t,h2⟩:=jBJ h e he
 rw[h2]
 exact⟨⟨k,by show Value.isInt k (.int k t)=true; simp [Value.isInt],h1⟩,rfl⟩
theorem SetG.at {h h':Heap}(S:SetG w h a ks)(e:∀o,h.get? a=some o->h'.get? a=some o):SetG w h' a ks:=by
 obtain⟨⟨o,es,ep,t,ho,r⟩,nd,len⟩:=S
 exact⟨⟨o,es,ep,t,e _ ho,r⟩,nd,len⟩
theorem jC1 (k0:0<=k)(k1:k<32):hashInt k=k:=by
 obtain⟨n,rfl⟩:=Int.eq_ofNat_of_zero_le k0
 have e:∀n:Nat,n<32->hashInt (n:Int)=(n:Int):=by decide+kernel
 exact e n (by lia)
theorem jVK {Q:Bool->Shared->Prop}(S:SetG w s.heap a ks)(hl:ks.length+1<=4)(k0:0<=k)(k1:k<32)
  (h:∀b h' ks',Heap.SameBut a s.heap h'->SetG w h' a ks'->(∀z,z∈ks'↔z=k\/z∈ks)->ks'.length<=ks.length+1->Q b { s with heap:=h'}):
  wpAny (model prog w) A (setAddHashed a (.int k tk) (hashInt k)) Q E s:=by
 obtain⟨o,es,ep,t,ho,hex,hd,hp,T⟩:=id S.ex
 have hn:es.size=ks.length:=by rw[<- aN]; exact g8 hp
 have hf:=T.fits (by lia)
 have hel:ElemsOf (intKind prog w) es.toList:=elems hp
 have hb:es.size<scanBound:=by unfold scanBound; lia
 have hi:∀(j:Int) (t:Tok),Value.isInt k (.int j t)=true->j=k:=λj t e=>by simpa [Value.isInt] using e
 unfold setAddHashed setAddHashedIn
 refine bE (aa (dL ho hd hf ?_))
 dsimp only
 rw[byScan_of (knd:=intKind prog w) rfl hb hel,am rfl]
 unfold setAddByScan
 refine aa (aa (cP (aa ?_)))
 refine wpAny_setScan_of (knd:=intKind prog w) (k:=k) (by show Value.isInt k (.int k tk)=true; simp [Value.isInt]) ho hd hf hel ?_
 have es0:s= { s with heap:=s.heap} :=by cases s; rfl
 cases hr:List.findIdx? (λe=>(intKind prog w).is k e.2) es.toList with
 | some j=>
  obtain⟨hj,hpj,_⟩:=List.findIdx?_eq_some_iff_getElem.mp hr
  obtain⟨k',hk',_,t',e'⟩:=jBJ hp _ (dz hj)
  have hkk:k'=k:=hi k' t' (by rw[<- e']; exact hpj)
  subst hkk
  refine ai (ai ?_)
  rw[es0]
  exact h false s.heap ks (jg a s.heap) S (λz=>⟨.inr,λq=>q.elim (λe=>e ▸ hk') id⟩) (by lia)
 | none=>
  have hnk:k∉ks:=λhm=>by
   obtain⟨e,he,_,t',e'⟩:=jCS hp k hm
   have q:=List.findIdx?_eq_none_iff.mp hr e he
   rw[e'] at q
   have q':Value.isInt k (.int k t')=false:=q
   simp [Value.isInt] at q'
  obtain⟨T1,p,hp1⟩:=jK4 T (by lia) es rfl (h:=hashInt k) (by rw[jC1 k0 k1]; exact k0) (by rw[jC1 k0 k1]; exact k1) (.int k tk)
  dsimp only
  show wpAny _ A (match layNew t es (hashInt k) (Value.int k tk) with | (es,t,wasDummy,gave)=>_) _ E s
  generalize layNew t es (hashInt k) (Value.int k tk)=L at T1 hp1 ⊢
  obtain⟨es1,t1,wd,gv⟩:=L
  dsimp only at T1 hp1 ⊢
  have hp2:Paired El es1.toList (ks.take p++k::ks.drop p):=by
   rw[hp1]
   exact jEA ⟨rfl,tk,rfl⟩ p hp
  have hz1:es1.size=es.size+1:=by
   rw[<- aN,hp1,(jEV es.toList p (hashInt k,Value.int k tk)).length_eq]
   simp
  have hlen:(ks.take p++k::ks.drop p).length=ks.length+1:=(jEV ks p k).length_eq
  have T1':Tab t1 es1.size (ledW w):=by rw[hz1]; exact T1
  have hg:(s.heap.update a (Obj.putSet es1 t1)).get? a=some { o with data:= .set es1 (ep+1) t1} :=by
   have q:=cR (Obj.putSet es1 t1) ho (by rw[putSet_of es1 t1 hd]; rfl)
   rw[putSet_of es1 t1 hd] at q
   exact q
  have fin:Q true { s with heap:=s.heap.update a (Obj.putSet es1 t1)} :=
   h true _ _ (iB ..) ⟨⟨_,es1,ep+1,t1,hg,hex,rfl,hp2,T1'⟩,(jEV ks p k).nodup_iff.mpr (bJ.mpr ⟨hnk,S.nd⟩),by lia⟩ (λz=>jRC ks p k z) (by lia)
  have hfull:t1.tooFull=false:=T1'.full (by lia)
  refine aa (show wpAny _ A (match gv with | true=>rule "set.scan.the-table-gave-way" | false=>pure ()) _ E s from ?_)
  have hzl:es1.size<=sizeLine:=by rw[hz1,show sizeLine=2 ^ 24 from rfl]; lia
  cases gv with
  | true=>
   refine cP ?_
   split
   all_goals
    refine aa (show wpAny _ A (pure true:Sem Bool) _ E s from ai ?_)
    simp only [fH]
    refine aa (wpAny_storeSet_of ho hd ?_ hzl)
    rw[hfull,gG,aj aA]
    exact ai (ai fin)
  | false=>
   refine ai ?_
   split
   all_goals
    refine aa (show wpAny _ A (pure true:Sem Bool) _ E s from ai ?_)
    simp only [fH]
    refine aa (wpAny_storeSet_of ho hd ?_ hzl)
    rw[hfull,gG,aj aA]
    exact ai (ai fin)
end
theorem jBF:entryFor table "set.update.loop" =some Builtin.«set.update.loop»:=entryFor_of_fast (by kernel_rfl)
theorem jAL:plainId "set.update.loop" =true:=by decide+kernel
variable {I:Addr}
section
variable {R:Result->Shared->Prop}{fp wr:List Addr}{n:Nat}{P:Nat->Value->Prop}{St:Nat->Shared->Prop}
theorem jO7 (W:WalksS prog w A.in1 I fp wr (λa b=>b=a) n P St)(S:Addr)(hSf:S∉fp)(val:Nat->Int)(hval:∀i v,P i v->∃t,v= .int (val i) t)(hv:∀i,i<n->0<=val i/\val i<32)(hn:n<=4):
  ∀(k i:Nat) (s:Shared) (ks:List Int),n - i=k->i<=n->St i s->SetG w s.heap S ks->ks.length<=i->(∀z,z∈ks↔∃j,j<i/\val j=z)->
   (∀s' ks',Moved (S::wr) (λa b=>b=a) s s'->SetG w s'.heap S ks'->(∀z,z∈ks'↔∃j,j<n/\val j=z)->R (.ok (.ret .none)) s')->
   codeAny (model prog w) A (.builtin "set.update.loop" ⟨[.ref S, .ref I],[]⟩) R s:=by
 have hSw:S∉wr:=λh=>hSf (W.sub _ h)
 have sub1:∀b∈wr,b∈S::wr:=λb hb=>ah _ hb
 intro k
 induction k with
 | zero=>
  intro i s ks hk hi hst hS hl hm hR
  obtain rfl:i=n:=by lia
  refine cL jBF ?_
  rw[bY jAL _]
  show wpAny _ A.in1 (pyNext (.ref I) >>= _) _ _ s
  refine aa (W.done s _ _ hst λs' mv=>?_)
  show wpAny _ A.in1 (ret Value.none) _ _ s'
  exact ai (hR s' ks (mv.mono sub1) (hS.at λo e=>mv.heap S o hSw e) hm)
 | succ k ih=>
  intro i s ks hk hi hst hS hl hm hR
  have hlt:i<n:=by lia
  refine cL jBF ?_
  rw[bY jAL _]
  show wpAny _ A.in1 (pyNext (.ref I) >>= _) _ _ s
  refine aa (W.item i s _ _ hlt hst λv s' hP hst' mv=>?_)
  obtain⟨t,rfl⟩:=hval i v hP
  have hS':=hS.at (h':=s'.heap) λo e=>mv.heap S o hSw e
  show wpAny _ A.in1 (holding [Value.int (val i) t] (setAdd S (.int (val i) t)) >>= _) _ _ s'
  refine aa (bE ?_)
  unfold setAdd
  refine bE (aa (wpAny_pyHash_int ?_))
  refine jVK (s:= { s' with toks:=s'.toks+1}) hS' (by lia) (hv i hlt).1 (hv i hlt).2 λb h' ks' sb hS2 hm2 hl2=>?_
  refine ai ⟨dW jAL _,ih (i+1) _ ks' (by lia) hlt (W.frame _ s' _ _ hst' (jh _) λb hb o e=>?_) hS2 (by lia) (λz=>?_) λs'' ks'' mv2 hS3 hm3=>?_⟩
  ·rw[sb.2 b (λh:b=S=>hSf (by rw[<- h]; exact hb))]
   exact e
  ·rw[hm2,hm]
   constructor
   ·rintro (h | ⟨j,hj,e⟩)
    ·exact⟨i,by lia,h.symm⟩
    ·exact⟨j,by lia,e⟩
   ·rintro ⟨j,hj,e⟩
    by_cases hji:j=i
    ·exact .inl (by rw[<- e,hji])
    ·exact .inr ⟨j,by lia,e⟩
  ·refine hR s'' ks'' (Moved.trans W.gtrans ((mv.mono sub1).then_heap (jh _) λb o hb e=>?_) mv2) hS3 hm3
   rw[sb.2 b (λh:b=S=>hb (by rw[h]; exact ag))]
   exact e
end
section
theorem jS9 (a:Value){Q:Value->Shared->Prop}
  (h:Q (.ref s.heap.objs.size) { s with heap:=s.heap.push { cls:= .type "set",dict:=none,data:= .set #[] 0 (.fresh 0 0 (ledW w))}}):
  codeAny (model prog w) A (.call (.builtin "set.__new__") ⟨[.type "set",a],[]⟩) (wants Q E) s:=by
 refine codeAny_of_tree (show wpAny _ A.in1 (do checkBuiltinCall "set.__new__" ⟨[.type "set",a],[]⟩; again (.builtin "set.__new__" ⟨[.type "set",a],[]⟩)) _ _ s from ?_)
 refine aa (lU (F.newCall_set_1 a) (ai ⟨dW F.plain_set_new _,cL F.entry_set_new ?_⟩))
 rw[bY F.plain_set_new _]
 unfold Builtin.«set.__new__» Builtin.Frozenset.newClass
 have q:=sub_set_self
 obtain⟨hp,g,d,tk,os⟩:=s
 dsimp only
 wp_walk
 refine fN (ai ?_)
 dsimp only
 simp only [newObj]
 exact aa (wpAny_alloc (ai (ai h)))
set_option maxHeartbeats 3200000 in
theorem set_of_list {l:Addr}{items:Array Value}{ns:List Int}{Q:Value->Shared->Prop}(hh:A.handled=none)(hl:s.heap.IsList l items)(hi:PyProof.Rows.IntsAre items.toList ns)
  (hn:items.size<=4) (hv:∀z∈ns,0<=z/\z<32)
  (h:∀(h':Heap) (tk:Nat) (ks:List Int),SetG w h' s.heap.objs.size ks->(∀z,z∈ks↔z∈ns)->(∀b o,s.heap.get? b=some o->h'.get? b=some o)->Q (.ref s.heap.objs.size) { s with heap:=h',toks:=tk}):
  wpAny (model prog w) A (call (.type "set") [.ref l]) Q E s:=by
 obtain⟨c,tl,hmro⟩:=F.called_set.mro
 have hmade:=F.called_set.made
 have hsub:=F.called_set.sub
 have g1:=F.called_set.notType
 have g2:=F.called_set.canCreate
 have g3:=F.typeCall_set_1 (.ref l)
 refine iT (codeAny_of_tree (show wpAny _ _ (callAny (.type "set") _) _ _ _ from ?_))
 refine ai ⟨Code.quiet_builtin _ (by decide+kernel),cL F.entry_type_call ?_⟩
 rw[Around.under_plain (weight_type_call_type "set" [.ref l] []) rfl]
 repeat (any_goals (first | assumption | wp_step))
 have hlen:items.size=ns.length:=by rw[<- aN]; exact hi.length
 refine ev (jS9 (.ref l) (E:=E) (Q:=λobj z=>obj= .ref s.heap.objs.size/\z= { s with heap:=s.heap.push { cls:= .type "set",dict:=none,data:= .set #[] 0 (.fresh 0 0 (ledW w))}}) ⟨rfl,rfl⟩) λr z hr=>?_
 cases r with
 | error e=>exact hr
 | ok fl=>
  cases fl with
  | ret obj=>
   obtain⟨rfl,rfl⟩:=hr
   generalize hO:({ cls:= .type "set",dict:=none,data:= .set #[] 0 (.fresh 0 0 (ledW w))} :Obj)=oS
   have hS:(s.heap.push oS).get? s.heap.objs.size=some oS:=ao _ (by rw[<- hO]; rfl)
   have hT:Shared.TypeIs { s with heap:=s.heap.push oS} (.ref s.heap.objs.size) "set" :=⟨_,hS,by rw[<- hO]⟩
   have hli:=F.called_set.init.lookup
   have hbi:=F.called_set.init.bind (.ref s.heap.objs.size)
   repeat (any_goals (first | assumption | wp_step))
   refine ev (codeAny_call_builtin (R:=wants (λr z2=>r= .none/\∃h' tk ks,z2= { s with heap:=h',toks:=tk} /\SetG w h' s.heap.objs.size ks/\(∀z,z∈ks↔z∈ns)/\(∀b o,s.heap.get? b=some o->h'.get? b=some o)) E)
    F.called_set.init.plain F.entry_set_init (check_set_init_1 hT ?_)) λr2 z2 hr2=>?_
   ·obtain⟨ol,hol,hcl,nl,hdl⟩:=hl
    obtain⟨ocls,odict,odata,oslots⟩:=ol
    simp only at hcl hdl
    subst hcl; subst hdl
    have hol':(s.heap.push oS).get? l=some { cls:= .type "list",dict:=odict,data:= .seq items nl,slots:=oslots} :=ab _ hol
    have y1:=F.sub_list_set
    have y2:=F.sub_list_frozenset
    have y3:(Value.type "list" ==Value.type "dict")=false:=by decide
    have hl1:(s.heap.push oS).IsList l items:=⟨_,hol',rfl,nl,rfl⟩
    subst hO
    unfold Builtin.«set.__init__» noKeywords Builtin.Frozenset.updateFrom
    generalize hPI:pyIter=PI
    wp_walk
    subst hPI
    refine cQ hl1 (aa (lV ?_))
    have hlS:l<s.heap.objs.size:=ay hol
    have hz1:(s.heap.push { cls:= .type "set",dict:=none,data:= .set #[] 0 (.fresh 0 0 (ledW w))}).objs.size=s.heap.objs.size+1:=bK _ _
    have nI:l≠(s.heap.push { cls:= .type "set",dict:=none,data:= .set #[] 0 (.fresh 0 0 (ledW w))}).objs.size:=by
     rw[hz1]
     exact aO (bL hlS)
    have nS:s.heap.objs.size∉ [(s.heap.push { cls:= .type "set",dict:=none,data:= .set #[] 0 (.fresh 0 0 (ledW w))}).objs.size,l]:=by
     rw[hz1]
     simp only [ar,bC,dG,mH]
     exact⟨aO (fO _),cD hlS⟩
    have hget:((s.heap.push { cls:= .type "set",dict:=none,data:= .set #[] 0 (.fresh 0 0 (ledW w))}).push { cls:= .type "list_iterator",data:= .fields #[.ref l, .int 0 0]}).get? s.heap.objs.size
      =some { cls:= .type "set",dict:=none,data:= .set #[] 0 (.fresh 0 0 (ledW w))} :=ab _ hS
    refine jO7 ((iW (by simp [hh]) _ l nI items).toS) s.heap.objs.size nS (λi=>ns.getD i 0) (λi v q=>PyProof.Rows.IntsAre.int_at hi i v (by rw[bG]; exact q))
     (λi q=>hv _ ?_) hn (items.size - 0) 0 _ [] rfl (bi _) ⟨⟨_,ao _ rfl,rfl,rfl⟩,hl1.push _⟩ ⟨⟨_,#[],0,_,hget,⟨rfl,rfl,rfl⟩,rfl, .nil,jL2 _⟩,eS,bi _⟩ (aq _) (λz=>⟨λq=>by(cases q),λ⟨j,q,_⟩=>absurd q (dQ _)⟩) ?_
    ·have q':i<ns.length:=by rw[<- hlen]; exact q
     simp [List.getD,q']
    ·intro s' ks mv S' hm
     obtain⟨h',g',d',tk',os'⟩:=s'
     have e1:g'=s.gens:=mv.gens
     have e2:d'=s.drawn:=mv.drawn
     have e3:os'=s.os:=mv.os
     subst e1; subst e2; subst e3
     refine ai (ai ⟨rfl,h',tk',ks,rfl,S',λz=>?_,λb o e=>?_⟩)
     ·rw[hm]
      constructor
      ·rintro ⟨j,hj,e⟩
       have hj':j<ns.length:=by rw[<- hlen]; exact hj
       rw[<- e]
       simp [List.getD,hj']
      ·intro hz
       obtain⟨j,hj,e⟩:=ge hz
       exact⟨j,by rw[hlen]; exact hj,by simp [List.getD,hj,e]⟩
     ·have hb:=ay e
      refine mv.heap b o ?_ (ab _ (ab _ e))
      rw[hz1]
      simp only [ar,bC,dG,mH]
      exact⟨aO hb,aO (bL hb)⟩
   ·cases r2 with
    | error e=>exact hr2
    | ok fl2=>
     cases fl2 with
     | ret r=>
      obtain⟨rfl,h',tk,ks,rfl,hS',hm,hk⟩:=hr2
      repeat (any_goals (first | assumption | wp_step))
      exact h _ _ _ hS' hm hk
     | _=>exact hr2.elim
  | _=>exact hr.elim
end
theorem slot_si_next:Slot "set_iterator" "__next__" "set_iterator.__next__" :=
 .of (owner:= "set_iterator") (n:= "__next__") (by
   rw[ly,gU]
   kernel_rfl) (by decide+kernel) (by decide+kernel)
  (by decide+kernel)
  (by first
   | exact .inl (by decide+kernel)
   | exact .inr (by decide+kernel))
  (by
   rw[lW]
   kernel_rfl)
theorem jCN:Slot "set_iterator" "__iter__" "set_iterator.__iter__" :=
 .of (owner:= "set_iterator") (n:= "__iter__") (by
   rw[ly,gU]
   kernel_rfl) (by decide+kernel) (by decide+kernel)
  (by decide+kernel)
  (by first
   | exact .inl (by decide+kernel)
   | exact .inr (by decide+kernel))
  (by
   rw[lW]
   kernel_rfl)
theorem jC3:entryFor table "set_iterator.__next__" =some Builtin.«set_iterator.__next__»:=entryFor_of_tree (by kernel_rfl)
theorem jE4:entryFor table "set.__iter__" =some Builtin.«frozenset.__iter__»:=
 lX (id':= "frozenset.__iter__") (by kernel_rfl) rfl (by decide+kernel) (by kernel_rfl)
theorem jFC:entryFor table "set_iterator.__iter__" =some Builtin.«dict_keyiterator.__iter__»:=
 lX (id':= "dict_keyiterator.__iter__") (by kernel_rfl) (by first | rfl | decide+kernel | (unfold String.splitOn; simp+decide [String.splitOnAux])) (by decide+kernel)
  (by kernel_rfl)
theorem jCV (a:Value):argsOk "set_iterator.__next__" ⟨[a],[]⟩:=by unfold argsOk; kernel_rfl
theorem jHB (a:Value):argsOk "set_iterator.__iter__" ⟨[a],[]⟩:=by unfold argsOk; kernel_rfl
theorem jFM (a:Value):argsOk "set.__iter__" ⟨[a],[]⟩:=by unfold argsOk; kernel_rfl
abbrev byTxt (w:World):Bool:=w.params.followText "set-order"
abbrev IsSI (h:Heap)(I:Addr)(slot i:Nat)(a:Addr)(n ep:Nat):Prop:=
 h.get? I=some { cls:= .type "set_iterator",dict:=none,data:= .fields #[rawInt slot,rawInt i, .ref a,rawInt n,rawInt ep],slots:=#[]}
def yX (w:World)(t:SetTable)(i:Nat):Nat:=if byTxt w=true then 0 else jIN t.place i
noncomputable def told (w:World)(a:Addr)(ep:Nat)(es:Array (Int×Value)):List Value:=(if byTxt w=true then (pickOrder (w.params.setOrder a ep) es).toList else es.toList).map (·.2)
theorem jAW (w:World)(a:Addr)(ep:Nat)(es:Array (Int×Value)):(told w a ep es).length=es.size:=by
 unfold told
 rw[ae]
 split
 ·rw[(jGA _ es).length_eq]; simp
 ·simp
theorem jKZ (w:World)(a:Addr)(ep:Nat)(es:Array (Int×Value)):(told w a ep es).Perm (es.toList.map (·.2)):=by
 unfold told
 split
 ·exact(jGA _ es).map _
 ·exact .refl _
variable {o:Obj}{es:Array (Int×Value)}{ep:Nat}{t:SetTable}
theorem jLY {i:Nat}{Q:Option (Value×Nat)->Shared->Prop}(ho:s.heap.get? a=some o)(hd:o.data= .set es ep t)(T:Tab t es.size (ledW w))(hn:es.size<=4)(hi:i<=es.size)
  (h:Q ((told w a ep es)[i]?.map λv=>(v,yX w t (i+1))) s):wpAny (model prog w) A (setNext a (yX w t i) i ep) Q E s:=by
 unfold setNext
 refine aa (dL ho hd (T.fits hn) ?_)
 dsimp only
 unfold setsByText
 refine aa (aa (fN (ai ?_)))
 show wpAny _ A (if byTxt w=true then _ else _) Q E s
 have hl:=jAW w a ep es
 by_cases hb:byTxt w=true
 ·rw[am hb,aj (by simp)]
  unfold setWalk
  refine aa (aa (dL ho hd (T.fits hn) ?_))
  dsimp only
  unfold setsByText
  refine aa (aa (fN (ai ?_)))
  show wpAny _ A (if byTxt w=true then _ else _) _ E s
  rw[am hb]
  refine aa (fN (ai (ai ?_)))
  have e:(told w a ep es)[i]?.map (λv=>(v,yX w t (i+1)))=(pickOrder (w.params.setOrder a ep) es)[i]?.map (λe=>(e.snd,yX w t i)):=by
   unfold told yX
   rw[am hb,am hb,am hb,aJ,bG,Option.map_map]
   rfl
  rw[e] at h
  exact h
 ·rw[aj hb]
  have hb':byTxt w=false:=by simpa using hb
  have hld:t.led=true:=by rw[T.ld]; show (!byTxt w)=true; rw[hb']; rfl
  show wpAny _ A (if (!t.plain&&decide (es.size>1))=true then _ else _) Q E s
  rw[T.pl,mj,iQ,aj aA]
  refine aa ?_
  show wpAny _ A (if (!t.led&&!es.isEmpty)=true then _ else pure ()) _ E s
  rw[hld,mj,iQ,aj aA]
  refine ai (ai ?_)
  have eb:SetTable.below t.place (yX w t i)=i:=by
   unfold yX
   rw[aj hb]
   exact jHA T.ris (by rw[T.sz]; exact hi)
  rw[eb]
  have et:(told w a ep es)[i]?=es[i]?.map (·.2):=by
   unfold told
   rw[aj hb,aJ,bG]
  rw[et] at h
  by_cases hlt:i<es.size
  ·have h1:es[i]?=some es[i]:=by simp [hlt]
   have hlt2:i<t.place.size:=by rw[T.sz]; exact hlt
   have h2:t.place[i]?=some t.place[i]:=by simp [hlt2]
   have h3:yX w t (i+1)=t.place[i]+1:=by
    unfold yX jIN
    rw[aj hb]
    simp [Array.getD,hlt2]
   rw[h1,h3] at h
   rw[h1,h2]
   exact h
  ·have h1:es[i]?=none:=by simp; lia
   rw[h1] at h
   rw[h1]
   exact h
theorem jG5 {i:Nat}{v:Value}{Q:Option Value->Shared->Prop}(ho:s.heap.get? a=some o)(hd:o.data= .set es ep t)(T:Tab t es.size (ledW w))(hn:es.size<=4)
  (hit:IsSI s.heap I (yX w t i) i a es.size ep) (hv:(told w a ep es)[i]?=some v)
  (hQ:∀h',IsSI h' I (yX w t (i+1)) (i+1) a es.size ep->Heap.SameBut I s.heap h'->Q (some v) { s with heap:=h'}):wpAny (model prog w) A (pyNext (.ref I)) Q E s:=by
 have hT:s.TypeIs (.ref I) "set_iterator" :=⟨_,hit,rfl⟩
 have hi:i<es.size:=by
  rw[<- jAW w a ep es]
  exact(ax.mp hv).1
 unfold pyNext
 refine aa (dF (cg (name:=Str.ofString "__next__") hT slot_si_next (bV slot_si_next hT jC3 ?_ (jCV _))))
 unfold Builtin.«set_iterator.__next__»
 refine aa (m:=slotArgs "__next__" 0 _) (ai ?_)
 dsimp only
 unfold fieldsOf
 refine aa (aa (iP hit ?_))
 refine ai ?_
 dsimp only [rawInt]
 unfold setEntries
 refine aa (aa (dL ho hd (T.fits hn) (ai ?_)))
 rw[aj (by simp)]
 simp only [br]
 refine aa (jLY ho hd T hn (cC hi) ?_)
 rw[hv]
 dsimp only [Option.map]
 refine aa (bN hit (by simp) λh1 hit1 sb1=>?_)
 refine aa (bN hit1 (by simp) λh2 hit2 sb2=>?_)
 refine ai ⟨v,rfl,ai (hQ h2 ?_ (sb1.trans sb2))⟩
 show h2.get? I=_
 rw[hit2]
 simp [rawInt]
theorem jHN {Q:Option Value->Shared->Prop}(hh:A.handled=none)(ho:s.heap.get? a=some o)(hd:o.data= .set es ep t)(T:Tab t es.size (ledW w))(hn:es.size<=4)
  (hit:IsSI s.heap I (yX w t es.size) es.size a es.size ep)
  (hQ:∀h',Heap.ExtBut I s.heap h'->Q none { s with heap:=h'}):wpAny (model prog w) A (pyNext (.ref I)) Q E s:=by
 have hT:s.TypeIs (.ref I) "set_iterator" :=⟨_,hit,rfl⟩
 unfold pyNext
 refine aa (dF (cg (name:=Str.ofString "__next__") hT slot_si_next (bV slot_si_next hT jC3 ?_ (jCV _))))
 unfold Builtin.«set_iterator.__next__»
 refine aa (m:=slotArgs "__next__" 0 _) (ai ?_)
 dsimp only
 unfold fieldsOf
 refine aa (aa (iP hit ?_))
 refine ai ?_
 dsimp only [rawInt]
 unfold setEntries
 refine aa (aa (dL ho hd (T.fits hn) (ai ?_)))
 rw[aj (by simp)]
 simp only [br]
 refine aa (jLY ho hd T hn (aq _) ?_)
 rw[cc (by rw[jAW]; exact aq _)]
 dsimp only [Option.map]
 refine aa (bN hit (by simp) λh1 hit1 sb1=>?_)
 refine aa ?_
 simp only [newExc,newTuple]
 refine aa (cE ?_ (by size_fits))
 refine aa (m:=firstArgMember _ _) (lU (a:=Value.none) (by first | rfl | (simp only [firstArgMember]; rfl)) ?_)
 refine cE ?_ (by size_fits)
 simp only [raiseNew]
 refine aa (wpAny_handled ?_)
 rw[show A.in1.handled=none from hh]
 refine aa (ai (wpAny_throw ?_))
 refine aa (g0 (T:= "StopIteration") (b:=true) ⟨_,ao _ rfl,rfl⟩ lY ?_)
 exact ai (hQ _ ((sb1.extBut.push _).push _))
theorem jR4 {i:Nat}{slot n:Nat}{Q:Value->Shared->Prop}(hit:IsSI s.heap I slot i a n ep)(h:Q (.ref I) s):wpAny (model prog w) A (pyIter (.ref I)) Q E s:=by
 have hT:s.TypeIs (.ref I) "set_iterator" :=⟨_,hit,rfl⟩
 refine ji hT jCN (bV jCN hT jFC ?_ (jHB _))
 show wpAny _ _ (ret (.ref I)) _ _ s
 exact ai ⟨_,rfl,"set_iterator",_,hT,slot_si_next.lookup,h⟩
theorem jOB {Q:Value->Shared->Prop}(hx:o.ExactSet)(ho:s.heap.get? a=some o)(hd:o.data= .set es ep t)(T:Tab t es.size (ledW w))(hn:es.size<=4)
  (hQ:∀h',h'.get? s.heap.objs.size=some { cls:= .type "set_iterator",dict:=none,data:= .fields #[rawInt (yX w t 0),rawInt 0, .ref a,rawInt es.size,rawInt ep],slots:=#[]} ->(∀b u,s.heap.get? b=some u->h'.get? b=some u)->
   h'.objs.size=s.heap.objs.size+1->Q (.ref s.heap.objs.size) { s with heap:=h'}):wpAny (model prog w) A (pyIter (.ref a)) Q E s:=by
 have hT:s.TypeIs (.ref a) "set" :=⟨o,ho,hx.1⟩
 refine ji hT lI (bV lI hT jE4 ?_ (jFM _))
 unfold Builtin.«frozenset.__iter__»
 refine aa (show wpAny _ _ (pure a:Sem Addr) _ _ s from ai ?_)
 unfold Builtin.Frozenset.sizeOf setEntries
 refine aa (aa (aa (dL ho hd (T.fits hn) (ai (ai ?_)))))
 dsimp only
 unfold setDrawn
 refine aa (aa (dL ho hd (T.fits hn) ?_))
 dsimp only
 unfold setsByText
 refine aa (aa (fN (ai (ai ?_))))
 show wpAny _ _ (if (!byTxt w&&(!t.plain&&decide (es.size>1)))=true then _ else _) _ _ s
 rw[T.pl,mj,iQ,gG,aj aA]
 refine aa (ai ?_)
 refine aa (wpAny_setEpoch_of ho hd (T.fits hn) ?_)
 refine aa (cE (ai ⟨_,rfl,"set_iterator",_,⟨_,ao _ rfl,rfl⟩,slot_si_next.lookup,hQ _ ?_ (λb u e=>ab _ e) (bK _ _)⟩) (by size_fits))
 have e0:yX w t 0=0:=by unfold yX jIN; split <;> rfl
 rw[e0]
 exact ao _ rfl
theorem jKP (hh:A.handled=none)(hne:a≠I)(hd:o.data= .set es ep t)(T:Tab t es.size (ledW w))(hn:es.size<=4):
  Walks prog w A I [I,a] [I] es.size (λi v=>(told w a ep es)[i]?=some v) (λi h=>IsSI h I (yX w t i) i a es.size ep/\h.get? a=some o) where
 sub:=λb hb=>by simp at hb; simp [hb]
 frame:=λ_ _ _ st hk=>⟨hk I (by simp) _ st.1,hk a (by simp) _ st.2⟩
 item:=λi s Q E hi st hQ=>by
  obtain⟨v,hv⟩:∃v,(told w a ep es)[i]?=some v:=⟨_,aK (by rw[jAW]; exact hi)⟩
  exact jG5 st.2 hd T hn st.1 hv λh' hit' sb=>hQ v h' s.toks hv ⟨hit',(sb.2 a hne).trans st.2⟩ λb o hb e=>(sb.2 b (λz=>hb (by simp [z]))).trans e
 done:=λs Q E st hQ=>jHN hh st.2 hd T hn st.1 λh' eb=>hQ h' s.toks λb o hb e=>eb b o (λz=>hb (by simp [z])) e
 self:=λ_ _ _ _ st hQ=>jR4 st.1 hQ
theorem jG3:typeLookup (.type "set") "__len__" =pure (some (.builtin "set.__len__")):=by rw[ly,gU]; kernel_rfl
theorem jPB {Q:Bool->Shared->Prop}(hT:s.TypeIs (.ref a) "set")(h:Q false s):wpAny (model prog w) A (Builtin.List.listLengthHint (.ref a)) Q E s:=by
 unfold Builtin.List.listLengthHint
 refine aa (lz hT jG3 ?_)
 generalize hid:("set.__len__" :String)=id0
 wp_delta
 rw[show splitId id0=some ("set","__len__") from by subst hid; decide+kernel]
 subst hid
 refine aa (g0 (b:=true) hT (by rw[lW]; kernel_rfl) ?_)
 refine wpAny_ite_split (λq=>absurd q (by decide)) (λ_=>?_)
 refine wpAny_ite_split (λ_=>?_) (λq=>absurd (by decide+kernel) q)
 exact aa (wpAny_typeOf hT (ai h))
theorem jIA {Q:List Value->Shared->Prop}(hh:A.handled=none)(hx:o.ExactSet)(ho:s.heap.get? a=some o)(hd:o.data= .set es ep t)(T:Tab t es.size (ledW w))(hn:es.size<=4)
  (hQ:∀s',(∀b u,s.heap.get? b=some u->s'.heap.get? b=some u)->s'.gens=s.gens->s'.drawn=s.drawn->s'.os=s.os->s.heap.objs.size<s'.heap.objs.size->Q (told w a ep es) s'):wpAny (model prog w) A (collect (.ref a)) Q E s:=by
 have ha:a<s.heap.objs.size:=ay ho
 have hSa:s.heap.objs.size≠a:=cD ha
 unfold collect
 refine aa (lV (cL PySem.F.entry_proto_collect ?_))
 rw[bY iH _]
 show wpAny _ A.in1 (newList [] >>= λl=>again (.builtin "list.__iadd__" ⟨[l, .ref a],[]⟩)) _ _ s
 refine aa (cE (ai ⟨dW eU _,cL PySem.F.entry_list_iadd ?_⟩))
 rw[bY eU _]
 generalize hE:({ s with heap:=s.heap.push { cls:= .type "list",dict:=none,data:= .seq ([]:List Value).toArray}} :Shared)=s1
 have ho1:s1.heap.get? a=some o:=by rw[<- hE]; exact ab _ ho
 have hL1:s1.heap.get? s.heap.objs.size=some { cls:= .type "list",dict:=none,data:= .seq ([]:List Value).toArray} :=by rw[<- hE]; exact ao _ rfl
 have hz1:s1.heap.objs.size=s.heap.objs.size+1:=by rw[<- hE]; exact bK _ _
 have hT1:s1.TypeIs (.ref a) "set" :=⟨o,ho1,hx.1⟩
 show wpAny _ A.in1 (Builtin.List.listExtendWith (.ref s.heap.objs.size) (.ref a) (.ref s.heap.objs.size)) _ _ _
 unfold Builtin.List.listExtendWith
 refine aa (wpAny_typeOf hT1 ?_)
 have q1:Builtin.List.listSameRef (.ref s.heap.objs.size) (.ref a)=false:=by simp [Builtin.List.listSameRef,hSa]
 rw[aj (by rw[q1]; decide)]
 refine aa (jOB hx ho1 hd T hn λh2 hI2 k2 z2=>?_)
 refine aa (bE ?_)
 have ho2:h2.get? a=some o:=k2 _ _ ho1
 have hT2:Shared.TypeIs { s1 with heap:=h2} (.ref a) "set" :=⟨o,ho2,hx.1⟩
 have hL2:=k2 _ _ hL1
 refine jPB hT2 ?_
 rw[am (by decide+kernel)]
 refine aa (cP ?_)
 have hne:s.heap.objs.size≠s1.heap.objs.size:=by lia
 refine aa ?_
 show wpAny _ A.in1 (updateSeq s.heap.objs.size (·.push .none) >>= λ_=>updateSeq s.heap.objs.size (·.pop)) _ _ _
 refine aa (gn hL2 rfl ?_)
 have hL3:=cR (Obj.mapSeq (·.push Value.none)) hL2 rfl
 refine gn hL3 rfl ?_
 have hL4:=cR (Obj.mapSeq (·.pop)) hL3 rfl
 have oth:∀b u,b≠s.heap.objs.size->h2.get? b=some u->((h2.update s.heap.objs.size (Obj.mapSeq (·.push Value.none))).update s.heap.objs.size (Obj.mapSeq (·.pop))).get? b=some u:=
  λb u hb e=>(bb _ _ (dq hb)).trans ((bb _ _ (dq hb)).trans e)
 have W:=(jKP (prog:=prog) (A:=A.in1) (a:=a) (I:=s1.heap.objs.size) hh (aO (show a<s1.heap.objs.size by rw[hz1]; exact bL ha)) hd T hn).toS
 have z24:es.size<=sizeLine:=by rw[show sizeLine=2 ^ 24 from rfl]; lia
 refine ai ⟨dW PySem.F.plain_extend_loop _,codeAny_extend_loopS W z24 s.heap.objs.size (by simp [hne,hSa]) _ es.size 0 _ _ _ rfl (bi _) ⟨oth _ _ (dq hne) hI2,oth _ _ (dq hSa) ho2⟩ hL4 (ItemsOf.nil _) λs' acc' c' hm hS' hacc=>?_⟩
 show wpAny _ A (load s.heap.objs.size >>= _) _ _ s'
 refine aa (iP hS' ?_)
 have eacc:acc'.toList=told w a ep es:=by
  apply jk
  intro i
  by_cases hi:i<es.size
  ·have hi':i<acc'.size:=by rw[hacc.1]; exact hi
   have:=hacc.2 i acc'[i] (by simp [hi'])
   rw[this]
   simp [hi']
  ·rw[cc (by rw[aN,hacc.1]; lia),cc (by rw[jAW]; lia)]
 refine ai ?_
 rw[eacc]
 refine hQ s' (λb u e=>?_) ?_ ?_ ?_ (ay hS')
 ·have hb:b≠s.heap.objs.size:=aO (ay e)
  have hb1:b≠s1.heap.objs.size:=aO (show b<s1.heap.objs.size by rw[hz1]; exact bL (ay e))
  exact hm.heap b u (by simp [hb,hb1]) (oth b u hb (k2 b u (by rw[<- hE]; exact ab _ e)))
 ·have:=hm.gens; rw[<- hE] at this; exact this
 ·have:=hm.drawn; rw[<- hE] at this; exact this
 ·have:=hm.os; rw[<- hE] at this; exact this
end SS
namespace SS
open PySem PyProof.Rows
section
variable {prog:Program}{w:World}{A:Around}{E:Value->Shared->Prop}{s:Shared}{a:Addr}{ks:List Int}
theorem jMX:∀{vs:List Value}{ks:List Int},Paired (λv k=>∃t,v=Value.int k t) vs ks->IntsAre vs ks
 | _,_, .nil=> .nil
 | _,_, .cons ⟨t,e⟩ r=>by subst e; exact .cons _ t (jMX r)
theorem jEB {es:List (Int×Value)} :∀{ks:List Int},Paired El es ks->Paired (λv k=>∃t,v=Value.int k t) (es.map (·.2)) ks
 | _, .nil=> .nil
 | _, .cons ⟨_,q⟩ r=> .cons q (jEB r)
theorem jHS {α β:Type}{F:α->β->Prop}{l l':List α}(p:l'.Perm l):∀{r:List β},Paired F l r->∃r',Paired F l' r'/\r'.Perm r:=by
 induction p with
 | nil=>intro r h; cases h; exact⟨[], .nil, .nil⟩
 | cons x _ ih=>
  intro r h
  cases h with
  | cons f t=>
   obtain⟨r',h1,h2⟩:=ih t
   exact⟨_::r', .cons f h1,h2.cons _⟩
 | swap x y l=>
  intro r h
  cases h with
  | cons f t=>
   cases t with
   | cons g t=>exact⟨_, .cons g (.cons f t), .swap _ _ _⟩
 | trans _ _ ih1 ih2=>
  intro r h
  obtain⟨r1,h1,h2⟩:=ih2 h
  obtain⟨r2,h3,h4⟩:=ih1 h1
  exact⟨r2,h3,h4.trans h2⟩
theorem sorted_set {Q:Value->Shared->Prop}(hh:A.handled=none)(S:SetG w s.heap a ks)
  (h:∀(s':Shared) (l:Addr) (vs:List Value) (ns:List Int) (e:Nat),s.heap.objs.size<=l->(∀b u,s.heap.get? b=some u->s'.heap.get? b=some u)->s'.gens=s.gens->s'.drawn=s.drawn->s'.os=s.os->
   s'.heap.get? l=some { cls:= .type "list",data:= .seq vs.toArray e} ->IntsAre vs ns->ns.Perm ks->ns.Pairwise (· <= ·)->Q (.ref l) s'):
  wpAny (model prog w) A (call (.builtin "sorted") [.ref a]) Q E s:=by
 obtain⟨o,es,ep,t,ho,hex,hd,hp,T⟩:=S.ex
 have hn:es.size<=4:=by
  have:=g8 hp
  rw[aN] at this
  have:=S.len
  lia
 refine gc jl iI iJ (args_sorted1 _) ?_
 unfold Builtin.«sorted»
 refine aa (m:=checkCount "sorted" 1 1 _) (ai ?_)
 refine aa (jIA (A:=A.in1) hh hex ho hd T hn λs1 k1 g1 d1 o1 z1=>?_)
 refine aa (fg ?_ (by rw[jAW,show sizeLine=2 ^ 24 from rfl]; lia))
 obtain⟨ks1,hp1,pm1⟩:=jHS (jKZ w a ep es) (jEB hp)
 have hI:=jMX hp1
 have hl:(told w a ep es).length<64:=by rw[jAW]; lia
 have hL:(s1.heap.push (seqObj "list" (told w a ep es).toArray 0)).get? s1.heap.objs.size=some (seqObj "list" (told w a ep es).toArray 0):=ao _ rfl
 show wpAny _ _ _ _ _ { s1 with heap:=s1.heap.push (seqObj "list" (told w a ep es).toArray 0)}
 refine aa (bE (bV gH ⟨_,hL,rfl⟩ gq (list_sort_tree hL hI hl λout ns' a1 a2 a3=>⟨_,rfl,?_⟩) (args_list_sort _)))
 obtain⟨e,he⟩:=jw (out:=out) hL
 have kept:∀b u,s.heap.get? b=some u->(sortedHeap (s1.heap.push (seqObj "list" (told w a ep es).toArray 0)) s1.heap.objs.size (told w a ep es) out).get? b=some u:=λb u q=>by
  have q1:=k1 b u q
  have hb:b<s1.heap.objs.size:=ay q1
  rw[iX (aO hb) (by rw[g5]; exact bL hb)]
  exact ab _ q1
 generalize sortedHeap (s1.heap.push (seqObj "list" (told w a ep es).toArray 0)) s1.heap.objs.size (told w a ep es) out=hf at he kept ⊢
 exact ai ⟨_,rfl,h { s1 with heap:=hf} s1.heap.objs.size out.toList ns' e (cC z1) kept g1 d1 o1 (by rw[cX]; exact he) a1 (a2.trans pm1) a3⟩
end
end SS
namespace L2
open PySem PySem.Spec PyProof.Rows
variable {es xs:List Expr}{env:Env}{a b:Expr}{pos:Pos}
section
variable {ys:List Expr}
theorem y0 {op:Operator} :starEach (.BinOp a op b pos::es) env=(false,eval (.BinOp a op b pos) env)::starEach es env:=rfl
theorem se_un {op:UnaryOp} :starEach (.UnaryOp op a pos::es) env=(false,eval (.UnaryOp op a pos) env)::starEach es env:=rfl
theorem jQ2 {ops:List CmpOp} :starEach (.Compare a ops xs pos::es) env=(false,eval (.Compare a ops xs pos) env)::starEach es env:=rfl
theorem jH {kw:List Keyword} :starEach (.Call a xs kw pos::es) env=(false,eval (.Call a xs kw pos) env)::starEach es env:=rfl
theorem yF:starEach (.Subscript a b pos::es) env=(false,eval (.Subscript a b pos) env)::starEach es env:=rfl
theorem jP {gs sc} :starEach (.ListComp a gs sc pos::es) env=(false,eval (.ListComp a gs sc pos) env)::starEach es env:=rfl
theorem yQ {x1} :starEach (.Tuple xs x1 pos::es) env=(false,eval (.Tuple xs x1 pos) env)::starEach es env:=rfl
theorem jLF:starEach (.List xs pos::es) env=(false,eval (.List xs pos) env)::starEach es env:=rfl
theorem jG {c k} :starEach (.Constant c k pos::es) env=(false,eval (.Constant c k pos) env)::starEach es env:=rfl
theorem j4 {x:Str} :starEach (.Name x pos::es) env=(false,eval (.Name x pos) env)::starEach es env:=rfl
end
variable {X:Cx}
def CDivL (i j:Int):Prop:=0<j/\j<2 ^ 64
theorem jIW:OpR X (binaryOp .FloorDiv) (rI CDivL λi j=> .int (i / j)):=opI λi j _ _ _ _ _ hc q=>by
 have h1:(0:Int)<j:=hc.1
 have h2:j<2 ^ 64:=hc.2
 refine floordiv_int (by lia) (by rw[iR i (by lia)]; exact q) (.inl (PyProof.noPylong_of_log2 ?_))
 have h3:j.natAbs<2 ^ 64:=by lia
 have h4:j.natAbs≠0:=by lia
 have:=(Nat.log2_lt h4).mpr h3
 lia
theorem jZ:y9 X (.builtin "isinstance") (λxs H Q=>∃x T t b,xs=[x, .ty T]/\TyOf X.K H x t/\kitOne X.K t (.type T)=some b/\Q (.bl b) H):=by
 intro ad s σ H xs us Q I r h
 obtain⟨x,T,t,b,rfl,ty,e,q⟩:=h
 obtain⟨u,v,rfl,ru,rv⟩:=r.two
 cases rv
 exact jMV I ru ty e λtk=>⟨.bl b,H,I.tok tk,rfl,q⟩
def jR8:V->List V->Hp->VK->Prop:=λx vs H Q=>∃l xs i y,x= .ref l/\vs=[.int i,y]/\H l=some (.lst xs)/\0<=i/\i<=xs.length/\xs.length<sizeLine/\Q .non (upd H l (.lst (xs.take i.toNat++y::xs.drop i.toNat)))
theorem Vals.put {y:V}{v:Value}(r:RelV y v){xs:List V}{us:List Value}(h:Vals xs us)(k:Nat):Vals (xs.take k++y::xs.drop k) (us.take k++v::us.drop k):=(h.take k).append (.cons r (h.drop k))
theorem jM2:MtM X "list.insert" jR8:=by
 intro ad s σ H x vs v us Q I rx rv h
 obtain⟨l,xs,i,y,rfl,rfl,hH,h0,h1,hz,q⟩:=h
 cases rx
 obtain⟨a,b,rfl,ra,rb⟩:=rv.two
 obtain⟨t,rfl⟩:=ra
 obtain⟨z,its,n,r,hl,e⟩:=I.lstM hH
 have line:=jEF
 have hf:Builtin.List.listFitsIndex i=true:=fitsIndex_both (by lia) (by lia)
 refine gY F.slot_list_insert ⟨_,e,rfl⟩ F.entry_list_insert (F.args_list_insert_3 _ _ _) (AutoSeq1.list_insert_list_int_val_1 l its.toArray n i t b (by simp [hf]) (by rw[aG]; lia)) ⟨e,?_⟩
 refine⟨.non,_,I.lset (its':=its.take i.toNat++b::its.drop i.toNat) hH e ?_ (Vals.put rb r i.toNat) ?_,rfl,q⟩
 ·have hk:(if i<0 then (i+(its.toArray.size:Int)).toNat else min i.toNat its.toArray.size)=i.toNat:=by
   rw[aj (by lia),aG]
   lia
  show (its.toArray.extract 0 (if i<0 then (i+(its.toArray.size:Int)).toNat else min i.toNat its.toArray.size)).push b++its.toArray.extract (if i<0 then (i+(its.toArray.size:Int)).toNat else min i.toNat its.toArray.size)=_
  rw[hk]
  apply Array.ext'
  simp [eg,bR]
 ·rw[aF,aP,bM,gX]
  lia
def rEqE (K:W.Frag):R2:=λx y H Q=>∃p q xs,x= .ref p/\y= .ref q/\SqT K H p xs/\SqT K H q []/\Q (.bl (decide (xs=[]))) H
theorem jUF (hu:X.A.units<cLine):OpR X (compareOp .Eq) (rEqE X.K):=by
 intro ad s σ H x y v u Q I rx ry h
 obtain⟨p,q,xs,rfl,rfl,hp,hq,k⟩:=h
 cases rx
 cases ry
 obtain⟨its,r,t1,_⟩:=I.tuple hp
 obtain⟨its2,r2,t2,_⟩:=I.tuple hq
 have e2:its2=[]:=r2.zero
 subst e2
 refine SeqAt.eq_tupleAt (e:=λ_=>true) (show s.heap.IsTuple p its.toArray from t1) (show s.heap.IsTuple q ([]:List Value).toArray from t2) hu (λj h1 h2=>absurd h2 (by simp)) ⟨.bl _,H,I,rfl,?_⟩
 have hl:=r.length
 have e:((List.range (min its.toArray.size ([]:List Value).toArray.size)).all (λ_=>true)&&its.toArray.size==([]:List Value).toArray.size)=decide (xs=[]):=by
  cases xs with
  | nil=>
   have:its=[]:=by simpa using hl.symm
   subst this
   rfl
  | cons a b=>
   have:its.length≠0:=by rw[<- hl]; simp
   simp [this]
 rw[e]
 exact k
theorem jNT (hc:X.calm=true):y9 X (.builtin "all") (λxs H Q=>∃(p:Addr) (bs:List Bool),xs=[.ref p]/\SqL X.K H p (bs.map V.bl)/\Q (.bl (bs.all id)) H):=by
 intro ad s σ H xs us Q I r h
 obtain⟨p,bs,rfl,hq,q⟩:=h
 obtain⟨u,rfl,rx⟩:=r.one
 cases rx
 obtain⟨its,r',pl,hz⟩:=I.list hq
 have hlen:=r'.length
 rw[ae] at hlen
 refine call_all_walk (cQ pl.isList ?_)
 have hne:p≠s.heap.objs.size:=by
  obtain⟨o,ho,_⟩:=pl.isList
  exact aO (ay ho)
 refine⟨s.heap.objs.size,_,_,_,_,_,λi=>bs.getD i true,rfl,iW (by simpa using I.ok.hd hc) _ p hne its.toArray,⟨⟨_,ao _ rfl,rfl,rfl⟩,pl.isList.push _⟩,λi v z Q' E' hP hQ'=>?_,λh' tk hk=>?_⟩
 ·have hi:its[i]?=some v:=by simpa using hP
  have hb:i<bs.length:=by
   rw[hlen]
   exact(ax.mp hi).1
  obtain⟨u,hu,ru⟩:=r'.get (i:=i) (x:= .bl (bs[i])) (by simp [hb])
  rw[hi] at hu
  cases hu
  cases ru
  have e:bs.getD i true=bs[i]:=by simp [List.getD,hb]
  have hQ2:Q' (bs.getD i true) z:=hQ'
  rw[e] at hQ2
  exact ai hQ2
 ·have e:(List.range its.toArray.size).all (λi=>bs.getD i true)=bs.all id:=by
   rw[aG,<- hlen]
   rw[dO,cM,cM]
   constructor
   ·intro a b hb
    obtain⟨i,hi,rfl⟩:=ge hb
    have:=a i (cG.mpr hi)
    simpa [List.getD,hi] using this
   ·intro a i hi
    have hi:=cG.mp hi
    have:=a bs[i] (dz hi)
    simpa [List.getD,hi] using this
  rw[e]
  exact⟨.bl _,H,I.kept (t':=tk) λb o e=>hk b o (by
   intro z
   have z:b=s.heap.objs.size:=by simpa using z
   exact absurd (ay e) (by rw[z]; exact b8 _)) (ab _ e),rfl,q⟩
def jDT (n:Nat):List V:=(List.range n).map λ(i:Nat)=>V.int (i:Int)
theorem jJN {n:Nat}{acc:Array Value}(h:ItemsOf (λi v=>∃t,v=Value.int (0+(i:Int)*1) t) acc n):Vals (jDT n) acc.toList:=by
 have key:∀(l:List Value) (k:Nat),(∀j v,l[j]?=some v->∃t,v=Value.int ((k+j:Nat):Int) t)->Vals ((List.range' k l.length).map λ(i:Nat)=>V.int (i:Int)) l:=by
  intro l
  induction l with
  | nil=>intro k _; exact .nil
  | cons v l ih=>
   intro k hk
   rw[aP,List.range'_succ,aX]
   refine .cons ?_ (ih (k+1) λj u hj=>?_)
   ·obtain⟨t,e⟩:=hk 0 v rfl
    exact⟨t,by simpa using e⟩
   ·obtain⟨t,e⟩:=hk (j+1) u (by simpa using hj)
    exact⟨t,by rw[e]; congr 1; lia⟩
 have:=key acc.toList 0 λj v hj=>by
  obtain⟨t,e⟩:=h.2 j v (by simpa using hj)
  exact⟨t,by rw[e]; congr 1; lia⟩
 rw[aN,h.1] at this
 unfold jDT
 rw[List.range_eq_range']
 exact this
theorem jID:y9 X (.type "range") (λxs H Q=>∃j:Int,xs=[.int j]/\∀p,H p=none->Q (.ref p) (upd H p (.rng 0 j))):=by
 intro ad s σ H xs us Q I r h
 obtain⟨j,rfl,q⟩:=h
 obtain⟨u,rfl,t,rfl⟩:=r.one
 refine call_range_1 ⟨.ref s.heap.objs.size,_,I.laid (o:= .rng 0 j) (λb o e=>ab _ e) (aq _) ?_,rfl,q _ I.fresh⟩
 exact⟨_,_,_,ao _ rfl⟩
theorem jGX (hc:X.calm=true):y9 X (.type "list") (λxs H Q=>∃p j,xs=[.ref p]/\H p=some (.rng 0 j)/\0<=j/\j<=1000/\∀l,H l=none->Q (.ref l) (upd H l (.lst (jDT j.toNat)))):=by
 intro ad s σ H xs us Q I r h
 obtain⟨p,j,rfl,hp,h0,h1,q⟩:=h
 obtain⟨u,rfl,rx⟩:=r.one
 cases rx
 obtain⟨t,u,v,e⟩:=I.hok p _ hp
 have en:Builtin.Range.rangeSize 0 j 1=(j.toNat:Int):=by
  rw[rangeSize_one]
  split <;> lia
 refine call_list_range (I.ok.hd hc) (show IsRange s.heap p 0 j 1 t u v from e) (small_one (by lia) (by lia) (by lia) (by lia)) en (by lia) λh' tk acc' c' kp hS hacc=>?_
 refine⟨.ref s.heap.objs.size,_,I.laid (t':=tk) (o:= .lst (jDT j.toNat)) kp (aq _) ?_,rfl,q _ I.fresh⟩
 refine⟨?_,acc'.toList,c',jJN hacc,by rw[cX]; exact hS⟩
 unfold jDT
 rw[ae,bW,fm]
 lia
def SetO (w:World)(a:Addr)(ks:List Int):HO:= .ext λh=>SS.SetG w h a ks
theorem jFR {ns:List Int} :∀{us:List Value},Vals (ns.map V.int) us->IntsAre us ns:=by
 induction ns with
 | nil=>intro us h; cases h; exact .nil
 | cons n ns ih=>
  intro us h
  cases h with
  | cons r t=>
   obtain⟨k,rfl⟩:=r
   exact .cons n k (ih t)
theorem jAB:∀{us:List Value}{ns:List Int},IntsAre us ns->Vals (ns.map V.int) us
 | _,_, .nil=> .nil
 | _,_, .cons n t r=> .cons ⟨t,rfl⟩ (jAB r)
theorem jNN (hc:X.calm=true):y9 X (.type "set") (λxs H Q=>∃(p:Addr) (ns:List Int),xs=[.ref p]/\SqL X.K H p (ns.map V.int)/\ns.length<=4/\(∀z∈ns,0<=z/\z<32)/\
  ∀(l:Addr) (ks:List Int),H l=none->(∀z,z∈ks↔z∈ns)->Q (.ref l) (upd H l (SetO X.w l ks))):=by
 intro ad s σ H xs us Q I r h
 obtain⟨p,ns,rfl,hq,hl,hv,q⟩:=h
 obtain⟨u,rfl,rx⟩:=r.one
 cases rx
 obtain⟨its,r',pl,hz⟩:=I.list hq
 have hlen:=r'.length
 rw[ae] at hlen
 refine SS.set_of_list (I.ok.hd hc) pl.isList (jFR r') (by rw[aG]; lia) hv λh' tk ks S hm kp=>?_
 have hg:∃o,h'.get? s.heap.objs.size=some o:=let ⟨o,_,_,_,e,_⟩:=S.ex; ⟨o,e⟩
 exact⟨.ref s.heap.objs.size,_,I.laid (t':=tk) (o:=SetO X.w s.heap.objs.size ks) kp (aq _) ⟨S,hg,λh1 h2 a b=>a.at b⟩,rfl,q _ ks I.fresh hm⟩
theorem jE5 (hc:X.calm=true):y9 X (.builtin "sorted") (λxs H Q=>∃(p:Addr) (ks:List Int),xs=[.ref p]/\H p=some (SetO X.w p ks)/\
  ∀(l:Addr) (ns:List Int),H l=none->ns.Pairwise (· < ·)->(∀z,z∈ns↔z∈ks)->Q (.ref l) (upd H l (.lst (ns.map V.int)))):=by
 intro ad s σ H xs us Q I r h
 obtain⟨p,ks,rfl,hp,q⟩:=h
 obtain⟨u,rfl,rx⟩:=r.one
 cases rx
 obtain⟨S,_,_⟩:=I.hok p _ hp
 refine SS.sorted_set (I.ok.hd hc) S λs' l vs ns e hl kp g d o he hi pm srt=>?_
 obtain⟨h',g',d',t',o'⟩:=s'
 have g:g'=s.gens:=g
 have o:o'=s.os:=o
 have d:d'=s.drawn:=d
 subst g; subst o; subst d
 have nd:ns.Nodup:=pm.nodup_iff.mpr S.nd
 have lt:ns.Pairwise (· < ·):=by
  have:=gI srt nd
  exact this.imp λ{a b} ⟨x,y⟩=>by lia
 have hz:(ns.map V.int).length<=sizeLine:=by
  rw[ae,pm.length_eq,fm]
  have:=S.len
  lia
 have I2:Inv X ad σ (upd H l (.lst (ns.map V.int))) { s with heap:=h',toks:=t'} :=I.laid (t':=t') kp hl ⟨hz,vs,e,jAB hi,he⟩
 exact⟨.ref l,_,I2,rfl,q l ns (I.hok.fresh hl) lt λz=>pm.mem_iff⟩
variable {p2:Pos}
section
variable {p1 p3 p4 p5 p6 p7:Pos}{k1 k2 k3 k4:Nat}
theorem jRR {i j r:Int}(hj:0<=j)(hj2:j<=1000000)(hi:i.natAbs<2 ^ 64)(e:i ^ j.toNat=r):PE X (.BinOp (.Constant (.int i) k2 p2) .Pow (.Constant (.int j) k3 p3) p4) (tC (.int r)):=λad s σ H Q I h=>
 (kD (X:=X) jLS jK jK) ad s σ H Q I ⟨_,_,rfl,rfl,⟨hj,hj2,hi⟩,by subst e; exact h⟩
theorem jRS {a b:Expr}{i j r:Int}(ha:PE X a (tC (.int i)))(hb:PE X b (tC (.int j)))(hc:CMul i j)(e:i*j=r):PE X (.BinOp a .Mult b p1) (tC (.int r)):=λad s σ H Q I h=>
 (kD (X:=X) jCT ha hb) ad s σ H Q I ⟨_,_,rfl,rfl,hc,by subst e; exact h⟩
theorem jRV {a b:Expr}{i j r:Int}(ha:PE X a (tC (.int i)))(hb:PE X b (tC (.int j)))(e:i+j=r):PE X (.BinOp a .Add b p1) (tC (.int r)):=λad s σ H Q I h=>
 (kD (X:=X) kP ha hb) ad s σ H Q I ⟨_,_,rfl,rfl,by subst e; exact h⟩
theorem jUB:PE X (.BinOp (.BinOp (.Constant (.int 2) k1 p1) .Mult (.BinOp (.Constant (.int 10) k2 p2) .Pow (.Constant (.int 12) k3 p3) p4) p5) .Add (.Constant (.int 1) k4 p6) p7) (tC (.int 2000000000001)):=
 jRV (i:=2000000000000) (jRS (j:=1000000000000) jK (jRR (by decide) (by decide) (by decide) (by decide)) (.inl ⟨by decide,by decide⟩) (by decide)) jK (by decide)
end
def ItAt (tp:Bool)(h:Heap)(it a:Addr)(i:Nat):Prop:=match tp with
 | false=>h.IsListIter it a i
 | true=>h.IsTupleIter it a i
def ObAt (tp:Bool)(h:Heap)(a:Addr)(xs:Array Value):Prop:=match tp with
 | false=>h.IsList a xs
 | true=>h.IsTuple a xs
theorem ItAt.but {tp:Bool}{h h':Heap}{it a b:Addr}{i:Nat}(x:ItAt tp h it a i)(e:Heap.ExtBut b h h')(n:it≠b):ItAt tp h' it a i:=by
 cases tp with
 | false=>exact Heap.IsListIter.extBut x e n
 | true=>exact Heap.IsTupleIter.extBut x e n
theorem ObAt.but {tp:Bool}{h h':Heap}{a b:Addr}{xs:Array Value}(x:ObAt tp h a xs)(e:Heap.ExtBut b h h')(n:a≠b):ObAt tp h' a xs:=by
 cases tp with
 | false=>exact Heap.IsList.extBut x e n
 | true=>exact Heap.IsTuple.extBut x e n
theorem ItAt.at {tp:Bool}{h h':Heap}{it a:Addr}{i:Nat}(x:ItAt tp h it a i)(e:∀o,h.get? it=some o->h'.get? it=some o):ItAt tp h' it a i:=by
 cases tp with
 | false=>exact Heap.IsListIter.at x e
 | true=>exact Heap.IsTupleIter.at x e
theorem ItAt.obj {tp:Bool}{h:Heap}{it a:Addr}{i:Nat}(x:ItAt tp h it a i):∃o,h.get? it=some o/\∀v,o.data≠ .cell v:=by
 cases tp with
 | false=>obtain⟨o,e,_,d⟩:=x; exact⟨o,e,λv q=>by rw[d] at q; cases q⟩
 | true=>obtain⟨o,e,_,d⟩:=x; exact⟨o,e,λv q=>by rw[d] at q; cases q⟩
theorem ObAt.lt {tp:Bool}{h:Heap}{a:Addr}{xs:Array Value}(x:ObAt tp h a xs):a<h.objs.size:=by
 cases tp with
 | false=>obtain⟨o,e,_⟩:=x; exact ay e
 | true=>obtain⟨o,e,_⟩:=x; exact ay e
variable {w:World}{A:Around}{s:Shared}
section
variable {prog:Program}{E:Value->Shared->Prop}
theorem next1 {tp:Bool}{it a:Addr}{i:Nat}{xs:Array Value}{x:Value}{Q:Value->Shared->Prop}(hi:ItAt tp s.heap it a i)(ha:ObAt tp s.heap a xs)(hx:xs[i]?=some x)
  (k:∀h',ItAt tp h' it a (i+1)->Heap.SameBut it s.heap h'->Q x { s with heap:=h'}):wpAny (model prog w) A (Builtin.SmallTypes.nextOf (.ref it)) Q E s:=by
 cases tp with
 | false=>exact wpAny_nextOf_list_item hi ha hx k
 | true=>
  obtain⟨o,e,c,d⟩:=id (show s.heap.IsTupleIter it a i from hi)
  obtain⟨u,eu,_,n,du⟩:=(show s.heap.IsTuple a xs from ha)
  have ty:=Heap.IsTupleIter.typeIs (show s.heap.IsTupleIter it a i from hi)
  unfold Builtin.SmallTypes.nextOf
  refine aa (cg (name:=Str.ofString "__next__") ty F.slot_tuple_iterator_next (bV F.slot_tuple_iterator_next ty F.entry_tuple_iterator_next (?_:wpAny (model prog w) _ (field (.ref it) 0 >>= _) _ _ s) (F.args_tuple_iterator_next_1 _)))
  refine aa (ck e d (x:= .ref a) rfl (?_:wpAny (model prog w) _ (if (Value.ref a==Value.none)=true then _ else _) _ _ s))
  rw[aj (by exact aA)]
  show wpAny (model prog w) _ (field (.ref it) 1 >>= _) _ _ s
  refine aa (ck e d (x:= .int i 0) rfl ?_)
  show wpAny (model prog w) _ (seqItems? (.ref a) >>= _) _ _ s
  refine aa (cS eu du ?_)
  simp only [br,hx]
  refine aa (wpAny_setField e d (by simp) (ai ⟨x,rfl,ai (k _ ⟨_,cR _ e (Obj.isFreed_of_fields (Obj.data_mapFields d _)),(Obj.cls_mapFields ..).trans c,?_⟩ (iB ..))⟩))
  rw[Obj.data_mapFields d]
  simp [rawInt]
theorem next0 {tp:Bool}{it a:Addr}{i:Nat}{xs:Array Value}{Q:Value->Shared->Prop}(hh:A.handled=none)(hi:ItAt tp s.heap it a i)(ha:ObAt tp s.heap a xs)(hx:xs[i]?=none)
  (k:∀h' e,Heap.ExtBut it s.heap h'->(∃o,h'.get? e=some o/\o.cls= .type "StopIteration")->E (.ref e) { s with heap:=h'}):wpAny (model prog w) A (Builtin.SmallTypes.nextOf (.ref it)) Q E s:=by
 cases tp with
 | false=>exact wpAny_nextOf_list_end hh hi ha hx k
 | true=>
  obtain⟨o,e,c,d⟩:=id (show s.heap.IsTupleIter it a i from hi)
  obtain⟨u,eu,_,n,du⟩:=(show s.heap.IsTuple a xs from ha)
  have ty:=Heap.IsTupleIter.typeIs (show s.heap.IsTupleIter it a i from hi)
  unfold Builtin.SmallTypes.nextOf
  refine aa (cg (name:=Str.ofString "__next__") ty F.slot_tuple_iterator_next (bV F.slot_tuple_iterator_next ty F.entry_tuple_iterator_next (?_:wpAny (model prog w) _ (field (.ref it) 0 >>= _) _ _ s) (F.args_tuple_iterator_next_1 _)))
  refine aa (ck e d (x:= .ref a) rfl (?_:wpAny (model prog w) _ (if (Value.ref a==Value.none)=true then _ else _) _ _ s))
  rw[aj (by exact aA)]
  show wpAny (model prog w) _ (field (.ref it) 1 >>= _) _ _ s
  refine aa (ck e d (x:= .int i 0) rfl ?_)
  show wpAny (model prog w) _ (seqItems? (.ref a) >>= _) _ _ s
  refine aa (cS eu du ?_)
  simp only [br,hx]
  refine aa (cP (aa (wpAny_setField e d (by simp) (?_:wpAny (model prog w) _ (newExc (.type "StopIteration") [] >>= _) _ _ _))))
  refine aa (by
   simp only [newExc,newTuple]
   refine aa (cE (aa (m:=firstArgMember _ _) (lU (a:=Value.none) (by first | rfl | (simp only [firstArgMember]; rfl)) (cE ?_ (by size_fits)))) (by size_fits))
   simp only [raiseNew]
   refine aa (wpAny_handled ?_)
   first | rw[show A.in1.handled=none from hh] | rw[hh]
   exact aa (ai (wpAny_throw (k _ _ (((iB ..).extBut.push _).push _) ⟨_,ao _ rfl,rfl⟩))))
theorem jKJ {t1 t2:Bool}{z TI TO i1 i2 l1 l2:Addr}{k1 k2:Nat}{xs ys:Array Value}{x y a b:Value}{Q:Value->Shared->Prop}(D:ZipApart z TI TO i1 i2 l1 l2)
  (ez:IsZip s.heap z TI TO .none) (eI:IsPair s.heap TI (.ref i1) (.ref i2)) (eO:IsPair s.heap TO a b) (g1:ItAt t1 s.heap i1 l1 k1) (g2:ItAt t2 s.heap i2 l2 k2) (o1:ObAt t1 s.heap l1 xs) (o2:ObAt t2 s.heap l2 ys) (hx:xs[k1]?=some x) (hy:ys[k2]?=some y)
  (k:∀h',IsZip h' z TI TO (rawInt s.heap.objs.size)->IsPair h' TO x y->ItAt t1 h' i1 l1 (k1+1)->ItAt t2 h' i2 l2 (k2+1)->IsPair h' s.heap.objs.size x y->h'.objs.size=s.heap.objs.size+1->
   (∀c o,c≠z->c≠TO->c≠i1->c≠i2->s.heap.get? c=some o->h'.get? c=some o)->Q (.ref s.heap.objs.size) { s with heap:=h'}):
  wpAny (model prog w) A (Builtin.«zip.__next__» ⟨[.ref z],[]⟩) (λfin s'=>∃v,fin= .done (.ret v)/\Q v s') E s:=by
 show wpAny (model prog w) A (field (.ref z) 2 >>= _) _ _ _
 refine aa (ck ez rfl (x:= .bool false) rfl (?_:wpAny (model prog w) A (field (.ref z) 3 >>= _) _ _ _))
 refine aa (ck ez rfl (x:= .ref TI) rfl (aa (cS eI rfl (?_:wpAny (model prog w) A (Builtin.SmallTypes.ownedTupleIsFree (.ref z) >>= _) _ _ _))))
 refine aa (by
  unfold Builtin.SmallTypes.ownedTupleIsFree
  refine aa (ck ez rfl (x:= .none) rfl (ai ?_))
  simp only [fH]
  refine aa (cP (aa (ck ez rfl (x:= .ref TO) rfl (aa (bN ez (by simp) λp1 f1 q1=>?_)))))
  have f1:IsZip p1 z TI TO .ellipsis:=f1
  refine aa (by
   simp only [kj,List.zipIdx_nil,ir,iY]
   refine aa (aa (jx (?_:wpAny (model prog w) A (Builtin.SmallTypes.nextOf (.ref i1) >>= _) _ _ _)))
   refine aa (next1 (g1.but q1.extBut D.i1z) (o1.but q1.extBut D.l1z) hx λp2 r2 q2=>ai ?_)
   have eO2:IsPair p2 TO a b:=q2.extBut _ _ D.TOi1 (q1.extBut _ _ D.TOz eO)
   refine aa (cS eO2 rfl (aa (ie eO2 λp3 eO3 q3=>aa (eY (ai ?_)))))
   have eO3:IsPair p3 TO x b:=eO3
   refine aa (aa (jx (?_:wpAny (model prog w) A (Builtin.SmallTypes.nextOf (.ref i2) >>= _) _ _ _)))
   refine aa (next1 (((g2.but q1.extBut D.i2z).but q2.extBut D.i12.symm).but q3.extBut D.TOi2.symm) (((o2.but q1.extBut D.l2z).but q2.extBut D.l2i1).but q3.extBut D.l2TO) hy λp4 r4 q4=>ai ?_)
   have eO4:IsPair p4 TO x b:=q4.extBut _ _ D.TOi2 eO3
   refine aa (cS eO4 rfl (aa (ie eO4 λp5 eO5 q5=>aa (eY (ai (ai ?_))))))
   have eO5:IsPair p5 TO x y:=eO5
   refine aa (cS eO5 rfl (aa (iZ ?_)))
   have sz:p5.objs.size=s.heap.objs.size:=by rw[q5.1,q4.1,q3.1,q2.1,q1.1]
   have ez5:IsZip p5 z TI TO .ellipsis:=q5.extBut _ _ D.TOz.symm (q4.extBut _ _ D.i2z.symm (q3.extBut _ _ D.TOz.symm (q2.extBut _ _ D.i1z.symm f1)))
   have kp5:∀c o,c≠z->c≠TO->c≠i1->c≠i2->s.heap.get? c=some o->p5.get? c=some o:=λc o n1 n2 n3 n4 e=>q5.extBut _ _ n2 (q4.extBut _ _ n4 (q3.extBut _ _ n2 (q2.extBut _ _ n3 (q1.extBut _ _ n1 e))))
   have r15:ItAt t1 p5 i1 l1 (k1+1):=((r2.but q3.extBut D.TOi1.symm).but q4.extBut D.i12).but q5.extBut D.TOi1.symm
   have r25:ItAt t2 p5 i2 l2 (k2+1):=r4.but q5.extBut D.TOi2.symm
   have zlt:z<p5.objs.size:=ay ez5
   show wpAny (model prog w) A (Builtin.SmallTypes.ownedTupleHandOut (.ref z) (.ref p5.objs.size) >>= _) _ _ _
   refine aa ?_
   unfold Builtin.SmallTypes.ownedTupleHandOut
   have f6:IsZip (p5.push { cls:= .type "tuple",data:= .seq #[x,y]}) z TI TO .ellipsis:=ab _ ez5
   refine aa (bN f6 (by simp) λp7 f7 q7=>?_)
   have f7:IsZip p7 z TI TO (rawInt p5.objs.size):=f7
   refine bN f7 (by simp) λp8 f8 q8=>?_
   have f8:IsZip p8 z TI TO (rawInt p5.objs.size):=f8
   have up:∀c o,c≠z->p5.get? c=some o->p8.get? c=some o:=λc o n1 e=>q8.extBut _ _ n1 (q7.extBut _ _ n1 (ab _ e))
   have eT:IsPair p8 p5.objs.size x y:=q8.extBut _ _ (cD zlt) (q7.extBut _ _ (cD zlt) (ao _ rfl))
   have sz8:p8.objs.size=p5.objs.size+1:=by rw[q8.1,q7.1,bK]
   rw[sz] at f8 eT sz8
   refine ai ⟨_,rfl,(?_:Q (.ref p5.objs.size) _)⟩
   rw[sz]
   exact k p8 f8 (up _ _ D.TOz eO5) (r15.at λo e=>up _ o D.i1z e) (r25.at λo e=>up _ o D.i2z e) eT sz8 λc o n1 n2 n3 n4 e=>up c o n1 (kp5 c o n1 n2 n3 n4 e)))
theorem jO4 {t1 t2:Bool}{z TI TO i1 i2 l1 l2:Addr}{k1 k2:Nat}{xs ys:Array Value}{a b:Value}{Q:Fin->Shared->Prop}(hh:A.handled=none)(D:ZipApart z TI TO i1 i2 l1 l2)
  (ez:IsZip s.heap z TI TO .none) (eI:IsPair s.heap TI (.ref i1) (.ref i2)) (eO:IsPair s.heap TO a b) (g1:ItAt t1 s.heap i1 l1 k1) (g2:ItAt t2 s.heap i2 l2 k2) (o1:ObAt t1 s.heap l1 xs) (o2:ObAt t2 s.heap l2 ys) (hend:xs[k1]?=none\/ys[k2]?=none)
  (k:∀h' e,(∀c o,c≠z->c≠TO->c≠i1->c≠i2->s.heap.get? c=some o->h'.get? c=some o)->(∃o,h'.get? e=some o/\o.cls= .type "StopIteration")->E (.ref e) { s with heap:=h'}):
  wpAny (model prog w) A (Builtin.«zip.__next__» ⟨[.ref z],[]⟩) Q E s:=by
 show wpAny (model prog w) A (field (.ref z) 2 >>= _) _ _ _
 refine aa (ck ez rfl (x:= .bool false) rfl (?_:wpAny (model prog w) A (field (.ref z) 3 >>= _) _ _ _))
 refine aa (ck ez rfl (x:= .ref TI) rfl (aa (cS eI rfl (?_:wpAny (model prog w) A (Builtin.SmallTypes.ownedTupleIsFree (.ref z) >>= _) _ _ _))))
 refine aa (by
  unfold Builtin.SmallTypes.ownedTupleIsFree
  refine aa (ck ez rfl (x:= .none) rfl (ai ?_))
  simp only [fH]
  refine aa (cP (aa (ck ez rfl (x:= .ref TO) rfl (aa (bN ez (by simp) λp1 f1 q1=>?_)))))
  have f1:IsZip p1 z TI TO .ellipsis:=f1
  refine aa (by
   simp only [kj,List.zipIdx_nil,ir,iY]
   refine aa (aa (jx (?_:wpAny (model prog w) A (Builtin.SmallTypes.nextOf (.ref i1) >>= _) _ _ _)))
   cases hx:xs[k1]? with
   | none=>
    refine aa (next0 hh (g1.but q1.extBut D.i1z) (o1.but q1.extBut D.l1z) hx λp2 e q2 ⟨u,eu,cu⟩=>?_)
    have f2:IsZip p2 z TI TO .ellipsis:=q2 _ _ D.i1z.symm f1
    have nz:e≠z:=λv=>by subst v; rw[f2] at eu; cases eu; simp at cu
    exact bN f2 (by simp) λp3 _ q3=>k p3 e (λc o n1 _ n3 _ v=>q3.extBut _ _ n1 (q2 _ _ n3 (q1.extBut _ _ n1 v))) ⟨u,q3.extBut _ _ nz eu,cu⟩
   | some x=>
    have hy:ys[k2]?=none:=by
     rcases hend with v | v
     ·rw[hx] at v; cases v
     ·exact v
    refine aa (next1 (g1.but q1.extBut D.i1z) (o1.but q1.extBut D.l1z) hx λp2 r2 q2=>ai ?_)
    have eO2:IsPair p2 TO a b:=q2.extBut _ _ D.TOi1 (q1.extBut _ _ D.TOz eO)
    refine aa (cS eO2 rfl (aa (ie eO2 λp3 eO3 q3=>aa (eY (ai ?_)))))
    refine aa (aa (jx (?_:wpAny (model prog w) A (Builtin.SmallTypes.nextOf (.ref i2) >>= _) _ _ _)))
    refine aa (next0 hh (((g2.but q1.extBut D.i2z).but q2.extBut D.i12.symm).but q3.extBut D.TOi2.symm) (((o2.but q1.extBut D.l2z).but q2.extBut D.l2i1).but q3.extBut D.l2TO) hy λp4 e q4 ⟨u,eu,cu⟩=>?_)
    have f4:IsZip p4 z TI TO .ellipsis:=q4 _ _ D.i2z.symm (q3.extBut _ _ D.TOz.symm (q2.extBut _ _ D.i1z.symm f1))
    have nz:e≠z:=λv=>by subst v; rw[f4] at eu; cases eu; simp at cu
    exact bN f4 (by simp) λp5 _ q5=>k p5 e (λc o n1 n2 n3 n4 v=>q5.extBut _ _ n1 (q4 _ _ n4 (q3.extBut _ _ n2 (q2.extBut _ _ n3 (q1.extBut _ _ n1 v))))) ⟨u,q5.extBut _ _ nz eu,cu⟩))
theorem jHO {t1 t2:Bool}{z TI TO i1 i2 l1 l2:Addr}{k1 k2:Nat}{xs ys:Array Value}{x y a b:Value}{Q:Option Value->Shared->Prop}(D:ZipApart z TI TO i1 i2 l1 l2)
  (ez:IsZip s.heap z TI TO .none) (eI:IsPair s.heap TI (.ref i1) (.ref i2)) (eO:IsPair s.heap TO a b) (g1:ItAt t1 s.heap i1 l1 k1) (g2:ItAt t2 s.heap i2 l2 k2) (o1:ObAt t1 s.heap l1 xs) (o2:ObAt t2 s.heap l2 ys) (hx:xs[k1]?=some x) (hy:ys[k2]?=some y)
  (k:∀h',IsZip h' z TI TO (rawInt s.heap.objs.size)->IsPair h' TO x y->ItAt t1 h' i1 l1 (k1+1)->ItAt t2 h' i2 l2 (k2+1)->IsPair h' s.heap.objs.size x y->h'.objs.size=s.heap.objs.size+1->
   (∀c o,c≠z->c≠TO->c≠i1->c≠i2->s.heap.get? c=some o->h'.get? c=some o)->Q (some (.ref s.heap.objs.size)) { s with heap:=h'}):
  wpAny (model prog w) A (pyNext (.ref z)) Q E s:=by
 have ty:s.TypeIs (.ref z) "zip" :=⟨_,ez,rfl⟩
 unfold pyNext
 exact aa (dF (cg (name:=Str.ofString "__next__") ty F.slot_zip_next (bV F.slot_zip_next ty F.entry_zip_next (jKJ D ez eI eO g1 g2 o1 o2 hx hy λh' b1 b2 b3 b4 b5 b6 b7=>ai (k h' b1 b2 b3 b4 b5 b6 b7)) (F.args_zip_next_1 _))))
theorem jHP {t1 t2:Bool}{z TI TO i1 i2 l1 l2:Addr}{k1 k2:Nat}{xs ys:Array Value}{a b:Value}{Q:Option Value->Shared->Prop}(hh:A.handled=none)(D:ZipApart z TI TO i1 i2 l1 l2)
  (ez:IsZip s.heap z TI TO .none) (eI:IsPair s.heap TI (.ref i1) (.ref i2)) (eO:IsPair s.heap TO a b) (g1:ItAt t1 s.heap i1 l1 k1) (g2:ItAt t2 s.heap i2 l2 k2) (o1:ObAt t1 s.heap l1 xs) (o2:ObAt t2 s.heap l2 ys) (hend:xs[k1]?=none\/ys[k2]?=none)
  (k:∀h',(∀c o,c≠z->c≠TO->c≠i1->c≠i2->s.heap.get? c=some o->h'.get? c=some o)->Q none { s with heap:=h'}):wpAny (model prog w) A (pyNext (.ref z)) Q E s:=by
 have ty:s.TypeIs (.ref z) "zip" :=⟨_,ez,rfl⟩
 unfold pyNext
 refine aa (dF (cg (name:=Str.ofString "__next__") ty F.slot_zip_next (bV F.slot_zip_next ty F.entry_zip_next (jO4 hh D ez eI eO g1 g2 o1 o2 hend λh' e kp ⟨u,eu,cu⟩=>?_) (F.args_zip_next_1 _))))
 exact aa (g0 (T:= "StopIteration") (b:=true) ⟨u,eu,cu⟩ lY (ai (k _ kp)))
end
def qC (tp:Bool)(a:Addr):Obj:=match tp with
 | false=> { cls:= .type "list_iterator",data:= .fields #[.ref a, .int 0 0]}
 | true=> { cls:= .type "tuple_iterator",data:= .fields #[.ref a, .int 0 0]}
theorem jCJ (tp:Bool)(a:Addr):(qC tp a).isFreed=false:=by cases tp <;> rfl
theorem ObAt.push {tp:Bool}{h:Heap}{a:Addr}{xs:Array Value}(x:ObAt tp h a xs)(o:Obj):ObAt tp (h.push o) a xs:=by
 cases tp with
 | false=>exact Heap.IsList.push x o
 | true=>exact Heap.IsTuple.push x o
theorem jCC {prog:Program}{w:World}{A:Around}{E:Value->Shared->Prop}{s:Shared}{tp:Bool}{a:Addr}{xs:Array Value}{Q:Value->Shared->Prop}(h:ObAt tp s.heap a xs)(q:Q (.ref s.heap.objs.size) { s with heap:=s.heap.push (qC tp a)}):
  wpAny (model prog w) A (pyIter (.ref a)) Q E s:=by
 cases tp with
 | false=>exact cQ h q
 | true=>exact wpAny_pyIter_tuple h q
def zp1 (t1:Bool)(h:Heap)(l1:Addr):Heap:=h.push (qC t1 l1)
def zp2 (t1 t2:Bool)(h:Heap)(l1 l2:Addr):Heap:=(zp1 t1 h l1).push (qC t2 l2)
def zp3 (t1 t2:Bool)(h:Heap)(l1 l2:Addr):Heap:=(zp2 t1 t2 h l1 l2).push { cls:= .type "tuple",data:= .seq #[.ref h.objs.size, .ref (zp1 t1 h l1).objs.size]}
def zp4 (t1 t2:Bool)(h:Heap)(l1 l2:Addr):Heap:=(zp3 t1 t2 h l1 l2).push { cls:= .type "tuple",data:= .seq #[.none, .none]}
def zp5 (t1 t2:Bool)(h:Heap)(l1 l2:Addr):Heap:=(zp4 t1 t2 h l1 l2).push { cls:= .type "zip",data:= .fields #[.none, .bool false, .bool false, .ref (zp2 t1 t2 h l1 l2).objs.size, .ref (zp3 t1 t2 h l1 l2).objs.size]}
theorem jJZ (t1 t2:Bool)(l1 l2:Addr)(xs ys:Array Value):
  Meets (Builtin.«zip.__new__» ⟨[.type "zip", .ref l1, .ref l2],[]⟩) (λ_ R s=>ObAt t1 s.heap l1 xs/\ObAt t2 s.heap l2 ys/\R (.ok (.ret (.ref (zp4 t1 t2 s.heap l1 l2).objs.size))) { s with heap:=zp5 t1 t2 s.heap l1 l2}):=
 .of_wp λprog w A R s h=>by
  obtain⟨hp,g,d,tk,os⟩:=s
  obtain⟨a1,a2,q⟩:=h
  have sub:=sub_zip
  have e1:ObAt t1 (Shared.heap ⟨hp,g,d,tk,os⟩) l1 xs:=a1
  have e2:ObAt t2 (Shared.heap ⟨hp.push (qC t1 l1),g,d,tk,os⟩) l2 ys:=ObAt.push a2 _
  wp_walk using jCC e1,jCC e2
  exact⟨_,rfl,q⟩
theorem ItAt.new (tp:Bool){h:Heap}{it a:Addr}(e:h.get? it=some (qC tp a)):ItAt tp h it a 0:=by
 cases tp with
 | false=>exact⟨_,e,rfl,rfl⟩
 | true=>exact⟨_,e,rfl,rfl⟩
theorem jNM {prog:Program}{w:World}{A:Around}{E:Value->Shared->Prop}{s:Shared}{t1 t2:Bool}{l1 l2:Addr}{xs ys:Array Value}{Q:Value->Shared->Prop}(a1:ObAt t1 s.heap l1 xs)(a2:ObAt t2 s.heap l2 ys)
  (k:∀h',IsZip h' (s.heap.objs.size+4) (s.heap.objs.size+2) (s.heap.objs.size+3) .none->IsPair h' (s.heap.objs.size+2) (.ref s.heap.objs.size) (.ref (s.heap.objs.size+1))->
   IsPair h' (s.heap.objs.size+3) .none .none->ItAt t1 h' s.heap.objs.size l1 0->ItAt t2 h' (s.heap.objs.size+1) l2 0->(∀c o,s.heap.get? c=some o->h'.get? c=some o)->Q (.ref (s.heap.objs.size+4)) { s with heap:=h'}):
  wpAny (model prog w) A (call (.type "zip") [.ref l1, .ref l2]) Q E s:=by
 refine callType_new F.called_zip (by decide) (F.typeCall_zip_2 _ _) (F.newCall_zip_2 _ _) (λobj=>F.args_object_init_3 obj _ _) F.entry_zip_new (jJZ t1 t2 l1 l2 xs ys) ⟨a1,a2,?_⟩
 have z1:(zp1 t1 s.heap l1).objs.size=s.heap.objs.size+1:=bK ..
 have z2:(zp2 t1 t2 s.heap l1 l2).objs.size=s.heap.objs.size+2:=(bK ..).trans (bS (· +1) z1)
 have z3:(zp3 t1 t2 s.heap l1 l2).objs.size=s.heap.objs.size+3:=(bK ..).trans (bS (· +1) z2)
 have z4:(zp4 t1 t2 s.heap l1 l2).objs.size=s.heap.objs.size+4:=(bK ..).trans (bS (· +1) z3)
 have y5:(zp5 t1 t2 s.heap l1 l2).get? (zp4 t1 t2 s.heap l1 l2).objs.size=some { cls:= .type "zip",data:= .fields #[.none, .bool false, .bool false, .ref (zp2 t1 t2 s.heap l1 l2).objs.size, .ref (zp3 t1 t2 s.heap l1 l2).objs.size]} :=ao _ rfl
 have y4:(zp5 t1 t2 s.heap l1 l2).get? (zp3 t1 t2 s.heap l1 l2).objs.size=some { cls:= .type "tuple",data:= .seq #[.none, .none]} :=ab _ (ao _ rfl)
 have y3:(zp5 t1 t2 s.heap l1 l2).get? (zp2 t1 t2 s.heap l1 l2).objs.size=some { cls:= .type "tuple",data:= .seq #[.ref s.heap.objs.size, .ref (zp1 t1 s.heap l1).objs.size]} :=ab _ (ab _ (ao _ rfl))
 have y2:(zp5 t1 t2 s.heap l1 l2).get? (zp1 t1 s.heap l1).objs.size=some (qC t2 l2):=ab _ (ab _ (ab _ (ao _ (jCJ _ _))))
 have y1:(zp5 t1 t2 s.heap l1 l2).get? s.heap.objs.size=some (qC t1 l1):=ab _ (ab _ (ab _ (ab _ (ao _ (jCJ _ _)))))
 have up:∀c o,s.heap.get? c=some o->(zp5 t1 t2 s.heap l1 l2).get? c=some o:=λc o e=>ab _ (ab _ (ab _ (ab _ (ab _ e))))
 rw[z2,z3,z4] at y5
 rw[z1,z2] at y3
 rw[z3] at y4
 rw[z1] at y2
 show _/\_
 rw[z4]
 exact⟨⟨_,y5,rfl⟩,k _ y5 y3 y4 (.new t1 y1) (.new t2 y2) up⟩
def Sq (tp:Bool)(K:W.Frag)(H:Hp)(a:Addr)(xs:List V):Prop:=match tp with
 | false=>SqL K H a xs
 | true=>SqT K H a xs
theorem Inv.sq {X:Cx}{ad:List (Addr×Obj)}{σ:St}{H:Hp}{s:Shared}{tp:Bool}{a:Addr}{xs:List V}(I:Inv X ad σ H s)(h:Sq tp X.K H a xs):∃its:List Value,Vals xs its/\ObAt tp s.heap a its.toArray/\xs.length<=sizeLine:=by
 cases tp with
 | false=>
  obtain⟨its,r,p,z⟩:=I.list h
  exact⟨its,r,p.isList,z⟩
 | true=>exact I.tuple h
theorem Inv.sq_inj {X:Cx}{ad:List (Addr×Obj)}{σ:St}{H:Hp}{s:Shared}{tp:Bool}{a:Addr}{xs ys:List V}(I:Inv X ad σ H s)(h:Sq tp X.K H a xs)(h':Sq tp X.K H a ys):xs=ys:=by
 cases tp with
 | false=>exact I.list_inj h h'
 | true=>exact I.tuple_inj h h'
def Itz (t1 t2:Bool)(K:W.Frag)(l1 l2:Addr):It:=
 ⟨λi H=>∃xs ys x y,Sq t1 K H l1 xs/\Sq t2 K H l2 ys/\xs[i]?=some x/\ys[i]?=some y,
  λi H v H'=>∃T x y,H T=none/\v= .ref T/\H'=upd H T (.tup [x,y])/\∀xs ys,Sq t1 K H l1 xs->Sq t2 K H l2 ys->xs[i]?=some x/\ys[i]?=some y,
  λi H=>∃xs ys,Sq t1 K H l1 xs/\Sq t2 K H l2 ys/\(xs.length<=i\/ys.length<=i)⟩
theorem jO8 {P:Program}{w:World}{K:W.Frag}{elts:List Expr}{x1:Nat}{tp:Pos}(t1 t2:Bool)(l1 l2 z TI TO i1 i2:Addr)(D:ZipApart z TI TO i1 i2 l1 l2):
  Turn P w K (.Tuple elts x1 tp) (Itz t1 t2 K l1 l2) [z,TO,i1,i2,TI] z (λi h=>IsZip h z TI TO .none/\IsPair h TI (.ref i1) (.ref i2)/\(∃a b,IsPair h TO a b)/\ItAt t1 h i1 l1 i/\ItAt t2 h i2 l2 i) where
 mem:=by simp
 obj:=λi h st b hb=>by
  obtain⟨hz,hTI,⟨a,c,hTO⟩,y1,y2⟩:=st
  simp only [ar,bC,dG] at hb
  rcases hb with rfl | rfl | rfl | rfl | rfl
  ·exact⟨_,hz,λv q=>by cases q⟩
  ·exact⟨_,hTO,λv q=>by cases q⟩
  ·exact y1.obj
  ·exact y2.obj
  ·exact⟨_,hTI,λv q=>by cases q⟩
 keep:=λi h h' st k=>by
  obtain⟨hz,hTI,⟨a,c,hTO⟩,h1,h2⟩:=st
  exact⟨k z (by simp) _ hz,k TI (by simp) _ hTI,⟨a,c,k TO (by simp) _ hTO⟩,h1.at λo e=>k i1 (by simp) o e,h2.at λo e=>k i2 (by simp) o e⟩
 item:=by
  intro X hP hw hK hc i ad s σ H E I hf st hg
  subst hP hw hK
  obtain⟨xs,ys,x,y,hq1,hq2,hx,hy⟩:=hg
  obtain⟨hz,hTI,⟨a,c,hTO⟩,h1,h2⟩:=st
  obtain⟨its1,r1,p1,_⟩:=I.sq hq1
  obtain⟨its2,r2,p2,_⟩:=I.sq hq2
  obtain⟨u,hu,ru⟩:=r1.get hx
  obtain⟨v,hv,rv⟩:=r2.get hy
  refine jHO D hz hTI hTO h1 h2 p1 p2 (x:=u) (y:=v) (by simpa using hu) (by simpa using hv) λh' a1 a2 a3 a4 a5 a6 a7=>?_
  refine⟨_,rfl,wpAny_letOwnedTupleGo_zip (s:= { s with heap:=h'}) a1 λh'' b1 sb=>?_⟩
  have fresh:H s.heap.objs.size=none:=I.fresh
  have nch:∀b∈([z,TO,i1,i2]:List Addr),FpOk X ad H b:=λb hb=>hf b (by
   simp only [ar,bC,dG] at hb ⊢
   rcases hb with q | q | q | q
   ·exact .inl q
   ·exact .inr (.inl q)
   ·exact .inr (.inr (.inl q))
   ·exact .inr (.inr (.inr (.inl q))))
  have ntr:∀b o,H b=some o->b∉([z,TO,i1,i2]:List Addr):=λb o e hb=>by
   have:=(nch b hb).1
   rw[e] at this; cases this
  have kp:∀b o,b∉([z,TO,i1,i2]:List Addr)->s.heap.get? b=some o->h''.get? b=some o:=λb o hb e=>by
   simp only [ar,bC,dG,mH] at hb
   exact(sb.2 b hb.1).trans (a7 b o hb.1 hb.2.1 hb.2.2.1 hb.2.2.2 e)
  have nz:s.heap.objs.size≠z:=cD (ay hz)
  have hT2:h''.get? s.heap.objs.size=some { cls:= .type "tuple",data:= .seq #[u,v]} :=(sb.2 _ nz).trans a5
  have I2:Inv X ad σ (upd H s.heap.objs.size (.tup [x,y])) { s with heap:=h''} :=by
   refine I.step (g':=s.gens) (d':=s.drawn) (t':=s.toks) (ch:=[z,TO,i1,i2]) (λb hb=>?_) (λb o _ _ hb e _=>kp b o hb e) (λb o _ _ hb e _=>⟨o.slots,kp b o hb e⟩)
    (λb o _ e n=>by rw[j6 (aO (ay e))]; exact n) (λb o hb e=>⟨o,kp b o hb e⟩) (λb ws e=>by rw[j6 (j9 e fresh)]; exact e) (λb o ws e=>by rw[j6 (j9 e fresh)]; exact e)
    (λb ps e=>⟨#[],by rw[j6 (j9 e fresh),e]; simp⟩) (λm hm=>?_) (λb o e=>?_) I.bare
   ·obtain⟨f0,f1,f2,f3,f4,f5⟩:=nch b hb
    exact⟨f3,f1,f4,f5⟩
   ·obtain⟨o,es,ep,ho,r⟩:=hm
    exact⟨o,es,ep,kp _ o (λhb=>(nch _ hb).2.1 rfl) ho,r⟩
   ·by_cases hb:b=s.heap.objs.size
    ·subst hb
     rw[j5] at e
     cases e
     exact⟨by rw[fm]; show 2<=_; decide,[u,v], .cons ru (.cons rv .nil),0,hT2⟩
    ·rw[j6 hb] at e
     refine(I.hok b o e).stay (λc w hc q=>kp c w ?_ q) (λc q=>by rw[j6 (j9 q fresh)]; exact q) (λc ws q=>by rw[j6 (j9 q fresh)]; exact q)
     rcases hc with rfl | hc
     ·exact ntr _ _ e
     ·exact ntr _ _ hc
  refine⟨.ref s.heap.objs.size,_,I2,rfl,⟨_,x,y,fresh,rfl,rfl,λxs' ys' q1 q2=>⟨by rw[I.sq_inj q1 hq1]; exact hx,by rw[I.sq_inj q2 hq2]; exact hy⟩⟩,⟨b1,?_,⟨u,v,?_⟩,?_,?_⟩,λb hb=>?_⟩
  ·exact kp TI _ (by simp [D.TIz,D.TITO,D.TIi1,D.TIi2]) hTI
  ·exact(sb.2 TO D.TOz).trans a2
  ·exact a3.at λo e=>(sb.2 i1 D.i1z).trans e
  ·exact a4.at λo e=>(sb.2 i2 D.i2z).trans e
  ·rw[j6 (λq=>by
    obtain⟨o,eo⟩:∃o,s.heap.get? b=some o:=by
     simp only [ar,bC,dG] at hb
     rcases hb with rfl | rfl | rfl | rfl | rfl
     ·exact⟨_,hz⟩
     ·exact⟨_,hTO⟩
     ·obtain⟨o,e,_⟩:=h1.obj; exact⟨o,e⟩
     ·obtain⟨o,e,_⟩:=h2.obj; exact⟨o,e⟩
     ·exact⟨_,hTI⟩
    exact absurd (ay eo) (by rw[q]; exact b8 _))]
   exact(hf b hb).1
 done:=by
  intro X hP hw hK hc i ad s σ H E I hf st hg
  subst hP hw hK
  obtain⟨xs,ys,hq1,hq2,hend⟩:=hg
  obtain⟨hz,hTI,⟨a,c,hTO⟩,h1,h2⟩:=st
  obtain⟨its1,r1,p1,_⟩:=I.sq hq1
  obtain⟨its2,r2,p2,_⟩:=I.sq hq2
  have e1:=r1.length
  have e2:=r2.length
  refine jHP (I.ok.hd hc) D hz hTI hTO h1 h2 p1 p2 (by
   rcases hend with q | q
   ·exact .inl (by simp; lia)
   ·exact .inr (by simp; lia)) λh' kp=>⟨rfl,?_⟩
  have nch:∀b∈([z,TO,i1,i2]:List Addr),FpOk X ad H b:=λb hb=>hf b (by
   simp only [ar,bC,dG] at hb ⊢
   rcases hb with q | q | q | q
   ·exact .inl q
   ·exact .inr (.inl q)
   ·exact .inr (.inr (.inl q))
   ·exact .inr (.inr (.inr (.inl q))))
  have kp2:∀b o,b∉([z,TO,i1,i2]:List Addr)->s.heap.get? b=some o->h'.get? b=some o:=λb o hb e=>by
   simp only [ar,bC,dG,mH] at hb
   exact kp b o hb.1 hb.2.1 hb.2.2.1 hb.2.2.2 e
  have ntr:∀b o,H b=some o->b∉([z,TO,i1,i2]:List Addr):=λb o e hb=>by
   have:=(nch b hb).1
   rw[e] at this; cases this
  refine I.step (g':=s.gens) (d':=s.drawn) (t':=s.toks) (ch:=[z,TO,i1,i2]) (λb hb=>?_) (λb o _ _ hb e _=>kp2 b o hb e) (λb o _ _ hb e _=>⟨o.slots,kp2 b o hb e⟩)
   (λb o _ e n=>n) (λb o hb e=>⟨o,kp2 b o hb e⟩) (λb ws e=>e) (λb o ws e=>e) (λb ps e=>⟨#[],by rw[e]; simp⟩) (λm hm=>?_) (λb o e=>?_) I.bare
  ·obtain⟨f0,f1,f2,f3,f4,f5⟩:=nch b hb
   exact⟨f3,f1,f4,f5⟩
  ·obtain⟨o,es,ep,ho,r⟩:=hm
   exact⟨o,es,ep,kp2 _ o (λhb=>(nch _ hb).2.1 rfl) ho,r⟩
  ·refine(I.hok b o e).stay (λc w hc q=>kp2 c w ?_ q) (λ_ q=>q) λ_ _ q=>q
   rcases hc with rfl | hc
   ·exact ntr _ _ e
   ·exact ntr _ _ hc
 self:=λ_ _ _ _ _ st h=>wpAny_pyIter_zip st.1 h
def iZip (K:W.Frag)(ta:TA):TI:=λσ H R=>ta σ H λvs H1=>∃t1 t2 l1 l2,vs=[.ref l1, .ref l2]/\(∃xs,Sq t1 K H1 l1 xs)/\(∃ys,Sq t2 K H1 l2 ys)/\R (Itz t1 t2 K l1 l2) H1
theorem jU1 {a b:Expr}{ta:TA}{p pos:Pos}{elts:List Expr}{x1:Nat}{tp:Pos}(hg:Gl X "zip")(hm:X.mg "zip" =none)(ha:PA X [a,b] ta)(hv:bootBuiltins "zip" =some (.type "zip"):=by decide+kernel)
  (he:starEach [a,b] X.env=(false,eval a X.env)::starEach [b] X.env:=by rfl) (hpl:(backTo pos (starEach [b] X.env)).any (·.1)=false:=by rfl):
  PI X (.Tuple elts x1 tp) (.Call (.Name "zip" p) [a,b] [] pos) (iZip X.K ta):=by
 intro ad s σ H R I h
 refine Call_ (jCU I hg hm hv (dS (mI (ha pos ad s σ H _ I h) λus s1 ⟨vs,H1,I1,r1,q1⟩=>?_) he hpl))
 obtain⟨t1,t2,l1,l2,rfl,⟨xs,hq1⟩,⟨ys,hq2⟩,q⟩:=q1
 obtain⟨u,v,rfl,ru,rv⟩:=r1.two
 cases ru
 cases rv
 obtain⟨its1,_,p1,_⟩:=I1.sq hq1
 obtain⟨its2,_,p2,_⟩:=I1.sq hq2
 have lt1:l1<s1.heap.objs.size:=p1.lt
 have lt2:l2<s1.heap.objs.size:=p2.lt
 refine jNM p1 p2 λh' a1 a2 a3 a4 a5 kp=>?_
 have I2:Inv X ad σ H1 { s1 with heap:=h'} :=I1.kept (t':=s1.toks) kp
 have D:ZipApart (s1.heap.objs.size+4) (s1.heap.objs.size+2) (s1.heap.objs.size+3) s1.heap.objs.size (s1.heap.objs.size+1) l1 l2:=zipApart_new lt1 lt2
 refine wpAny_pyIter_zip a1 ⟨s1.heap.objs.size+4,[s1.heap.objs.size+4,s1.heap.objs.size+3,s1.heap.objs.size,s1.heap.objs.size+1,s1.heap.objs.size+2],_,Itz t1 t2 X.K l1 l2,H1,rfl,I2,jO8 t1 t2 l1 l2 _ _ _ _ _ D,⟨a1,a2,⟨_,_,a3⟩,a4,a5⟩,λb hb=>?_,q⟩
 have hge:s1.heap.objs.size<=b:=by
  simp only [ar,bC,dG] at hb
  rcases hb with rfl | rfl | rfl | rfl | rfl
  ·exact eV _ 4
  ·exact eV _ 3
  ·exact aq _
  ·exact eV _ 1
  ·exact eV _ 2
 exact I1.fpOk hge (I1.hok.fresh hge)
structure JE (X:Cx)(e:Expr)(t:TE):Prop where
 h:PE X e t
structure JA (X:Cx)(es:List Expr)(t:TA):Prop where
 h:PA X es t
structure JT (X:Cx)(e:Expr)(t:TT):Prop where
 h:PT X e t
structure JTs (X:Cx)(e:List Expr)(t:TT):Prop where
 h:PTs X e t
structure JS (X:Cx)(e:Stmt)(t:TS):Prop where
 h:PS X e t
structure JSs (X:Cx)(e:List Stmt)(t:TS):Prop where
 h:PSs X e t
structure JG (X:Cx)(e:Expr)(t:TG):Prop where
 h:PG X e t
structure JGs (X:Cx)(e:List Expr)(t:TGs):Prop where
 h:PGs X e t
structure JI (X:Cx)(tg e:Expr)(t:TI):Prop where
 h:PI X tg e t
structure JO (X:Cx)(e:Option Expr)(t:TO):Prop where
 h:PO X e t
structure Loc1 (X:Cx)(x:Str):Prop where
 a:Loc X.env.scope x
 b:X.fn x=true\/X.env.scope.names.lookup x=some .local
structure Vis1 (X:Cx)(x:Str):Prop where
 a:Vis X.env.scope x
structure Gl1 (X:Cx)(x:Str):Prop where
 a:Gl X x
section
variable {o:Option Expr}{l:Nat}
structure SwOk (e:Expr)(o:Option Expr):Prop where
 h:∀l env,swapsWith e o l env=pure false
theorem jDE {op:Operator} :SwOk (.BinOp a op b pos) o:=⟨λ_ _=>rfl⟩
theorem kB {kw:List Keyword} :SwOk (.Call a xs kw pos) o:=⟨λ_ _=>rfl⟩
theorem jPZ:SwOk (.Subscript a b pos) o:=⟨λ_ _=>rfl⟩
theorem jTJ {x1} :SwOk (.Tuple xs x1 pos) o:=⟨λ_ _=>rfl⟩
theorem jFX:SwOk (.List xs pos) o:=⟨λ_ _=>rfl⟩
theorem jOA {c k} :SwOk (.Constant c k pos) o:=⟨λ_ _=>rfl⟩
theorem jTT {op:Operator} :jB5 (.BinOp a op b pos):=λ_ _=>rfl
theorem jRA {kw:List Keyword} :jB5 (.Call a xs kw pos):=λ_ _=>rfl
theorem jI {i:Int}{k} :jB5 (.Constant (.int i) k pos):=λ_ _=>rfl
theorem jBI {x:Str} :jB5 (.Name x pos):=λ_ _=>rfl
theorem jTS:jB5 (.Subscript a b pos):=λ_ _=>rfl
structure FoOk (iter:Expr):Prop where
 h:∀env x,foldedSetIterable iter env x=pure x
theorem kO {kw:List Keyword} :FoOk (.Call a xs kw pos):=⟨λ_ _=>rfl⟩
theorem yI {x:Str} :FoOk (.Name x pos):=⟨λ_ _=>rfl⟩
theorem jQI:FoOk (.Subscript a b pos):=⟨λ_ _=>rfl⟩
structure TvOk (e:Expr):Prop where
 h:∀env whole,isTrue e env whole=(do let v <- whole; standAt e.pos; holding [v] (truthy v))
theorem jAV {kw:List Keyword} :TvOk (.Call a xs kw pos):=⟨λ_ _=>rfl⟩
end
variable {te:TE}{x:Str}
section
variable {e o:Expr}{ta tb to:TE}{t:TA}{p cpos apos:Pos}{T:String}{id:String}
theorem jv (i:Nat)(hN:X.N[i]?=some x)(hv:Vis1 X x)(hd:(x==("__debug__" :Str))=false:=by decide)(hcd:(x==("__classdict__" :Str))=false:=by decide):JE X (.Name x pos) (tVar i):=⟨jLP hN hv.a hd hcd⟩
theorem je_int {i j} :JE X (.Constant (.int i) j pos) (tC (.int i)):=⟨jK⟩
theorem je_bl {i j} :JE X (.Constant (.bool i) j pos) (tC (.bl i)):=⟨pe_bl⟩
theorem jQE {j} :JE X (.Constant .none j pos) (tC .non):=⟨jU9⟩
theorem yR {v:V}{u:Value}(hg:Gl1 X x)(hm:X.mg x=none)(hv:bootBuiltins x=some u)(r:RelV v u)(hn:x≠ "__name__" :=by decide)(hd:(x==("__debug__" :Str))=false:=by decide):JE X (.Name x pos) (tC v):=⟨jRW hg.a hm hv r hn hd⟩
theorem kI {op:Operator}{r:R2}(ho:OpR X (binaryOp op) r)(ha:JE X a ta)(hb:JE X b tb):JE X (.BinOp a op b pos) (tOp r ta tb):=⟨kD ho ha.h hb.h⟩
theorem je_un {op:UnaryOp}{r:V->Hp->VK->Prop}(ho:UnR X (unaryOp op) r)(ha:JE X a ta):JE X (.UnaryOp op a pos) (tUn r ta):=⟨pe_un ho ha.h⟩
theorem jV3 (ha:JE X a ta):JE X (.UnaryOp .Not a pos) (tNotV ta):=⟨jU8 ha.h⟩
theorem jBL {op:CmpOp}{r:R2}(ho:OpR X (compareOp op) r)(ha:JE X a ta)(hb:JE X b tb)(hm:behindInMarks op b=false):JE X (.Compare a [op] [b] pos) (tOp r ta tb):=⟨jRT ho ha.h hb.h hm⟩
theorem jEI {rest:List Expr}(ha:JE X a ta)(hb:JE X (.BoolOp .And (b::rest) pos) tb):JE X (.BoolOp .And (a::b::rest) pos) (tAndV ta tb):=⟨jUC ha.h hb.h⟩
theorem jEH {op}(ha:JE X a ta):JE X (.BoolOp op [a] pos) ta:=⟨jU7 ha.h⟩
theorem jMM (h:JA X es t):JE X (.List es pos) (tLst t):=⟨jIT h.h⟩
theorem jJ7 {x1}(h:JA X es t):JE X (.Tuple es x1 pos) (tTup t):=⟨jU6 h.h⟩
theorem jJ8 {lo hi:Option Expr}{tl th:TO}{r:V->Option Int->Option Int->Hp->VK->Prop}(hr:SlR X r)(he:JE X e te)(hl:JO X lo tl)(hu:JO X hi th):JE X (.Subscript e (.Slice lo hi none p2) pos) (tSl r te tl th):=⟨jOI hr he.h hl.h hu.h⟩
theorem kJ {r:R2}(hr:IxR X r)(ha:JE X a ta)(hb:JE X b tb)(hs:jB5 b):JE X (.Subscript a b pos) (tOp r ta tb):=⟨pe_ix hr ha.h hb.h hs⟩
theorem jAA {T}{r:List V->Hp->VK->Prop}(hc:y9 X (.type T) r)(hg:Gl1 X x)(hm:X.mg x=none)(hv:bootBuiltins x=some (.type T))(ha:JA X (e::es) t)(he:starEach (e::es) X.env=(false,eval e X.env)::starEach es X.env)(hn:x≠ "__name__" :=by decide)(hdb:(x==("__debug__" :Str))=false:=by decide)
  (hpl:(backTo pos (starEach es X.env)).any (·.1)=false:=by rfl):JE X (.Call (.Name x p) (e::es) [] pos) (tCB r t):=⟨jBS hc hg.a hm hv ha.h hn hdb he hpl⟩
theorem jE {id}{r:List V->Hp->VK->Prop}(hc:y9 X (.builtin id) r)(hg:Gl1 X x)(hm:X.mg x=none)(hv:bootBuiltins x=some (.builtin id))(ha:JA X (e::es) t)(he:starEach (e::es) X.env=(false,eval e X.env)::starEach es X.env)(hn:x≠ "__name__" :=by decide)(hdb:(x==("__debug__" :Str))=false:=by decide)
  (hpl:(backTo pos (starEach es X.env)).any (·.1)=false:=by rfl):JE X (.Call (.Name x p) (e::es) [] pos) (tCB r t):=⟨jEZ hc hg.a hm hv ha.h hn hdb he hpl⟩
theorem j8:JA X [] tNil:=⟨y8⟩
theorem j3 (ha:JE X e te)(hr:JA X es t)(hs:starEach (e::es) X.env=(false,eval e X.env)::starEach es X.env):JA X (e::es) (tCons te t):=⟨jS ha.h hr.h hs⟩
theorem jY {op:CmpOp}{r:R2}(ho:OpR X (compareOp op) r)(ha:JE X a ta)(hb:JE X b tb)(hm:behindInMarks op b=false):JT X (.Compare a [op] [b] pos) (tTest (tOp r ta tb)):=⟨jDM ho ha.h hb.h hm⟩
theorem jBY (h:JE X e te)(he:TvOk e):JT X e (tB te):=⟨jTW h.h (he.h _)⟩
theorem jGL {tA:TT}(ha:JT X a tA):JT X (.UnaryOp .Not a pos) (tNot tA):=⟨jTX ha.h⟩
theorem yH:JTs X [] yW:=⟨jLK⟩
theorem jCG {t:TT}(h:JT X e t):JTs X [e] t:=⟨jLJ h.h⟩
theorem jJ {i:Nat}(hN:X.N.Nodup)(hi:X.N[i]?=some x)(hx:Loc1 X x):JG X (.Name x pos) (kE i):=⟨jEY hN hi hx.a hx.b⟩
theorem jAJ {tg:Expr}(hg:Gl1 X "range")(hm:X.mg "range" =none)(ha:JA X [a] t)(hs:starEach [a] X.env=(false,eval a X.env)::starEach [] X.env):JI X tg (.Call (.Name "range" p) [a] [] pos) (iRng1 t):=⟨jBR hg.a hm ha.h hs⟩
theorem yB {tg:Expr}(hl:JE X a ta):JI X tg a (iList X.K ta):=⟨jRM hl.h⟩
theorem jGN {tg:Expr}(hl:JE X a ta):JI X tg a (iTup X.K ta):=⟨jU2 hl.h⟩
theorem jV2 {elts:List Expr}{x1:Nat}{tp:Pos}(hg:Gl1 X "zip")(hm:X.mg "zip" =none)(ha:JA X [a,b] t)(he:starEach [a,b] X.env=(false,eval a X.env)::starEach [b] X.env)(hv:bootBuiltins "zip" =some (.type "zip"):=by decide+kernel)
  (hpl:(backTo pos (starEach [b] X.env)).any (·.1)=false:=by rfl):JI X (.Tuple elts x1 tp) (.Call (.Name "zip" p) [a,b] [] pos) (iZip X.K t):=⟨jU1 hg.a hm ha.h hv he hpl⟩
theorem jMJ:JO X none jL4:=⟨jRJ⟩
theorem jMI (h:JE X e te):JO X (some e) (tPart te):=⟨jRI h.h⟩
theorem jQ {i:Nat}{pos':Pos}(hN:X.N.Nodup)(hi:X.N[i]?=some x)(hx:Loc1 X x)(he:JE X e te)(hs:SwOk e (some (.Name x pos'))):JS X (.Assign [.Name x pos'] e pos) (tAsg te (kE i)):=⟨qB hN hi hx.a he.h (hs.h _ _) hx.b⟩
theorem jV (he:JE X e te):JS X (.Return (some e) pos) (tRet te):=⟨jCQ he.h⟩
theorem jCH (he:JE X e te)(hs:SwOk e none):JS X (.Expr e pos) (tDrop te):=⟨jRE he.h (hs.h _ _)⟩
theorem kU:JSs X [] tNext:=⟨jEX⟩
theorem jD {st:Stmt}{t:TS}(h1:JS X st t):JSs X [st] t:=⟨jAZ h1.h⟩
theorem jB {st:Stmt}{rest:List Stmt}{t u:TS}(h1:JS X st t)(h2:JSs X rest u):JSs X (st::rest) (tSeq t u):=⟨kG h1.h h2.h⟩
theorem yY {c:Expr}{a b:List Stmt}{tc:TT}{t u:TS}(hc:JT X c tc)(ha:JSs X a t)(hb:JSs X b u):JS X (.If c a b pos) (tIfS tc t u):=⟨ps_if hc.h ha.h hb.h⟩
theorem yT {tg iter:Expr}{body:List Stmt}{wi:TI}{g:TG}{tb:TS}(hp:PassesOwn (model X.prog X.w) X.A X.env X.xe)(hc:X.calm=true)(hi:JI X tg iter wi)(hg:JG X tg g)(hb:JSs X body tb)(hs:FoOk iter):JS X (.For tg iter body [] pos) (tFor wi g tb):=⟨jQ5 hp hc hi.h hg.h hb.h (hs.h _)⟩
theorem je_bm {T:String}{name:Str}{r}(pa:PlainAttrs T)(slot:Slot T name id)(hty:typeOf (.builtin id)=pure (.type "method_descriptor"))(hm:MtR X id r)(ho:JE X o to)(ha:JA X (e::es) t)
  (hs:starEach (e::es) X.env=(false,eval e X.env)::starEach es X.env)
  (hbase:attributeBase o name X.env (eval o X.env)=eval o X.env:=by rfl)
  (hfew:((backTo cpos (starEach (e::es) X.env)).all (λx=>!x.1)&&(backToKw cpos (keywordEach [] X.env)).all (λx=>x.1.isSome)
   &&decide ((e::es).length+([]:List Keyword).length+(if ([]:List Keyword).isEmpty then 0 else 1)<30))=true:=by rfl)
  (hline:(apos.endLine==cpos.line)=true:=by rfl) (hplain:(backTo cpos (starEach es X.env)).any (·.1)=false:=by rfl):
  JE X (.Call (.Attribute o name apos) (e::es) [] cpos) (tBM X.K T r to t):=⟨pe_bm pa slot hty hm ho.h ha.h hbase hfew hline hs hplain⟩
theorem yE {tg iter elt:Expr}{ifs:List Expr}{sc:Scope}{wi:TI}{g:TG}{tt:TT}{m:List (Option Nat)}{Nc:List Str}(hc:X.calm=true)(hi:JI X tg iter wi)(hkind:sc.kind= .function)(hcell:∀y∈sc.names,y.2≠ .cell)(hnames:∀y∈sc.names,y.2= .local->sc.names.lookup y.1=some .local)
  (hfree:∀y∈sc.names,y.2= .free->X.env.scope.names.lookup y.1=some .cell\/X.env.scope.names.lookup y.1=some .free) (hm:qE X sc Nc m)
  (hg:∀cl C fp s H,JG (blk X sc cl C Nc fp s H) tg g) (ht:∀cl C fp s H,JTs (blk X sc cl C Nc fp s H) ifs tt) (he:∀cl C fp s H,JE (blk X sc cl C Nc fp s H) elt te)
  (hs:FoOk iter):JE X (.ListComp elt [⟨tg,iter,ifs,0⟩] sc pos) (tComp m wi g tt te):=⟨jHR hc hi.h hkind hcell hnames hfree hm (λcl C fp s H=>(hg cl C fp s H).h) (λcl C fp s H=>(ht cl C fp s H).h) (λcl C fp s H=>(he cl C fp s H).h) (hs.h _)⟩
theorem jV4 {p1 p2 p3 p4 p5 p6 p7:Pos}{k1 k2 k3 k4:Nat} :JE X (.BinOp (.BinOp (.Constant (.int 2) k1 p1) .Mult (.BinOp (.Constant (.int 10) k2 p2) .Pow (.Constant (.int 12) k3 p3) p4) p5) .Add (.Constant (.int 1) k4 p6) p7) (tC (.int 2000000000001)):=⟨jUB⟩
end
variable {P:Program}{mg:Str->Option Value}{base:Heap}{N:List Str}{qual:Str}{sc:Scope}{f:Addr}{cdv:Value}{outer:List Env}{H:Hp}{E:XK}
section
variable {K:W.Frag}
theorem gl_d (h:sc.names.lookup x=some .globalImplicit):Gl1 (cxOf CX0 P w K mg base N qual sc f cdv A outer s H E).nox x:=⟨h⟩
theorem gD (h:sc.names.lookup x=some .globalImplicit:=by decide+kernel):Gl1 (cxOf CX0 P w K mg base N qual sc f cdv A outer s H E).nox x:=gl_d h
theorem vis_l (h:sc.names.lookup x=some .local):Vis1 (cxOf CX0 P w K mg base N qual sc f cdv A outer s H E).nox x:=⟨.inl h⟩
theorem vL (h:sc.names.lookup x=some .local:=by decide+kernel):Vis1 (cxOf CX0 P w K mg base N qual sc f cdv A outer s H E).nox x:=vis_l h
theorem vis_c (h:sc.names.lookup x=some .cell):Vis1 (cxOf CX0 P w K mg base N qual sc f cdv A outer s H E).nox x:=⟨.inr (.inl h)⟩
theorem vC (h:sc.names.lookup x=some .cell:=by decide+kernel):Vis1 (cxOf CX0 P w K mg base N qual sc f cdv A outer s H E).nox x:=vis_c h
end
theorem jA4 {env:Env}{x:Str}{k:NameKind}(hk:k≠ .free):∀{l:List (Str×NameKind)},l.lookup x=some k->
  (l.map λ(n,k)=>if (k==NameKind.free&&env.scope.kind== .function&&env.kindOf n==some .cell) then (n,NameKind.cell) else (n,k)).lookup x=some k
 | [],h=>by cases h
 | (n,k')::r,h=>by
  have ih:= @jA4 env x k hk r
  rw[aY] at h
  rw[aX]
  dsimp only
  by_cases hb:(k'==NameKind.free&&env.scope.kind== .function&&env.kindOf n==some .cell)=true
  ·rw[am hb,aY]
   cases hx:x==n with
   | true=>
    rw[hx] at h
    have e:k'=k:=bA h
    simp only [eR] at hb
    exact absurd (e.symm.trans (eq_of_beq hb.1.1)) hk
   | false=>rw[hx] at h; exact ih h
  ·rw[aj hb,aY]
   cases hx:x==n with
   | true=>rw[hx] at h; exact h
   | false=>rw[hx] at h; exact ih h
variable {cl:List (Str×Addr)}{C:Addr}{Nc:List Str}{fp:List Addr}
theorem gl_b (h:sc.names.lookup x=some .globalImplicit:=by decide+kernel):Gl1 (blk X sc cl C Nc fp s H) x:=⟨jA4 (by decide) h⟩
theorem jW (h:sc.names.lookup x=some .local:=by decide+kernel):Vis1 (blk X sc cl C Nc fp s H) x:=⟨.inl (jA4 (by decide) h)⟩
theorem yJ (h:sc.names.lookup x=some .free:=by decide+kernel):Vis1 (blk X sc cl C Nc fp s H) x:=⟨.inr (jAG h)⟩
theorem qG (h:sc.names.lookup x=some .local:=by decide+kernel):Loc1 (blk X sc cl C Nc fp s H) x:=⟨.inl (jA4 (by decide) h), .inr (jA4 (by decide) h)⟩
section
variable {K:W.Frag}
theorem loc_l (h:sc.names.lookup x=some .local):Loc1 (cxOf CX0 P w K mg base N qual sc f cdv A outer s H E).nox x:=⟨.inl h, .inl rfl⟩
theorem lL (h:sc.names.lookup x=some .local:=by decide+kernel):Loc1 (cxOf CX0 P w K mg base N qual sc f cdv A outer s H E).nox x:=loc_l h
theorem loc_c (h:sc.names.lookup x=some .cell:=by decide+kernel):Loc1 (cxOf CX0 P w K mg base N qual sc f cdv A outer s H E).nox x:=⟨.inr h, .inl rfl⟩
end
structure JW (X:Cx)(e:Expr)(t:TT):Prop where
 h:PW X e t
section
variable {rest:List Expr}{tA tB':TT}
theorem jSI (ha:JT X a tA):JW X (.BoolOp .And [a] pos) tA:=⟨jRB ha.h⟩
theorem jJ4 (ha:JT X a tA):JW X (.BoolOp .Or [a] pos) tA:=⟨jTU ha.h⟩
theorem jUY (ha:JT X a tA)(hb:JW X (.BoolOp .And (b::rest) pos) tB'):JW X (.BoolOp .And (a::b::rest) pos) (tAnd tA tB'):=⟨jTV ha.h hb.h⟩
theorem jw_or (ha:JT X a tA)(hb:JW X (.BoolOp .Or (b::rest) pos) tB'):JW X (.BoolOp .Or (a::b::rest) pos) (tOr tA tB'):=⟨pw_or ha.h hb.h⟩
theorem jt_w (h:JW X a tA):JT X a tA:=⟨h.h.pt⟩
theorem jDQ:JGs X [] gNil:=⟨jRO⟩
structure AsOk (e:Expr):Prop where
 h:∀es env,assignEach (e::es) env=(false,assign e env)::assignEach es env
theorem jAO {x:Str} :AsOk (.Name x pos):=⟨λ_ _=>rfl⟩
theorem jA8 {e:Expr}{es:List Expr}{t:TG}{u:TGs}(h1:JG X e t)(h2:JGs X es u)(hs:AsOk e):JGs X (e::es) (qA t u):=⟨jOH h1.h h2.h (by rw[hs.h]; rfl)⟩
theorem jJ6 {es:List Expr}{k:Nat}{t:TGs}{n:Nat}(hc:X.calm=true)(h:JGs X es t)(hn:(assignEach es X.env).length=n:=by rfl)(hst:(assignEach es X.env).findIdx? (·.1)=none:=by rfl):JG X (.Tuple es k pos) (gTup X.K n t):=⟨jU3 hc h.h hn hst⟩
end
theorem jBZ {X:Cx}{sc:Scope}{cl:List (Str×Addr)}{C:Addr}{Nc:List Str}{fp:List Addr}{s:Shared}{H:Hp}{x y:Str}{p1 p2 pos:Pos}{k:Nat}{i j:Nat}(hc:X.calm=true)(hN:Nc.Nodup)(hi:Nc[i]?=some x)(hj:Nc[j]?=some y)(hx:sc.names.lookup x=some .local)(hy:sc.names.lookup y=some .local):
  JG (blk X sc cl C Nc fp s H) (.Tuple [.Name x p1, .Name y p2] k pos) (gTup X.K 2 (qA (kE i) (qA (kE j) gNil))):=
 jJ6 (X:=blk X sc cl C Nc fp s H) hc (jA8 (jJ hN hi (qG hx)) (jA8 (jJ hN hj (qG hy)) jDQ jAO) jAO)
variable {m:List (Option Nat)}{g:TG}{tt:TT}{H1:Hp}{Q:VK}
section
variable {K:W.Frag}{σ:St}
theorem jPJ {t1 t2:Bool}{l1 l2:Addr}{xs ys:List V}(hn:xs.length<sizeLine)(Pv:Addr->Nat->St->Hp->List V->Prop)(h0:∀D,H1 D=none->Pv D 0 (blkσ m σ) (upd H1 D (.lst [])) [])
  (hD:∀D i σ' H' zs,H1 D=none->Pv D i σ' H' zs->Sq t1 K H' l1 xs/\Sq t2 K H' l2 ys/\H' D=some (.lst zs)/\zs.length<=i)
  (hs:∀D i σ' H' zs x y T,H1 D=none->xs[i]?=some x->ys[i]?=some y->H' T=none->Pv D i σ' H' zs->g (.ref T) σ' (upd H' T (.tup [x,y])) λσ2 H2=>tt σ2 H2 λb H3=>if b=true then te σ2 H3 λv H4=>H4 D=some (.lst zs)/\Pv D (i+1) σ2 (upd H4 D (.lst (zs++[v]))) (zs++[v]) else Pv D (i+1) σ2 H3 zs)
  (hd:∀D σ' H' zs,H1 D=none->Pv D (min xs.length ys.length) σ' H' zs->Q (.ref D) H'):CompW m g tt te σ Q (Itz t1 t2 K l1 l2) H1:=by
 intro D hDn
 refine⟨λi k σ' H' zs=>k=min xs.length ys.length - i/\i<=min xs.length ys.length/\Pv D i σ' H' zs,⟨_,rfl,bi _,h0 D hDn⟩,?_⟩
 rintro i k σ' H' zs ⟨rfl,hi,p⟩
 obtain⟨s1,s2,q1,q2⟩:=hD D i σ' H' zs hDn p
 refine⟨q1,by lia,?_⟩
 by_cases hlt:i<min xs.length ys.length
 ·have a1:i<xs.length:=by lia
  have a2:i<ys.length:=by lia
  refine .inr ⟨⟨xs,ys,xs[i],ys[i],s1,s2,by simp [a1],by simp [a2]⟩,Pv D (i+1),λσ2 H2 zs z=>⟨min xs.length ys.length - (i+1),by lia,rfl,hlt,z⟩,λv H'' y=>?_⟩
  obtain⟨T,x,y,e1,e2,e3,e4⟩:=y
  subst e2 e3
  obtain⟨z1,z2⟩:=e4 xs ys s1 s2
  exact hs D i σ' _ zs x y T hDn z1 z2 e1 p
 ·have e:i=min xs.length ys.length:=by lia
  subst e
  exact .inl ⟨⟨xs,ys,s1,s2,by lia⟩,hd D σ' H' zs hDn p⟩
end
theorem jLT:OpR (blk X sc cl C Nc fp s H) (compareOp .In) (rIn X.K false):=jGE
theorem jAK:IxR (blk X sc cl C Nc fp s H) (rIxT X.K):=yL
theorem jEN:y9 (blk X sc cl C Nc fp s H) (.builtin "len") (λxs H Q=>∃p ys,xs=[.ref p]/\(SqL X.K H p ys\/SqT X.K H p ys)/\Q (.int ys.length) H):=jU
def Ext (H H':Hp):Prop:=∀b o,H b=some o->H' b=some o
theorem Ext.refl (H:Hp):Ext H H:=λ_ _ h=>h
theorem Ext.trans {H H1 H2:Hp}(a:Ext H H1)(b:Ext H1 H2):Ext H H2:=λc o h=>b c o (a c o h)
theorem Ext.new {H H1:Hp}{l:Addr}(a:Ext H H1)(hl:H1 l=none)(o:HO):Ext H (upd H1 l o):=λc u h=>by
 have:=a c u h
 rw[j6 (j9 this hl)]
 exact this
theorem Ext.updNew {H H1:Hp}{l:Addr}(a:Ext H H1)(hl:H l=none)(o:HO):Ext H (upd H1 l o):=λc u h=>by
 rw[j6 (j9 h hl)]
 exact a c u h
def TupR (H:Hp)(xs:List V)(Q:VK):Prop:=∀r H',H' r=some (.tup xs)->Ext H H'->Q (.ref r) H'
theorem TupR.new {H:Hp}{xs:List V}{Q:VK}(q:TupR H xs Q){p:Addr}(hp:H p=none):Q (.ref p) (upd H p (.tup xs)):=q p _ j5 ((Ext.refl H).new hp _)
theorem TupR.old {H:Hp}{xs:List V}{Q:VK}(q:TupR H xs Q){p:Addr}(hp:H p=some (.tup xs)):Q (.ref p) H:=q p H hp (Ext.refl H)
def rCatU:R2:=λx y H Q=>∃a b xs ys,x= .ref a/\y= .ref b/\H a=some (.tup xs)/\H b=some (.tup ys)/\xs.length+ys.length<=sizeLine/\TupR H (xs++ys) Q
theorem jRX:OpR X (binaryOp .Add) rCatU:=by
 intro ad s σ H x y v u Q I rx ry h
 obtain⟨a,b,xs,ys,rfl,rfl,ha,hb,hz,q⟩:=h
 by_cases hx:xs=[]
 ·subst hx
  cases rx
  cases ry
  obtain⟨_,its,r1,n1,e1⟩:=I.hok a _ ha
  obtain⟨_,its2,r2,n2,e2⟩:=I.hok b _ hb
  cases r1
  exact concat_meets ⟨_,e1,rfl⟩ ⟨_,e2,rfl⟩ kg seq_tuple_add gE gz (gj _ _) (AutoSeq1.tuple___add___tuple_tuple_0 a _ n1 b its2.toArray n2 (by simp)) ⟨e1,e2, .ref b,H,I,rfl,q.old hb⟩
 ·refine jRY ad s σ H _ _ v u Q I rx ry ⟨a,b,xs,ys,rfl,rfl,SqT.of ha,SqT.of hb,hx,hz,λe=>?_,λ_ p hp=>q.new hp⟩
  subst e
  rw[bg] at q
  exact q.old ha
section
variable (l:Addr)(items:Array Value)(n:Nat)(x:Int)(u:Tok)(h1:¬(decide (x< -(2 ^ 63)) || decide (x ≥ 2 ^ 63))=true)
include h1
end
theorem Inv.big' {ad:List (Addr×Obj)}{σ:St}{H:Hp}{s:Shared}(I:Inv X ad σ H s):sysModules<s.heap.objs.size:=iG (by decide) (I.mod.glob.keeps I.bk).lt
def jTE:TE:=λ_ H Q=>∀p,H p=none->Q (.ref p) (upd H p (.dK []))
theorem jD4 {pos:Pos} :JE X (.Dict [] [] pos) jTE:=⟨λad s σ H Q I h=>
 wpAny_Dict_empty ⟨.ref s.heap.objs.size,_,I.laid (a:=s.heap.objs.size) (o:= .dK []) (t':=s.toks) (λ_ _ q=>ab _ q) (aq _)
  ⟨bi _,cA.mpr (dq (aO I.big')),[], .nil,Heap.DictOf.new s.heap⟩,rfl,h _ (I.hok.fresh (aq _))⟩⟩
theorem jMP {x:Str}{v:V}{u:Value}{pos:Pos}(hg:Gl1 X x)(hm:X.mg x=some u)(r:RelV v u)(hd:(x==("__debug__" :Str))=false:=by decide):JE X (.Name x pos) (tC v):=⟨jRP hg.a hm r hd⟩
theorem jV1 {tg e:Expr}{te:TE}{g:TG}{pos:Pos}(he:JE X e te)(hg:JG X tg g)(hs:swapsWithSole [tg] e pos.line X.env=pure false:=by rfl)(hw:swappedStores [tg] e X.env=pure none:=by rfl)
  (h1:(assignEach [tg] X.env).map (·.2)=[assign tg X.env]:=by rfl):JS X (.Assign [tg] e pos) (tAsg te g):=⟨jQ6 he.h hg.h hs hw h1⟩
section
variable {K:W.Frag}{σ:St}
theorem jFE {a:Addr}{xs:List V}(hn:xs.length<sizeLine)(Pv:Addr->Nat->St->Hp->List V->Prop)(h0:∀D,H1 D=none->Pv D 0 (blkσ m σ) (upd H1 D (.lst [])) [])
  (hD:∀D i σ' H' zs,H1 D=none->Pv D i σ' H' zs->H' a=some (.tup xs)/\H' D=some (.lst zs)/\zs.length<=i)
  (hs:∀D i σ' H' zs x,H1 D=none->xs[i]?=some x->Pv D i σ' H' zs->g x σ' H' λσ2 H2=>tt σ2 H2 λb H3=>if b=true then te σ2 H3 λv H4=>H4 D=some (.lst zs)/\Pv D (i+1) σ2 (upd H4 D (.lst (zs++[v]))) (zs++[v]) else Pv D (i+1) σ2 H3 zs)
  (hd:∀D σ' H' zs,H1 D=none->Pv D xs.length σ' H' zs->Q (.ref D) H'):CompW m g tt te σ Q (Itt K a) H1:=by
 intro D hDn
 refine⟨λi k σ' H' zs=>k=xs.length - i/\i<=xs.length/\Pv D i σ' H' zs,⟨_,rfl,bi _,h0 D hDn⟩,?_⟩
 rintro i k σ' H' zs ⟨rfl,hi,p⟩
 obtain⟨s1,q1,q2⟩:=hD D i σ' H' zs hDn p
 refine⟨q1,by lia,?_⟩
 by_cases hlt:i<xs.length
 ·refine .inr ⟨⟨xs,xs[i],SqT.of s1,by simp [hlt]⟩,Pv D (i+1),λσ2 H2 zs z=>⟨xs.length - (i+1),by lia,rfl,hlt,z⟩,λv H'' y=>?_⟩
  obtain⟨e1,e2⟩:=y
  subst e1
  exact hs D i σ' _ zs v hDn (e2 xs (SqT.of s1)) p
 ·have e:i=xs.length:=by lia
  subst e
  exact .inl ⟨⟨xs,SqT.of s1,aq _⟩,hd D σ' H' zs hDn p⟩
end
inductive Tr where
 | non
 | bl (b:Bool)
 | int (i:Int)
 | str (x:Str)
 | lst (ts:List Tr)
 | tup (ts:List Tr)
mutual
def TAt (H:Hp):Tr->V->Prop
 | .non,v=>v= .non
 | .bl b,v=>v= .bl b
 | .int i,v=>v= .int i
 | .str x,v=>v= .str x
 | .lst ts,v=>∃a vs,v= .ref a/\H a=some (.lst vs)/\TsAt H ts vs
 | .tup ts,v=>∃a vs,v= .ref a/\H a=some (.tup vs)/\TsAt H ts vs
def TsAt (H:Hp):List Tr->List V->Prop
 | [],vs=>vs=[]
 | t::ts,vs=>∃v r,vs=v::r/\TAt H t v/\TsAt H ts r
end
mutual
def dep:Tr->Nat
 | .lst ts=>deps ts+1
 | .tup ts=>deps ts+1
 | _=>0
def deps:List Tr->Nat
 | []=>0
 | t::ts=>max (dep t) (deps ts)
end
mutual
def eqT:Tr->Tr->Bool
 | .non, .non=>true
 | .bl a, .bl b=>a==b
 | .bl a, .int b=>(if a then 1 else 0)==b
 | .int a, .bl b=>a==(if b then 1 else 0)
 | .int a, .int b=>a==b
 | .str a, .str b=>a==b
 | .lst a, .lst b=>eqTs a b
 | .tup a, .tup b=>eqTs a b
 | _,_=>false
def eqTs:List Tr->List Tr->Bool
 | [],[]=>true
 | a::as,b::bs=>eqT a b&&eqTs as bs
 | _,_=>false
end
mutual
theorem jPF:∀t:Tr,eqT t t=true
 | .non=>by simp [eqT]
 | .bl b=>by simp [eqT]
 | .int i=>by simp [eqT]
 | .str x=>by simp [eqT]
 | .lst ts=>by rw[eqT]; exact jDW ts
 | .tup ts=>by rw[eqT]; exact jDW ts
theorem jDW:∀ts:List Tr,eqTs ts ts=true
 | []=>by simp [eqTs]
 | t::ts=>by rw[eqTs,jPF t,jDW ts]; rfl
end
mutual
theorem TAt.ext {H H':Hp}(e:Ext H H'):∀{t:Tr}{v:V},TAt H t v->TAt H' t v
 | .non,_,h=>h
 | .bl _,_,h=>h
 | .int _,_,h=>h
 | .str _,_,h=>h
 | .lst ts,_,⟨a,vs,q,h,r⟩=>⟨a,vs,q,e _ _ h,TsAt.ext e r⟩
 | .tup ts,_,⟨a,vs,q,h,r⟩=>⟨a,vs,q,e _ _ h,TsAt.ext e r⟩
theorem TsAt.ext {H H':Hp}(e:Ext H H'):∀{ts:List Tr}{vs:List V},TsAt H ts vs->TsAt H' ts vs
 | [],_,h=>h
 | t::ts,_,⟨v,r,q,h,s⟩=>⟨v,r,q,TAt.ext e h,TsAt.ext e s⟩
end
mutual
theorem TAt.inj {H:Hp} :∀{t u:Tr}{v:V},TAt H t v->TAt H u v->t=u
 | .non,u,_,h,h'=>by
  cases (show _=V.non from h)
  cases u with
  | non=>rfl
  | bl b=>cases (show V.non=_ from h')
  | int b=>cases (show V.non=_ from h')
  | str b=>cases (show V.non=_ from h')
  | lst ts=>obtain⟨_,_,q,_⟩:=h'; cases q
  | tup ts=>obtain⟨_,_,q,_⟩:=h'; cases q
 | .bl b,u,_,h,h'=>by
  cases (show _=V.bl b from h)
  cases u with
  | non=>cases (show V.bl b=_ from h')
  | bl b=>cases (show V.bl _=V.bl b from h'); rfl
  | int i=>cases (show V.bl b=V.int i from h')
  | str i=>cases (show V.bl b=V.str i from h')
  | lst ts=>obtain⟨_,_,q,_⟩:=h'; cases q
  | tup ts=>obtain⟨_,_,q,_⟩:=h'; cases q
 | .int b,u,_,h,h'=>by
  cases (show _=V.int b from h)
  cases u with
  | non=>cases (show V.int b=_ from h')
  | bl i=>cases (show V.int b=V.bl i from h')
  | int b=>cases (show V.int _=V.int b from h'); rfl
  | str i=>cases (show V.int b=V.str i from h')
  | lst ts=>obtain⟨_,_,q,_⟩:=h'; cases q
  | tup ts=>obtain⟨_,_,q,_⟩:=h'; cases q
 | .str b,u,_,h,h'=>by
  cases (show _=V.str b from h)
  cases u with
  | non=>cases (show V.str b=_ from h')
  | bl i=>cases (show V.str b=V.bl i from h')
  | int i=>cases (show V.str b=V.int i from h')
  | str b=>cases (show V.str _=V.str b from h'); rfl
  | lst ts=>obtain⟨_,_,q,_⟩:=h'; cases q
  | tup ts=>obtain⟨_,_,q,_⟩:=h'; cases q
 | .lst ts,u,_,⟨a,vs,q,h,r⟩,h'=>by
  subst q
  cases u with
  | non=>cases (show V.ref a=_ from h')
  | bl i=>cases (show V.ref a=V.bl i from h')
  | int i=>cases (show V.ref a=V.int i from h')
  | str i=>cases (show V.ref a=V.str i from h')
  | lst us=>
   obtain⟨a',vs',q',h2,r'⟩:=h'
   cases q'
   rw[h] at h2
   cases h2
   rw[TsAt.inj r r']
  | tup us=>
   obtain⟨a',vs',q',h2,r'⟩:=h'
   cases q'
   rw[h] at h2
   cases h2
 | .tup ts,u,_,⟨a,vs,q,h,r⟩,h'=>by
  subst q
  cases u with
  | non=>cases (show V.ref a=_ from h')
  | bl i=>cases (show V.ref a=V.bl i from h')
  | int i=>cases (show V.ref a=V.int i from h')
  | str i=>cases (show V.ref a=V.str i from h')
  | lst us=>
   obtain⟨a',vs',q',h2,r'⟩:=h'
   cases q'
   rw[h] at h2
   cases h2
  | tup us=>
   obtain⟨a',vs',q',h2,r'⟩:=h'
   cases q'
   rw[h] at h2
   cases h2
   rw[TsAt.inj r r']
theorem TsAt.inj {H:Hp} :∀{ts us:List Tr}{vs:List V},TsAt H ts vs->TsAt H us vs->ts=us
 | [],us,_,h,h'=>by
  cases (show _=[] from h)
  cases us with
  | nil=>rfl
  | cons u us=>obtain⟨_,_,q,_⟩:=h'; cases q
 | t::ts,us,_,⟨v,r,q,h,s⟩,h'=>by
  subst q
  cases us with
  | nil=>cases (show v::r=[] from h')
  | cons u us=>
   obtain⟨v',r',q,h2,s2⟩:=h'
   cases q
   rw[TAt.inj h h2,TsAt.inj s s2]
end
theorem TsAt.len {H:Hp} :∀{ts:List Tr}{vs:List V},TsAt H ts vs->vs.length=ts.length
 | [],_,h=>by cases (show _=[] from h); rfl
 | t::ts,_,⟨v,r,q,_,s⟩=>by rw[q,aP,aP,TsAt.len s]
theorem TsAt.get {H:Hp} :∀{ts:List Tr}{vs:List V},TsAt H ts vs->∀{i:Nat}{v:V},vs[i]?=some v->∃t,ts[i]?=some t/\TAt H t v
 | [],_,h,i,v,e=>by cases (show _=[] from h); cases e
 | t::ts,_,⟨v,r,q,h,s⟩,0,v',e=>by subst q; cases e; exact⟨t,rfl,h⟩
 | t::ts,_,⟨v,r,q,h,s⟩,i+1,v',e=>by subst q; exact TsAt.get s (i:=i) e
theorem jSW {ts:List Tr}{t:Tr}(h:t∈ts):dep t<=deps ts:=by
 induction ts with
 | nil=>cases h
 | cons a r ih=>
  rw[deps]
  rcases ar.mp h with q | q
  ·subst q; lia
  ·have:=ih q; lia
section
variable {ad:List (Addr×Obj)}{σ:St}
theorem Room.units101 {k:Nat}{A:Around}(r:Room k A):A.units+101<cLine:=by have:=r.un; lia
end
theorem jNI {x:Str}{c:Addr} :∀(l:List (Str×NameKind)) (n:Nat) (acc:List (Str×Addr)),(cellsFrom n l acc).lookup x=some c->acc.lookup x=some c\/(n<=c/\(x,NameKind.cell)∈l)
 | [],n,acc,h=> .inl h
 | (y,k)::r,n,acc,h=>by
  unfold cellsFrom at h
  by_cases hk:(k==NameKind.cell)=true
  ·rw[am hk] at h
   have ek:k= .cell:=eq_of_beq hk
   rcases jNI r (n+1) _ h with q | ⟨q1,q2⟩
   ·rw[aY] at q
    cases e:x==y with
    | true=>
     rw[e] at q
     cases q
     exact .inr ⟨aq _,by rw[eq_of_beq e,ek]; exact ag⟩
    | false=>rw[e] at q; exact .inl q
   ·exact .inr ⟨by lia,ah _ q2⟩
  ·rw[aj hk] at h
   rcases jNI r n _ h with q | ⟨q1,q2⟩
   ·exact .inl q
   ·exact .inr ⟨q1,ah _ q2⟩
theorem jNK:∀(l:List (Str×NameKind)) (n:Nat) (acc:List (Str×Addr)),(∀x y c,acc.lookup x=some c->acc.lookup y=some c->x=y)->(∀x c,acc.lookup x=some c->c<n)->
  ∀x y c,(cellsFrom n l acc).lookup x=some c->(cellsFrom n l acc).lookup y=some c->x=y
 | [],n,acc,h1,_=>h1
 | (z,k)::r,n,acc,h1,h2=>by
  unfold cellsFrom
  by_cases hk:(k==NameKind.cell)=true
  ·rw[am hk]
   refine jNK r (n+1) _ (λx y c a b=>?_) (λx c a=>?_)
   ·rw[aY] at a b
    cases e1:x==z with
    | true=>
     rw[e1] at a
     cases a
     cases e2:y==z with
     | true=>exact(eq_of_beq e1).trans (eq_of_beq e2).symm
     | false=>rw[e2] at b; exact absurd (h2 y n b) (b8 _)
    | false=>
     rw[e1] at a
     cases e2:y==z with
     | true=>rw[e2] at b; cases b; exact absurd (h2 x n a) (b8 _)
     | false=>rw[e2] at b; exact h1 x y c a b
   ·rw[aY] at a
    cases e1:x==z with
    | true=>rw[e1] at a; cases a; exact fO _
    | false=>rw[e1] at a; exact bL (h2 x c a)
  ·rw[aj hk]
   exact jNK r n acc h1 h2
theorem jNL {x:Str} :∀(l:List (Str×NameKind)) (n:Nat) (acc:List (Str×Addr)),((x,NameKind.cell)∈l\/∃c,acc.lookup x=some c)->∃c,(cellsFrom n l acc).lookup x=some c
 | [],n,acc,h=>by
  rcases h with h | h
  ·cases h
  ·exact h
 | (z,k)::r,n,acc,h=>by
  unfold cellsFrom
  by_cases hk:(k==NameKind.cell)=true
  ·rw[am hk]
   refine jNL r (n+1) _ ?_
   by_cases e:x=z
   ·subst e
    exact .inr ⟨n,by rw[aY,gZ]⟩
   ·rcases h with h | ⟨c,h⟩
    ·rcases ar.mp h with q | q
     ·cases q; exact absurd rfl e
     ·exact .inl q
    ·exact .inr ⟨c,by rw[aY,cA.mpr e]; exact h⟩
  ·rw[aj hk]
   refine jNL r n acc ?_
   rcases h with h | h
   ·rcases ar.mp h with q | q
    ·cases q; exact absurd rfl hk
    ·exact .inl q
   ·exact .inr h
theorem jNJ {x:Str}{c n0:Nat} :∀(l:List (Str×NameKind)) (n:Nat) (acc:List (Str×Addr)),n0<=n->((x,NameKind.cell)∈l\/∀c,acc.lookup x=some c->n0<=c)->(cellsFrom n l acc).lookup x=some c->n0<=c
 | [],n,acc,_,h,e=>by
  rcases h with h | h
  ·cases h
  ·exact h c e
 | (z,k)::r,n,acc,hn,h,e=>by
  unfold cellsFrom at e
  by_cases hk:(k==NameKind.cell)=true
  ·rw[am hk] at e
   refine jNJ r (n+1) _ (by lia) ?_ e
   by_cases ez:x=z
   ·subst ez
    refine .inr λc' h'=>?_
    rw[aY,gZ] at h'
    cases h'
    exact hn
   ·rcases h with h | h
    ·rcases ar.mp h with q | q
     ·cases q; exact absurd rfl ez
     ·exact .inl q
    ·refine .inr λc' h'=>?_
     rw[aY,cA.mpr ez] at h'
     exact h c' h'
  ·rw[aj hk] at e
   refine jNJ r n acc hn ?_ e
   rcases h with h | h
   ·rcases ar.mp h with q | q
    ·cases q; exact absurd rfl hk
    ·exact .inl q
   ·exact .inr h
theorem jIB {x:Str} :∀(l:List (Str×NameKind)) (n:Nat) (acc:List (Str×Addr)),(x,NameKind.cell)∉l->(cellsFrom n l acc).lookup x=acc.lookup x
 | [],_,_,_=>rfl
 | (z,k)::r,n,acc,h=>by
  unfold cellsFrom
  by_cases hk:(k==NameKind.cell)=true
  ·have ek:k= .cell:=eq_of_beq hk
   subst ek
   have ne:x≠z:=λe=>h (by rw[e]; exact ag)
   rw[am hk,jIB r (n+1) _ (λq=>h (ah _ q)),aY,cA.mpr ne]
  ·rw[aj hk,jIB r n _ (λq=>h (ah _ q))]
theorem jIC:∀(l:List (Str×NameKind)) (h:Heap) (acc:List (Str×Addr)),(∀x c,acc.lookup x=some c->∃v,h.IsCell c v)->∀x c,(cellsFrom h.objs.size l acc).lookup x=some c->∃v,(pushCells h l).IsCell c v
 | [],h,acc,k=>k
 | (z,k)::r,h,acc,hc=>by
  unfold cellsFrom pushCells
  by_cases hk:(k==NameKind.cell)=true
  ·rw[am hk,am hk]
   have e:(h.push { cls:= .type "cell",data:= .cell none}).objs.size=h.objs.size+1:=bK _ _
   rw[<- e]
   refine jIC r _ _ (λx c q=>?_)
   rw[aY] at q
   cases ez:x==z with
   | true=>rw[ez] at q; cases q; exact⟨none,⟨_,ao _ rfl,rfl⟩⟩
   | false=>
    rw[ez] at q
    obtain⟨v,o,ho,hd⟩:=hc x c q
    exact⟨v,o,ab _ ho,hd⟩
  ·rw[aj hk,aj hk]
   exact jIC r h acc hc
theorem jDK {env:Env}{x:Str}{k:NameKind}(hk:k= .cell\/k= .free):∀{l:List (Str×NameKind)},
  (l.map λ(n,k)=>if (k==NameKind.free&&env.scope.kind== .function&&env.kindOf n==some .cell) then (n,NameKind.cell) else (n,k)).lookup x=some k->(x,NameKind.cell)∈l\/(x,NameKind.free)∈l
 | [],h=>by simp at h
 | (n,k')::r,h=>by
  have ih:= @jDK env x k hk r
  have up:(x,NameKind.cell)∈r\/(x,NameKind.free)∈r->(x,NameKind.cell)∈(n,k')::r\/(x,NameKind.free)∈(n,k')::r:=λq=>q.imp (ah _) (ah _)
  rw[aX] at h
  dsimp only at h
  by_cases hb:(k'==NameKind.free&&env.scope.kind== .function&&env.kindOf n==some .cell)=true
  ·rw[am hb,aY] at h
   cases hx:x==n with
   | true=>
    have:k'= .free:=by
     simp only [eR] at hb
     exact eq_of_beq hb.1.1
    rw[this,eq_of_beq hx]
    exact .inr ag
   | false=>rw[hx] at h; exact up (ih h)
  ·rw[aj hb,aY] at h
   cases hx:x==n with
   | true=>
    rw[hx] at h
    have e:k'=k:=bA h
    rw[eq_of_beq hx,e]
    rcases hk with q | q
    ·rw[q]; exact .inl ag
    ·rw[q]; exact .inr ag
   | false=>rw[hx] at h; exact up (ih h)
theorem jHV {M:Model}{A:Around}{E:Value->Shared->Prop}{s:Shared}{scope:Scope}{globals:Addr}{closure:List (Str×Addr)}{qual:Str}{func:Option Addr}{code:Value}{outer:Env}{builtins:Addr}{Q:Env->Shared->Prop}
  (hQ:Q (newEnv scope s.heap.objs.size globals (cellsFrom (s.heap.objs.size+1) scope.names closure) qual func code (some outer) builtins) { s with heap:=pushCells (s.heap.push { cls:= .type "dict",data:= .dict #[]}) scope.names}):
  wpAny M A (newFunctionEnv scope globals closure [] qual func code (some outer) builtins) Q E s:=by
 simp only [newFunctionEnv,mB,fH]
 refine aa (wpAny_alloc ?_)
 refine aa (wpAny_layCells _ (λname kind cells=>by cases hkc:kind==NameKind.cell <;> simp [hkc]) _ _ _ _ ?_)
 rw[show ({ s with heap:=s.heap.push { cls:= .type "dict",data:= .dict #[]}} :Shared).heap.objs.size=s.heap.objs.size+1 from bK ..]
 first
  | exact ai hQ
  | exact aa (ai (ai hQ))
  | (rw[iY]; exact aa (ai (ai hQ)))
def blkC (X:Cx)(sc:Scope)(cl:List (Str×Addr))(C:Addr)(Nc:List Str)(fp:List Addr)(s:Shared)(H:Hp):Cx where
 prog:=X.prog
 w:=X.w
 K:=X.K
 mg:=X.mg
 base:=X.base
 A:=X.A
 N:=Nc
 s₀:=s
 H₀:=H
 env:=compEnvC sc cl C X.env
 outer:=X.stack
 stack:=X.stack
 ex:=fp
 fn:=λx=>sc.names.lookup x==some .cell
 calm:=X.calm
 pn:=[]
 xe:=λ_ _=>False
section
variable {tg iter elt:Expr}{ifs:List Expr}{wi:TI}
theorem jKF {ad:List (Addr×Obj)}{s:Shared}{σ:St}{H:Hp}{fp:List Addr}(I:Inv X ad σ H s)(hkind:sc.kind= .function)(hdis:∀x,sc.names.lookup x=some .free->(x,NameKind.cell)∉sc.names)
  (hfree:∀y∈sc.names,y.2= .free->X.env.scope.names.lookup y.1=some .cell\/X.env.scope.names.lookup y.1=some .free) (hm:qE X sc Nc m) (hfp:∀b∈fp,FpOk X ad H b) (hlt:∀b∈fp,b<s.heap.objs.size):
  Inv (blkC X sc (cellsFrom (s.heap.objs.size+1) sc.names (jF X.env.cells sc.names [])) s.heap.objs.size Nc fp s H) [] (blkσ m σ) H { s with heap:=pushCells (s.heap.push { cls:= .type "dict",data:= .dict #[]}) sc.names} :=by
 have hcl:∀y∈sc.names,y.2= .free->∃c,X.env.cells.lookup y.1=some c:=λy hy hf=>I.ok.has y.1 (hfree y hy hf)
 have sub:∀x c,(jF X.env.cells sc.names []).lookup x=some c->X.env.cells.lookup x=some c:=jAH sc.names [] hcl (λx c e=>by cases e)
 have clt:∀x c,(jF X.env.cells sc.names []).lookup x=some c->c<s.heap.objs.size:=λx c e=>by
  obtain⟨v,o,ho,_⟩:=I.cell x c (sub x c e)
  exact ay ho
 have way:∀x c,(cellsFrom (s.heap.objs.size+1) sc.names (jF X.env.cells sc.names [])).lookup x=some c->(jF X.env.cells sc.names []).lookup x=some c\/s.heap.objs.size+1<=c:=λx c e=>(jNI _ _ _ e).imp id λq=>q.1
 have old:∀b o,s.heap.get? b=some o->(pushCells (s.heap.push { cls:= .type "dict",data:= .dict #[]}) sc.names).get? b=some o:=λb o e=>lA _ _ b o (ab _ e)
 have hns:(pushCells (s.heap.push { cls:= .type "dict",data:= .dict #[]}) sc.names).Ns s.heap.objs.size (λ_=>none):=(Heap.Ns.new s.heap (.type "dict")).keeps (lA _ _)
 refine⟨⟨I.ok.mod,hkind,I.ok.glob,I.ok.blt,aq _,jNK _ _ _ (λx y c h1 h2=>I.ok.inj x y c (sub x c h1) (sub y c h2)) (λx c e=>bL (clt x c e)),λx hx=>?_,λx c hf e=>?_,I.ok.hd,I.ok.frames, .inl rfl,λb hb=>?_,I.bs,bf I.ok.bsz I.sz,λb o e hb=>?_,λb hb hz=>?_,I.stack,I.stkFree⟩,
  rfl,I.bare,Un.kept old,⟨_,hns,λk x v e1 e2 e3=>?_⟩,λx c e=>?_,I.hok.fresh (aq _),λx c e=>?_,λp hp=>absurd (show p∈([]:List (Addr×Obj)) from hp) (by simp),I.hok.kept old,?_⟩
 ·have q:(x,NameKind.cell)∈sc.names\/(x,NameKind.free)∈sc.names:=by
   rcases hx with h | h
   ·exact jDK (.inl rfl) h
   ·exact jDK (.inr rfl) h
  exact jNL _ _ _ (q.imp id λq=>jA7 sc.names [] (.inl q))
 ·have hf:(sc.names.lookup x==some NameKind.cell)=true:=hf
  have:=jNJ (n0:=s.heap.objs.size+1) _ _ _ (aq _) (.inl (jA3 (eq_of_beq hf))) e
  exact Nat.le_of_succ_le this
 ·obtain⟨f0,f1,f2,f3,f4,f5⟩:=hfp b hb
  refine⟨aO (hlt b hb),λx c e=>?_⟩
  rcases way x c e with q | q
  ·exact f4 x c (sub x c q)
  ·exact cD (aR (hlt b hb) (Nat.le_of_succ_le q))
 ·obtain⟨f0,f1,f2,f3,f4,f5⟩:=hfp b hb
  rcases f3 with q | q
  ·exact I.ok.noex b o e q
  ·exact absurd (aR (ay (I.ok.bs b o e).1) q) (b8 _)
 ·obtain⟨f0,f1,f2,f3,f4,f5⟩:=hfp b hb
  rcases ar.mp (I.stkSub b hz) with q | q
  ·exact f1 q
  ·exact f2 q
 ·have e2':∃i,m[k]?=some (some i)/\σ[i]?=some (some v):=by
   unfold blkσ at e2
   rw[aJ] at e2
   cases q:m[k]? with
   | none=>rw[q] at e2; cases e2
   | some o=>
    rw[q] at e2
    cases o with
    | none=>cases e2
    | some i=>
     refine⟨i,rfl,?_⟩
     have e2:(σ[i]?).getD none=some v:=bA e2
     cases r:σ[i]? with
     | none=>rw[r] at e2; cases e2
     | some z=>rw[r] at e2; exact bS some e2
  obtain⟨i,q1,q2⟩:=e2'
  obtain⟨x',a1,a2,a3⟩:=hm.2 k i q1
  have e1':Nc[k]?=some x:=e1
  rw[e1'] at a1
  cases a1
  have vis:=hfree (x, .free) (jA3 a3) rfl
  obtain⟨m0,hn0,hl0⟩:=I.loc
  obtain⟨u,r,l⟩:=hl0 i x v a2 q2 (.inr vis)
  refine⟨u,r, .inr ⟨jAG a3,?_⟩⟩
  obtain⟨c,hc⟩:=jA7 (cells:=X.env.cells) (x:=x) sc.names [] (.inl (jA3 a3))
  rcases l with ⟨lk,_⟩ | ⟨_,c',hc',o,ho,hd⟩
  ·have lk':X.env.scope.names.lookup x=some .local:=lk
   rcases vis with z | z
   ·rw[lk'] at z; cases z
   ·rw[lk'] at z; cases z
  ·have:=sub x c hc
   rw[hc'] at this
   cases this
   exact⟨c,(jIB _ _ _ (hdis x a3)).trans hc,o,old _ _ ho,hd⟩
 ·have e':(cellsFrom (s.heap.push { cls:= .type "dict",data:= .dict #[]}).objs.size sc.names (jF X.env.cells sc.names [])).lookup x=some c:=by
   rw[show (s.heap.push { cls:= .type "dict",data:= .dict #[]}).objs.size=s.heap.objs.size+1 from bK _ _]
   exact e
  refine jIC _ _ _ (λx c q=>?_) x c e'
  obtain⟨v,o,ho,hd⟩:=I.cell x c (sub x c q)
  exact⟨v,o,ab _ ho,hd⟩
 ·rcases way x c e with q | q
  ·exact I.freeC x c (sub x c q)
  ·exact I.hok.fresh (by lia)
 ·show (blkσ m σ).length=Nc.length
  unfold blkσ
  rw[ae]
  exact hm.1
theorem jOL (hc:X.calm=true)(hi:PI X tg iter wi)(hkind:sc.kind= .function)(hdis:∀x,sc.names.lookup x=some .free->(x,NameKind.cell)∉sc.names)(hnames:∀y∈sc.names,y.2= .local->sc.names.lookup y.1=some .local)
  (hfree:∀y∈sc.names,y.2= .free->X.env.scope.names.lookup y.1=some .cell\/X.env.scope.names.lookup y.1=some .free) (hm:qE X sc Nc m)
  (hg:∀cl C fp s H,PG (blkC X sc cl C Nc fp s H) tg g) (ht:∀cl C fp s H,PTs (blkC X sc cl C Nc fp s H) ifs tt) (he:∀cl C fp s H,PE (blkC X sc cl C Nc fp s H) elt te)
  (hs:∀x,foldedSetIterable iter X.env x=pure x:=by intro _; rfl):PE X (.ListComp elt [⟨tg,iter,ifs,0⟩] sc pos) (tComp m wi g tt te):=by
 intro ad s σ H Q I h
 rw[eval_ListComp]
 have hcl:∀y∈sc.names,y.2= .free->∃c,X.env.cells.lookup y.1=some c:=λy hy hf=>I.ok.has y.1 (hfree y hy hf)
 refine ju (use:=none) rfl hs (jFF hcl) hkind hnames (mI (hi ad s σ H _ I h) λv s1 h1=>mI h1 λitv s2 h2=>?_)
 obtain⟨it,fp,tn,J,H2,e,I2,T,st2,f2,hQ⟩:=h2
 subst e
 have hlt:∀b∈fp,b<s2.heap.objs.size:=λb hb=>by
  obtain⟨o,e,_⟩:=T.obj 0 _ st2 b hb
  exact ay e
 refine cE (jHV ?_)
 have I3:Inv X ad σ (upd H2 s2.heap.objs.size (.lst [])) { s2 with heap:=s2.heap.push { cls:= .type "list",data:= .seq ([]:List Value).toArray}} :=I2.lnew (t':=s2.toks) .nil (bi _)
 obtain⟨W,⟨n0,w0⟩,turn⟩:=hQ s2.heap.objs.size I2.fresh
 have hD3:∀b∈fp,b≠s2.heap.objs.size:=λb hb=>aO (hlt b hb)
 have f3:∀b∈fp,FpOk X ad (upd H2 s2.heap.objs.size (.lst [])) b:=λb hb=>by
  obtain⟨a0,a1⟩:=f2 b hb
  exact⟨by rw[j6 (hD3 b hb)]; exact a0,a1⟩
 generalize hE:({ s2 with heap:=s2.heap.push { cls:= .type "list",data:= .seq ([]:List Value).toArray}} :Shared)=s3 at I3 ⊢
 generalize hH3:upd H2 s2.heap.objs.size (.lst [])=H3 at I3 f3 w0
 have hsz3:s3.heap.objs.size=s2.heap.objs.size+1:=by rw[<- hE]; exact bK _ _
 have I4:=jKF (fp:=fp) I3 hkind hdis hfree hm f3 (λb hb=>show b<s3.heap.objs.size by rw[hsz3]; exact bL (hlt b hb))
 have old:∀b o,s3.heap.get? b=some o->(pushCells (s3.heap.push { cls:= .type "dict",data:= .dict #[]}) sc.names).get? b=some o:=λb o e=>lA _ _ b o (ab _ e)
 have old2:∀b o,s2.heap.get? b=some o->(pushCells (s3.heap.push { cls:= .type "dict",data:= .dict #[]}) sc.names).get? b=some o:=λb o e=>old b o (by rw[<- hE]; exact ab _ e)
 have st4:tn 0 (pushCells (s3.heap.push { cls:= .type "dict",data:= .dict #[]}) sc.names):=T.keep _ _ _ st2 λb hb o e=>old2 b o e
 clear old old2
 generalize hcs:cellsFrom (s3.heap.objs.size+1) sc.names (jF X.env.cells sc.names [])=cs at I4 ⊢
 generalize hh1:pushCells (s3.heap.push { cls:= .type "dict",data:= .dict #[]}) sc.names=h₁ at I4 st4 ⊢
 have loop:codeAny (model X.prog X.w) X.A (.compLoop (.ListComp elt [⟨tg,iter,ifs,0⟩] sc pos) 0 (.ref it) (.ref s2.heap.objs.size) (compEnvC sc cs s3.heap.objs.size X.env))
   (compPost (model X.prog X.w) X.A X.xe none (EP X ad σ Q) (.ref s2.heap.objs.size) s3.heap.objs.size) { s3 with heap:=h₁} :=by
  generalize hX:blkC X sc cs s3.heap.objs.size Nc fp s3 H3=Xb at I4
  have eP:Xb.prog=X.prog:=by rw[<- hX]; rfl
  have ew:Xb.w=X.w:=by rw[<- hX]; rfl
  have eK:Xb.K=X.K:=by rw[<- hX]; rfl
  have eA:Xb.A=X.A:=by rw[<- hX]; rfl
  have ec:Xb.calm=true:=by rw[<- hX]; exact hc
  have ee:Xb.env=compEnvC sc cs s3.heap.objs.size X.env:=by rw[<- hX]; rfl
  have ex:Xb.xe=λ_ _=>False:=by rw[<- hX]; rfl
  have hgb:PG Xb tg g:=by rw[<- hX]; exact hg _ _ _ _ _
  have htb:PTs Xb ifs tt:=by rw[<- hX]; exact ht _ _ _ _ _
  have heb:PE Xb elt te:=by rw[<- hX]; exact he _ _ _ _ _
  have stat:∀{H':Hp},(∀b∈fp,H' b=none)->∀b∈fp,FpOk Xb [] H' b:=λ{H'} hn b hb=>by
   obtain⟨o,eo,_⟩:=T.obj _ _ st4 b hb
   have q:=I4.ok.exf b (by rw[<- hX]; exact hb)
   exact⟨hn b hb,q.1,I4.ok.exfs b (by rw[<- hX]; exact hb), .inl (by rw[<- hX]; exact hb),q.2,λp hp=>absurd hp (by rw[<- hX]; simp [blkC])⟩
  have fr4:∀b∈fp,H3 b=none:=λb hb=>(f3 b hb).1
  unfold PG at hgb
  unfold PTs at htb
  unfold PE at heb
  rw[eP,ew,eA,ee,ex] at hgb htb heb
  refine jEK (λn z=>∃i σ' H' ys,Inv Xb [] σ' H' z/\tn i z.heap/\(∀b∈fp,H' b=none)/\W i n σ' H' ys) ?_ n0 ⟨0,_,H3,[],I4,st4,fr4,w0⟩
  rintro n z ⟨i,σ5,H5,ys,I5,st5,fr5,w5⟩
  obtain⟨hD,hlen,way⟩:=turn i n σ5 H5 ys w5
  rcases way with ⟨stop,q⟩ | ⟨go,N,hN,step⟩
  ·have R:=T.done Xb eP ew eK ec i [] z σ5 H5 (λ_ _=>False) I5 (stat fr5) st5 stop
   rw[eA] at R
   refine mI R λr z1 ⟨hr,I6⟩=>?_
   subst hr
   obtain⟨mm,hn6,_⟩:=I6.loc
   rw[ee] at hn6
   refine⟨mm,hn6,λh' sb=>?_⟩
   have u6:Un (frs X.stack) fp H3 H5 s3.heap z1.heap:=by
    have:=I6.base
    rw[<- hX] at this
    exact this
   have fC:H5 s3.heap.objs.size=none:=by
    have:=I6.free
    rw[ee] at this
    exact this
   have hok6:HOk X.prog X.w H5 z1.heap:=by
    have:=I6.hok
    rw[eP,ew] at this
    exact this
   have os6:z1.os=s3.os:=by
    have:=I6.os
    rw[<- hX] at this
    exact this
   refine⟨.ref s2.heap.objs.size,H5,I3.call' (s':= { z1 with heap:=h'}) (ch:=fp) os6 (u6.sameBut sb (aq _)) (hok6.sameBut sb fC) I6.bare (λb hb=>?_),rfl,q⟩
   obtain⟨a0,a1,a2,a3,a4,a5⟩:=f3 b hb
   exact⟨a3,a1,a4,a5⟩
  ·have R:=T.item Xb eP ew eK ec i [] z σ5 H5 (λ_ _=>False) I5 (stat fr5) st5 go
   rw[eA] at R
   refine mI R λr z1 ⟨u,hr,h6⟩=>?_
   subst hr
   refine mI h6 λ_ z2 ⟨x,H7,I7,r7,y7,st7,fr7⟩=>?_
   have I7':=I7.pinned (stat fr7) (T.obj _ _ st7)
   refine mI (hgb _ z2 σ5 H7 x u _ I7' r7 (step x H7 y7)) λ_ z3 ⟨σ8,H8,I8,q8⟩=>?_
   refine mI (htb _ z3 σ8 H8 _ I8 q8) λok z4 ⟨H9,I9,q9⟩=>?_
   have again:∀{σ7:St}{Hz:Hp}{zz:Shared}{yy:List V}{n':Nat},Inv Xb ([]++jE9 fp z2.heap) σ7 Hz zz->n'<n->W (i+1) n' σ7 Hz yy->∃k,k<n/\∃i σ' H' ys,Inv Xb [] σ' H' zz/\tn i zz.heap/\(∀b∈fp,H' b=none)/\W i k σ' H' ys:=λ{σ7 Hz zz yy n'} Iz hn wz=>by
    refine⟨n',hn,i+1,σ7,Hz,yy,Iz.unpinned,T.keep _ _ _ st7 λb hb o e=>(Iz.pin (b,o) (az _ (az _ (jAF hb e)))).1,λb hb=>?_,wz⟩
    obtain⟨o,e,d⟩:=T.obj _ _ st7 b hb
    exact(Iz.pin (b,o) (az _ (az _ (jAF hb e)))).2.1
   cases ok with
   | false=>
    obtain⟨n',hn,w9⟩:=hN _ _ _ (show N σ8 H9 ys from q9)
    exact again I9 hn w9
   | true=>
    refine mI (heb _ z4 σ8 H9 _ I9 q9) λxv z5 ⟨vv,H10,I10,r10,hD10,n10⟩=>?_
    obtain⟨n',hn,w10⟩:=hN _ _ _ n10
    have R:=jAP (X:=Xb) _ z5 σ8 H10 (.ref s2.heap.objs.size) [vv] (.ref s2.heap.objs.size) [xv] (λ_ H'=>H'=upd H10 s2.heap.objs.size (.lst (ys++[vv]))) I10 rfl (.cons r10 .nil) ⟨_,ys,vv,rfl,rfl,hD10,hlen,rfl⟩
    rw[eP,ew,eA,ex] at R
    refine mI R λ_ z6 ⟨_,H11,I11,_,e11⟩=>?_
    subst e11
    exact again I11 hn w10
 exact codeAny_compStart_list loop (T.self _ 0 _ _ _ st4 loop)
theorem jVF (h:(sc.names.all λy=>decide (y.2= .cell->sc.names.lookup y.1=some .cell))=true):∀x,sc.names.lookup x=some .free->(x,NameKind.cell)∉sc.names:=λx hx hm=>by
 have:=aU (cM.mp h _ hm) rfl
 rw[hx] at this
 cases this
theorem jJ9 (hc:X.calm=true)(hi:JI X tg iter wi)(hkind:sc.kind= .function)(hdis:(sc.names.all λy=>decide (y.2= .cell->sc.names.lookup y.1=some .cell))=true)(hnames:∀y∈sc.names,y.2= .local->sc.names.lookup y.1=some .local)
  (hfree:∀y∈sc.names,y.2= .free->X.env.scope.names.lookup y.1=some .cell\/X.env.scope.names.lookup y.1=some .free) (hm:qE X sc Nc m)
  (hg:∀cl C fp s H,JG (blkC X sc cl C Nc fp s H) tg g) (ht:∀cl C fp s H,JTs (blkC X sc cl C Nc fp s H) ifs tt) (he:∀cl C fp s H,JE (blkC X sc cl C Nc fp s H) elt te)
  (hs:FoOk iter):JE X (.ListComp elt [⟨tg,iter,ifs,0⟩] sc pos) (tComp m wi g tt te):=⟨jOL hc hi.h hkind (jVF hdis) hnames hfree hm (λcl C fp s H=>(hg cl C fp s H).h) (λcl C fp s H=>(ht cl C fp s H).h) (λcl C fp s H=>(he cl C fp s H).h) (hs.h _)⟩
end
section
theorem gl_bC (h:sc.names.lookup x=some .globalImplicit):Gl1 (blkC X sc cl C Nc fp s H) x:=⟨jA4 (by decide) h⟩
theorem jKU (h:sc.names.lookup x=some .free):Vis1 (blkC X sc cl C Nc fp s H) x:=⟨.inr (jAG h)⟩
theorem jM7 (h:sc.names.lookup x=some .cell):Loc1 (blkC X sc cl C Nc fp s H) x:=⟨.inr (jA4 (by decide) h), .inl (by show (sc.names.lookup x==some NameKind.cell)=true; rw[h]; rfl)⟩
theorem jJD {sc2:Scope}(h:(sc2.names.all λy=>decide (y.2= .free->sc.names.lookup y.1=some .cell\/sc.names.lookup y.1=some .free))=true):
  ∀y∈sc2.names,y.2= .free->(blkC X sc cl C Nc fp s H).env.scope.names.lookup y.1=some .cell\/(blkC X sc cl C Nc fp s H).env.scope.names.lookup y.1=some .free:=λy hy hf=>by
 rcases aU (cM.mp h y hy) hf with q | q
 ·exact .inl (jA4 (by decide) q)
 ·exact jAG q
theorem jK7:IxR (blkC X sc cl C Nc fp s H) (rIxL X.K):=jB3
theorem jMS:IxR (blkC X sc cl C Nc fp s H) (rIxT X.K):=yL
theorem jGM {tg a:Expr}{ta:TE}(hl:JE (blkC X sc cl C Nc fp s H) a ta):JI (blkC X sc cl C Nc fp s H) tg a (iTup X.K ta):=jGN hl
variable {sc2:Scope}{cl2:List (Str×Addr)}{C2:Addr}{Nc2:List Str}{fp2:List Addr}{s2:Shared}{H2:Hp}
theorem jIV:OpR (blk (blkC X sc cl C Nc fp s H) sc2 cl2 C2 Nc2 fp2 s2 H2) (compareOp .In) (rIn X.K false):=jGE
theorem jAQ:IxR (blk (blkC X sc cl C Nc fp s H) sc2 cl2 C2 Nc2 fp2 s2 H2) (rIxT X.K):=yL
end
def rAny (K:W.Frag):List V->Hp->VK->Prop:=λxs H Q=>∃(p:Addr) (bs:List Bool),xs=[.ref p]/\SqL K H p (bs.map V.bl)/\Q (.bl (bs.any id)) H
theorem jGZ (hc:X.calm=true):y9 X (.builtin "any") (rAny X.K):=by
 intro ad s σ H xs us Q I r h
 obtain⟨p,bs,rfl,hq,q⟩:=h
 obtain⟨u,rfl,rx⟩:=r.one
 cases rx
 obtain⟨its,r',pl,hz⟩:=I.list hq
 have hlen:=r'.length
 rw[ae] at hlen
 refine call_any_walk (cQ pl.isList ?_)
 have hne:p≠s.heap.objs.size:=by
  obtain⟨o,ho,_⟩:=pl.isList
  exact aO (ay ho)
 refine⟨s.heap.objs.size,_,_,_,_,_,λi=>bs.getD i true,rfl,iW (by simpa using I.ok.hd hc) _ p hne its.toArray,⟨⟨_,ao _ rfl,rfl,rfl⟩,pl.isList.push _⟩,λi v z Q' E' hP hQ'=>?_,λh' tk hk=>?_⟩
 ·have hi:its[i]?=some v:=by simpa using hP
  have hb:i<bs.length:=by
   rw[hlen]
   exact(ax.mp hi).1
  obtain⟨u,hu,ru⟩:=r'.get (i:=i) (x:= .bl (bs[i])) (by simp [hb])
  rw[hi] at hu
  cases hu
  cases ru
  have e:bs.getD i true=bs[i]:=by simp [List.getD,hb]
  have hQ2:Q' (bs.getD i true) z:=hQ'
  rw[e] at hQ2
  exact ai hQ2
 ·have e:(List.range its.toArray.size).any (λi=>bs.getD i true)=bs.any id:=by
   rw[aG,<- hlen]
   rw[dO,fQ,fQ]
   constructor
   ·rintro ⟨i,hi,hb⟩
    have hi:=cG.mp hi
    exact⟨bs[i],dz hi,by simpa [List.getD,hi] using hb⟩
   ·rintro ⟨b,hb,hq⟩
    obtain⟨i,hi,rfl⟩:=ge hb
    exact⟨i,cG.mpr hi,by simpa [List.getD,hi] using hq⟩
  rw[e]
  exact⟨.bl _,H,I.kept (t':=tk) λb o e=>hk b o (by
   intro z
   have z:b=s.heap.objs.size:=by simpa using z
   exact absurd (ay e) (by rw[z]; exact b8 _)) (ab _ e),rfl,q⟩
theorem jP3 {c:Expr}{body:List Stmt}{tc:TT}{tb:TS}{pos:Pos}(hp:PassesOwn (model X.prog X.w) X.A X.env X.xe)(hc:JT X c tc)(hb:JSs X body tb):JS X (.While c body [] pos) (jPU tc tb):=⟨jOD hp hc.h hb.h⟩
theorem jGF {op:CmpOp}{a b:Expr}{pos:Pos} :behindInMarks op (.Subscript a b pos)=false:=by cases op <;> rfl
theorem jGY (hc:X.calm=true):y9 (blkC X sc cl C Nc fp s H) (.builtin "any") (rAny X.K):=jGZ hc
end L2
namespace L2
open PySem
theorem jR5 {es:List Expr}{env:Env}{pos:Pos}{ks:List (Option Expr)}{vs:List Expr} :starEach (.Dict ks vs pos::es) env=(false,eval (.Dict ks vs pos) env)::starEach es env:=rfl
def LstR (H:Hp)(xs:List V)(Q:VK):Prop:=∀r H',H' r=some (.lst xs)->Ext H H'->H r=none->Q (.ref r) H'
theorem LstR.new {H:Hp}{xs:List V}{Q:VK}(q:LstR H xs Q){p:Addr}(hp:H p=none):Q (.ref p) (upd H p (.lst xs)):=q p _ j5 ((Ext.refl H).new hp _) hp
def tTupU (t:TA):TE:=λσ H Q=>t σ H λxs H1=>xs.length<=sizeLine/\TupR H1 xs Q
def tLstU (t:TA):TE:=λσ H Q=>t σ H λxs H1=>xs.length<=sizeLine/\LstR H1 xs Q
section
variable {X:Cx}{es:List Expr}{t:TA}{pos:Pos}
theorem yC {x1}(h:JA X es t):JE X (.Tuple es x1 pos) (tTupU t):=⟨λad s σ H Q I hq=>by
 refine wpAny_Tuple_spliced (mI (h.h pos ad s σ H _ I hq) λus s1 ⟨xs,H1,I1,r,z,q⟩=>⟨by rw[<- r.length]; exact z,?_⟩)
 have hf:H1 s1.heap.objs.size=none:=I1.hok.fresh (aq _)
 exact⟨.ref s1.heap.objs.size,upd H1 s1.heap.objs.size (.tup xs),I1.laid (t':=s1.toks) (λb u e=>ab _ e) (aq _) ⟨z,us,r,TupO.new _ _⟩,rfl,q.new hf⟩⟩
theorem yD (h:JA X es t):JE X (.List es pos) (tLstU t):=⟨λad s σ H Q I hq=>by
 refine wpAny_List_spliced (mI (h.h pos ad s σ H _ I hq) λus s1 ⟨xs,H1,I1,r,z,q⟩=>⟨by rw[<- r.length]; exact z,?_⟩)
 have hf:H1 s1.heap.objs.size=none:=I1.hok.fresh (aq _)
 exact⟨.ref s1.heap.objs.size,upd H1 s1.heap.objs.size (.lst xs),I1.laid (t':=s1.toks) (λb u e=>ab _ e) (aq _) ⟨z,us,0,r,ao _ rfl⟩,rfl,q.new hf⟩⟩
theorem jD1:OpR X (binaryOp .Add) (λx y H Q=>∃l b xs zs,x= .ref l/\y= .ref b/\H l=some (.lst xs)/\H b=some (.lst zs)/\xs.length+zs.length<=sizeLine/\LstR H (xs++zs) Q):=by
 intro ad s σ H x y v u Q I rx ry h
 obtain⟨l,b,xs,zs,rfl,rfl,h1,h2,h3,q⟩:=h
 exact jUG ad s σ H _ _ v u Q I rx ry ⟨l,b,xs,zs,rfl,rfl,h1,h2,h3,λp hp=>q.new hp⟩
end
end L2
namespace L2
open PySem PySem.Spec PyProof.Rows
variable {X:Cx}
theorem jDN (ns:List Int):∀j,preSum (λi=>ns.getD i 0) j=(ns.take j).sum
 | 0=>rfl
 | j+1=>by
  rw[preSum,jDN ns j,bu,lC]
  congr 1
  rw[aC]
  cases ns[j]? with
  | none=>rfl
  | some z=>simp
section
def rSum (K:W.Frag):List V->Hp->VK->Prop:=λxs H Q=>∃(p:Addr) (ns:List Int),xs=[.ref p]/\(SqL K H p (ns.map V.int))/\Q (.int ns.sum) H
theorem jE0 (hc:X.calm=true):y9 X (.builtin "sum") (rSum X.K):=by
 intro ad s σ H xs us Q I r h
 obtain⟨p,ns,rfl,hq,q⟩:=h
 obtain⟨u,rfl,rx⟩:=r.one
 cases rx
 obtain⟨its,r',pl,hz⟩:=I.list hq
 have hlen:=r'.length
 rw[ae] at hlen
 refine call_sum_walkG (cQ pl.isList ?_)
 have hne:p≠s.heap.objs.size:=by
  obtain⟨o,ho,_⟩:=pl.isList
  exact aO (ay ho)
 refine⟨s.heap.objs.size,_,_,_,_,_,λi=>ns.getD i 0,rfl,iW (by simpa using I.ok.hd hc) _ p hne its.toArray,⟨⟨_,ao _ rfl,rfl,rfl⟩,pl.isList.push _⟩,(λb hb=>?_),(λi v hP=>?_),λh' tk t' hk=>?_⟩
 ·show b<(s.heap.push _).objs.size
  rw[bK]
  obtain⟨o,ho,_⟩:=pl.isList
  have:=ay ho
  rcases ar.mp hb with rfl | hb
  ·exact fO _
  ·rcases ar.mp hb with rfl | hb
   ·exact bL this
   ·cases hb
 ·have hi:its[i]?=some v:=by simpa using hP
  have hb:i<ns.length:=by
   rw[hlen]
   exact(ax.mp hi).1
  obtain⟨u,hu,ru⟩:=r'.get (i:=i) (x:= .int (ns[i])) (by simp [hb])
  rw[hi] at hu
  cases hu
  obtain⟨t,rfl⟩:=ru
  exact⟨t,by simp [List.getD,hb]⟩
 ·have e:preSum (λi=>ns.getD i 0) its.toArray.size=ns.sum:=by
   rw[jDN,aG,<- hlen,bI]
  rw[e]
  exact⟨.int _,H,I.kept (t':=tk) λb o e=>hk b o (by
   intro z
   have z:b=s.heap.objs.size:=by simpa using z
   exact absurd (ay e) (by rw[z]; exact b8 _)) (ab _ e),⟨_,rfl⟩,q⟩
variable {sc:Scope}{cl:List (Str×Addr)}{C:Addr}{Nc:List Str}{fp:List Addr}{s:Shared}{H:Hp}
end
theorem jKG (a b:Nat):Builtin.bitAnd (a:Int) (b:Int)=((a&&&b:Nat):Int):=by
 unfold Builtin.bitAnd
 rw[aB (gw a),aB (gw b)]
 rfl
theorem jC5 (a b:Nat):Builtin.bitOr (a:Int) (b:Int)=((a|||b:Nat):Int):=by
 unfold Builtin.bitOr
 have ha:Builtin.bitNot (a:Int)= -(a:Int) - 1:=by unfold Builtin.bitNot; lia
 have hb:Builtin.bitNot (b:Int)= -(b:Int) - 1:=by unfold Builtin.bitNot; lia
 have na:¬(0<=Builtin.bitNot (a:Int)):=by rw[ha]; lia
 have nb:¬(0<=Builtin.bitNot (b:Int)):=by rw[hb]; lia
 unfold Builtin.bitAnd
 rw[aV na,aV nb]
 have ea:Builtin.bitNot (Builtin.bitNot (a:Int))=(a:Int):=by rw[ha]; unfold Builtin.bitNot; lia
 have eb:Builtin.bitNot (Builtin.bitNot (b:Int))=(b:Int):=by rw[hb]; unfold Builtin.bitNot; lia
 show Builtin.bitNot (Builtin.bitNot _)=_
 rw[ea,eb]
 unfold Builtin.bitNot
 simp
 lia
def maskN (ts:List Int):Nat:=(ts.map λt=>2 ^ t.toNat).sum
theorem jJ3:∀(ts:List Int) (lo:Nat),ts.Pairwise (· < ·)->(∀t∈ts,(lo:Int)<=t)->maskN ts % 2 ^ lo=0
 | [],_,_,_=>by simp [maskN]
 | t::r,lo,hp,hl=>by
  have ih:=jJ3 r lo (cH.mp hp).2 λx hx=>hl x (ah _ hx)
  have h0:=hl t (ag ..)
  have e:maskN (t::r)=2 ^ t.toNat+maskN r:=by simp [maskN]
  have d:2 ^ t.toNat % 2 ^ lo=0:=Nat.mod_eq_zero_of_dvd (Nat.pow_dvd_pow 2 (by lia))
  rw[e,Nat.add_mod,ih,d]
  simp
theorem jBV:∀(ts:List Int) (n:Nat),ts.Pairwise (· < ·)->(∀t∈ts,0<=t)->(maskN ts).testBit n=decide ((n:Int)∈ts)
 | [],n,_,_=>by simp [maskN]
 | t::r,n,hp,h0=>by
  obtain⟨h1,h2⟩:=cH.mp hp
  have ih:=jBV r n h2 λx hx=>h0 x (ah _ hx)
  have ht:=h0 t (ag ..)
  obtain⟨k,rfl⟩:∃k:Nat,t=(k:Int):=⟨t.toNat,by lia⟩
  have e:maskN ((k:Int)::r)=2 ^ k+maskN r:=by simp [maskN]
  have m0:maskN r % 2 ^ (k+1)=0:=jJ3 r (k+1) h2 λx hx=>by have:=h1 x hx; lia
  obtain⟨c,hc⟩:∃c,maskN r=2 ^ (k+1)*c:=(Nat.dvd_of_mod_eq_zero m0)
  have hor:2 ^ k+maskN r=maskN r|||2 ^ k:=by
   rw[hc,gF,<- Nat.shiftLeft_eq,Nat.shiftLeft_add_eq_or_of_lt (b:=2 ^ k) (i:=k+1) (lZ (by decide) (by lia)) c |>.symm,kz]
  rw[e,hor,bZ,ih,eQ]
  by_cases hk:k=n
  ·subst hk
   simp
  ·have:¬((n:Int)=(k:Int)):=by lia
   simp [hk,this]
end L2
namespace L2
open PySem
variable {X:Cx}
section
variable {tg iter elt:Expr}{ifs:List Expr}{sc:Scope}{pos:Pos}{wi:TI}{g:TG}{tt:TT}{te:TE}{m:List (Option Nat)}{Nc:List Str}
theorem jPK (hc:X.calm=true)(hi:PI X tg iter wi)(hkind:sc.kind= .function)(hcell:∀y∈sc.names,y.2≠ .cell)(hnames:∀y∈sc.names,y.2= .local->sc.names.lookup y.1=some .local)
  (hfree:∀y∈sc.names,y.2= .free->X.env.scope.names.lookup y.1=some .cell\/X.env.scope.names.lookup y.1=some .free) (hm:qE X sc Nc m)
  (hg:∀cl C fp s H,PG (blk X sc cl C Nc fp s H) tg g) (ht:∀cl C fp s H,PTs (blk X sc cl C Nc fp s H) ifs tt) (he:∀cl C fp s H,PE (blk X sc cl C Nc fp s H) elt te)
  (hs:∀x,foldedSetIterable iter X.env x=pure x) {fpos:Pos}{use:Option (Value->Sem Unit)}{R:Value->Shared->Prop}{ad:List (Addr×Obj)}{s:Shared}{σ:St}{H:Hp}{Q:VK}(I:Inv X ad σ H s) (h:tComp m wi g tt te σ H Q)
  (fin:∀(D C:Addr) (H5:Hp) (z1:Shared) (r:Flow),(∃mm,z1.heap.Ns C mm)->FpOk X ad H5 C->(∀h',Heap.SameBut C z1.heap h'->Inv X ad σ H5 { z1 with heap:=h'})->Q (.ref D) H5->compPost (model X.prog X.w) X.A X.xe use R (.ref D) C (.ok r) z1):
  wpAny (model X.prog X.w) X.A (comprehension (.ListComp elt [⟨tg,iter,ifs,0⟩] sc pos) sc X.env fpos (newList []) false (eval iter X.env) use) R X.xe s:=
 jJK (tf:=λ_=>te) hc hi hkind hcell hnames hfree hm hg ht (λcl C fp s H _ _ _ _=>he cl C fp s H) hs I h fin
theorem jRD {i:Nat}{x:Str}{pos' spos:Pos}(hN:X.N.Nodup)(hi':X.N[i]?=some x)(hx:Loc X.env.scope x)(hf:X.fn x=true\/X.env.scope.names.lookup x=some .local)(hsw:swapsWith (.ListComp elt [⟨tg,iter,ifs,0⟩] sc pos) (some (.Name x pos')) spos.line X.env=pure true)
  (hc:X.calm=true) (hi:PI X tg iter wi) (hkind:sc.kind= .function) (hcell:∀y∈sc.names,y.2≠ .cell) (hnames:∀y∈sc.names,y.2= .local->sc.names.lookup y.1=some .local)
  (hfree:∀y∈sc.names,y.2= .free->X.env.scope.names.lookup y.1=some .cell\/X.env.scope.names.lookup y.1=some .free) (hm:qE X sc Nc m)
  (hg:∀cl C fp s H,PG (blk X sc cl C Nc fp s H) tg g) (ht:∀cl C fp s H,PTs (blk X sc cl C Nc fp s H) ifs tt) (he:∀cl C fp s H,PE (blk X sc cl C Nc fp s H) elt te)
  (hs:∀x,foldedSetIterable iter X.env x=pure x):PS X (.Assign [.Name x pos'] (.ListComp elt [⟨tg,iter,ifs,0⟩] sc pos) spos) (tAsg (tComp m wi g tt te) (kE i)):=by
 intro ad s σ H D I h
 rw[exec_Assign_Name_used _ _ _ _ hsw]
 refine aa (eG (aa ?_))
 show wpAny _ _ (do let _ <- comprehension (.ListComp elt [⟨tg,iter,ifs,0⟩] sc pos) sc X.env _ (newList []) false (eval iter X.env) (some (assign (.Name x pos') X.env))) _ _ _
 refine aa (b9 (jPK (R:=λ_ s'=>SP X ad D .next s') hc hi hkind hcell hnames hfree hm hg ht he hs ⟨I.ok,I.os,I.bare,I.base,I.loc,I.cell,I.free,I.freeC,I.pin,I.hok,I.len⟩ h ?_) (λ_ s' hq=>ai (ai hq)) λ_ _ e=>e)
 intro D' C H5 z1 r ⟨mm,hn⟩ fC sb q
 have I1:=sb _ (jg C z1.heap)
 refine wpAny_assign_Name (jFY (v:= .ref D') I1 hN hi' hx rfl (λs2 I2 ⟨a,sa,ha⟩=>?_) hf)
 obtain⟨f0,f1,f2,f3,f4,f5⟩:=fC
 have hCa:C≠a:=by
  rcases ha with rfl | ha
  ·exact f1
  ·exact(f4 _ _ ha).symm
 refine⟨mm,hn.sameBut sa hCa,λh' sb2=>⟨_,H5,?_,q⟩⟩
 refine I2.call' (s':= { s2 with heap:=h'}) (ch:=[C]) rfl ?_ (I2.hok.sameBut sb2 f0) I2.bare (λb hb=>?_)
 ·have ne:∀{b:Addr},b∉ [C]->b≠C:=λh e=>h (by rw[e]; exact ak.mpr rfl)
  refine⟨λb o e n hf hx=>(sb2.2 b (ne hx)).trans e,λb o e n hf hx=>⟨o.slots,(sb2.2 b (ne hx)).trans e⟩,λb o e n hx=>n,λb o e hx=>⟨o,(sb2.2 b (ne hx)).trans e⟩,λb xs e=>e,λb o u e=>e,λb ps e=>⟨#[],by rw[Array.append_empty]; exact e⟩⟩
 ·cases ak.mp hb
  exact⟨f3,f1,f4,f5⟩
end
structure SwC (e:Expr)(x:Str)(pos' spos:Pos)(X:Cx):Prop where
 h:swapsWith e (some (.Name x pos')) spos.line X.env=pure true
theorem jI1 {i:Nat}{x:Str}{pos' spos pos:Pos}{tg iter elt:Expr}{ifs:List Expr}{sc:Scope}{wi:TI}{g:TG}{tt:TT}{te:TE}{m:List (Option Nat)}{Nc:List Str}(hN:X.N.Nodup)(hi':X.N[i]?=some x)(hx:Loc1 X x)(hsw:SwC (.ListComp elt [⟨tg,iter,ifs,0⟩] sc pos) x pos' spos X)
  (hc:X.calm=true) (hi:JI X tg iter wi) (hkind:sc.kind= .function) (hcell:∀y∈sc.names,y.2≠ .cell) (hnames:∀y∈sc.names,y.2= .local->sc.names.lookup y.1=some .local)
  (hfree:∀y∈sc.names,y.2= .free->X.env.scope.names.lookup y.1=some .cell\/X.env.scope.names.lookup y.1=some .free) (hm:qE X sc Nc m)
  (hg:∀cl C fp s H,JG (blk X sc cl C Nc fp s H) tg g) (ht:∀cl C fp s H,JTs (blk X sc cl C Nc fp s H) ifs tt) (he:∀cl C fp s H,JE (blk X sc cl C Nc fp s H) elt te)
  (hs:FoOk iter):JS X (.Assign [.Name x pos'] (.ListComp elt [⟨tg,iter,ifs,0⟩] sc pos) spos) (tAsg (tComp m wi g tt te) (kE i)):=
 ⟨jRD hN hi' hx.a hx.b hsw.h hc hi.h hkind hcell hnames hfree hm (λcl C fp s H=>(hg cl C fp s H).h) (λcl C fp s H=>(ht cl C fp s H).h) (λcl C fp s H=>(he cl C fp s H).h) (hs.h _)⟩
end L2
namespace L2
open PySem PySem.Spec PyProof.Rows
variable {prog:Program}{w:World}{A:Around}{E:Value->Shared->Prop}
theorem jJG {it l:Addr}{xs:Array Value}(ne:l≠it):∀(n i:Nat) (s:Shared) (Q:List Value->Shared->Prop),s.heap.IsListIter it l i->s.heap.IsList l xs->i+n<=xs.size->
  (∀h',h'.IsListIter it l (i+n)->Heap.SameBut it s.heap h'->Q ((xs.toList.drop i).take n) { s with heap:=h'})->wpAny (model prog w) A (draw (.ref it) n) Q E s
 | 0,i,s,Q,g,_,_,k=>by
  refine(?_:wpAny _ _ (pure []) Q E s)
  exact ai (by simpa using k s.heap g (jg ..))
 | n+1,i,s,Q,g,o,le,k=>by
  have lt:i<xs.size:=by lia
  refine(?_:wpAny _ _ (pyNext (.ref it) >>= _) Q E s)
  refine aa (wpAny_pyNext_list_item g o (x:=xs[i]) (by simp [lt]) λp1 g1 q1=>?_)
  refine aa (bE (jJG ne n (i+1) _ _ g1 (o.extBut q1.extBut ne) (by lia) λp2 g2 q2=>ai ?_))
  have hd:xs.toList.drop i=xs[i]::xs.toList.drop (i+1):=by simp [ja,lt]
  have:=k p2 (by rw[show i+(n+1)=i+1+n by lia]; exact g2) (q1.trans q2)
  rw[hd,mh] at this
  exact this
theorem jDB {s:Shared}{l:Addr}{xs:Array Value}{Q:List Value->Shared->Prop}(hh:A.handled=none)(o:s.heap.IsList l xs)
  (k:∀h',Heap.ExtBut s.heap.objs.size s.heap h'->Q xs.toList { s with heap:=h'}):wpAny (model prog w) A (unpackItems (.ref l) xs.size none) Q E s:=by
 have ne:l≠s.heap.objs.size:=by obtain⟨u,hu,_⟩:=o; exact aO (ay hu)
 unfold unpackItems
 refine aa (by
  unfold notIterableAtAll
  refine aa (lz o.typeIs slot_list_iter.lookup (ai ?_))
  simp only [dE,hV]
  refine aa (bE (cQ o ?_))
  refine aa (bE (jJG ne xs.size 0 _ _ ⟨_,ao _ rfl,rfl,rfl⟩ (o.push _) (by lia) λp1 g1 q1=>?_))
  have hall:List.take xs.size (List.drop 0 xs.toList)=xs.toList:=by rw[i4]; exact bR (by simp)
  rw[hall,aj (by simp)]
  have o1:p1.IsList l xs:=(o.push _).extBut q1.extBut ne
  refine aa (bE (wpAny_pyNext_list_end hh g1 o1 (by simp) λp2 e2=>?_))
  simp only [Option.isSome_none,dE,hV]
  exact ai (k p2 λb u hb e=>e2 b u hb (q1.extBut b u hb (ab _ e))))
variable {X:Cx}
def gLst (K:W.Frag)(n:Nat)(t:TGs):TG:=λv σ H Q=>∃a xs,v= .ref a/\SqL K H a xs/\xs.length=n/\t xs σ H Q
theorem jU5 {es:List Expr}{k:Nat}{t:TGs}{n:Nat}{pos:Pos}(hc:X.calm=true)(h:PGs X es t)
  (hn:(assignEach es X.env).length=n:=by rfl) (hst:(assignEach es X.env).findIdx? (·.1)=none:=by rfl):PG X (.Tuple es k pos) (gLst X.K n t):=by
 intro ad s σ H v u Q I r hw
 obtain⟨a,xs,e1,hq,hl,hw⟩:=hw
 subst e1
 cases r
 obtain⟨its,rv,ht,hz⟩:=I.list hq
 rw[assign_Tuple]
 refine aa (eG ?_)
 unfold unpack
 rw[hn,hst,show n=its.toArray.size by rw[aG,<- rv.length,hl]]
 refine aa (bE (jDB (I.ok.hd hc) ht.isList λh' hx=>?_))
 have I1:Inv X ad σ H { s with heap:=h'} :=I.kept (t':=s.toks) λb o e=>hx b o (aO (ay e)) e
 exact h ad _ σ H xs _ Q I1 (by simpa using rv) hw
theorem jML {P:Program}{w:World}{K:W.Frag}{mg:Str->Option Value}{base:Heap}{N:List Str}{qual:Str}{sc:Scope}{f:Addr}{cdv:Value}{A:Around}{outer:List Env}{s:Shared}{H:Hp}{E:XK}{x y:Str}{p1 p2 pos:Pos}{k i j:Nat}(hN:N.Nodup)(hi:N[i]?=some x)(hj:N[j]?=some y)(hx:sc.names.lookup x=some .local)(hy:sc.names.lookup y=some .local):
  JG (cxOf CX0 P w K mg base N qual sc f cdv A outer s H E).nox (.Tuple [.Name x p1, .Name y p2] k pos) (gLst K 2 (qA (kE i) (qA (kE j) gNil))):=
 ⟨jU5 (X:=(cxOf CX0 P w K mg base N qual sc f cdv A outer s H E).nox) rfl (jA8 (jJ hN hi (loc_l hx)) (jA8 (jJ hN hj (loc_l hy)) jDQ jAO) jAO).h⟩
variable {s:Shared}
variable {x:Str}{C:Addr}{e:Expr}{t:TA}{np cpos pos:Pos}
section
variable {W:Hp->Prop}
end
variable {M:Model}{h:Heap}
section
variable {g:Array GenState}{d:Drawn}{tk:Nat}{os:OsState}
end
variable {ad:List (Addr×Obj)}{H H':Hp}
section
variable {σ:List (Option V)}{h':Heap}
end
variable {T:Addr}
section
variable {σ:St}{h2:Heap}{x T':Addr}
end
section
variable {σ:St}{x:Addr}
end
section
variable {x:Addr}{Q:Unit->Shared->Prop}
end
variable {n c:Str}{i j:Nat}{f B:Addr}{fd:FuncData}{ps:List Str}{sp:Sp}{es:List Expr}{yp gp cp ap rp hp tp:Pos}
section
variable {y g:Str}{k:Nat}{r:Expr}{te:Addr->TE}
end
variable {tg:Expr}
variable {g:TG}{iter elt:Expr}{ifs:List Expr}{sc:Scope}{wi:TI}{tt:TT}{te:TE}{m:List (Option Nat)}{Nc:List Str}
variable {a:Addr}{p:Pos}
section
variable {k:Nat}{sp:Addr->Sp}
end
variable {P:Program}{mg:Str->Option Value}{base:Heap}{N:List Str}{qual:Str}{outer:List Env}
section
variable {CX:CXT}{K:W.Frag}{cdv:Value}{E:XK}
end
section
variable {y g:Str}{k:Nat}{te t1:TEX}
end
def nfP (x q:Str)(args:Arguments)(body:List Stmt)(scope:Scope)(cl:List (Str×Addr))(a c:Addr):Heap->Prop:=λh=>∃doc pm ctv,h.get? a=some (fnMade x q args body scope cl doc pm c ctv)
def ncP (q:Str)(c:Addr):Heap->Prop:=λh=>h.CodeRec (.ref c) q
noncomputable abbrev onePs (pos:Pos)(c:Addr):Array Value:=#[rawInt pos.line,rawInt pos.col, .ref c]
def TabOk (H:Hp)(T:Addr)(pos:Pos)(q:Str):Prop:=H T=some (.tbl #[])\/∃c,H T=some (.tbl (onePs pos c))/\H c=some (.ext (ncP q c))
def ExtT (T:Addr)(H H':Hp):Prop:=∀b o,H b=some o->b≠T->H' b=some o
def BltAt (base:Heap)(mg:Str->Option Value):Prop:=∃bm o,mg "__builtins__" =some (.ref bm)/\bm≠builtinsNs/\bm≠mainGlobals/\base.get? bm=some o/\o.cls= .type "module" /\o.dict=some builtinsNs/\o.data= .plain
theorem nfP.stay {x q:Str}{args:Arguments}{body:List Stmt}{scope:Scope}{cl:List (Str×Addr)}{a c:Addr}(h1 h2:Heap)(p:nfP x q args body scope cl a c h1)(k:∀o,h1.get? a=some o->h2.get? a=some o):nfP x q args body scope cl a c h2:=by
 obtain⟨d,m,t,e⟩:=p
 exact⟨d,m,t,k _ e⟩
theorem ncP.stay {q:Str}{c:Addr}(h1 h2:Heap)(p:ncP q c h1)(k:∀o,h1.get? c=some o->h2.get? c=some o):ncP q c h2:=by
 obtain⟨c',o,vs,t,e,g,r⟩:=p
 cases e
 exact⟨c,o,vs,t,rfl,k _ g,r⟩
theorem ncP.is {q:Str}{c:Addr}{h:Heap}(p:ncP q c h):∃o,h.get? c=some o:=by
 obtain⟨c',o,vs,t,e,g,r⟩:=p
 cases e
 exact⟨o,g⟩
def tDef (x q:Str)(args:Arguments)(body:List Stmt)(scope:Scope)(cl:List (Str×Addr))(T:Addr)(pos:Pos)(j:Nat):TS:=λD σ H=>TabOk H T pos q/\∀a c H',H' a=some (.ext (nfP x q args body scope cl a c))->H' c=some (.ext (ncP q c))->H' T=some (.tbl (onePs pos c))->ExtT T H H'->H a=none->D.nx (σ.set j (some (.ref a))) H'
section
variable {σ:St}
theorem Inv.laidX {h':Heap}{t':Nat}{φ:Heap->Prop}{a:Addr}(I:Inv X ad σ H s)(k:∀b u,s.heap.get? b=some u->h'.get? b=some u)(hp:s.heap.objs.size<=a)(p:φ h')(ho:∃o,h'.get? a=some o)(st:∀h1 h2:Heap,φ h1->(∀o,h1.get? a=some o->h2.get? a=some o)->φ h2):Inv X ad σ (upd H a (.ext φ)) { s with heap:=h',toks:=t'} :=
 I.laid k hp ⟨p,ho,st⟩
theorem Inv.grown {h':Heap}{t':Nat}{T c:Addr}{ps more:Array Value}{φ:Heap->Prop}(I:Inv X ad σ H s)(hT:H T=some (.tbl ps))(k:Heap.ExtBut T s.heap h')(e:h'.get? T=some { cls:= .none,data:= .fields (ps++more)})
  (hc:s.heap.objs.size<=c) (p:φ h') (ho:∃o,h'.get? c=some o) (st:∀h1 h2:Heap,φ h1->(∀o,h1.get? c=some o->h2.get? c=some o)->φ h2):Inv X ad σ (upd (upd H T (.tbl (ps++more))) c (.ext φ)) { s with heap:=h',toks:=t'} :=by
 have hcn:H c=none:=I.hok.fresh hc
 have nT:∀{b:Addr},H b=none->b≠T:=λn z=>by rw[z,hT] at n; cases n
 have cT:T≠c:=λz=>by rw[z,hcn] at hT; cases hT
 have nc:∀{b:Addr}{o:Obj},s.heap.get? b=some o->b≠c:=λq z=>absurd (ay q) (by rw[z]; exact la.mpr hc)
 have mc:∀{b:Addr}{o:HO},H b=some o->b≠c:=λq=>j9 q hcn
 refine I.un ⟨λb o q n _ _=>k b o (nT n) q,λb o q n _ _=>⟨o.slots,k b o (nT n) q⟩,λb o q n _=>by rw[j6 (nc q),j6 (nT n)]; exact n,λb o q _=>?_,λb xs q=>?_,λb o u q=>?_,λb qs q=>?_⟩ λb o q=>?_
 ·by_cases hb:b=T
  ·rw[hb]; exact⟨_,e⟩
  ·exact⟨o,k b o hb q⟩
 ·rw[j6 (mc q),j6 (λz=>by rw[z,hT] at q; cases q)]; exact q
 ·rw[j6 (mc q),j6 (λz=>by rw[z,hT] at q; cases q)]; exact q
 ·by_cases hb:b=T
  ·subst hb
   rw[hT] at q
   cases q
   exact⟨more,by rw[j6 cT,j5]⟩
  ·exact⟨#[],by rw[j6 (mc q),j6 hb,q]; simp⟩
 ·by_cases hb1:b=c
  ·subst hb1
   rw[j5] at q
   cases q
   exact⟨p,ho,st⟩
  rw[j6 hb1] at q
  by_cases hb:b=T
  ·subst hb
   rw[j5] at q
   cases q
   exact e
  ·rw[j6 hb] at q
   refine(I.hok b o q).stay (λd u hd z=>k d u ?_ z) (λd z=>?_) λd xs z=>?_
   ·rcases hd with rfl | hd
    ·exact hb
    ·exact λy=>by rw[y,hT] at hd; cases hd
   ·rw[j6 (mc z),j6 (λy=>by rw[y,hT] at z; cases z)]; exact z
   ·rw[j6 (mc z),j6 (λy=>by rw[y,hT] at z; cases z)]; exact z
theorem jTZ {x:Str}{args:Arguments}{body:List Stmt}{scope:Scope}{pos:Pos}{c0 T:Addr}{j:Nat}(hN:X.N.Nodup)(hj:X.N[j]?=some x)(lx:Loc X.env.scope x)(hcode:X.env.code= .ref c0)(CH:PySem.W.CodeHd X.base c0 T)(hbm:BltAt X.base X.mg)
  (hfree:∀y∈scope.names,y.2= .free->X.env.scope.names.lookup y.1=some .cell\/X.env.scope.names.lookup y.1=some .free) (hdf:defaultsOf args X.env=([],[])) (han:annTrees args none X.env=[])
  (hf:X.fn x=true\/X.env.scope.names.lookup x=some .local:=by first | exact .inl rfl | exact .inr rfl | assumption):
  PS X (.FunctionDef x args body [] none [] scope none x pos) (tDef x (qualnameIn X.env x x) args body scope (jF X.env.cells scope.names []) T pos j):=by
 intro ad s σ H D I h
 obtain⟨tab,h⟩:=h
 rw[exec_def,hdf,han]
 refine aa (eG (aa (bE ?_)))
 refine aa (ai (aa (bE (ai (bE (aa (ai ?_)))))))
 have hcl:closureFor scope X.env=pure (jF X.env.cells scope.names []):=jFF λy hy hz=>I.ok.has y.1 (hfree y hy hz)
 have hg:s.heap.Ns mainGlobals X.mg:=I.mod.glob.keeps I.bk
 have C:=CH.keeps I.bk
 have gT:∀{ps:Array Value},H T=some (.tbl ps)->mainGlobals≠T:=λhT z=>by
  obtain⟨o,es,ep,e,_⟩:=I.mod.glob
  have:=(I.bs _ _ e).2
  rw[z,hT] at this
  cases this
 have bT:∀{ps:Array Value},H T=some (.tbl ps)->s.heap.BuiltinsAt X.mg T:=λhT=>by
  obtain⟨bm,o,h1,h2,h3,h4,h5,h6,h7⟩:=hbm
  refine⟨bm,o,h1,h2,h3,λz=>?_,(I.bs _ _ h4).1,h5,h6,h7⟩
  have:=(I.bs _ _ h4).2
  rw[z,hT] at this
  cases this
 rcases tab with hT | ⟨c,hT,hc⟩
 ·refine PySem.W.makeFunction_K hcl I.ok.glob hg hcode C (I.hok T _ hT) trivial rfl (gT hT) (bT hT) λc ctv doc h' tk k1 k2 k3 k4 k5=>?_
  obtain⟨oc,hoc⟩:=ncP.is (q:=qualnameIn X.env x x) k4
  have I1:Inv X ad σ (upd (upd H T (.tbl (#[]++onePs pos c))) c (.ext (ncP (qualnameIn X.env x x) c))) { s with heap:=h',toks:=tk} :=I.grown hT k1 k5 k2 k4 ⟨oc,hoc⟩ ncP.stay
  have I2:=I1.laidX (t':=tk) (a:=h'.objs.size) (φ:=nfP x (qualnameIn X.env x x) args body scope (jF X.env.cells scope.names []) h'.objs.size c) (h':=h'.push (fnMade x (qualnameIn X.env x x) args body scope (jF X.env.cells scope.names []) doc ((X.mg "__name__").getD .none) c ctv)) (λb u q=>ab _ q) (aq _) ⟨doc,_,ctv,ao _ rfl⟩ ⟨_,ao _ rfl⟩ nfP.stay
  have hcn:H c=none:=I.hok.fresh k2
  have han:H h'.objs.size=none:=I.hok.fresh (bf k2 (cC k3))
  have ca:c≠h'.objs.size:=aO k3
  have Tc:T≠c:=λz=>by rw[z,hcn] at hT; cases hT
  have Ta:T≠h'.objs.size:=λz=>by rw[z,han] at hT; cases hT
  refine aa (eG (aa (wpAny_bindName (jCY (v:= .ref h'.objs.size) I2 hN hj lx rfl (λs' I'=>ai ⟨_,_,I',?_⟩) hf))))
  refine h _ c _ j5 (by rw[j6 ca,j5]) (by rw[j6 Ta,j6 Tc,j5,mC]) (λb o e n=>?_) han
  rw[j6 (j9 e han),j6 (j9 e hcn),j6 n]
  exact e
 ·refine PySem.W.makeFunction_hit (cv:= .ref c) hcl I.ok.glob hg hcode C (I.hok T _ hT) (by exact trivial) (by simp [codeAmong,rawInt]) (bT hT) λctv doc h' tk k1 k2=>?_
  have I2:=I.laidX (t':=tk) (a:=h'.objs.size) (φ:=nfP x (qualnameIn X.env x x) args body scope (jF X.env.cells scope.names []) h'.objs.size c) (h':=h'.push (fnMade x (qualnameIn X.env x x) args body scope (jF X.env.cells scope.names []) doc ((X.mg "__name__").getD .none) c ctv)) (λb u q=>ab _ (k1 b u q)) k2 ⟨doc,_,ctv,ao _ rfl⟩ ⟨_,ao _ rfl⟩ nfP.stay
  have han:H h'.objs.size=none:=I.hok.fresh k2
  refine aa (eG (aa (wpAny_bindName (jCY (v:= .ref h'.objs.size) I2 hN hj lx rfl (λs' I'=>ai ⟨_,_,I',?_⟩) hf))))
  refine h _ c _ j5 (by rw[j6 (j9 hc han)]; exact hc) (by rw[j6 (j9 hT han)]; exact hT) (λb o e n=>?_) han
  rw[j6 (j9 e han)]
  exact e
end
theorem jGI {β:Type}{x:Str} :∀{l:List (Str×β)},(∀v,(x,v)∉l)->l.lookup x=none
 | [],_=>rfl
 | (y,v)::r,h=>by
  rw[aY,cA.mpr (λe=>h v (by rw[e]; exact ag))]
  exact jGI λw hw=>h w (ah _ hw)
theorem jCF {β:Type}{x:Str} :∀{l m:List (Str×β)},(l++m).lookup x=(l.lookup x).or (m.lookup x)
 | [],_=>rfl
 | (y,v)::r,m=>by
  rw[List.cons_append,aY,aY,jCF]
  cases x==y <;> rfl
theorem jE8:∀{ps:List Str}{us:List Value}{i:Nat}{x:Str}{u:Value},ps.Nodup->ps[i]?=some x->us[i]?=some u->(ps.zip us).reverse.lookup x=some u
 | [],_,_,_,_,_,h,_=>by simp at h
 | _::_,[],_,_,_,_,_,h=>by simp at h
 | p::ps,w::us,0,x,u,nd,h1,h2=>by
  simp at h1 h2
  subst h1 h2
  rw[dY,List.reverse_cons,jCF,jGI λv hv=>(bJ.mp nd).1 (dP (List.mem_reverse.mp hv)).1,aY,gZ]
  rfl
 | p::ps,w::us,i+1,x,u,nd,h1,h2=>by
  rw[dY,List.reverse_cons,jCF,jE8 (i:=i) (bJ.mp nd).2 (by simpa using h1) (by simpa using h2)]
  rfl
noncomputable def cxN (P:Program)(w:World)(K:W.Frag)(mg:Str->Option Value)(base:Heap)(N:List Str)(qual:Str)(scope:Scope)(f:Addr)(cd:Value)(cl:List (Str×Addr))(A:Around)(outer:List Env)(s:Shared)(H:Hp):Cx where
 prog:=P
 w:=w
 K:=K
 mg:=mg
 base:=base
 A:=A.deeper (envX qual scope s.heap.objs.size f cd cl)
 N:=N
 s₀:=s
 H₀:=H
 env:=envX qual scope s.heap.objs.size f cd cl
 outer:=outer
 stack:=envX qual scope s.heap.objs.size f cd cl::outer
 ex:=[]
 calm:=true
 fn:=λ_=>false
 pn:=[]
 xe:=λ_ _=>False
structure ClOk (cl:List (Str×Addr))(s:Shared)(H:Hp):Prop where
 inj:∀x y c,cl.lookup x=some c->cl.lookup y=some c->x=y
 cell:∀x c,cl.lookup x=some c->(∃v,s.heap.IsCell c v)/\H c=none
def FvOk (fs:List Str)(fv:List V)(cl:List (Str×Addr))(s:Shared):Prop:=fv.length=fs.length/\∀(i:Nat) (x:Str) (v:V),fs[i]?=some x->fv[i]?=some v->∃c u,cl.lookup x=some c/\RelV v u/\s.heap.IsCell c (some u)
structure NScope (N ps fs:List Str)(sc:Scope):Prop where
 kind:sc.kind= .function
 co:sc.isCoroutine=false
 gen:sc.isGenerator=false
 nd:N.Nodup
 pre:N.take (ps.length+fs.length)=ps++fs
 par:∀x∈ps,sc.names.lookup x=some .local
 fre:∀x∈fs,sc.names.lookup x=some .free
 all:∀x,sc.names.lookup x=some .free->x∈fs
 nocell:∀y∈sc.names,y.2≠ .cell
def jBE (N:List Str)(vs fv:List V):St:=kT N (vs++fv)
variable {scope:Scope}{cd:Value}{cl:List (Str×Addr)}{fv:List V}
section
variable {K:W.Frag}{fs:List Str}{us:List Value}{vs:List V}
theorem jEJ {h1:Heap}{tk:Nat}(S:NScope N ps fs scope)(hd:A.handled=none)(e0:Env0 P w K mg base A outer s H)(hl:us.length=ps.length)(r:Vals vs us)(C:ClOk cl s H)(Fv:FvOk fs fv cl s)
  (ns:h1.Ns s.heap.objs.size λx=>(ps.zip us).reverse.lookup x) (hk:∀b o,s.heap.get? b=some o->h1.get? b=some o):
  Inv (cxN P w K mg base N qual scope f cd cl A outer s H) [] (jBE N vs fv) H { s with heap:=h1,toks:=tk} :=by
 have hpl:ps.length+fs.length<=N.length:=by have:=bS List.length S.pre; rw[bM,aF] at this; lia
 have noA:∀b:Addr,b∉(cxN P w K mg base N qual scope f cd cl A outer s H).ex:=λb z=>absurd (show b∈([]:List Addr) from z) (by simp)
 have vl:vs.length=ps.length:=r.length.trans hl
 refine⟨⟨e0.mod,S.kind,rfl,rfl,aq _,C.inj,λy hy=>?_,λy c z=>(nomatch z),λ_=>hd,Around.frames_deeper e0.frames, .inr ⟨rfl,rfl⟩,λb z=>absurd z (noA b),e0.bs,e0.bsz,λb _ _=>noA b,λb z=>absurd z (noA b),e0.funs,e0.frf⟩,
  rfl,e0.bare,Un.kept hk,⟨_,ns,λi y v h1' h2 h3=>?_⟩,λy c h=>?_,e0.hok.fresh (aq _),λy c h=>(C.cell y c h).2,λp hp=>absurd (show p∈([]:List (Addr×Obj)) from hp) (by simp),e0.hok.kept hk,?_⟩
 ·have hy:scope.names.lookup y=some .cell\/scope.names.lookup y=some .free:=hy
  rcases hy with hy | hy
  ·exact absurd rfl (S.nocell _ (cB hy))
  ·have m:=S.all y hy
   obtain⟨i,hi⟩:=bw m
   have hi2:i<fv.length:=by rw[Fv.1]; exact(ax.mp hi).1
   obtain⟨c,u,e,_⟩:=Fv.2 i y fv[i] hi (by simp [hi2])
   exact⟨c,e⟩
 ·have h1':N[i]?=some y:=h1'
  have hlen:(vs++fv).length=ps.length+fs.length:=by rw[aF,vl,Fv.1]
  have hi:i<(vs++fv).length:=by
   unfold jBE kT at h2
   by_cases hi:i<(vs++fv).length
   ·exact hi
   ·rw[bv (by simpa using hi)] at h2
    rw[ke] at h2
    split at h2 <;> cases h2
  have hv:(vs++fv)[i]?=some v:=by
   unfold jBE kT at h2
   rw[cw (by simpa using hi),aJ] at h2
   cases e:(vs++fv)[i]? with
   | none=>rw[e] at h2; cases h2
   | some a=>rw[e] at h2; cases h2; rfl
  have hy:(ps++fs)[i]?=some y:=by
   rw[<- S.pre,cx (by lia)]
   exact h1'
  by_cases hi1:i<ps.length
  ·rw[cw hi1] at hy
   rw[cw (by lia)] at hv
   obtain⟨u,hu,rv⟩:=r.get hv
   have ndP:ps.Nodup:=by
    have:(ps++fs).Nodup:=by rw[<- S.pre]; exact S.nd.sublist (de _ _)
    exact(jm.mp this).1
   exact⟨u,rv, .inl ⟨S.par y (aE hy),jE8 ndP hy hu⟩⟩
  ·rw[bv (by lia)] at hy
   rw[bv (by lia),vl] at hv
   obtain⟨c,u,e,rv,o,ho,hd⟩:=Fv.2 _ y v hy hv
   exact⟨u,rv, .inr ⟨.inr (S.fre y (aE hy)),c,e,o,hk _ _ ho,hd⟩⟩
 ·obtain⟨⟨v,o,ho,hd⟩,_⟩:=C.cell y c h
  exact⟨v,o,hk _ _ ho,hd⟩
 ·unfold jBE kT
  show _=N.length
  rw[aF,ae,gQ,aF,vl,Fv.1]
  lia
end
structure FnN (P:Program)(w:World)(K:W.Frag)(mg:Str->Option Value)(base:Heap)(k:Nat)(x q:Str)(args:Arguments)(body:List Stmt)(scope:Scope)(ps fs:List Str)(sp:List V->Sp):Prop where
 len:∀fv vs H Q E,sp fv vs H Q E->vs.length=ps.length
 run:∀(A:Around) (outer:List Env) (s:Shared) (H:Hp) (a c:Addr) (cl:List (Str×Addr)) (us:List Value) (vs fv:List V) (Q:VK) (E:XK),Room k A->Env0 P w K mg base A outer s H->nfP x q args body scope cl a c s.heap->ncP q c s.heap->ClOk cl s H->FvOk fs fv cl s->Vals vs us->sp fv vs H Q E->
  codeAny (model P w) A (.call (.ref a) ⟨us,[]⟩) (CR CX0 outer P w H s Q E) s
theorem jVA {P:Program}{w:World}{K:W.Frag}{mg:Str->Option Value}{base:Heap}{k:Nat}{x q:Str}{args:Arguments}{body:List Stmt}{scope:Scope}{N ps fs:List Str}{sp:List V->Sp}(S:NScope N ps fs scope)(len:∀fv vs H Q E,sp fv vs H Q E->vs.length=ps.length)
  (hb:∀cl doc pm c ctv (us:List Value),us.length=ps.length->bindArgs (PySem.W.fnX x q args body scope cl .none .none doc pm none (.ref c) ctv) ⟨us,[]⟩=pure (ps.zip us))
  (hbody:∀(A:Around) (outer:List Env) (s:Shared) (H:Hp) (a c:Addr) (cl:List (Str×Addr)) (vs fv:List V) (Q:VK) (E:XK),Room k (A.deeper (envX q scope s.heap.objs.size a (.ref c) cl))->sp fv vs H Q E->
   ∃t,PSs (cxN P w K mg base N q scope a (.ref c) cl A outer s H) body t/\t { nx:=λ_ H'=>Q .non H',rt:=Q} (jBE N vs fv) H):
  FnN P w K mg base (k+1) x q args body scope ps fs sp:=by
 refine⟨len,λA outer s H a c cl us vs fv Q E hr e0 hf hc C Fv r hsp=>?_⟩
 have hl:us.length=ps.length:=r.length.symm.trans (len _ _ _ _ _ hsp)
 obtain⟨doc,pm,ctv,ho⟩:=hf
 have lim:s.heap.NoLimit:=e0.mod.nolimit.keeps λb o e=>(e0.bs b o e).1
 refine codeAny_call_def (body:=body) (binds:=ps.zip us) hr.depth ho rfl lim hc rfl (.of_eq (hb cl doc pm c ctv us hl)) S.nocell (λy hy=>S.par y.1 (dP hy).1) (λh1 ns hk=>?_) S.co S.gen S.kind
 obtain⟨t,ht,hq⟩:=hbody A outer s H a c cl vs fv Q E (hr.deeper _) hsp
 have I:Inv (cxN P w K mg base N q scope a (.ref c) cl A outer s H) [] (jBE N vs fv) H { s with heap:=h1,toks:=s.toks+(ps.zip us).length} :=jEJ S hr.hd e0 hl r C Fv ns hk
 refine b9 (ht [] _ (jBE N vs fv) H _ I hq) (λfl s' hs=>?_) λe s' hs=>False.elim hs
 have fin:∀{σ':St}{H':Hp}{v:V}{u:Value},Inv (cxN P w K mg base N q scope a (.ref c) cl A outer s H) [] σ' H' s'->RelV v u->Q v H'->CE outer P w H s Q u s':=
  λ{σ' H' v u} J rv q=>⟨v,H',J.os,J.bare,J.base,J.hok,rv,q⟩
 cases fl with
 | ret u=>
  obtain⟨v,σ',H',J,rv,q⟩:=hs
  exact fin J rv q
 | next=>
  obtain⟨σ',H',J,q⟩:=hs
  exact fin (v:=V.non) (u:=Value.none) J rfl q
 | brk=>
  obtain⟨_,_,_,q⟩:=hs
  exact False.elim q
 | cont=>
  obtain⟨_,_,_,q⟩:=hs
  exact False.elim q
def jET (σ:St)(is:List Nat)(fv:List V):Prop:=is.map (λi=>(σ[i]?).getD none)=fv.map some
section
variable {σ:St}{fs:List Str}{is:List Nat}
def FsAt (X:Cx)(fs:List Str)(is:List Nat):Prop:=is.length=fs.length/\∀(k:Nat) (x:Str),fs[k]?=some x->∃i,is[k]?=some i/\X.N[i]?=some x/\(X.env.scope.names.lookup x=some .cell\/X.env.scope.names.lookup x=some .free)
theorem Inv.clOk (I:Inv X ad σ H s)(hfree:∀y∈scope.names,y.2= .free->X.env.scope.names.lookup y.1=some .cell\/X.env.scope.names.lookup y.1=some .free):ClOk (jF X.env.cells scope.names []) s H:=by
 have sub:∀x c,(jF X.env.cells scope.names []).lookup x=some c->X.env.cells.lookup x=some c:=jAH scope.names [] (λy hy hf=>I.ok.has y.1 (hfree y hy hf)) (λx c e=>by cases e)
 exact⟨λx y c h1 h2=>I.ok.inj x y c (sub x c h1) (sub y c h2),λx c h=>⟨I.cell x c (sub x c h),I.freeC x c (sub x c h)⟩⟩
theorem Inv.fvOk (I:Inv X ad σ H s)(hfree:∀y∈scope.names,y.2= .free->X.env.scope.names.lookup y.1=some .cell\/X.env.scope.names.lookup y.1=some .free)(hfs:∀x∈fs,scope.names.lookup x=some .free)(ha:FsAt X fs is)(hs:jET σ is fv):FvOk fs fv (jF X.env.cells scope.names []) s:=by
 have hl:fv.length=fs.length:=by
  have:=bS List.length hs
  rw[ae,ae] at this
  rw[<- this,ha.1]
 refine⟨hl,λk x v h1 h2=>?_⟩
 obtain⟨i,hi,hN,hk⟩:=ha.2 k x h1
 have e:(σ[i]?).getD none=some v:=by
  have:=bS (λl=>l[k]?) hs
  simp only [aJ,hi,h2,Option.map_some] at this
  exact bA this
 have e2:σ[i]?=some (some v):=by
  cases q:σ[i]? with
  | none=>rw[q] at e; cases e
  | some z=>rw[q] at e; exact bS some e
 obtain⟨m,hn,hl⟩:=I.loc
 obtain⟨u,r,l⟩:=hl i x v hN e2 (.inr hk)
 obtain⟨c,hc⟩:=jA7 (cells:=X.env.cells) (x:=x) scope.names [] (.inl (jA3 (hfs x (aE h1))))
 have sub:=jAH (cells:=X.env.cells) scope.names [] (λy hy hf=>I.ok.has y.1 (hfree y hy hf)) (λx c e=>by cases e) x c hc
 rcases l with ⟨lk,_⟩ | ⟨_,c',hc',z⟩
 ·have lk':X.env.scope.names.lookup x=some .local:=lk
  rcases hk with z | z <;> rw[lk'] at z <;> cases z
 ·rw[sub] at hc'
  cases hc'
  exact⟨c,u,hc,r,z⟩
end
section
variable {k:Nat}{q:Str}{args:Arguments}{body:List Stmt}{fs:List Str}{is:List Nat}{sp:List V->Sp}
end
section
variable {te:St->TE}
end
def jVL (Ts:List Addr)(H:Hp):Prop:=∀b,H b=none\/(∃o xs,H b=some (.frz o (.lst xs)))\/b∈Ts
theorem jK5 {cts:List (Addr×Addr)}{P:Program}{w:World}{K:W.Frag}{mg mb:Str->Option Value}{CX:CXT}{k:Nat}{fa a:Addr}{fd:FuncData}{x:Str}{sp:Sp}{s₁:Shared}{vs:List Value}{ns:List Int}
  (KX:K.In s₁.heap) (hns:s₁.heap.Ns mainGlobals mg) (hb:s₁.heap.Ns builtinsNs mb) (hbb:∀x:Str,x≠ "__name__" ->mb x=bootBuiltins x) (hlim:s₁.heap.NoLimit) (hg:s₁.gens=#[])
  (ha:s₁.heap.get? a=some { cls:= .type "list",data:= .seq vs.toArray}) (hi:IntsAre vs ns) (hl:ns.length<=sizeLine) (hr:Room k callerA) (hT:∀T∈cts.map (·.2),s₁.heap.get? T=some (tabObj #[])) (CH:∀p∈cts,PySem.W.CodeHd s₁.heap p.1 p.2) (hKT:∀T∈cts.map (·.2),K.lookup T=none)
  (F:∀base:Heap,K.In base->base.Ns mainGlobals mg->FnOk P w K mg base CX k fa fd [x] sp) (hbind:∀(s:Shared) (u:Value),BindsTo s fd ⟨[u],[]⟩ [(x,u)])
  (hsp:∀H:Hp,(∀T∈cts.map (·.2),H T=some (.tbl #[]))->SqL K H a (ns.map V.int)->sp [.ref a] H (λv _=>v= .bl true) λ_ _ _=>False)
  (hCX:∀H e s',CX [] H s₁ (λ_ _ _=>False) e s'->False):
  codeAny (model P w) callerA (.call (.ref fa) ⟨[.ref a],[]⟩) (λr s'=>r= .ok (.ret (.bool true))/\OldK s₁.heap s'.heap/\s'.os=s₁.os/\AllBare s'.gens) s₁:=by
 have rv:=jFS hi
 have lenV:=hi.length
 have core:∀H:Hp,jVL (cts.map (·.2)) H->(∀T∈cts.map (·.2),H T=some (.tbl #[]))->SqL K H a (ns.map V.int)->HOk P w H s₁.heap->(∀b,H b≠none->b=a\/b∈cts.map (·.2))->(H a≠none->K.lookup a=none)->
   codeAny (model P w) callerA (.call (.ref fa) ⟨[.ref a],[]⟩) (λr s'=>r= .ok (.ret (.bool true))/\OldK s₁.heap s'.heap/\s'.os=s₁.os/\AllBare s'.gens) s₁:=by
  intro H hO hHT hS hok hA hK
  have base_of:∀{b:Addr}{o:Obj},s₁.heap.get? b=some o->H b=none->(hidT s₁.heap H).get? b=some o:=λe n=>jPC e n
  have noA:∀{b:Addr}{o:Obj}{es:Array DictEntry}{ep:Nat},s₁.heap.get? b=some o->o.data= .dict es ep->H b=none:=λ{b o es ep} e d=>by
   cases q:H b with
   | none=>rfl
   | some u=>
    rcases hA b (by rw[q]; simp) with e' | e'
    ·subst e'
     rw[ha] at e; cases e
     have d':Data.seq vs.toArray _=Data.dict es ep:=d
     cases d'
    ·rw[hT b e'] at e; cases e
     have d':Data.fields _=Data.dict es ep:=d
     cases d'
  have nsK:∀{b:Addr}{m:Str->Option Value},s₁.heap.Ns b m->(hidT s₁.heap H).Ns b m:=λ{b m} ⟨o,es,ep,e,d,r⟩=>⟨o,es,ep,base_of e (noA e d),d,r⟩
  have hKb:K.In (hidT s₁.heap H):=λb o e=>base_of (KX b o e) (by
   cases q:H b with
   | none=>rfl
   | some u=>
    rcases hA b (by rw[q]; simp) with e' | e'
    ·subst e'
     rw[hK (by rw[q]; simp)] at e; cases e
    ·rw[hKT b e'] at e; cases e)
  have hM:Mod K mg (hidT s₁.heap H):=⟨hKb,nsK hns,⟨mb,nsK hb,hbb⟩,let ⟨mc,h1,h2⟩:=hlim; ⟨mc,nsK h1,h2⟩⟩
  have e0:Env0 P w K mg (hidT s₁.heap H) callerA [] s₁ H:=⟨rfl,hM,λb o e=>jS8 e,Nat.le_of_eq (jN0 _ _),trivial,λb hb=>absurd (show b∈([]:List Addr) from hb) (by simp),hok, .of_eq hg⟩
  refine ev ((F _ hKb (nsK hns)).run callerA [] s₁ H ⟨[.ref a],[]⟩ [.ref a] [.ref a] _ _ hr e0 (hbind s₁ (.ref a)) (.cons rfl .nil) (hsp H hHT hS)) λr s' h=>?_
  cases r with
  | error e=>exact(hCX H e s' h).elim
  | ok fl=>
   cases fl with
   | next=>exact False.elim h
   | brk=>exact False.elim h
   | cont=>exact False.elim h
   | ret u=>
    obtain⟨v,H',os,bare,un,hok',r',q⟩:=h
    have q':v= .bl true:=q
    subst q'
    obtain rfl:u=Value.bool true:=r'
    have gr:∀T∈cts.map (·.2),∃more,s'.heap.get? T=some (tabObj (#[]++more)):=λT hTm=>by
     obtain⟨more,z⟩:=un.tbls T _ (hHT T hTm)
     exact⟨more,hok' T _ z⟩
    have kp:∀b o,b∉cts.map (·.2)->s₁.heap.get? b=some o->s'.heap.get? b=some o:=λb o hbT e=>?_
    ·refine⟨rfl,⟨λb o e=>?_,λb o e=>?_⟩,os,bare⟩
     ·by_cases hb:b∈cts.map (·.2)
      ·obtain⟨p,hp,rfl⟩:=aW.mp hb
       have q:=hT _ hb
       rw[q] at e
       cases e
       obtain⟨more,z⟩:=gr _ hb
       exact .inr (.inl ⟨((CH p hp).tab q).isCodeTable,rfl,#[],more,rfl,z⟩)
      ·exact .inl (kp b o hb e)
     ·by_cases hb:b∈cts.map (·.2)
      ·obtain⟨more,z⟩:=gr _ hb
       exact⟨_,z⟩
      ·exact⟨o,kp b o hb e⟩
    cases q:H b with
    | none=>exact un.keep b o e q (by intro z; exact absurd (show b∈([]:List Addr) from z) (by simp)) (by simp)
    | some u=>
     rcases hO b with z | ⟨ob,xs,z⟩ | z
     ·rw[q] at z; cases z
     ·have z2:=un.frzs b ob _ z
      obtain⟨e1,_⟩:=hok b _ z
      obtain⟨e2,_⟩:=hok' b _ z2
      rw[e] at e1; cases e1
      exact e2
     ·exact absurd z hbT
 have aT:a∉cts.map (·.2):=λz=>by rw[hT a z] at ha; cases ha
 cases hk:K.lookup a with
 | some o=>
  have e:=KX a o hk
  rw[ha] at e
  cases e
  refine core (λb=>if b∈cts.map (·.2) then some (.tbl #[]) else none) (λb=>?_) (λT hm=>am hm) (.inr ⟨_,vs.toArray,_,hk,rfl,rfl,rfl,by rw[aG,lenV]; exact hl,by simpa using rv⟩) (λb u z=>?_) (λb z=>?_) λz=>absurd (aj aT) z
  ·by_cases hb:b∈cts.map (·.2)
   ·exact .inr (.inr hb)
   ·exact .inl (aj hb)
  ·by_cases hb:b∈cts.map (·.2)
   ·have z':=(am hb).symm.trans z
    cases z'
    exact hT b hb
   ·have z':=(aj hb).symm.trans z
    cases z'
  ·by_cases hb:b∈cts.map (·.2)
   ·exact .inr hb
   ·exact absurd (aj hb) z
 | none=>
  refine core (λb=>if b∈cts.map (·.2) then some (.tbl #[]) else if b=a then some (.frz { cls:= .type "list",data:= .seq vs.toArray} (.lst (ns.map V.int))) else none) (λb=>?_) (λT hm=>am hm) (.inl (.inr ⟨{ cls:= .type "list",data:= .seq vs.toArray},by dsimp only; rw[aj aT,am rfl]⟩)) (λb u z=>?_) (λb z=>?_) λ_=>hk
  ·by_cases hT':b∈cts.map (·.2)
   ·exact .inr (.inr hT')
   ·by_cases hb:b=a
    ·exact .inr (.inl ⟨_,_,by dsimp only; rw[aj hT',am hb]⟩)
    ·exact .inl (by dsimp only; rw[aj hT',aj hb])
  ·dsimp only at z
   by_cases hT':b∈cts.map (·.2)
   ·rw[am hT'] at z
    cases z
    exact hT b hT'
   ·rw[aj hT'] at z
    by_cases hb:b=a
    ·rw[am hb] at z
     cases z
     subst hb
     exact⟨ha,by rw[ae]; exact hl,vs,_,rv,ha⟩
    ·rw[aj hb] at z
     cases z
  ·replace z:(if b∈cts.map (·.2) then some (HO.tbl #[]) else if b=a then some (HO.frz { cls:= .type "list",data:= .seq vs.toArray} (.lst (ns.map V.int))) else none)≠none:=z
   by_cases hT':b∈cts.map (·.2)
   ·exact .inr hT'
   ·by_cases hb:b=a
    ·exact .inl hb
    ·rw[aj hT',aj hb] at z
     exact absurd rfl z
theorem walk_ofTs {cts:List (Addr×Addr)}{l:PySem.W.OpenLaw}{n k:Nat}{q:Program}{loose:List Str}{XP:(Str->Option Value)->Heap->Prop}{YP:World->Heap->Prop}{d:DefRec}{K:Params->W.Frag}{CX:World->CXT}{sp:World->Sp}{x:Str}
  (hn:l.most=some n) (hn2:n<=sizeLine) (hdf:d.params.defaults=[]) (hr:Room k callerA)
  (hY:∀(w:World) (h:Heap),YP w h->(K w.params).In h/\∀T∈cts.map (·.2),h.get? T=some (tabObj #[])) (hcd:∀w:World,∀p∈cts,codeHdIn (K w.params) p.1 p.2=true) (hKT:∀w:World,∀T∈cts.map (·.2),(K w.params).lookup T=none)
  (F:∀(w:World) (mg:Str->Option Value) (fa:Addr) (h:Heap),(K w.params).In h->h.Ns mainGlobals mg->mg d.name=some (.ref fa)->
   ∃fd:FuncData,(∀(s:Shared) (u:Value),BindsTo s fd ⟨[u],[]⟩ [(x,u)])/\
    ∀base:Heap,(K w.params).In base->base.Ns mainGlobals mg->FnOk l.prog w (K w.params) mg base (CX w) k fa fd [x] (sp w))
  (hsp:∀(w:World) (H:Hp) (a:Addr) (ns:List Int),ns.length<=n->(∀T∈cts.map (·.2),H T=some (.tbl #[]))->SqL (K w.params) H a (ns.map V.int)->sp w [.ref a] H (λv _=>v= .bl true) λ_ _ _=>False)
  (hCX:∀(w:World) (H:Hp) (s:Shared) (e:Value) (s':Shared),CX w [] H s (λ_ _ _=>False) e s'->False):
  PySem.W.WalkO q loose XP YP l.row.toRowW d [] (λf vs=>PySem.call f vs):=by
 refine Att.attach_call hn hdf λw s₀ s₁ mg mb fa o pm cd doc a vs ns G Y ho hd _ hmg hobj hints hlen hg=>?_
 obtain⟨KX,hT⟩:=hY w _ Y
 obtain⟨fd,hb,hF⟩:=F w mg fa _ KX G.T.g hmg
 exact jK5 KX G.T.g G.T.b G.T.builtins G.T.nolimit hg hobj hints (bf hlen hn2) hr hT (λp hp=>gf KX (hcd w p hp)) (hKT w) hF hb (λH hO hS=>hsp w H a ns hlen hO hS) λH e s'=>hCX w H s₁ e s'
open PySem.AutoSeq1 (wpAny_loadPart')
theorem jPH {tp:Bool}{e it l:Addr}{i:Nat}{xs:Array Value}{x old:Value}{Q:Value->Shared->Prop}(ee:IsEnum s.heap e it i old)(g1:ItAt tp s.heap it l i)(o1:ObAt tp s.heap l xs)(hx:xs[i]?=some x)(ne:e≠it)
  (k:∀h',IsEnumOut h' e it ((i:Int)+1) x s.heap.objs.size->ItAt tp h' it l (i+1)->h'.get? s.heap.objs.size=some { cls:= .type "tuple",data:= .seq #[.int i s.toks,x]} ->h'.objs.size=s.heap.objs.size+1->
   (∀c o,c≠e->c≠it->s.heap.get? c=some o->h'.get? c=some o)->Q (.ref s.heap.objs.size) { s with heap:=h',toks:=s.toks+1}):
  wpAny (model prog w) A (Builtin.«enumerate.__next__» ⟨[.ref e],[]⟩) (λfin s'=>∃v,fin= .done (.ret v)/\Q v s') E s:=by
 obtain⟨hp,g,d,tk,os⟩:=s
 show wpAny (model prog w) A (field (.ref e) 2 >>= _) _ _ _
 refine aa (ck ee rfl (x:= .ref it) rfl (aa (next1 g1 o1 hx λp1 r1 q1=>?_)))
 have q1:Heap.SameBut it hp p1:=q1
 have e1:IsEnum p1 e it i old:=(q1.2 e ne).trans ee
 show wpAny (model prog w) A (field (.ref e) 3 >>= _) _ _ ⟨p1,g,d,tk,os⟩
 refine aa (ck e1 rfl (x:=rawInt i) rfl (?_:wpAny (model prog w) A (field (.ref e) 4 >>= _) _ _ ⟨p1,g,d,tk,os⟩))
 refine aa (ck e1 rfl (x:= .none) rfl (?_:wpAny (model prog w) A (mkInt i >>= _) _ _ ⟨p1,g,d,tk,os⟩))
 refine aa (wpAny_mkInt (?_:wpAny (model prog w) A (setField (.ref e) 3 (rawInt ((i:Int)+1)) >>= _) _ _ ⟨p1,g,d,tk+1,os⟩))
 refine aa (bN e1 (by simp) λp2 e2 q2=>?_)
 have q2:Heap.SameBut e p1 p2:=q2
 have e2:IsEnum p2 e it ((i:Int)+1) old:=e2
 show wpAny (model prog w) A (setField (.ref e) 4 .none >>= _) _ _ ⟨p2,g,d,tk+1,os⟩
 refine aa (bN e2 (by simp) λp3 e3 q3=>?_)
 have q3:Heap.SameBut e p2 p3:=q3
 have e3:IsEnum p3 e it ((i:Int)+1) old:=e3
 show wpAny (model prog w) A (newTuple [.int i tk,x] >>= _) _ _ ⟨p3,g,d,tk+1,os⟩
 refine aa (iZ ?_)
 have e4:IsEnum (p3.push { cls:= .type "tuple",data:= .seq #[.int i tk,x]}) e it ((i:Int)+1) old:=ab _ e3
 have sz:p3.objs.size=hp.objs.size:=by rw[q3.1,q2.1,q1.1]
 have lt:e<hp.objs.size:=ay ee
 have t4:(p3.push { cls:= .type "tuple",data:= .seq #[.int i tk,x]}).get? hp.objs.size=some { cls:= .type "tuple",data:= .seq #[.int i tk,x]} :=by rw[<- sz]; exact ao _ rfl
 have z4:(p3.push { cls:= .type "tuple",data:= .seq #[.int i tk,x]}).objs.size=hp.objs.size+1:=by rw[bK,sz]
 have k4:∀c o,c≠e->c≠it->hp.get? c=some o->(p3.push { cls:= .type "tuple",data:= .seq #[.int i tk,x]}).get? c=some o:=λc o n1 n2 v=>ab _ (q3.extBut c o n1 (q2.extBut c o n1 (q1.extBut c o n2 v)))
 have r4:ItAt tp (p3.push { cls:= .type "tuple",data:= .seq #[.int i tk,x]}) it l (i+1):=((r1.but q2.extBut ne.symm).but q3.extBut ne.symm).at λo v=>ab _ v
 generalize p3.push { cls:= .type "tuple",data:= .seq #[.int i tk,x]} =p4 at e4 t4 z4 k4 r4 ⊢
 show wpAny (model prog w) A (Builtin.SmallTypes.ownedTupleIsFree (.ref e) >>= _) _ _ ⟨p4,g,d,tk+1,os⟩
 rw[sz]
 refine aa (by
  unfold Builtin.SmallTypes.ownedTupleIsFree
  refine aa (ck e4 rfl (x:= .none) rfl (ai ?_))
  simp only [fH]
  refine aa (cP (aa (ck e4 rfl (x:=old) rfl (aa (bN e4 (by simp) λp5 e5 q5=>?_)))))
  have q5:Heap.SameBut e p4 p5:=q5
  have e5:IsEnum p5 e it ((i:Int)+1) x:=e5
  refine aa (m:=Builtin.SmallTypes.ownedTupleHandOut (.ref e) (.ref hp.objs.size)) ?_
  unfold Builtin.SmallTypes.ownedTupleHandOut
  refine aa (bN e5 (by simp) λp6 e6 q6=>?_)
  have q6:Heap.SameBut e p5 p6:=q6
  have e6:IsEnumOut p6 e it ((i:Int)+1) x hp.objs.size:=e6
  refine bN e6 (by simp) λp7 e7 q7=>?_
  have q7:Heap.SameBut e p6 p7:=q7
  have e7:IsEnumOut p7 e it ((i:Int)+1) x hp.objs.size:=e7
  have up:∀c o,c≠e->p4.get? c=some o->p7.get? c=some o:=λc o n v=>q7.extBut _ _ n (q6.extBut _ _ n (q5.extBut _ _ n v))
  exact aa (eY (ai ⟨_,rfl,k p7 e7 (r4.at λo v=>up _ o ne.symm v) (up _ _ (cD lt) t4) (by rw[q7.1,q6.1,q5.1,z4]) λc o n1 n2 v=>up c o n1 (k4 c o n1 n2 v)⟩)))
theorem jJV {tp:Bool}{e it l:Addr}{i:Nat}{xs:Array Value}{x old:Value}{Q:Option Value->Shared->Prop}(ee:IsEnum s.heap e it i old)(g1:ItAt tp s.heap it l i)(o1:ObAt tp s.heap l xs)(hx:xs[i]?=some x)(ne:e≠it)
  (k:∀h',IsEnumOut h' e it ((i:Int)+1) x s.heap.objs.size->ItAt tp h' it l (i+1)->h'.get? s.heap.objs.size=some { cls:= .type "tuple",data:= .seq #[.int i s.toks,x]} ->h'.objs.size=s.heap.objs.size+1->
   (∀c o,c≠e->c≠it->s.heap.get? c=some o->h'.get? c=some o)->Q (some (.ref s.heap.objs.size)) { s with heap:=h',toks:=s.toks+1}):
  wpAny (model prog w) A (pyNext (.ref e)) Q E s:=by
 have ty:s.TypeIs (.ref e) "enumerate" :=⟨_,ee,rfl⟩
 unfold pyNext
 exact aa (dF (cg (name:=Str.ofString "__next__") ty F.slot_enumerate_next (bV F.slot_enumerate_next ty F.entry_enumerate_next (jPH ee g1 o1 hx ne λh' b1 b2 b3 b4 b5=>ai (k h' b1 b2 b3 b4 b5)) (F.args_enumerate_next_1 _))))
theorem jJW {tp:Bool}{e it l:Addr}{i:Nat}{xs:Array Value}{old:Value}{Q:Option Value->Shared->Prop}(hh:A.handled=none)(ee:IsEnum s.heap e it i old)(g1:ItAt tp s.heap it l i)(o1:ObAt tp s.heap l xs)(hx:xs[i]?=none)
  (k:∀h',(∀c o,c≠e->c≠it->s.heap.get? c=some o->h'.get? c=some o)->Q none { s with heap:=h'}):wpAny (model prog w) A (pyNext (.ref e)) Q E s:=by
 have ty:s.TypeIs (.ref e) "enumerate" :=⟨_,ee,rfl⟩
 unfold pyNext
 refine aa (dF (cg (name:=Str.ofString "__next__") ty F.slot_enumerate_next (bV F.slot_enumerate_next ty F.entry_enumerate_next (?_:wpAny (model prog w) _ (field (.ref e) 2 >>= _) _ _ _) (F.args_enumerate_next_1 _))))
 refine aa (ck ee rfl (x:= .ref it) rfl (aa (next0 hh g1 o1 hx λh' x kp ⟨u,eu,cu⟩=>?_)))
 exact aa (g0 (T:= "StopIteration") (b:=true) ⟨u,eu,cu⟩ lY (ai (k _ λc o _ n v=>kp c o n v)))
set_option maxHeartbeats 2000000 in
theorem jM3 (tp:Bool)(l:Addr)(xs:Array Value)(u:Obj):
  Meets (Builtin.«enumerate.__new__» ⟨[.type "enumerate", .ref l],[]⟩) (λ_ R s=>s.heap.get? l=some u/\ObAt tp s.heap l xs/\
   R (.ok (.ret (.ref (s.heap.push (qC tp l)).objs.size))) { s with heap:=(s.heap.push (qC tp l)).push { cls:= .type "enumerate",data:= .fields #[.none, .bool false, .ref s.heap.objs.size,rawInt 0, .none, .none]}}):=
 .of_wp λprog w A R s h=>by
  obtain⟨hp,g,d,tk,os⟩:=s
  obtain⟨a0,a1,q⟩:=h
  have sub:=sub_enumerate
  have e1:ObAt tp (Shared.heap ⟨hp,g,d,tk,os⟩) l xs:=a1
  obtain⟨c,dct,dt,sl⟩:=u
  obtain⟨n,hc,hd⟩:∃n,c=(if tp then .type "tuple" else .type "list")/\dt= .seq xs n:=by
   cases tp with
   | false=>obtain⟨o,e,hc,n,hd⟩:=a1; cases (a0.symm.trans e); exact⟨n,hc,hd⟩
   | true=>obtain⟨o,e,hc,n,hd⟩:=a1; cases (a0.symm.trans e); exact⟨n,hc,hd⟩
  subst hd
  cases tp with
  | false=>
   subst hc
   wp_walk using cJ a0
   refine wpAny_stack_any λ_=>ai ?_
   split
   ·rename_i c _ _ _ _ _
    cases hcc:(c==Value.type "enumerate")
    all_goals (wp_walk using cJ a0,jCC e1; exact⟨_,rfl,q⟩)
   ·wp_walk using cJ a0,jCC e1
    exact⟨_,rfl,q⟩
  | true=>
   subst hc
   wp_walk using cJ a0
   refine wpAny_stack_any λ_=>ai ?_
   split
   ·rename_i c _ _ _ _ _
    cases hcc:(c==Value.type "enumerate")
    all_goals (wp_walk using cJ a0,jCC e1; exact⟨_,rfl,q⟩)
   ·wp_walk using cJ a0,jCC e1
    exact⟨_,rfl,q⟩
theorem jPP {prog:Program}{w:World}{A:Around}{E:Value->Shared->Prop}{s:Shared}{tp:Bool}{l:Addr}{xs:Array Value}{Q:Value->Shared->Prop}(a1:ObAt tp s.heap l xs)
  (k:∀h',IsEnum h' (s.heap.objs.size+1) s.heap.objs.size 0 .none->ItAt tp h' s.heap.objs.size l 0->(∀c o,s.heap.get? c=some o->h'.get? c=some o)->Q (.ref (s.heap.objs.size+1)) { s with heap:=h'}):
  wpAny (model prog w) A (call (.type "enumerate") [.ref l]) Q E s:=by
 obtain⟨u,eu⟩:∃u,s.heap.get? l=some u:=by
  cases tp with
  | false=>obtain⟨o,e,_⟩:=a1; exact⟨o,e⟩
  | true=>obtain⟨o,e,_⟩:=a1; exact⟨o,e⟩
 refine callType_new F.called_enumerate (by decide) (F.typeCall_enumerate_1 _) (F.newCall_enumerate_1 _) (λobj=>F.args_object_init_2 obj _) F.entry_enumerate_new (jM3 tp l xs u) ⟨eu,a1,?_⟩
 have z1:(s.heap.push (qC tp l)).objs.size=s.heap.objs.size+1:=bK ..
 have y2:IsEnum ((s.heap.push (qC tp l)).push { cls:= .type "enumerate",data:= .fields #[.none, .bool false, .ref s.heap.objs.size,rawInt 0, .none, .none]}) (s.heap.push (qC tp l)).objs.size s.heap.objs.size 0 .none:=ao _ rfl
 have y1:((s.heap.push (qC tp l)).push { cls:= .type "enumerate",data:= .fields #[.none, .bool false, .ref s.heap.objs.size,rawInt 0, .none, .none]}).get? s.heap.objs.size=some (qC tp l):=ab _ (ao _ (jCJ _ _))
 show _/\_
 rw[z1] at y2 ⊢
 exact⟨⟨_,y2,rfl⟩,k _ y2 (.new tp y1) λc o e=>ab _ (ab _ e)⟩
def Ite (tp:Bool)(K:W.Frag)(l:Addr):It:=
 ⟨λi H=>∃xs x,Sq tp K H l xs/\xs[i]?=some x,
  λi H v H'=>∃T x,H T=none/\v= .ref T/\H'=upd H T (.tup [.int (i:Int),x])/\∀xs,Sq tp K H l xs->xs[i]?=some x,
  λi H=>∃xs,Sq tp K H l xs/\xs.length<=i⟩
theorem jKY {P:Program}{w:World}{K:W.Frag}{elts:List Expr}{x1:Nat}{tps:Pos}(tp:Bool)(l e it:Addr)(ne:e≠it):
  Turn P w K (.Tuple elts x1 tps) (Ite tp K l) [e,it] e (λi h=>(∃old,IsEnum h e it ((i:Nat):Int) old)/\ItAt tp h it l i) where
 mem:=by simp
 obj:=λi h st b hb=>by
  obtain⟨⟨old,he⟩,y1⟩:=st
  simp only [ar,bC,dG] at hb
  rcases hb with rfl | rfl
  ·exact⟨_,he,λv q=>by cases q⟩
  ·exact y1.obj
 keep:=λi h h' st k=>by
  obtain⟨⟨old,he⟩,h1⟩:=st
  exact⟨⟨old,k e (by simp) _ he⟩,h1.at λo z=>k it (by simp) o z⟩
 item:=by
  intro X hP hw hK hc i ad s σ H E I hf st hg
  subst hP hw hK
  obtain⟨xs,x,hq1,hx⟩:=hg
  obtain⟨⟨old,he⟩,h1⟩:=st
  obtain⟨its1,r1,p1,_⟩:=I.sq hq1
  obtain⟨u,hu,ru⟩:=r1.get hx
  refine jJV he h1 p1 (x:=u) (by simpa using hu) ne λh' a1 a2 a3 a4 a5=>?_
  refine⟨_,rfl,wpAny_letOwnedTupleGo_enum (s:= { s with heap:=h',toks:=s.toks+1}) a1 λh'' b1 sb=>?_⟩
  have fresh:H s.heap.objs.size=none:=I.fresh
  have ntr:∀b o,H b=some o->b∉([e,it]:List Addr):=λb o z hb=>by
   have:=(hf b hb).1
   rw[z] at this; cases this
  have kp:∀b o,b∉([e,it]:List Addr)->s.heap.get? b=some o->h''.get? b=some o:=λb o hb z=>by
   simp only [ar,bC,dG,mH] at hb
   exact(sb.2 b hb.1).trans (a5 b o hb.1 hb.2 z)
  have nz:s.heap.objs.size≠e:=cD (ay he)
  have hT2:h''.get? s.heap.objs.size=some { cls:= .type "tuple",data:= .seq #[.int i s.toks,u]} :=(sb.2 _ nz).trans a3
  have I2:Inv X ad σ (upd H s.heap.objs.size (.tup [.int (i:Int),x])) { s with heap:=h'',toks:=s.toks+1} :=by
   refine I.step (g':=s.gens) (d':=s.drawn) (t':=s.toks+1) (ch:=[e,it]) (λb hb=>?_) (λb o _ _ hb z _=>kp b o hb z) (λb o _ _ hb z _=>⟨o.slots,kp b o hb z⟩)
    (λb o _ z n=>by rw[j6 (aO (ay z))]; exact n) (λb o hb z=>⟨o,kp b o hb z⟩) (λb ws z=>by rw[j6 (j9 z fresh)]; exact z) (λb o ws z=>by rw[j6 (j9 z fresh)]; exact z)
    (λb ps z=>⟨#[],by rw[j6 (j9 z fresh),z]; simp⟩) (λm hm=>?_) (λb o z=>?_) I.bare
   ·obtain⟨f0,f1,f2,f3,f4,f5⟩:=hf b hb
    exact⟨f3,f1,f4,f5⟩
   ·obtain⟨o,es,ep,ho,r⟩:=hm
    exact⟨o,es,ep,kp _ o (λhb=>(hf _ hb).2.1 rfl) ho,r⟩
   ·by_cases hb:b=s.heap.objs.size
    ·subst hb
     rw[j5] at z
     cases z
     exact⟨by rw[fm]; show 2<=_; decide,[.int i s.toks,u], .cons ⟨_,rfl⟩ (.cons ru .nil),0,hT2⟩
    ·rw[j6 hb] at z
     refine(I.hok b o z).stay (λc w hc q=>kp c w ?_ q) (λc q=>by rw[j6 (j9 q fresh)]; exact q) (λc ws q=>by rw[j6 (j9 q fresh)]; exact q)
     rcases hc with rfl | hc
     ·exact ntr _ _ z
     ·exact ntr _ _ hc
  refine⟨.ref s.heap.objs.size,_,I2,rfl,⟨_,x,fresh,rfl,rfl,λxs' q1=>by rw[I.sq_inj q1 hq1]; exact hx⟩,⟨⟨_,b1⟩,?_⟩,λb hb=>?_⟩
  ·exact a2.at λo z=>(sb.2 it ne.symm).trans z
  ·rw[j6 (λq=>by
    obtain⟨o,eo⟩:∃o,s.heap.get? b=some o:=by
     simp only [ar,bC,dG] at hb
     rcases hb with rfl | rfl
     ·exact⟨_,he⟩
     ·obtain⟨o,z,_⟩:=h1.obj; exact⟨o,z⟩
    exact absurd (ay eo) (by rw[q]; exact b8 _))]
   exact(hf b hb).1
 done:=by
  intro X hP hw hK hc i ad s σ H E I hf st hg
  subst hP hw hK
  obtain⟨xs,hq1,hend⟩:=hg
  obtain⟨⟨old,he⟩,h1⟩:=st
  obtain⟨its1,r1,p1,_⟩:=I.sq hq1
  have e1:=r1.length
  refine jJW (I.ok.hd hc) he h1 p1 (by simp; lia) λh' kp=>⟨rfl,?_⟩
  have kp2:∀b o,b∉([e,it]:List Addr)->s.heap.get? b=some o->h'.get? b=some o:=λb o hb z=>by
   simp only [ar,bC,dG,mH] at hb
   exact kp b o hb.1 hb.2 z
  have ntr:∀b o,H b=some o->b∉([e,it]:List Addr):=λb o z hb=>by
   have:=(hf b hb).1
   rw[z] at this; cases this
  refine I.step (g':=s.gens) (d':=s.drawn) (t':=s.toks) (ch:=[e,it]) (λb hb=>?_) (λb o _ _ hb z _=>kp2 b o hb z) (λb o _ _ hb z _=>⟨o.slots,kp2 b o hb z⟩)
   (λb o _ z n=>n) (λb o hb z=>⟨o,kp2 b o hb z⟩) (λb ws z=>z) (λb o ws z=>z) (λb ps z=>⟨#[],by rw[z]; simp⟩) (λm hm=>?_) (λb o z=>?_) I.bare
  ·obtain⟨f0,f1,f2,f3,f4,f5⟩:=hf b hb
   exact⟨f3,f1,f4,f5⟩
  ·obtain⟨o,es,ep,ho,r⟩:=hm
   exact⟨o,es,ep,kp2 _ o (λhb=>(hf _ hb).2.1 rfl) ho,r⟩
  ·refine(I.hok b o z).stay (λc w hc q=>kp2 c w ?_ q) (λ_ q=>q) λ_ _ q=>q
   rcases hc with rfl | hc
   ·exact ntr _ _ z
   ·exact ntr _ _ hc
 self:=λ_ _ _ _ _ st h=>wpAny_pyIter_enum st.1.choose_spec h
def iEnum (K:W.Frag)(ta:TA):TI:=λσ H R=>ta σ H λvs H1=>∃tp l,vs=[.ref l]/\(∃xs,Sq tp K H1 l xs)/\R (Ite tp K l) H1
theorem jRN {a:Expr}{ta:TA}{p pos:Pos}{elts:List Expr}{x1:Nat}{tp:Pos}(hg:Gl X "enumerate")(hm:X.mg "enumerate" =none)(ha:PA X [a] ta)(hv:bootBuiltins "enumerate" =some (.type "enumerate"):=by decide+kernel)
  (he:starEach [a] X.env=(false,eval a X.env)::starEach [] X.env:=by rfl) (hpl:(backTo pos (starEach [] X.env)).any (·.1)=false:=by rfl):
  PI X (.Tuple elts x1 tp) (.Call (.Name "enumerate" p) [a] [] pos) (iEnum X.K ta):=by
 intro ad s σ H R I h
 refine Call_ (jCU I hg hm hv (dS (mI (ha pos ad s σ H _ I h) λus s1 ⟨vs,H1,I1,r1,q1⟩=>?_) he hpl))
 obtain⟨t1,l1,rfl,⟨xs,hq1⟩,q⟩:=q1
 obtain⟨u,rfl,ru⟩:=r1.one
 cases ru
 obtain⟨its1,_,p1,_⟩:=I1.sq hq1
 refine jPP p1 λh' a1 a2 kp=>?_
 have I2:Inv X ad σ H1 { s1 with heap:=h'} :=I1.kept (t':=s1.toks) kp
 refine wpAny_pyIter_enum a1 ⟨s1.heap.objs.size+1,[s1.heap.objs.size+1,s1.heap.objs.size],_,Ite t1 X.K l1,H1,rfl,I2,jKY t1 l1 _ _ (Nat.succ_ne_self _),⟨⟨_,a1⟩,a2⟩,λb hb=>?_,q⟩
 have hge:s1.heap.objs.size<=b:=by
  simp only [ar,bC,dG] at hb
  rcases hb with rfl | rfl
  ·exact eV _ 1
  ·exact aq _
 exact I1.fpOk hge (I1.hok.fresh hge)
theorem jI3 {a:Expr}{t:TA}{p pos:Pos}{elts:List Expr}{x1:Nat}{tp:Pos}(hg:Gl1 X "enumerate")(hm:X.mg "enumerate" =none)(ha:JA X [a] t)(he:starEach [a] X.env=(false,eval a X.env)::starEach [] X.env)(hv:bootBuiltins "enumerate" =some (.type "enumerate"):=by decide+kernel)
  (hpl:(backTo pos (starEach [] X.env)).any (·.1)=false:=by rfl):JI X (.Tuple elts x1 tp) (.Call (.Name "enumerate" p) [a] [] pos) (iEnum X.K t):=⟨jRN hg.a hm ha.h hv he hpl⟩
variable {H1:Hp}{Q:VK}
section
variable {K:W.Frag}{σ:St}
end
section
variable {κ:Type} [DecidableEq κ]
def valV (kvs:List (κ×V))(k:κ):Option V:=(kvs.find? λkv=>decide (kv.1=k)).map (·.2)
def putK (kvs:List (κ×V))(k:κ)(v:V):List (κ×V):=
 if (kvs.any λkv=>decide (kv.1=k))=true then kvs.map (λkv=>if kv.1=k then (kv.1,v) else kv) else kvs++[(k,v)]
theorem jB7 {p:κ×V}{r:List (κ×V)}{k:κ}(e:p.1=k):valV (p::r) k=some p.2:=by simp [valV,fe,e]
theorem jAU {p:κ×V}{r:List (κ×V)}{k:κ}(e:¬p.1=k):valV (p::r) k=valV r k:=by simp [valV,fe,e]
theorem jCW (k:κ):∀kvs:List (κ×V),(kvs.any λkv=>decide (kv.1=k))=(valV kvs k).isSome
 | []=>rfl
 | p::r=>by
  rw[g9]
  by_cases e:p.1=k
  ·simp only [jB7 e,aB e,Bool.true_or,mB]
  ·rw[jAU e,aV e,mn]; exact jCW k r
theorem jBK (kvs:List (κ×V))(k:κ)(v:V):(putK kvs k v).length<=kvs.length+1:=by
 unfold putK
 split
 ·rw[ae]; lia
 ·rw[aF,aP,cK]; lia
theorem jEW {kvs:List (κ×V)}{k:κ}(v:V)(h:valV kvs k=none):putK kvs k v=kvs++[(k,v)]:=by
 unfold putK
 rw[jCW,h]
 exact aj (by decide)
theorem RelO.isSome_eq {o:Option V}{u:Option Value}(r:RelO o u):o.isSome=u.isSome:=by
 cases o with
 | none=>cases u with
  | none=>rfl
  | some _=>exact(show False from r).elim
 | some _=>cases u with
  | none=>exact(show False from r).elim
  | some _=>rfl
theorem RelO.getD {o:Option V}{u:Option Value}{d:V}{d':Value}(r:RelO o u)(rd:RelV d d'):RelV (o.getD d) (u.getD d'):=by
 cases o with
 | none=>cases u with
  | none=>exact rd
  | some _=>exact(show False from r).elim
 | some _=>cases u with
  | none=>exact(show False from r).elim
  | some _=>exact r
theorem KV.val {kvs:List (κ×V)}{vs:List (κ×Value)}(r:KV kvs vs)(k:κ):RelO (valV kvs k) (valueAt vs k):=by
 unfold KV at r
 induction r with
 | nil=>exact True.intro
 | @cons p q ps qs h t ih=>
  obtain⟨h1,h2⟩:=h
  by_cases e:p.1=k
  ·have e':q.1=k:=h1.symm.trans e
   have b:valueAt (q::qs) k=some q.2:=by simp [valueAt,fe,e']
   rw[jB7 e,b]; exact h2
  ·have e':¬q.1=k:=λz=>e (h1.trans z)
   have b:valueAt (q::qs) k=valueAt qs k:=by simp [valueAt,fe,e']
   rw[jAU e,b]; exact ih
theorem KV.any {kvs:List (κ×V)}{vs:List (κ×Value)}(r:KV kvs vs)(k:κ):(kvs.any λkv=>decide (kv.1=k))=vs.any λkv=>decide (kv.1=k):=by
 unfold KV at r
 induction r with
 | nil=>rfl
 | cons h t ih=>rw[g9,g9,ih,h.1]
theorem KV.repl {kvs:List (κ×V)}{vs:List (κ×Value)}(r:KV kvs vs)(k:κ){y:V}{u:Value}(ry:RelV y u):
  KV (kvs.map λkv=>if kv.1=k then (kv.1,y) else kv) (vs.map λkv=>if kv.1=k then (kv.1,u) else kv):=by
 unfold KV at r ⊢
 induction r with
 | nil=>exact .nil
 | @cons p q ps qs h t ih=>
  rw[aX,aX]
  refine .cons ?_ ih
  obtain⟨h1,h2⟩:=h
  by_cases e:p.1=k
  ·rw[am e,am (h1.symm.trans e)]; exact⟨h1,ry⟩
  ·rw[aj e,aj (λz=>e (h1.trans z))]; exact⟨h1,h2⟩
theorem KV.put {kvs:List (κ×V)}{vs:List (κ×Value)}(r:KV kvs vs)(k:κ){y:V}{u:Value}(ry:RelV y u):KV (putK kvs k y) (stored vs k u):=by
 unfold putK stored
 rw[r.any k]
 by_cases e:(vs.any λkv=>decide (kv.1=k))=true
 ·rw[am e,am e]; exact r.repl k ry
 ·rw[aj e,aj e]; exact Paired.snoc r ⟨rfl,ry⟩
theorem KV.keys {kvs:List (κ×V)}{vs:List (κ×Value)}(r:KV kvs vs):kvs.map (·.1)=vs.map (·.1):=by
 unfold KV at r
 induction r with
 | nil=>rfl
 | cons h t ih=>rw[aX,aX,ih,h.1]
theorem KV.length {kvs:List (κ×V)}{vs:List (κ×Value)}(r:KV kvs vs):kvs.length=vs.length:=g8 r
end
theorem kV_is {P:Program}{w:World}{k:Key}{u:Value}(r:RelV (kV k) u):(jM P w).is k u=true:=by
 cases k with
 | inl i=>obtain⟨t,e⟩:=(show ∃t,u=Value.int i t from r); subst e; exact jHX P w i t
 | inr x=>obtain⟨t,e⟩:=(show ∃t,u=Value.str x t from r); subst e; exact jHW P w x t
theorem jGP {P:Program}{w:World} :∀{ks:List Key}{us:List Value},Vals (ks.map kV) us->ItemsAre (jM P w) ks us
 | [],_,r=>by rw[iF] at r; cases r; exact .nil
 | k::ks,_,r=>by
  rw[aX] at r
  cases r with
  | cons h t=>exact .cons (kV_is h) (jGP t)
abbrev KT (H:Hp):List (List Key×V)->List (List Key×Addr×Value)->Prop:=Paired λp q=>p.1=q.1/\H q.2.1=some (.tup (p.1.map kV))/\RelV p.2 q.2.2
theorem KT.val {H:Hp}{kvs:List (List Key×V)}{xs:List (List Key×Addr×Value)}(r:KT H kvs xs)(k:List Key):RelO (valV kvs k) ((atKey xs k).map (·.2)):=by
 induction r with
 | nil=>exact True.intro
 | @cons p q ps qs h t ih=>
  obtain⟨h1,_,h2⟩:=h
  by_cases e:p.1=k
  ·have e':q.1=k:=h1.symm.trans e
   have b:atKey (q::qs) k=some q.2:=by simp [atKey,fe,e']
   rw[jB7 e,b]; exact h2
  ·have e':¬q.1=k:=λz=>e (h1.trans z)
   have b:atKey (q::qs) k=atKey qs k:=by simp [atKey,fe,e']
   rw[jAU e,b]; exact ih
theorem KT.repl {H:Hp}{kvs:List (List Key×V)}{xs:List (List Key×Addr×Value)}(r:KT H kvs xs)(k:List Key){y:V}{u:Value}(ry:RelV y u):
  KT H (kvs.map λkv=>if kv.1=k then (kv.1,y) else kv) (xs.map (putAt k u)):=by
 induction r with
 | nil=>exact .nil
 | @cons p q ps qs h t ih=>
  rw[aX,aX]
  refine .cons ?_ ih
  obtain⟨h1,h2,h3⟩:=h
  unfold putAt
  by_cases e:p.1=k
  ·rw[am e,am (h1.symm.trans e)]; exact⟨h1,h2,ry⟩
  ·rw[aj e,aj (λz=>e (h1.trans z))]; exact⟨h1,h2,h3⟩
theorem KT.put {H:Hp}{kvs:List (List Key×V)}{xs:List (List Key×Addr×Value)}(r:KT H kvs xs)(k:List Key){b:Addr}{y:V}{u:Value}(hb:H b=some (.tup (k.map kV)))(ry:RelV y u):
  KT H (putK kvs k y) (storedH xs k b u):=by
 have e:(kvs.any λkv=>decide (kv.1=k))=(atKey xs k).isSome:=by
  rw[jCW,(r.val k).isSome_eq,isSome_map]
 unfold putK storedH
 rw[e]
 by_cases q:(atKey xs k).isSome=true
 ·rw[am q,am q]; exact r.repl k ry
 ·rw[aj q,aj q]; exact Paired.snoc r ⟨rfl,hb,ry⟩
theorem KT.keeps {H H':Hp}{kvs:List (List Key×V)}{xs:List (List Key×Addr×Value)}(r:KT H kvs xs)(ht:∀b ys,H b=some (.tup ys)->H' b=some (.tup ys)):KT H' kvs xs:=
 Paired.mapP r λ_ _ z=>⟨z.1,ht _ _ z.2.1,z.2.2⟩
theorem rd_of {u:HO}(ok:HOk P w H h)(e:Rd H a u):ObjOk P w H h a u:=e.ok ok
theorem dk_rd {kvs:List (Key×V)}(ok:HOk P w H h)(e:Rd H a (.dK kvs)):kvs.length<=sizeLine/\(a==sysModules)=false/\∃vs,KV kvs vs/\h.DictOf (jM P w) a vs:=
 show ObjOk P w H h a (.dK kvs) from rd_of ok e
theorem dk_of {kvs:List (Key×V)}(ok:HOk P w H h)(e:H a=some (.dK kvs)):kvs.length<=sizeLine/\(a==sysModules)=false/\∃vs,KV kvs vs/\h.DictOf (jM P w) a vs:=dk_rd ok (.inl e)
theorem jGJ {ks:List Key}(ok:HOk P w H h)(e:H a=some (.tup (ks.map kV))):(tupleKind (jM P w)).is h ks a:=by
 obtain⟨_,its,r,p⟩:=(show ObjOk P w H h a (.tup (ks.map kV)) from ok a _ e)
 obtain⟨o,h1,h2,n,h3⟩:=p.isTup
 exact⟨o,its.toArray,n,h1,h2,h3,by simpa using jGP r⟩
theorem dt_rd {kvs:List (List Key×V)}(ok:HOk P w H h)(e:Rd H a (.dT kvs)):kvs.length<=sizeLine/\(a==sysModules)=false/\
  ∃xs,KT H kvs xs/\h.DictOfH (tupleKind (jM P w)) a xs:=by
 obtain⟨z,y,xs,r,o,es,ep,h1,h2,h3,h4,h5⟩:=(show ObjOk P w H h a (.dT kvs) from rd_of ok e)
 refine⟨z,y,xs,r,o,es,ep,h1,h2,h3,h4,λx hx=>?_,h5⟩
 have all:∀{l:List (List Key×V)}{m:List (List Key×Addr×Value)},KT H l m->∀x∈m,(tupleKind (jM P w)).is h x.1 x.2.1:=by
  intro l m q
  induction q with
  | nil=>intro x hx; exact nomatch hx
  | @cons p q ps qs hq t ih=>
   intro x hx
   rcases ar.mp hx with e | hx
   ·subst e
    exact jGJ ok (by rw[<- hq.1]; exact hq.2.1)
   ·exact ih x hx
 exact all r x hx
theorem dt_of {kvs:List (List Key×V)}(ok:HOk P w H h)(e:H a=some (.dT kvs)):kvs.length<=sizeLine/\(a==sysModules)=false/\
  ∃xs,KT H kvs xs/\h.DictOfH (tupleKind (jM P w)) a xs:=dt_rd ok (.inl e)
def DGet (H:Hp)(a:Addr)(y:V)(r:Option V):Prop:=
 (∃kvs k,Rd H a (.dK kvs)/\y=kV k/\r=valV kvs k)\/∃kvs k b,Rd H a (.dT kvs)/\y= .ref b/\H b=some (.tup (k.map kV))/\r=valV kvs k
def DPut (H:Hp)(a:Addr)(y v:V)(H':Hp):Prop:=
 (∃kvs k,H a=some (.dK kvs)/\y=kV k/\kvs.length<sizeLine/\H'=upd H a (.dK (putK kvs k v)))\/
 ∃kvs k b,H a=some (.dT kvs)/\y= .ref b/\H b=some (.tup (k.map kV))/\kvs.length<sizeLine/\H'=upd H a (.dT (putK kvs k v))
theorem DGet.k {H:Hp}{a:Addr}{kvs:List (Key×V)}{k:Key}(e:H a=some (.dK kvs)):DGet H a (kV k) (valV kvs k):= .inl ⟨kvs,k, .inl e,rfl,rfl⟩
theorem DPut.k {H:Hp}{a:Addr}{kvs:List (Key×V)}{k:Key}{v:V}(e:H a=some (.dK kvs))(hl:kvs.length<sizeLine):DPut H a (kV k) v (upd H a (.dK (putK kvs k v))):= .inl ⟨kvs,k,e,rfl,hl,rfl⟩
variable {y:V}{u r:Value}
section
variable {σ:St}{v:V}{o:Option V}
theorem Inv.big (I:Inv X ad σ H s):sysModules<s.heap.objs.size:=by
 have h:mainGlobals<s.heap.objs.size:=(I.mod.glob.keeps I.bk).lt
 exact iG (by decide) h
theorem jNA {Q:Value->Shared->Prop}(hu:A.units+1<cLine)(I:Inv X ad σ H s)(g:DGet H a y (some v))(ry:RelV y u)(h:∀w' s',Inv X ad σ H s'->RelV v w'->Q w' s'):
  wpAny (model X.prog X.w) A (getItem (.ref a) u) Q E s:=by
 rcases g with ⟨kvs,k,e,ey,l⟩ | ⟨kvs,k,b,e,ey,eb,l⟩
 ·subst ey
  obtain⟨z,hd,vs,rel,dd⟩:=dk_rd I.hok e
  obtain⟨w',hw,rw'⟩:=RelO.some_of (v:=v) (o:=valueAt vs k) (by rw[l]; exact rel.val k)
  exact wpAny_getItem_of (kV_is ry) dd.mapOf hw (h w' _ (I.tok _) rw')
 ·subst ey
  cases (show u=Value.ref b from ry)
  obtain⟨z,hd,xs,rel,dd⟩:=dt_rd I.hok e
  obtain⟨w',hw,rw'⟩:=RelO.some_of (v:=v) (o:=(atKey xs k).map (·.2)) (by rw[l]; exact rel.val k)
  obtain⟨p,hp,hp2⟩:=Option.map_eq_some_iff.mp hw
  refine wpAny_getItem_heap (gx hu) (jGJ I.hok eb) dd hp ?_
  rw[hp2]
  exact h w' _ (I.tok _) rw'
theorem jSX {Q:Value->Shared->Prop}(hu:A.units+1<cLine)(I:Inv X ad σ H s)(g:DGet H a y o)(ry:RelV y u)(h:∀s',Inv X ad σ H s'->Q (.bool (!o.isSome)) s'):
  wpAny (model X.prog X.w) A (compareOp .NotIn u (.ref a)) Q E s:=by
 rcases g with ⟨kvs,k,e,ey,l⟩ | ⟨kvs,k,b,e,ey,eb,l⟩
 ·subst ey
  obtain⟨z,hd,vs,rel,dd⟩:=dk_rd I.hok e
  refine wpAny_notIn_of (kV_is ry) hd dd.mapOf ?_
  rw[<- (rel.val k).isSome_eq,<- l]
  exact h _ (I.tok _)
 ·subst ey
  cases (show u=Value.ref b from ry)
  obtain⟨z,hd,xs,rel,dd⟩:=dt_rd I.hok e
  refine wpAny_notIn_heap (gx hu) (jGJ I.hok eb) hd dd ?_
  have q:=(rel.val k).isSome_eq
  rw[isSome_map] at q
  rw[<- q,<- l]
  exact h _ (I.tok _)
theorem jDX {h':Heap}{t':Nat}{ob:HO}(I:Inv X ad σ H s)(mu:Mut (H a))(hs:Heap.SameBut a s.heap h')(he:∃q,h'.get? a=some q)(new:ObjOk X.prog X.w (upd H a ob) h' a ob):
  Inv X ad σ (upd H a ob) { s with heap:=h',toks:=t'} :=
 I.write (x:=a) (e:=a) mu (.inl rfl) (λb q hb z=>(hs.2 b hb).trans z) he new
theorem jQM {P:Program}{w:World}{H':Hp}{h':Heap}{kvs:List (Key×V)}{vs:List (Key×Value)}(z:kvs.length<=sizeLine)(hd:(a==sysModules)=false)(rel:KV kvs vs)(dd:h'.DictOf (jM P w) a vs):
  ObjOk P w H' h' a (.dK kvs):=⟨z,hd,vs,rel,dd⟩
theorem jN9 {H':Hp}{Q:Unit->Shared->Prop}(hu:A.units+1<cLine)(I:Inv X ad σ H s)(g:DPut H a y v H')(ry:RelV y u)(rv:RelV v r)(h:∀s',Inv X ad σ H' s'->Q () s'):
  wpAny (model X.prog X.w) A (setItem (.ref a) u r) Q E s:=by
 rcases g with ⟨kvs,k,e,ey,l,eH⟩ | ⟨kvs,k,b,e,ey,eb,l,eH⟩
 ·subst ey eH
  obtain⟨z,hd,vs,rel,dd⟩:=dk_of I.hok e
  have hz:vs.length<=sizeLine:=by rw[<- rel.length]; exact z
  have hl:(putK kvs k v).length<=sizeLine:=by have:=jBK kvs k v; lia
  refine wpAny_setItem_pairs (hsz:=hz) (kV_is ry) dd λh' dd' hs=>h _ ?_
  have he:∃q,h'.get? a=some q:=let ⟨q,_,_,hq,_⟩:=dd'; ⟨q,hq⟩
  exact jDX I (by rw[e]; exact True.intro) hs he (jQM hl hd (rel.put k rv) dd')
 ·subst ey eH
  cases (show u=Value.ref b from ry)
  obtain⟨z,hd,xs,rel,dd⟩:=dt_of I.hok e
  have hz:xs.length<=sizeLine:=by rw[<- g8 rel]; exact z
  have hl:(putK kvs k v).length<=sizeLine:=by have:=jBK kvs k v; lia
  refine wpAny_setItem_heap (hsz:=hz) (gx hu) (jGJ I.hok eb) dd λh' dd' hs=>h _ ?_
  obtain⟨q,es,ep,hq,h2,h3,h4,_,h5⟩:=dd'
  refine jDX I (by rw[e]; exact True.intro) hs ⟨q,hq⟩ ⟨hl,hd,_,(rel.put k eb rv).keeps λc ys ec=>?_,q,es,ep,hq,h2,h3,h4,h5⟩
  rw[j6 (ne_of ec e (λz=>nomatch z))]
  exact ec
end
variable {kvs:List (Key×V)}
section
variable {σ:St}{k:Key}
end
def NoSl (i:Expr):Prop:=∀ov iv,subscripted i false ov iv=operate [ov,iv] (getItem ov iv)
theorem jR3 {prog:Program}{w:World}{A:Around}{E:Value->Shared->Prop}{s:Shared}{env:Env}{value slice:Expr}{pos:Pos}{T id:String}{Q:Value->Shared->Prop}
  (hl:typeLookup (.type T) "__getitem__" =pure (some (.builtin id))) (hs:NoSl slice)
  (h:wpAny (model prog w) A (eval value env) (λo s₁=>wpAny (model prog w) A (eval slice env) (λi s₂=>s₂.TypeIs o T/\wpAny (model prog w) A (getItem o i) Q E s₂) E s₁) E s):
  wpAny (model prog w) A (eval (.Subscript value slice pos) env) Q E s:=by
 refine Subscript_ (b9 h (λo s₁ h₁=>b9 h₁ (λi s₂ h₂=>?_) λ_ _ x=>x) λ_ _ x=>x)
 obtain⟨hT,h₂⟩:=h₂
 unfold subscriptTail
 refine aa ?_
 rw[getitemInPython_of_ne hT.not_modules]
 refine aa (lz hT hl ?_)
 have fin:wpAny (model prog w) A (subscripted slice false o i) (λr s₃=>wpAny (model prog w) A (letTemporaryGo value o r >>= λ_=>pure r) Q E s₃) E s₂:=by
  rw[hs o i]
  exact wpAny_operating (b9 h₂ (λr s₃ h₃=>aa (wpAny_letTemporaryGo (ai h₃))) λ_ _ x=>x)
 first
  | exact ai (aa fin)
  | exact aa (ai (aa fin))
  | exact aa fin
theorem jI8 {X:Cx}{ad:List (Addr×Obj)}{σ:St}{H:Hp}{s:Shared}{a:Addr}{y:V}{o:Option V}(I:Inv X ad σ H s)(g:DGet H a y o):s.TypeIs (.ref a) "dict" :=by
 rcases g with ⟨kvs,k,e,_,_⟩ | ⟨kvs,k,b,e,_,_,_⟩
 ·obtain⟨_,_,vs,_,dd⟩:=dk_rd I.hok e
  exact dd.typeIs
 ·obtain⟨_,_,xs,_,dd⟩:=dt_rd I.hok e
  exact dd.typeIs
def tDGet (td ty:TE):TE:=λσ H Q=>td σ H λx H1=>ty σ H1 λy H2=>∃a v,x= .ref a/\DGet H2 a y (some v)/\Q v H2
def jL5 (ty td:TE):TE:=λσ H Q=>ty σ H λy H1=>td σ H1 λx H2=>∃a o,x= .ref a/\DGet H2 a y o/\Q (.bl (!o.isSome)) H2
def sDPut (td ty tv:TE):TS:=λD σ H=>tv σ H λv H1=>td σ H1 λx H2=>ty σ H2 λy H3=>∃a H4,x= .ref a/\DPut H3 a y v H4/\D.nx σ H4
variable {o value:Expr}{pos':Pos}{td ty tv:TE}
section
variable {i:Expr}{tpos:Pos}
theorem jRQ (hu:X.A.units+1<cLine)(ho:PE X o td)(hi:PE X i ty)(hs:NoSl i):PE X (.Subscript o i pos) (tDGet td ty):=by
 intro ad s σ H Q I h
 refine jR3 PySem.F.slot_dict_getitem.lookup hs (mI (ho ad s σ H _ I h) λu s1 ⟨x,H1,I1,rx,q1⟩=>mI (hi ad s1 σ H1 _ I1 q1) λiv s2 ⟨y,H2,I2,ry,a,v,ex,g,q2⟩=>?_)
 subst ex
 obtain rfl:u=Value.ref a:=rx
 exact⟨jI8 I2 g,jNA hu I2 g ry λw' s3 I3 rw'=>⟨v,H2,I3,rw',q2⟩⟩
theorem jLR (hu:X.A.units+1<cLine)(hi:PE X i ty)(ho:PE X o td):PC X .NotIn i o (jL5 ty td):=by
 intro ad s σ H Q I h
 refine mI (hi ad s σ H _ I h) λiv s1 ⟨y,H1,I1,ry,q1⟩=>mI (ho ad s1 σ H1 _ I1 q1) λu s2 ⟨x,H2,I2,rx,a,ov,ex,g,q2⟩=>?_
 subst ex
 obtain rfl:u=Value.ref a:=rx
 exact jSX hu I2 g ry λs3 I3=>⟨.bl (!ov.isSome),H2,I3,rfl,q2⟩
theorem jRF (hu:X.A.units+1<cLine)(ho:PE X o td)(hi:PE X i ty)(hv:PE X value tv)(hs:swapsWith value (some (.Subscript o i pos')) pos.line X.env=pure false):
  PS X (.Assign [.Subscript o i pos'] value pos) (sDPut td ty tv):=by
 intro ad s σ H D I h
 refine wpAny_Assign_Subscript (mI (hv ad s σ H _ I h) λr s1 ⟨v,H1,I1,rv,q1⟩=>mI (ho ad s1 σ H1 _ I1 q1) λu s2 ⟨x,H2,I2,rx,q2⟩=>mI (hi ad s2 σ H2 _ I2 q2) λiv s3 ⟨y,H3,I3,ry,a,H4,ex,g,q3⟩=>?_) hs
 subst ex
 obtain rfl:u=Value.ref a:=rx
 exact jN9 hu I3 g ry rv λs4 I4=>⟨σ,H4,I4,q3⟩
end
theorem jPI {P:Program}{w:World}{H:Hp}(h:Heap)(hb:sysModules<h.objs.size):ObjOk P w H (h.push { cls:= .type "dict",data:= .dict #[]}) h.objs.size (.dK []):=
 ⟨bi _,cA.mpr (dq (aO hb)),[], .nil,Heap.DictOf.new h⟩
def jL3:List (TE×TE)->St->Hp->(List (V×V)->Hp->Prop)->Prop
 | [],_,H,Q=>Q [] H
 | (tk,tv)::r,σ,H,Q=>tk σ H λx H1=>tv σ H1 λy H2=>jL3 r σ H2 λps H3=>Q ((x,y)::ps) H3
abbrev VV:List (V×V)->List (Value×Value)->Prop:=Paired λp q=>RelV p.1 q.1/\RelV p.2 q.2
def PPs (X:Cx)(pos:Pos)(keys:List (Option Expr))(values:List Expr)(trs:List (TE×TE)):Prop:=
 ∀(ad:List (Addr×Obj)) (s:Shared) (σ:St) (H:Hp) (Q:List (V×V)->Hp->Prop),Inv X ad σ H s->jL3 trs σ H Q->
  wpAny (model X.prog X.w) X.A (evalPairs (pairTrees keys values X.env pos)) (λvs s'=>∃ps H',Inv X ad σ H' s'/\VV ps vs/\Q ps H') X.xe s
theorem jLN {X:Cx}{pos:Pos} :PPs X pos [] [] []:=λad s σ H Q I h=>pairTrees_nil_walk ⟨[],H,I, .nil,h⟩
theorem jIS {X:Cx}{pos:Pos}{k v:Expr}{ks:List (Option Expr)}{vs:List Expr}{tk tv:TE}{trs:List (TE×TE)}(hk:PE X k tk)(hv:PE X v tv)(hr:PPs X pos ks vs trs):
  PPs X pos (some k::ks) (v::vs) ((tk,tv)::trs):=λad s σ H Q I h=>
 pairTrees_cons_walk (mI (hk ad s σ H _ I h) λu s1 ⟨x,H1,I1,rx,q1⟩=>mI (hv ad s1 σ H1 _ I1 q1) λw2 s2 ⟨y,H2,I2,ry,q2⟩=>
  mI (hr ad s2 σ H2 _ I2 q2) λws s3 ⟨ps,H3,I3,rel,q3⟩=>⟨(x,y)::ps,H3,I3, .cons ⟨rx,ry⟩ rel,q3⟩)
def jGG (kvs more:List (Key×V)):List (Key×V):=more.foldl (λacc kv=>putK acc kv.1 kv.2) kvs
theorem KV.merge:∀{more:List (Key×V)}{rs:List (Key×Value)}{kvs:List (Key×V)}{vs:List (Key×Value)},KV more rs->KV kvs vs->KV (jGG kvs more) (merged vs rs):=by
 intro more rs kvs vs r
 unfold KV at r
 induction r generalizing kvs vs with
 | nil=>intro q; exact q
 | @cons p q ps qs h t ih=>
  intro r0
  have e:KV (putK kvs p.1 p.2) (stored vs q.1 q.2):=by
   have:=r0.put p.1 h.2
   rw[<- h.1]; exact this
  exact ih e
theorem jBX:∀(more kvs:List (Key×V)),(jGG kvs more).length<=kvs.length+more.length
 | [],kvs=>by show kvs.length<=kvs.length+0; lia
 | p::r,kvs=>by
  have h1:=jBX r (putK kvs p.1 p.2)
  have h2:=jBK kvs p.1 p.2
  show (jGG (putK kvs p.1 p.2) r).length<=_
  rw[aP]; lia
theorem jEM {P:Program}{w:World} :∀{kvs:List (Key×V)}{ws:List (Value×Value)},VV (kvs.map λkv=>(kV kv.1,kv.2)) ws->∃rs,Carries (jM P w) ws rs/\KV kvs rs
 | [],_,r=>by rw[iF] at r; cases r; exact⟨[],True.intro, .nil⟩
 | p::kvs,_,r=>by
  rw[aX] at r
  cases r with
  | @cons a b as bs h t=>
   obtain⟨rs,c,q⟩:=jEM (P:=P) (w:=w) t
   obtain⟨b1,b2⟩:=b
   exact⟨(p.1,b2)::rs,⟨kV_is h.1,rfl,c⟩, .cons ⟨rfl,h.2⟩ q⟩
def tDisp (trs:List (TE×TE)):TE:=λσ H Q=>∀p,H p=none->jL3 trs σ (upd H p (.dK [])) λps H2=>H2 p=some (.dK [])/\∃kvs:List (Key×V),ps=kvs.map (λkv=>(kV kv.1,kv.2))/\kvs.length<=15/\Q (.ref p) (upd H2 p (.dK (jGG [] kvs)))
theorem jLQ {X:Cx}{pos:Pos}{keys:List (Option Expr)}{values:List Expr}{trs:List (TE×TE)}(h:PPs X pos keys values trs)(hall:keys.all (·.isSome)=true)(hl:keys.length=values.length)(h0:keys≠ [])
  (h15:keys.length<=15):PE X (.Dict keys values pos) (tDisp trs):=by
 intro ad s σ H Q I q
 have hn:=I.hok.fresh (aq s.heap.objs.size)
 have I1:=I.laid (a:=s.heap.objs.size) (o:= .dK []) (h':=s.heap.push { cls:= .type "dict",data:= .dict #[]}) (t':=s.toks) (λ_ _ q=>ab _ q) (aq _) (jPI s.heap I.big)
 refine wpAny_Dict_walk (knd:=jM X.prog X.w) hall hl h0 h15 (mI (h ad _ σ _ _ I1 (q _ hn)) λws s2 ⟨ps,H2,I2,rel,e,kvs,ep,lk,q2⟩=>?_)
 subst ep
 obtain⟨rs,c,rk⟩:=jEM (P:=X.prog) (w:=X.w) rel
 obtain⟨z,hd,vs0,r0,dd⟩:=dk_of I2.hok e
 cases r0
 refine⟨rs,c,dd,λh' dd' hs=>⟨.ref s.heap.objs.size,_,?_,rfl,q2⟩⟩
 have hz:(jGG [] kvs).length<=sizeLine:=by
  have h1:=jBX kvs []
  rw[cK] at h1
  rw[fm]; lia
 have he:∃q,h'.get? s.heap.objs.size=some q:=let ⟨q,_,_,hq,_⟩:=dd'; ⟨q,hq⟩
 exact jDX I2 (by rw[e]; exact True.intro) hs he (jQM hz hd (rk.merge .nil) dd')
structure M2 (X:Cx)(o:Expr)(m:Str)(apos:Pos)(e f:Expr)(cpos:Pos):Prop where
 base:attributeBase o m X.env (eval o X.env)=eval o X.env
 few:((backTo cpos (starEach [e,f] X.env)).all (λx=>!x.1)&&(backToKw cpos (keywordEach [] X.env)).all (λx=>x.1.isSome)
  &&decide (([e,f]:List Expr).length+([]:List Keyword).length+(if ([]:List Keyword).isEmpty then 0 else 1)<30))=true
 line:(apos.endLine==cpos.line)=true
 trees:backTo cpos (starEach [e,f] X.env)=[(false,eval e X.env),(false,eval f X.env)]
def IsD (H:Hp)(a:Addr):Prop:=(∃kvs,Rd H a (.dK kvs))\/∃kvs,Rd H a (.dT kvs)
theorem jMW {X:Cx}{ad:List (Addr×Obj)}{σ:St}{H:Hp}{s:Shared}{a:Addr}(I:Inv X ad σ H s)(d:IsD H a):
  s.TypeIs (.ref a) "dict" /\(∀b,Value.ref a= .ref b->∃ob,s.heap.get? b=some ob/\ob.dict=none)/\(a==sysModules)=false:=by
 rcases d with ⟨kvs,e⟩ | ⟨kvs,e⟩
 ·obtain⟨_,hd,vs,_,dd⟩:=dk_rd I.hok e
  refine⟨dd.typeIs,λb q=>?_,hd⟩
  cases q
  obtain⟨ob,_,_,h1,h2,_⟩:=dd
  exact⟨ob,h1,h2.2.1⟩
 ·obtain⟨_,hd,xs,_,dd⟩:=dt_rd I.hok e
  refine⟨dd.typeIs,λb q=>?_,hd⟩
  cases q
  obtain⟨ob,_,_,h1,h2,_⟩:=dd
  exact⟨ob,h1,h2.2.1⟩
section
variable {σ:St}{d:V}{o:Option V}
theorem jVG {Q:Value->Shared->Prop}(hu:A.units+1<cLine)(I:Inv X ad σ H s)(g:DGet H a y o)(ry:RelV y u)(rd:RelV d r)(h:∀w' s',Inv X ad σ H s'->RelV (o.getD d) w'->Q w' s'):
  wpAny (model X.prog X.w) A (call (.builtin "dict.get") [.ref a,u,r]) Q E s:=by
 rcases g with ⟨kvs,k,e,ey,l⟩ | ⟨kvs,k,b,e,ey,eb,l⟩
 ·subst ey
  obtain⟨z,hd,vs,rel,dd⟩:=dk_rd I.hok e
  refine lc gW dd.typeIs lg (km _ _ _) (meets_dict_get_default (jM X.prog X.w) a (kV_is ry) hd r) ⟨_,dd.mapOf,h _ _ (I.tok _) ?_⟩
  rw[l]
  exact(rel.val k).getD rd
 ·subst ey
  cases (show u=Value.ref b from ry)
  obtain⟨z,hd,xs,rel,dd⟩:=dt_rd I.hok e
  refine lc gW dd.typeIs lg (km _ _ _) (meetsH_dict_get_default (tupleKind (jM X.prog X.w)) a b hd r) ⟨gx hu,k,xs,jGJ I.hok eb,dd,h _ _ (I.tok _) ?_⟩
  rw[l]
  exact(rel.val k).getD rd
end
def jPV (td ty tx:TE):TE:=λσ H Q=>td σ H λx H1=>∃a,x= .ref a/\IsD H1 a/\ty σ H1 λy H2=>tx σ H2 λz H3=>∃o,DGet H3 a y o/\Q (o.getD z) H3
variable {apos:Pos}{tx:TE}
section
variable {f:Expr}
theorem jOK (hu:X.A.units+1<cLine)(ho:PE X o td)(he:PE X e ty)(hf:PE X f tx)(m:M2 X o "get" apos e f cpos):PE X (.Call (.Attribute o "get" apos) [e,f] [] cpos) (jPV td ty tx):=by
 intro ad s σ H Q I h
 refine wpAny_Call_method m.base m.few m.line gB gW PySem.F.type_dict_get (mI (ho ad s σ H _ I h) λu s1 ⟨x,H1,I1,rx,a,ex,d,q1⟩=>?_)
 subst ex
 obtain rfl:u=Value.ref a:=rx
 obtain⟨t1,t2,_⟩:=jMW I1 d
 refine⟨t1,t2,?_⟩
 rw[m.trees]
 refine dU rfl (ic (iS (mI (he ad s1 σ H1 _ I1 q1) λiv s2 ⟨y,H2,I2,ry,q2⟩=>
  iS (mI (hf ad s2 σ H2 _ I2 q2) λfv s3 ⟨z,H3,I3,rz,ov,g,q3⟩=>Calls.spliced_nil ?_))))
 exact jVG hu I3 g ry rz λw' s4 I4 rw'=>⟨_,H3,I4,rw',q3⟩
end
section
variable {σ:St}
end
section
variable {σ:St}
end
section
variable {κ:Type} [DecidableEq κ]
theorem jLZ:∀{l:List κ}{k:κ},l.Nodup->¬k∈l->(l++[k]).Nodup
 | [],k,_,_=>by simp
 | a::r,k,h,hk=>by
  obtain⟨h1,h2⟩:=bJ.mp h
  show (a::(r++[k])).Nodup
  refine bJ.mpr ⟨λm=>?_,jLZ h2 λm=>hk (ar.mpr (Or.inr m))⟩
  rcases aL.mp m with q | q
  ·exact h1 q
  ·exact hk (ar.mpr (Or.inl (ak.mp q).symm))
end
section
variable {d:Addr}{kvs:List (Key×Value)}
theorem jDY {T:String}{r d:Addr}{n:Nat}{P:Nat->Value->Prop}{OK:Heap->Prop}{R:List Value->Shared->Prop}(K:PySem.W.KdlSrc prog w T r d n P OK)(hh:A.handled=none)(hok:OK s.heap)(hn:n<=sizeLine)
  (h:∀(h':Heap) (tk:Nat) (acc:Array Value),(∀b o,s.heap.get? b=some o->h'.get? b=some o)->s.heap.objs.size<h'.objs.size->ItemsOf P acc n->R acc.toList { s with heap:=h',toks:=tk}):
  wpAny (model prog w) A (collect (.ref r)) R E s:=by
 have hlt:=K.there _ hok
 unfold collect
 refine aa (lV (cL entry_proto_collect' ?_))
 rw[bY iH _]
 show wpAny _ A.in1 (newList [] >>= λl=>again (.builtin "list.__iadd__" ⟨[l, .ref r],[]⟩)) _ _ s
 refine aa (cE ?_)
 refine ai ⟨dW eU _,cL entry_list_iadd' ?_⟩
 rw[bY eU _]
 have hS:(s.heap.push { cls:= .type "list",data:= .seq ([]:List Value).toArray}).get? s.heap.objs.size=some { cls:= .type "list",data:= .seq #[]} :=ao _ rfl
 show wpAny _ A.in1 (Builtin.List.listExtendWith (.ref s.heap.objs.size) (.ref r) (.ref s.heap.objs.size)) _ _ _
 refine b9 (PySem.W.kdl_extend (A:=A) (s:= { s with heap:=s.heap.push { cls:= .type "list",data:= .seq ([]:List Value).toArray}})
  (R:=λ(q:Result) (s':Shared)=>∃(h':Heap) (tk:Nat) (acc:Array Value) (c:Nat),q= .ok (.ret (.ref s.heap.objs.size))/\s'= { s with heap:=h',toks:=tk} /\
   (∀b o,s.heap.get? b=some o->h'.get? b=some o)/\h'.get? s.heap.objs.size=some { cls:= .type "list",dict:=none,data:= .seq acc c,slots:=#[]} /\ItemsOf P acc n)
  K hh (K.keep _ _ hok λb _ o e=>ab _ e) s.heap.objs.size (cD hlt.1) (cD hlt.2) (.ref s.heap.objs.size) 0 hS
  (λh' tk acc c hk hS' hacc=>⟨h',tk,acc,c,rfl,rfl,λb o e=>hk b o (aO (ay e)) (ab _ e),hS',hacc⟩) hn) (λfin s' x=>?_) λe s' x=>?_
 ·cases fin with
  | done f=>
   obtain⟨h',tk,acc,c,e,rfl,hk,hS',hacc⟩:=x
   cases e
   show wpAny _ A (load s.heap.objs.size >>= _) _ _ _
   exact aa (iP hS' (ai (h h' tk acc hk (ay hS') hacc)))
  | again c1=>
   refine⟨x.1,ev x.2 λq s2 y=>?_⟩
   obtain⟨h',tk,acc,c,rfl,rfl,hk,hS',hacc⟩:=y
   show wpAny _ A (load s.heap.objs.size >>= _) _ _ _
   exact aa (iP hS' (ai (h h' tk acc hk (ay hS') hacc)))
 ·obtain⟨_,_,_,_,e',_⟩:=x
  cases e'
end
section
variable {i f:Expr}
theorem jDR (hu:X.A.units+1<cLine)(ho:JE X o td)(hi:JE X i ty)(hs:jB5 i):JE X (.Subscript o i pos) (tDGet td ty):=⟨jRQ hu ho.h hi.h hs⟩
theorem jCI (hu:X.A.units+1<cLine)(ho:JE X o td)(hi:JE X i ty)(hv:JE X value tv)(hs:SwOk value (some (.Subscript o i pos'))):JS X (.Assign [.Subscript o i pos'] value pos) (sDPut td ty tv):=⟨jRF hu ho.h hi.h hv.h (hs.h _ _)⟩
theorem jD5 (hu:X.A.units+1<cLine)(ho:JE X o td)(he:JE X e ty)(hf:JE X f tx)(s1:starEach [e,f] X.env=(false,eval e X.env)::starEach [f] X.env)(s2:starEach [f] X.env=(false,eval f X.env)::starEach [] X.env)
  (base:attributeBase o "get" X.env (eval o X.env)=eval o X.env:=by rfl)
  (few:((backTo cpos (starEach [e,f] X.env)).all (λx=>!x.1)&&(backToKw cpos (keywordEach [] X.env)).all (λx=>x.1.isSome)
   &&decide (([e,f]:List Expr).length+([]:List Keyword).length+(if ([]:List Keyword).isEmpty then 0 else 1)<30))=true:=by rfl)
  (line:(apos.endLine==cpos.line)=true:=by rfl) (trees:backTo cpos (starEach [e,f] X.env)=[(false,eval e X.env),(false,eval f X.env)]:=by rfl):
  JE X (.Call (.Attribute o "get" apos) [e,f] [] cpos) (jPV td ty tx):=⟨jOK hu ho.h he.h hf.h ⟨base,few,line,trees⟩⟩
end
section
variable {prog:Program}{w:World}{K:Type} [DecidableEq K]{knd:KeyKind prog w K}{A:Around}{R:Result->Shared->Prop}{I:Addr}{fp wr:List Addr}{n:Nat}{P:Nat->Value->Prop}{St:Nat->Shared->Prop}
end
section
variable {prog:Program}{w:World}{K:Type} [DecidableEq K]{knd:KeyKind prog w K}{A:Around}{E:Value->Shared->Prop}{s:Shared}
end
section
variable {K:W.Frag}
theorem gl_n (h:sc.names.lookup x=some .globalImplicit):Gl1 (cxN P w K mg base N qual sc f cd cl A outer s H) x:=⟨h⟩
theorem qF (h:sc.names.lookup x=some .local:=by decide+kernel):Vis1 (cxN P w K mg base N qual sc f cd cl A outer s H) x:=⟨.inl h⟩
theorem jPS (h:sc.names.lookup x=some .free):Vis1 (cxN P w K mg base N qual sc f cd cl A outer s H) x:=⟨.inr (.inr h)⟩
theorem loc_n (h:sc.names.lookup x=some .local):Loc1 (cxN P w K mg base N qual sc f cd cl A outer s H) x:=⟨.inl h, .inr h⟩
end
theorem jV0 {x:Str}{args:Arguments}{body:List Stmt}{scope:Scope}{pos:Pos}{c0 T:Addr}{j:Nat}(hN:X.N.Nodup)(hj:X.N[j]?=some x)(lx:Loc1 X x)(hcode:X.env.code= .ref c0)(CH:PySem.W.CodeHd X.base c0 T)(hbm:BltAt X.base X.mg)
  (hfree:∀y∈scope.names,y.2= .free->X.env.scope.names.lookup y.1=some .cell\/X.env.scope.names.lookup y.1=some .free) (hdf:defaultsOf args X.env=([],[])) (han:annTrees args none X.env=[]):
  JS X (.FunctionDef x args body [] none [] scope none x pos) (tDef x (qualnameIn X.env x x) args body scope (jF X.env.cells scope.names []) T pos j):=⟨jTZ hN hj lx.a hcode CH hbm hfree hdf han lx.b⟩
def AtS (tp:Bool)(H:Hp)(a:Addr)(xs:List V):Prop:=match tp with
 | false=>H a=some (.lst xs)
 | true=>H a=some (.tup xs)
section
variable {K:W.Frag}{σ:St}
theorem jGV {a:Addr}{xs:List V}(hn:xs.length<sizeLine)(Pv:Addr->Nat->St->Hp->List V->Prop)(h0:∀D,H1 D=none->Pv D 0 (blkσ m σ) (upd H1 D (.lst [])) [])
  (hD:∀D i σ' H' zs,H1 D=none->Pv D i σ' H' zs->H' a=some (.lst xs)/\H' D=some (.lst zs)/\zs.length<=i)
  (hs:∀D i σ' H' zs x,H1 D=none->xs[i]?=some x->Pv D i σ' H' zs->g x σ' H' λσ2 H2=>tt σ2 H2 λb H3=>if b=true then te σ2 H3 λv H4=>H4 D=some (.lst zs)/\Pv D (i+1) σ2 (upd H4 D (.lst (zs++[v]))) (zs++[v]) else Pv D (i+1) σ2 H3 zs)
  (hd:∀D σ' H' zs,H1 D=none->Pv D xs.length σ' H' zs->Q (.ref D) H'):CompW m g tt te σ Q (Itl K a) H1:=by
 intro D hDn
 refine⟨λi k σ' H' zs=>k=xs.length - i/\i<=xs.length/\Pv D i σ' H' zs,⟨_,rfl,bi _,h0 D hDn⟩,?_⟩
 rintro i k σ' H' zs ⟨rfl,hi,p⟩
 obtain⟨s1,q1,q2⟩:=hD D i σ' H' zs hDn p
 refine⟨q1,by lia,?_⟩
 by_cases hlt:i<xs.length
 ·refine .inr ⟨⟨xs,xs[i],SqL.of s1,by simp [hlt]⟩,Pv D (i+1),λσ2 H2 zs z=>⟨xs.length - (i+1),by lia,rfl,hlt,z⟩,λv H'' y=>?_⟩
  obtain⟨e1,e2⟩:=y
  subst e1
  exact hs D i σ' _ zs v hDn (e2 xs (SqL.of s1)) p
 ·have e:i=xs.length:=by lia
  subst e
  exact .inl ⟨⟨xs,SqL.of s1,aq _⟩,hd D σ' H' zs hDn p⟩
end
theorem ExtT.of {T:Addr}{H H':Hp}(e:Ext H H'):ExtT T H H':=λb o h _=>e b o h
theorem ExtT.trans {T:Addr}{H H' H'':Hp}(a:ExtT T H H')(b:ExtT T H' H''):ExtT T H H'':=λc o h n=>b c o (a c o h n) n
theorem TabOk.is {H:Hp}{T:Addr}{pos:Pos}{q:Str}(t:TabOk H T pos q):∃ps,H T=some (.tbl ps):=by
 rcases t with h | ⟨c,h,_⟩
 ·exact⟨_,h⟩
 ·exact⟨_,h⟩
theorem TabOk.ne {H:Hp}{T:Addr}{pos:Pos}{q:Str}(t:TabOk H T pos q){b:Addr}{o:HO}(h:H b=some o)(ho:∀ps,o≠ .tbl ps):b≠T:=λe=>by
 obtain⟨ps,z⟩:=t.is
 rw[e,z] at h
 cases h
 exact ho ps rfl
theorem TabOk.ext {H H':Hp}{T:Addr}{pos:Pos}{q:Str}(t:TabOk H T pos q)(e:Ext H H'):TabOk H' T pos q:=by
 rcases t with h | ⟨c,h,h2⟩
 ·exact .inl (e _ _ h)
 ·exact .inr ⟨c,e _ _ h,e _ _ h2⟩
theorem ExtT.at {T:Addr}{H H':Hp}(e:ExtT T H H'){pos:Pos}{q:Str}(t:TabOk H T pos q){b:Addr}{o:HO}(h:H b=some o)(ho:∀ps,o≠ .tbl ps:=by intro _ z; cases z):H' b=some o:=e b o h (t.ne h ho)
structure FunC (K:W.Frag)(x qual:Str)(st:Stmt)(f:Addr)(fd:FuncData)(c0:Addr):Prop where
 ex:∃(oc:Value) (od:Option Addr) (kV doc pm:Value) (an:Option Addr) (ct:Value) (osl:Array (Option Value)),fd=PySem.W.fnOf x qual (kW st) (jC st) (jA st) .none kV doc pm an (.ref c0) ct/\K.lookup f=some ⟨oc,od, .func fd,osl⟩/\PySem.W.codeIn K (.ref c0) qual=true
theorem FunC.ok {P:Program}{w:World}{K:W.Frag}{mg:Str->Option Value}{base:Heap}{x qual:Str}{st:Stmt}{f c0:Addr}{fd:FuncData}{N ps:List Str}{k:Nat}{sp:Sp}(F:FunC K x qual st f fd c0)(S:FnScope N ps (jA st))(len:∀vs H Q E,sp vs H Q E->vs.length=ps.length)
  (hbody:∀(A:Around) (outer:List Env) (s:Shared) (H:Hp) (vs:List V) (Q:VK) (E:XK),Room k (A.deeper (envOfC qual (jA st) s.heap.objs.size f (.ref c0)))->sp vs H Q E->
   ∃t,PSs (cxOf CX0 P w K mg base N qual (jA st) f (.ref c0) A outer s H E).nox (jC st) t/\t { nx:=λ_ H'=>Q .non H',rt:=Q} (kT N vs) H):FnOk P w K mg base CX0 (k+1) f fd ps sp:=by
 obtain⟨oc,od,kV,doc,pm,an,ct,osl,rfl,lk,hcd⟩:=F.ex
 refine fn_of lk hcd S len λA outer s H vs Q E hr hsp=>?_
 obtain⟨t,ht,hq⟩:=hbody A outer s H vs Q E hr hsp
 exact⟨t,ht.nox,hq⟩
variable {fp:List Addr}
section
variable {sc2:Scope}{cl2:List (Str×Addr)}{C2:Addr}{Nc2:List Str}{fp2:List Addr}{s2:Shared}{H2:Hp}
end
theorem jUZ {X:Cx}{st:Stmt} :JS X st (λ_ _ _=>False):=⟨λ_ _ _ _ _ _ h=>h.elim⟩
section
variable {K:W.Frag}{σ:St}
abbrev TupsK (H H':Hp):Prop:=∀b xs,H b=some (.tup xs)->H' b=some (.tup xs)
structure ZOk (Z:Hp->List V->Nat->Prop):Prop where
 z0:∀H,Z H [] 0
 mono:∀H H' zs j,TupsK H H'->Z H zs j->Z H' zs j
 len:∀H zs j,Z H zs j->zs.length<=j
theorem jFU {H:Hp}{D:Addr}{zs:List V}(h:H D=some (.lst zs))(o:HO):TupsK H (upd H D o):=λb xs hb=>by
 rw[j6 (λe=>by rw[e,h] at hb; cases hb)]
 exact hb
def TurnZ (g:TG)(tt:TT)(te:TE)(σP:St->Prop)(Z:Hp->List V->Nat->Prop)(x:V)(j:Nat)(σ':St)(H':Hp)(zs:List V):Prop:=
 ∀(R:St->V->Hp->Prop) (S:St->Hp->Prop),(∀σ2 v H2,σP σ2->Ext H' H2->Z H2 (zs++[v]) (j+1)->R σ2 v H2)->(∀σ2 H2,σP σ2->Ext H' H2->Z H2 zs (j+1)->S σ2 H2)->
  g x σ' H' λσ2 H2=>tt σ2 H2 λb H3=>if b=true then te σ2 H3 (R σ2) else S σ2 H3
theorem jND {tp:Bool}{a:Addr}{xs:List V}(σP:St->Prop)(Z:Hp->List V->Nat->Prop)(zo:ZOk Z)(ha:AtS tp H a xs)(hn:xs.length<sizeLine)(h0:σP (blkσ m σ))
  (step:∀j x σ' H' zs,xs[j]?=some x->σP σ'->Ext H H'->Z H' zs j->TurnZ g tt te σP Z x j σ' H' zs)
  (hd:∀D H' zs,H' D=some (.lst zs)->Ext H H'->H D=none->Z H' zs xs.length->Q (.ref D) H'):CompW m g tt te σ Q (match tp with | false=>Itl K a | true=>Itt K a) H:=by
 have turn:∀D j σ' H' zs x,H D=none->xs[j]?=some x->(σP σ'/\Ext H H'/\H' D=some (.lst zs)/\H D=none/\Z H' zs j)->g x σ' H' λσ2 H2=>tt σ2 H2 λb H3=>if b=true then te σ2 H3 λv H4=>H4 D=some (.lst zs)/\(σP σ2/\Ext H (upd H4 D (.lst (zs++[v])))/\(upd H4 D (.lst (zs++[v]))) D=some (.lst (zs++[v]))/\H D=none/\Z (upd H4 D (.lst (zs++[v]))) (zs++[v]) (j+1)) else (σP σ2/\Ext H H3/\H3 D=some (.lst zs)/\H D=none/\Z H3 zs (j+1)):=by
  rintro D j σ' H' zs x hD hx ⟨p,e,h2,hn,hz⟩
  exact step j x σ' H' zs hx p e hz _ _ (λσ2 v H2 p2 e2 z2=>⟨e2 _ _ h2,p2,(e.trans e2).updNew hn _,j5,hn,zo.mono _ _ _ _ (jFU (e2 _ _ h2) _) z2⟩) λσ2 H2 p2 e2 z2=>⟨p2,e.trans e2,e2 _ _ h2,hn,z2⟩
 cases tp with
 | false=>exact jGV (xs:=xs) hn (λD j σ' H' zs=>σP σ'/\Ext H H'/\H' D=some (.lst zs)/\H D=none/\Z H' zs j) (λD hD=>⟨h0,(Ext.refl _).new hD _,j5,hD,zo.z0 _⟩) (λD j σ' H' zs hD ⟨_,e,h2,_,hz⟩=>⟨e _ _ ha,h2,zo.len _ _ _ hz⟩) turn λD σ' H' zs hD ⟨_,e,h2,hn,hz⟩=>hd D H' zs h2 e hn hz
 | true=>exact jFE (xs:=xs) hn (λD j σ' H' zs=>σP σ'/\Ext H H'/\H' D=some (.lst zs)/\H D=none/\Z H' zs j) (λD hD=>⟨h0,(Ext.refl _).new hD _,j5,hD,zo.z0 _⟩) (λD j σ' H' zs hD ⟨_,e,h2,_,hz⟩=>⟨e _ _ ha,h2,zo.len _ _ _ hz⟩) turn λD σ' H' zs hD ⟨_,e,h2,hn,hz⟩=>hd D H' zs h2 e hn hz
theorem jD6 {a:Addr}{xs:List V}(σP:St->Prop)(Z:Hp->List V->Nat->Prop)(zo:ZOk Z)(ha:H a=some (.tup xs))(hn:xs.length<sizeLine)(h0:σP (blkσ m σ))
  (step:∀j x σ' H' zs,xs[j]?=some x->σP σ'->Ext H H'->Z H' zs j->TurnZ g tt te σP Z x j σ' H' zs)
  (hd:∀D H' zs,H' D=some (.lst zs)->Ext H H'->H D=none->Z H' zs xs.length->Q (.ref D) H'):CompW m g tt te σ Q (Itt K a) H:=jND (tp:=true) σP Z zo ha hn h0 step hd
theorem jBC {a:Addr}{xs:List V}(σP:St->Prop)(Z:Hp->List V->Nat->Prop)(zo:ZOk Z)(ha:H a=some (.lst xs))(hn:xs.length<sizeLine)(h0:σP (blkσ m σ))
  (step:∀j x σ' H' zs,xs[j]?=some x->σP σ'->Ext H H'->Z H' zs j->TurnZ g tt te σP Z x j σ' H' zs)
  (hd:∀D H' zs,H' D=some (.lst zs)->Ext H H'->H D=none->Z H' zs xs.length->Q (.ref D) H'):CompW m g tt te σ Q (Itl K a) H:=jND (tp:=false) σP Z zo ha hn h0 step hd
theorem jJJ {n:Nat}(σP:St->Prop)(Z:Hp->List V->Nat->Prop)(zo:ZOk Z)(hn:n<sizeLine)(h0:σP (blkσ m σ))
  (step:∀j σ' H' zs,j<n->σP σ'->Ext H H'->Z H' zs j->TurnZ g tt te σP Z (.int (0+j)) j σ' H' zs)
  (hd:∀D H' zs,H' D=some (.lst zs)->Ext H H'->H D=none->Z H' zs n->Q (.ref D) H'):CompW m g tt te σ Q (Itr 0 n) H:=by
 refine jC4 (lo:=0) (n:=n) hn (λD j σ' H' zs=>σP σ'/\Ext H H'/\H' D=some (.lst zs)/\H D=none/\Z H' zs j) (λD hD=>⟨h0,(Ext.refl _).new hD _,j5,hD,zo.z0 _⟩) (λD j σ' H' zs hD hj ⟨_,e,h2,_,hz⟩=>⟨h2,zo.len _ _ _ hz⟩) ?_ λD σ' H' zs hD ⟨_,e,h2,hn,hz⟩=>hd D H' zs h2 e hn hz
 rintro D j σ' H' zs hD hj ⟨p,e,h2,hn,hz⟩
 exact step j σ' H' zs hj p e hz _ _ (λσ2 v H2 p2 e2 z2=>⟨e2 _ _ h2,p2,(e.trans e2).updNew hn _,j5,hn,zo.mono _ _ _ _ (jFU (e2 _ _ h2) _) z2⟩) λσ2 H2 p2 e2 z2=>⟨p2,e.trans e2,e2 _ _ h2,hn,z2⟩
end
def outZ {α:Type}(l:List α)(p:α->Bool)(f:α->V):Hp->List V->Nat->Prop:=λ_ zs j=>zs=((l.take j).filter p).map f
theorem outZ.ok {α:Type}(l:List α)(p:α->Bool)(f:α->V):ZOk (outZ l p f):=⟨λ_=>rfl,λ_ _ _ _ _ h=>h,λ_ zs j h=>by
 rw[show zs=_ from h,ae]
 exact bf (bh _ _) (ce _ _)⟩
theorem outZ.yes {α:Type}{l:List α}{p:α->Bool}{f:α->V}{H H':Hp}{zs:List V}{j:Nat}{x:α}(h:outZ l p f H zs j)(hx:l[j]?=some x)(hp:p x=true):outZ l p f H' (zs++[f x]) (j+1):=by
 show _=_
 rw[bu,hx,bH,ba,<- show zs=_ from h]
 simp [hp]
theorem outZ.no {α:Type}{l:List α}{p:α->Bool}{f:α->V}{H H':Hp}{zs:List V}{j:Nat}{x:α}(h:outZ l p f H zs j)(hx:l[j]?=some x)(hp:p x=false):outZ l p f H' zs (j+1):=by
 show _=_
 rw[bu,hx,bH,ba,<- show zs=_ from h]
 simp [hp]
theorem outZ.all {α:Type}{l:List α}{p:α->Bool}{f:α->V}{H:Hp}{zs:List V}{n:Nat}(h:outZ l p f H zs n)(hn:l.length<=n):zs=(l.filter p).map f:=by
 rw[show zs=_ from h,bR hn]
def mapZ {α:Type}(l:List α)(f:α->V):Hp->List V->Nat->Prop:=λ_ zs j=>zs=(l.take j).map f
theorem mapZ.ok {α:Type}(l:List α)(f:α->V):ZOk (mapZ l f):=⟨λ_=>rfl,λ_ _ _ _ _ h=>h,λ_ zs j h=>by
 rw[show zs=_ from h,ae]
 exact ce _ _⟩
theorem mapZ.yes {α:Type}{l:List α}{f:α->V}{H H':Hp}{zs:List V}{j:Nat}{x:α}(h:mapZ l f H zs j)(hx:l[j]?=some x):mapZ l f H' (zs++[f x]) (j+1):=by
 show _=_
 rw[bu,hx,ba,<- show zs=_ from h]
 rfl
theorem mapZ.all {α:Type}{l:List α}{f:α->V}{H:Hp}{zs:List V}{n:Nat}(h:mapZ l f H zs n)(hn:l.length<=n):zs=l.map f:=by
 rw[show zs=_ from h,bR hn]
theorem int_at {l:List Int}{j:Nat}{x:V}(h:(l.map V.int)[j]?=some x):∃z:Int,l[j]?=some z/\x=V.int z:=by
 rw[aJ] at h
 cases hq:l[j]? with
 | none=>rw[hq] at h; cases h
 | some z=>rw[hq] at h; cases h; exact⟨z,rfl,rfl⟩
section
variable {st:Stmt}{sts:List Stmt}{t:TS}
end
end L2
namespace L2
open PySem
end L2
namespace L2
open PySem PySem.Spec PyProof.Rows
section
variable {m:List (Option Nat)}{g:TG}{tt:TT}{te:TE}{σ:St}{H1:Hp}{Q:VK}
end
open PySem.AutoSeq1 (wpAny_loadPart')
variable {w:World}{s:Shared}
section
variable {prog:Program}{A:Around}{E:Value->Shared->Prop}
end
variable {X:Cx}
section
variable {sc:Scope}{cl:List (Str×Addr)}{C:Addr}{Nc:List Str}{fp:List Addr}{H:Hp}
end
structure FnZ (P:Program)(w:World)(K:W.Frag)(mg:Str->Option Value)(base:Heap)(CX:CXT)(Z:Shared->Hp->Prop)(k:Nat)(f:Addr)(fd:FuncData)(ps:List Str)(sp:Sp):Prop where
 len:∀vs H Q E,sp vs H Q E->vs.length=ps.length
 run:∀(A:Around) (outer:List Env) (s:Shared) (H:Hp) (args:Args) (us:List Value) (vs:List V) (Q:VK) (E:XK),Room k A->Env0 P w K mg base A outer s H->BindsTo s fd args (ps.zip us)->Vals vs us->Z s H->sp vs H Q E->
  codeAny (model P w) A (.call (.ref f) args) (CR CX outer P w H s Q E) s
theorem jV9 {Z:Shared->Hp->Prop}{CX:CXT}{P:Program}{w:World}{K:W.Frag}{mg:Str->Option Value}{base:Heap}{k:Nat}{f:Addr}{name qual:Str}{params:Arguments}{body:List Stmt}{scope:Scope}{dV kV doc pm cdv ct oc:Value}{an od:Option Addr}
  {osl:Array (Option Value)}{N ps:List Str}{sp:Sp}(lk:K.lookup f=some ⟨oc,od, .func (PySem.W.fnOf name qual params body scope dV kV doc pm an cdv ct),osl⟩) (hcd:PySem.W.codeIn K cdv qual=true) (S:FnScope N ps scope)
  (len:∀vs H Q E,sp vs H Q E->vs.length=ps.length)
  (hbody:∀(A:Around) (outer:List Env) (s:Shared) (H:Hp) (vs:List V) (Q:VK) (E:XK),Room k (A.deeper (envOfC qual scope s.heap.objs.size f cdv))->Z s H->sp vs H Q E->
   ∃t,PSs (cxOf CX P w K mg base N qual scope f cdv A outer s H E) body t/\t { nx:=λ_ H'=>Q .non H',rt:=Q} (kT N vs) H):
  FnZ P w K mg base CX Z (k+1) f (PySem.W.fnOf name qual params body scope dV kV doc pm an cdv ct) ps sp:=by
 refine⟨len,λA outer s H args us vs Q E hr e0 hb r hz hsp=>?_⟩
 have hl:=len _ _ _ _ hsp
 have KX:K.In s.heap:=e0.mod.kin.keeps λb o e=>(e0.bs b o e).1
 have lim:s.heap.NoLimit:=e0.mod.nolimit.keeps λb o e=>(e0.bs b o e).1
 have hkind:∀y∈ps.zip us,scope.names.lookup y.1=some .local\/(scope.names.lookup y.1=some .cell/\((cellsFrom (s.heap.objs.size+1) scope.names []).lookup y.1).isSome=true):=λ⟨n,v⟩ hy=>by
  rcases S.par n (dP hy).1 with q | q
  ·exact .inl q
  ·exact .inr ⟨q,gC _ _ _ (.inl q)⟩
 refine codeAny_call_function hr.depth (KX _ _ lk) rfl S.co S.gen rfl (my KX hcd) (hb _ _ _ _ ?_)
 refine iU S.kind hkind λenv he s1 x=>?_
 subst he
 refine⟨lim.keeps x.toInCall.keep,codeAny_func ?_⟩
 obtain⟨t,ht,hq⟩:=hbody A outer s H vs Q E (hr.deeper _) hz hsp
 have I:Inv (cxOf CX P w K mg base N qual scope f cdv A outer s H E) [] (kT N vs) H s1:=jGQ S hr.hd e0 hl r x
 refine b9 (ht [] s1 (kT N vs) H _ I hq) (λfl s' hs=>?_) λe s' hs=>hs
 have fin:∀{σ':St}{H':Hp}{v:V}{u:Value},Inv (cxOf CX P w K mg base N qual scope f cdv A outer s H E) [] σ' H' s'->RelV v u->Q v H'->CE outer P w H s Q u s':=
  λ{σ' H' v u} J rv q=>⟨v,H',J.os,J.bare,J.base,J.hok,rv,q⟩
 cases fl with
 | ret u=>
  obtain⟨v,σ',H',J,rv,q⟩:=hs
  exact fin J rv q
 | next=>
  obtain⟨σ',H',J,q⟩:=hs
  exact fin (v:=V.non) (u:=Value.none) J rfl q
 | brk=>
  obtain⟨_,_,_,q⟩:=hs
  exact False.elim q
 | cont=>
  obtain⟨_,_,_,q⟩:=hs
  exact False.elim q
def ZSt (Z:Shared->Hp->Prop):Prop:=∀(fs:List Addr) (s s':Shared) (H H':Hp),Un fs [] H H' s.heap s'.heap->Z s H->Z s' H'
abbrev ZT:Shared->Hp->Prop:=λ_ _=>True
theorem ZT.st:ZSt ZT:=λ_ _ _ _ _ _ _=>trivial
theorem FnZ.ok {P:Program}{w:World}{K:W.Frag}{mg:Str->Option Value}{base:Heap}{CX:CXT}{k:Nat}{f:Addr}{fd:FuncData}{ps:List Str}{sp:Sp}(F:FnZ P w K mg base CX ZT k f fd ps sp):FnOk P w K mg base CX k f fd ps sp:=
 ⟨F.len,λA outer s H args us vs Q E hr he hb hv hs=>F.run A outer s H args us vs Q E hr he hb hv trivial hs⟩
section
variable {P:Program}{K:W.Frag}{mg:Str->Option Value}{base:Heap}
theorem Fun.okZ {Z:Shared->Hp->Prop}{x qual:Str}{st:Stmt}{f:Addr}{fd:FuncData}{N ps:List Str}{k:Nat}{sp:Sp}(F:Fun K x qual st f fd)(S:FnScope N ps (jA st))(len:∀vs H Q E,sp vs H Q E->vs.length=ps.length)
  (hbody:∀(cdv:Value) (A:Around) (outer:List Env) (s:Shared) (H:Hp) (vs:List V) (Q:VK) (E:XK),Room k (A.deeper (envOfC qual (jA st) s.heap.objs.size f cdv))->Z s H->sp vs H Q E->
   ∃t,PSs (cxOf CX0 P w K mg base N qual (jA st) f cdv A outer s H E).nox (jC st) t/\t { nx:=λ_ H'=>Q .non H',rt:=Q} (kT N vs) H):FnZ P w K mg base CX0 Z (k+1) f fd ps sp:=by
 obtain⟨_,_,_,_,_,_,cdv,_,_,rfl,lk,hcd⟩:=F.ex
 refine jV9 lk hcd S len λA outer s H vs Q E hr hz hsp=>?_
 obtain⟨t,h,q⟩:=hbody cdv A outer s H vs Q E hr hz hsp
 exact⟨t,h.nox,q⟩
end
structure Callee (P:Program)(w:World)(K:W.Frag)(mg:Str->Option Value)(base:Heap)(Z:Shared->Hp->Prop)(zh:Hp->Prop)(k:Nat)(a:Addr)(sp:Sp):Prop where
 fn:∀(A:Around) (outer:List Env) (s:Shared) (H:Hp),Env0 P w K mg base A outer s H->zh H->PySem.W.FnAt a s.heap
 run:∀(A:Around) (outer:List Env) (s:Shared) (H:Hp) (us:List Value) (vs:List V) (Q:VK) (E:XK),Room k A->Env0 P w K mg base A outer s H->Z s H->zh H->Vals vs us->sp vs H Q E->codeAny (model P w) A (.call (.ref a) ⟨us,[]⟩) (CR CX0 outer P w H s Q E) s
theorem Callee.of {P:Program}{w:World}{K:W.Frag}{mg:Str->Option Value}{base:Heap}{x q:Str}{st:Stmt}{k:Nat}{f:Addr}{fd:FuncData}{ps:List Str}{sp:Sp}(F:Fun K x q st f fd)(G:FnOk P w K mg base CX0 k f fd ps sp)(hb:Binds K fd ps []):Callee P w K mg base ZT (λ_=>True) k f sp:=by
 refine⟨λA outer s H e _=>?_,λA outer s H us vs Q E hr e _ _ r hs=>?_⟩
 ·obtain⟨oc,od,_,_,_,_,_,_,osl,_,lk,_⟩:=F.ex
  exact⟨_,_,_,_,(e.mod.kin.keeps λb o z=>(e.bs b o z).1) _ _ lk⟩
 ·have hl:(us++[]).length=ps.length:=by rw[bg,<- r.length]; exact G.len _ _ _ _ hs
  have b:=hb s us (e.mod.kin.keeps λb o z=>(e.bs b o z).1) hl
  rw[bg] at b
  exact G.run A outer s H ⟨us,[]⟩ us vs Q E hr e b r hs
def jTG (a:Addr)(zh:Hp->Prop)(sp:Sp)(j:Nat)(t:TA):TE:=λσ H Q=>σ[j]?=some (some (.ref a))/\t σ H λvs H1=>zh H1/\sp vs H1 Q E0
section
variable {Z:Shared->Hp->Prop}{zh:Hp->Prop}{k:Nat}{a:Addr}{sp:Sp}{x:Str}{p pos:Pos}{e:Expr}{es:List Expr}{t:TA}{j:Nat}
theorem jP9 (F:Callee X.prog X.w X.K X.mg X.base Z zh k a sp)(hr:Room k X.A)(st:ZSt Z)(hz:Z X.s₀ X.H₀)(hex:X.ex=[])(hN:X.N[j]?=some x)(hv:Vis1 X x)
  (ha:JA X (e::es) t) (he:starEach (e::es) X.env=(false,eval e X.env)::starEach es X.env) (hdb:(x==("__debug__" :Str))=false:=by decide) (hcd:(x==("__classdict__" :Str))=false:=by decide) (hpl:(backTo pos (starEach es X.env)).any (·.1)=false:=by rfl):
  JE X (.Call (.Name x p) (e::es) [] pos) (jTG a zh sp j t):=by
 refine⟨λad s σ H Q I h=>?_⟩
 obtain⟨hj,h⟩:=h
 refine dy (mI (jLP (pos:=p) hN hv.a hdb hcd ad s σ H (λv H'=>v= .ref a/\H'=H) I ⟨_,hj,rfl,rfl⟩) λv s1 ⟨v',H1,I1,r1,q1,q2⟩=>?_)
 subst q1 q2
 cases (show v=Value.ref a from r1)
 have hX:=mI (ha.h pos ad s1 σ H1 _ I1 h) λus s2 (z:AP X ad σ _ us s2)=>show PySem.W.FnAt a s2.heap/\wpAny (model X.prog X.w) X.A (call (.ref a) ([]++us)) (EP X ad σ Q) X.xe s2 from by
  obtain⟨vs,H2,I2,r,h1,h2⟩:=z
  have un:=I2.base
  rw[hex] at un
  refine⟨F.fn _ _ _ _ I2.env0 h1,iT (ev (F.run X.A X.stack s2 H2 us vs Q E0 hr I2.env0 (st _ _ _ _ _ un hz) h1 r h2) λr s' hq=>?_)⟩
  cases r with
  | error e=>exact hq.elim
  | ok fl=>
   cases fl with
   | ret u=>exact I2.after hq
   | next=>exact False.elim hq
   | brk=>exact False.elim hq
   | cont=>exact False.elim hq
 rw[he] at hX ⊢
 exact PySem.W.callWith_of (by show ((false || (backTo pos (starEach es X.env)).any (·.1)) || false)=false; rw[hpl]; rfl) PySem.W.keeps_F (ic hX)
end
def nlP (q:Str)(args:Arguments)(body:Expr)(scope:Scope)(cl:List (Str×Addr))(a c:Addr):Heap->Prop:=λh=>∃pm ctv,h.get? a=some (kla_obj "<lambda>" q args body scope cl pm c ctv)
theorem nlP.stay {q:Str}{args:Arguments}{body:Expr}{scope:Scope}{cl:List (Str×Addr)}{a c:Addr}(h1 h2:Heap)(p:nlP q args body scope cl a c h1)(k:∀o,h1.get? a=some o->h2.get? a=some o):nlP q args body scope cl a c h2:=by
 obtain⟨m,t,e⟩:=p
 exact⟨m,t,k _ e⟩
def tLam (q:Str)(args:Arguments)(body:Expr)(scope:Scope)(cl:List (Str×Addr))(T:Addr)(pos:Pos):TE:=λ_ H Q=>TabOk H T pos q/\∀a c H',H' a=some (.ext (nlP q args body scope cl a c))->H' c=some (.ext (ncP q c))->H' T=some (.tbl (onePs pos c))->ExtT T H H'->H a=none->Q (.ref a) H'
theorem jQF {X:Cx}{args:Arguments}{body:Expr}{scope:Scope}{pos:Pos}{c0 T:Addr}(hcode:X.env.code= .ref c0)(CH:PySem.W.CodeHd X.base c0 T)(hbm:BltAt X.base X.mg)
  (hfree:∀y∈scope.names,y.2= .free->X.env.scope.names.lookup y.1=some .cell\/X.env.scope.names.lookup y.1=some .free) (hdf:defaultsOf args X.env=([],[])):
  JE X (.Lambda args body scope pos) (tLam (X.env.qual++ "<lambda>") args body scope (jF X.env.cells scope.names []) T pos):=by
 refine⟨λad s σ H Q I h=>?_⟩
 obtain⟨tab,h⟩:=h
 refine PySem.W.kla_eval hdf ?_
 have hcl:closureFor scope X.env=pure (jF X.env.cells scope.names []):=jFF λy hy hz=>I.ok.has y.1 (hfree y hy hz)
 have hg:s.heap.Ns mainGlobals X.mg:=I.mod.glob.keeps I.bk
 have C:=CH.keeps I.bk
 have gT:∀{ps:Array Value},H T=some (.tbl ps)->mainGlobals≠T:=λhT z=>by
  obtain⟨o,es,ep,e,_⟩:=I.mod.glob
  have:=(I.bs _ _ e).2
  rw[z,hT] at this
  cases this
 have bT:∀{ps:Array Value},H T=some (.tbl ps)->s.heap.BuiltinsAt X.mg T:=λhT=>by
  obtain⟨bm,o,h1,h2,h3,h4,h5,h6,h7⟩:=hbm
  refine⟨bm,o,h1,h2,h3,λz=>?_,(I.bs _ _ h4).1,h5,h6,h7⟩
  have:=(I.bs _ _ h4).2
  rw[z,hT] at this
  cases this
 rcases tab with hT | ⟨c,hT,hc⟩
 ·refine PySem.W.kla_makeFunction hcl I.ok.glob hg hcode C (I.hok T _ hT) trivial rfl (gT hT) (bT hT) λc ctv h' tk k1 k2 k3 k4 k5=>?_
  obtain⟨oc,hoc⟩:=ncP.is (q:=X.env.qual++ "<lambda>") k4
  have I1:Inv X ad σ (upd (upd H T (.tbl (#[]++onePs pos c))) c (.ext (ncP (X.env.qual++ "<lambda>") c))) { s with heap:=h',toks:=tk} :=I.grown hT k1 k5 k2 k4 ⟨oc,hoc⟩ ncP.stay
  have I2:=I1.laidX (t':=tk) (a:=h'.objs.size) (φ:=nlP (X.env.qual++ "<lambda>") args body scope (jF X.env.cells scope.names []) h'.objs.size c) (h':=h'.push (kla_obj "<lambda>" (X.env.qual++ "<lambda>") args body scope (jF X.env.cells scope.names []) ((X.mg "__name__").getD .none) c ctv)) (λb u q=>ab _ q) (aq _) ⟨_,ctv,ao _ rfl⟩ ⟨_,ao _ rfl⟩ nlP.stay
  have hcn:H c=none:=I.hok.fresh k2
  have han:H h'.objs.size=none:=I.hok.fresh (bf k2 (cC k3))
  have ca:c≠h'.objs.size:=aO k3
  have Tc:T≠c:=λz=>by rw[z,hcn] at hT; cases hT
  have Ta:T≠h'.objs.size:=λz=>by rw[z,han] at hT; cases hT
  refine⟨.ref _,_,I2,rfl,h _ c _ j5 (by rw[j6 ca,j5]) (by rw[j6 Ta,j6 Tc,j5,mC]) (λb o e n=>?_) han⟩
  rw[j6 (j9 e han),j6 (j9 e hcn),j6 n]
  exact e
 ·refine PySem.W.kla_makeFunctionHit (cv:= .ref c) hcl I.ok.glob hg hcode C (I.hok T _ hT) (by exact trivial) (by simp [codeAmong,rawInt]) (bT hT) λctv h' tk k1 k2=>?_
  have I2:=I.laidX (t':=tk) (a:=h'.objs.size) (φ:=nlP (X.env.qual++ "<lambda>") args body scope (jF X.env.cells scope.names []) h'.objs.size c) (h':=h'.push (kla_obj "<lambda>" (X.env.qual++ "<lambda>") args body scope (jF X.env.cells scope.names []) ((X.mg "__name__").getD .none) c ctv)) (λb u q=>ab _ (k1 b u q)) k2 ⟨_,ctv,ao _ rfl⟩ ⟨_,ao _ rfl⟩ nlP.stay
  have han:H h'.objs.size=none:=I.hok.fresh k2
  refine⟨.ref _,_,I2,rfl,h _ c _ j5 (by rw[j6 (j9 hc han)]; exact hc) (by rw[j6 (j9 hT han)]; exact hT) (λb o e n=>?_) han⟩
  rw[j6 (j9 e han)]
  exact e
theorem jQJ {P:Program}{w:World}{K:W.Frag}{mg:Str->Option Value}{base:Heap}{k:Nat}{q:Str}{args:Arguments}{body:Expr}{scope:Scope}{N ps fs:List Str}{sp:Sp}{cl:List (Str×Addr)}{fv:List V}{a c:Addr}(S:NScope N ps fs scope)(len:∀vs H Q E,sp vs H Q E->vs.length=ps.length)
  (hb:∀pm ctv (us:List Value),us.length=ps.length->bindArgs (PySem.W.kla_fn "<lambda>" q args body scope cl pm (.ref c) ctv) ⟨us,[]⟩=pure (ps.zip us))
  (hbody:∀(A:Around) (outer:List Env) (s:Shared) (H:Hp) (vs:List V) (Q:VK) (E:XK),Room k (A.deeper (envX q scope s.heap.objs.size a (.ref c) cl))->sp vs H Q E->
   ∃t,PE (cxN P w K mg base N q scope a (.ref c) cl A outer s H) body t/\t (jBE N vs fv) H Q):
  Callee P w K mg base (λs H=>ClOk cl s H/\FvOk fs fv cl s) (λH=>H a=some (.ext (nlP q args body scope cl a c))/\H c=some (.ext (ncP q c))) (k+1) a sp:=by
 refine⟨λA outer s H e z=>?_,λA outer s H us vs Q E hr e0 hz zh r hsp=>?_⟩
 ·obtain⟨⟨m,t,g⟩,_,_⟩:=(show ObjOk P w H s.heap a (.ext _) from e.hok a _ z.1)
  exact⟨_,_,_,_,g⟩
 obtain⟨C,Fv⟩:=hz
 obtain⟨⟨pm,ctv,ho⟩,_,_⟩:=(show ObjOk P w H s.heap a (.ext _) from e0.hok a _ zh.1)
 obtain⟨hc,_,_⟩:=(show ObjOk P w H s.heap c (.ext _) from e0.hok c _ zh.2)
 have hl:us.length=ps.length:=r.length.symm.trans (len _ _ _ _ hsp)
 have lim:s.heap.NoLimit:=e0.mod.nolimit.keeps λb o e=>(e0.bs b o e).1
 refine PySem.W.kla_callFunE hr.depth ho rfl S.co S.gen rfl hc ?_
 rw[hb pm ctv us hl]
 refine ai (wpAny_newFunctionEnv S.nocell (λy hy=>S.par y.1 (dP hy).1) (λh₁ hns hsb=>⟨lim.fresh _ hsb,?_⟩) S.kind)
 show codeAny _ _ (.expr body (envX q scope s.heap.objs.size a (.ref c) cl)) _ _
 have hk:∀b o,s.heap.get? b=some o->h₁.get? b=some o:=λb o e=>hsb.extBut b o (aO (ay e)) (ab _ e)
 obtain⟨t,ht,hq⟩:=hbody A outer s H vs Q E (hr.deeper _) hsp
 have I:Inv (cxN P w K mg base N q scope a (.ref c) cl A outer s H) [] (jBE N vs fv) H { s with heap:=h₁,toks:=s.toks+(ps.zip us).length} :=jEJ S hr.hd e0 hl r C Fv hns hk
 refine PySem.W.kla_codeExpr (b9 (ht [] _ (jBE N vs fv) H _ I hq) (λu s' hs=>?_) λe s' hs=>False.elim hs)
 obtain⟨v,H',J,rv,q⟩:=hs
 exact⟨v,H',J.os,J.bare,J.base,J.hok,rv,q⟩
end L2
namespace TM
open PySem PyProof.Rows
class Od where
 kd:SortKind
 ky:Keyed->Int
 is:Keyed->Prop
abbrev key [Od]:Keyed->Int:=Od.ky
abbrev IsI [Od]:Keyed->Prop:=Od.is
class LtOk (prog:Program) (w:World) (A:Around) (s:Shared) [Od]:Prop where
 lt:∀{E:Value->Shared->Prop}{st:SortSt}{x y:Keyed}{Q:Option Bool->SortSt->Prop},kindOf st=Od.kd->IsI x->IsI y->Q (some (decide (key x<key y))) st->wpS (model prog w) A E s (lt' x y) Q st
variable [Od]
abbrev AllI (l:List Keyed):Prop:=∀p∈l,IsI p
abbrev LE (x y:Keyed):Prop:=key x<=key y
def jBM:Bool->Keyed->Array Keyed->Nat->Nat->Nat->StateT SortSt Sem (Option Nat):=sortPriv% PySem.Builtin.gallop
def gallopB: { g:Bool->Keyed->Array Keyed->Nat->Nat->Nat->StateT SortSt Sem (Option Nat) // jBM=g} :=⟨λ_ _ _ _ _ _=>bind _ _,rfl⟩
theorem elP:(sortPriv% PySem.Builtin.elem)=elem':=rfl
theorem ltP:(sortPriv% PySem.Builtin.lt)=lt':=rfl
theorem ltAtP:(sortPriv% PySem.Builtin.ltAt)=ltAt':=rfl
theorem jI5:(sortPriv% PySem.Builtin.gallop)=jBM:=rfl
section
variable {prog:Program}{w:World}{A:Around}{E:Value->Shared->Prop}{s:Shared}
theorem jFN [LtOk prog w A s]{st:SortSt}{x y:Keyed}{Q:Option Bool->SortSt->Prop}(hk:kindOf st=Od.kd)(hx:IsI x)(hy:IsI y)(h:Q (some (decide (key x<key y))) st):wpS (model prog w) A E s (lt' x y) Q st:=LtOk.lt hk hx hy h
theorem jN {st:SortSt}{arr:Array Keyed}{i:Nat}{p:Keyed}{Q:Keyed->SortSt->Prop}(hi:arr[i]?=some p)(h:Q p st):wpS (model prog w) A E s (elem' arr i) Q st:=by
 rw[elem'_eq,hi]
 exact aM h
end
section
variable {prog:Program}{w:World}{A:Around}{E:Value->Shared->Prop}{s:Shared} [LtOk prog w A s]
theorem jB6 {left:Bool}{ky:Keyed}{arr:Array Keyed}{base n hint:Nat}{st:SortSt}{Q:Option Nat->SortSt->Prop}(hk:kindOf st=Od.kd)(hky:IsI ky)(hI:∀i,i<n->∃p,arr[base+i]?=some p/\IsI p)(hh:hint<n)(B:Nat->Bool)
  (hB:∀i p,i<n->arr[base+i]?=some p->B i=(if left=true then decide (key p<key ky) else !decide (key ky<key p))) (mono:∀i j,i<=j->j<n->B j=true->B i=true)
  (h:∀k,k<=n->(∀i,i<k->B i=true)->(∀i,k<=i->i<n->B i=false)->Q (some k) st):wpS (model prog w) A E s (jBM left ky arr base n hint) Q st:=by
 rw[gallopB.2]
 delta gallopB
 dsimp only
 simp only [elP,ltP]
 have bey:∀i (R:Option Bool->SortSt->Prop),i<n->R (some (B i)) st->wpS (model prog w) A E s (do
   let x <- elem' arr (base+i)
   if left=true then lt' x ky else do
    let r <- lt' ky x
    pure (r.map (!·))) R st:=λi R hi hR=>by
  obtain⟨p,hp,ip⟩:=hI i hi
  refine aI (jN hp ?_)
  have e:=hB i p hi hp
  cases left with
  | true=>
   rw[am rfl] at e ⊢
   rw[e] at hR
   exact jFN hk ip hky hR
  | false=>
   rw[aj aA] at e ⊢
   rw[e] at hR
   exact aI (jFN hk hky ip (aM hR))
 have down:∀i j,i<=j->j<n->B i=false->B j=false:=λi j hij hj hi=>by
  cases hb:B j with
  | false=>rfl
  | true=>rw[mono i j hij hj hb] at hi; cases hi
 refine aI (bey hint _ hh ?_)
 dsimp only
 cases hb:B hint with
 | true=>
  rw[am rfl]
  refine aI (dH (b0 (I:=λx c st'=>st'=st/\∃l o,c=(none,l,o)/\l<o/\x+1<=o/\hint+l<n/\B (hint+l)=true)
   (Q:=λc st'=>st'=st/\∃l o,c=(none,l,o)/\l<o/\hint+l<n/\B (hint+l)=true/\(n - hint<=o\/(hint+o<n/\B (hint+o)=false))) ?step ?fin ⟨rfl,0,1,rfl,by lia,by lia,by lia,by rw[eZ]; exact hb⟩) ?post)
  case post=>
   rintro c st' ⟨rfl,l,o,rfl,a1,a2,a3,a4⟩
   dsimp only
   have p3:∀i,i<hint+l+1->B i=true:=λi hi=>mono i (hint+l) (by lia) a2 a3
   have p4:∀i,hint+min o (n - hint)<=i->i<n->B i=false:=λi h1 h2=>by
    rcases a4 with a4 | ⟨a4,a5⟩
    ·lia
    ·exact down (hint+o) i (by lia) h2 a5
   refine aI (dH (b0 (I:=λx c st''=>st''=st'/\∃lo hi,c=(none,lo,hi)/\lo<=hi/\hi<=n/\hi - lo<=n - x/\(∀i,i<lo->B i=true)/\(∀i,hi<=i->i<n->B i=false))
    (Q:=λc st''=>st''=st'/\∃k,c=(none,k,k)/\k<=n/\(∀i,i<k->B i=true)/\(∀i,k<=i->i<n->B i=false)) ?step2 ?fin2 ⟨rfl,hint+l+1,hint+min o (n - hint),rfl,by lia,by lia,by lia,p3,p4⟩) ?post2)
   case post2=>
    rintro c st'' ⟨rfl,k,rfl,k1,k2,k3⟩
    exact aM (h k k1 k2 k3)
   case fin2=>
    rintro c st'' ⟨rfl,lo,hi,rfl,a1,a2,a3,a4,a5⟩
    have:lo=hi:=by lia
    subst this
    exact⟨rfl,lo,rfl,a2,a4,a5⟩
   case step2=>
    rintro x c st'' _ hx ⟨rfl,lo,hi,rfl,a1,a2,a3,a4,a5⟩
    dsimp only
    by_cases hge:lo ≥ hi
    ·rw[am hge]
     have:lo=hi:=by lia
     subst this
     exact aM ⟨rfl,lo,rfl,a2,a4,a5⟩
    ·rw[aj hge]
     refine aI (bey _ _ (by lia) ?_)
     dsimp only
     cases hb:B (lo+(hi - lo) / 2) with
     | true=>
      rw[am rfl]
      exact aM ⟨rfl,lo+(hi - lo) / 2+1,hi,rfl,by lia,a2,by lia,λi hi'=>mono i _ (by lia) (by lia) hb,a5⟩
     | false=>
      rw[aj aA]
      exact aM ⟨rfl,lo,lo+(hi - lo) / 2,rfl,by lia,by lia,by lia,a4,λi h1 h2=>down _ i h1 h2 hb⟩
  case fin=>
   rintro c st' ⟨rfl,l,o,rfl,a1,a2,a3,a4⟩
   exact⟨rfl,l,o,rfl,a1,a3,a4, .inl (by lia)⟩
  case step=>
   rintro x c st' _ hx ⟨rfl,l,o,rfl,a1,a2,a3,a4⟩
   dsimp only
   by_cases hge:o ≥ n - hint
   ·rw[am hge]
    exact aM ⟨rfl,l,o,rfl,a1,a3,a4, .inl hge⟩
   ·rw[aj hge]
    refine aI (bey _ _ (by lia) ?_)
    dsimp only
    cases hb2:B (hint+o) with
    | true=>
     rw[aj (by decide)]
     exact aM ⟨rfl,o,2*o+1,rfl,by lia,by lia,by lia,hb2⟩
    | false=>
     rw[am (by decide)]
     exact aM ⟨rfl,l,o,rfl,a1,a3,a4, .inr ⟨by lia,hb2⟩⟩
 | false=>
  rw[aj aA]
  refine aI (dH (b0 (I:=λx c st'=>st'=st/\∃l o,c=(none,l,o)/\l<o/\x+1<=o/\l<=hint/\B (hint - l)=false)
   (Q:=λc st'=>st'=st/\∃l o,c=(none,l,o)/\l<o/\l<=hint/\B (hint - l)=false/\(hint+1<=o\/(o<=hint/\B (hint - o)=true))) ?step ?fin ⟨rfl,0,1,rfl,by lia,by lia,by lia,by rw[mE]; exact hb⟩) ?post)
  case post=>
   rintro c st' ⟨rfl,l,o,rfl,a1,a2,a3,a4⟩
   dsimp only
   have p3:∀i,i<hint+1 - min o (hint+1)->B i=true:=λi hi=>by
    rcases a4 with a4 | ⟨a4,a5⟩
    ·lia
    ·exact mono i (hint - o) (by lia) (by lia) a5
   have p4:∀i,hint - l<=i->i<n->B i=false:=λi h1 h2=>down (hint - l) i (by lia) h2 a3
   refine aI (dH (b0 (I:=λx c st''=>st''=st'/\∃lo hi,c=(none,lo,hi)/\lo<=hi/\hi<=n/\hi - lo<=n - x/\(∀i,i<lo->B i=true)/\(∀i,hi<=i->i<n->B i=false))
    (Q:=λc st''=>st''=st'/\∃k,c=(none,k,k)/\k<=n/\(∀i,i<k->B i=true)/\(∀i,k<=i->i<n->B i=false)) ?step2 ?fin2 ⟨rfl,hint+1 - min o (hint+1),hint - l,rfl,by lia,by lia,by lia,p3,p4⟩) ?post2)
   case post2=>
    rintro c st'' ⟨rfl,k,rfl,k1,k2,k3⟩
    exact aM (h k k1 k2 k3)
   case fin2=>
    rintro c st'' ⟨rfl,lo,hi,rfl,a1,a2,a3,a4,a5⟩
    have:lo=hi:=by lia
    subst this
    exact⟨rfl,lo,rfl,a2,a4,a5⟩
   case step2=>
    rintro x c st'' _ hx ⟨rfl,lo,hi,rfl,a1,a2,a3,a4,a5⟩
    dsimp only
    by_cases hge:lo ≥ hi
    ·rw[am hge]
     have:lo=hi:=by lia
     subst this
     exact aM ⟨rfl,lo,rfl,a2,a4,a5⟩
    ·rw[aj hge]
     refine aI (bey _ _ (by lia) ?_)
     dsimp only
     cases hb:B (lo+(hi - lo) / 2) with
     | true=>
      rw[am rfl]
      exact aM ⟨rfl,lo+(hi - lo) / 2+1,hi,rfl,by lia,a2,by lia,λi hi'=>mono i _ (by lia) (by lia) hb,a5⟩
     | false=>
      rw[aj aA]
      exact aM ⟨rfl,lo,lo+(hi - lo) / 2,rfl,by lia,by lia,by lia,a4,λi h1 h2=>down _ i h1 h2 hb⟩
  case fin=>
   rintro c st' ⟨rfl,l,o,rfl,a1,a2,a3,a4⟩
   exact⟨rfl,l,o,rfl,a1,a3,a4, .inl (by lia)⟩
  case step=>
   rintro x c st' _ hx ⟨rfl,l,o,rfl,a1,a2,a3,a4⟩
   dsimp only
   by_cases hge:o ≥ hint+1
   ·rw[am hge]
    exact aM ⟨rfl,l,o,rfl,a1,a3,a4, .inl hge⟩
   ·rw[aj hge]
    refine aI (bey _ _ (by lia) ?_)
    dsimp only
    cases hb2:B (hint - o) with
    | true=>
     rw[am rfl]
     exact aM ⟨rfl,l,o,rfl,a1,a3,a4, .inr ⟨by lia,hb2⟩⟩
    | false=>
     rw[aj aA]
     exact aM ⟨rfl,o,2*o+1,rfl,by lia,by lia,by lia,hb2⟩
end
abbrev jG6 (st:SortSt)(g:Nat):SortSt:=SortSt.mk' (kindOf st) (arrOf st) (pendingOf st) g (failedOf st)
def jBQ:Nat->StateT SortSt Sem Unit:=sortPriv% PySem.Builtin.setMinGallop
theorem jLE:(sortPriv% PySem.Builtin.setMinGallop)=jBQ:=rfl
theorem jA2 (g:Nat):jBQ g=modify λs=>jG6 s g:=rfl
def jF1:Array Keyed->Array Keyed->StateT SortSt Sem (Array Keyed):=sortPriv% PySem.Builtin.mergeLo
def mergeLoB: { g:Array Keyed->Array Keyed->StateT SortSt Sem (Array Keyed) // jF1=g} :=⟨λ_ _=>bind _ _,rfl⟩
theorem jOW:(sortPriv% PySem.Builtin.mergeLo)=jF1:=rfl
def jF2:Array Keyed->Array Keyed->StateT SortSt Sem (Array Keyed):=sortPriv% PySem.Builtin.mergeHi
def mergeHiB: { g:Array Keyed->Array Keyed->StateT SortSt Sem (Array Keyed) // jF2=g} :=⟨λ_ _=>bind _ _,rfl⟩
theorem jOX:(sortPriv% PySem.Builtin.mergeHi)=jF2:=rfl
abbrev Srt (l:List Keyed):Prop:=l.Pairwise LE
structure ML (a b out:List Keyed)(ia ib:Nat):Prop where
 perm:(out++(a.drop ia++b.drop ib)).Perm (a++b)
 srt:Srt out
 le:∀x∈out,∀y∈a.drop ia++b.drop ib,LE x y
theorem Srt.drop {l:List Keyed}(h:Srt l)(i:Nat):Srt (l.drop i):=h.sublist (jd _ _)
theorem Srt.take {l:List Keyed}(h:Srt l)(i:Nat):Srt (l.take i):=h.sublist (de _ _)
theorem yO {l m:List Keyed}(h1:Srt l)(h2:Srt m)(h:∀x∈l,∀y∈m,LE x y):Srt (l++m):=bO.mpr ⟨h1,h2,h⟩
theorem ML.takeA {a b out:List Keyed}{ia ib:Nat}(h:ML a b out ia ib)(sa:Srt a)(k:Nat)(hc:∀x∈(a.drop ia).take k,∀y∈b.drop ib,LE x y):ML a b (out++(a.drop ia).take k) (ia+k) ib:=by
 have e:a.drop (ia+k)=(a.drop ia).drop k:=by rw[i5]
 refine⟨?_,yO h.srt ((sa.drop ia).take k) λx hx y hy=>h.le x hx y (aQ _ (bU hy)),λx hx y hy=>?_⟩
 ·refine List.Perm.trans ?_ h.perm
  rw[e]
  refine gt ?_
  rw[aZ,<- aZ ((a.drop ia).take k),bx]
 ·rcases aL.mp hx with q | q
  ·refine h.le x q y ?_
   rcases aL.mp hy with z | z
   ·rw[e] at z
    exact aQ _ (cV z)
   ·exact az _ z
  ·rcases aL.mp hy with z | z
   ·rw[e] at z
    have s:=sa.drop ia
    rw[<- bx k (a.drop ia)] at s
    exact(bO.mp s).2.2 x q y z
   ·exact hc x q y z
theorem ML.takeB {a b out:List Keyed}{ia ib:Nat}(h:ML a b out ia ib)(sb:Srt b)(k:Nat)(hc:∀x∈(b.drop ib).take k,∀y∈a.drop ia,LE x y):ML a b (out++(b.drop ib).take k) ia (ib+k):=by
 have e:b.drop (ib+k)=(b.drop ib).drop k:=by rw[i5]
 refine⟨?_,yO h.srt ((sb.drop ib).take k) λx hx y hy=>h.le x hx y (az _ (bU hy)),λx hx y hy=>?_⟩
 ·refine List.Perm.trans ?_ h.perm
  rw[e,aZ]
  refine dv out ?_
  refine ed.trans ?_
  rw[aZ]
  refine dv _ ?_
  refine ed.trans ?_
  rw[bx]
 ·rcases aL.mp hx with q | q
  ·refine h.le x q y ?_
   rcases aL.mp hy with z | z
   ·exact aQ _ z
   ·rw[e] at z
    exact az _ (cV z)
  ·rcases aL.mp hy with z | z
   ·exact hc x q y z
   ·rw[e] at z
    have s:=sb.drop ib
    rw[<- bx k (b.drop ib)] at s
    exact(bO.mp s).2.2 x q y z
theorem ML.outA {a b out:List Keyed}{ia ib:Nat}(h:ML a b out ia ib)(sa:Srt a)(hb:b.length<=ib):(out++a.drop ia++b.drop ib).Perm (a++b)/\Srt (out++a.drop ia++b.drop ib):=by
 refine⟨by rw[aZ]; exact h.perm,?_⟩
 rw[lh hb,bg]
 exact yO h.srt (sa.drop ia) λx hx y hy=>h.le x hx y (aQ _ hy)
theorem ML.outB {a b out:List Keyed}{ia ib:Nat}(h:ML a b out ia ib)(sb:Srt b)(ha:a.length<=ia):(out++a.drop ia++b.drop ib).Perm (a++b)/\Srt (out++a.drop ia++b.drop ib):=by
 refine⟨by rw[aZ]; exact h.perm,?_⟩
 rw[lh ha,bg]
 exact yO h.srt (sb.drop ib) λx hx y hy=>h.le x hx y (az _ hy)
theorem ML.last {a b out:List Keyed}{ia ib:Nat}(h:ML a b out ia ib)(sa:Srt a)(sb:Srt b)(ha:∀x∈b,∀y∈a.drop ia,LE x y):(out++b.drop ib++a.drop ia).Perm (a++b)/\Srt (out++b.drop ib++a.drop ia):=by
 refine⟨?_,?_⟩
 ·rw[aZ]
  exact(dv out ed).trans h.perm
 ·refine yO (yO h.srt (sb.drop ib) λx hx y hy=>h.le x hx y (az _ hy)) (sa.drop ia) λx hx y hy=>?_
  rcases aL.mp hx with q | q
  ·exact h.le x q y (aQ _ hy)
  ·exact ha x (cV q) y hy
theorem jAE {l:List Keyed}{i:Nat}{p:Keyed}(h:l[i]?=some p):(l.drop i).take 1=[p]:=by
 obtain⟨hi,e⟩:=ax.mp h
 rw[<- List.getElem_cons_drop (h:=hi),e]
 rfl
theorem jE6 {l:List Keyed}(h:Srt l){i j:Nat}{x y:Keyed}(hx:l[i]?=some x)(hy:l[j]?=some y)(hij:i<=j):LE x y:=by
 obtain⟨h1,rfl⟩:=ax.mp hx
 obtain⟨h2,rfl⟩:=ax.mp hy
 by_cases e:i=j
 ·subst e; exact eF _
 ·exact cO.mp h i j h1 h2 (by lia)
theorem jD3 {l:List Keyed}{i:Nat}{y:Keyed}(h:y∈l.drop i):∃j,i<=j/\l[j]?=some y:=by
 obtain⟨k,hk⟩:=bw h
 rw[i6] at hk
 exact⟨i+k,by lia,hk⟩
theorem jA6 {l:List Keyed}{i k:Nat}{y:Keyed}(h:y∈(l.drop i).take k):∃j,i<=j/\j<i+k/\l[j]?=some y:=by
 obtain⟨n,hn⟩:=bw h
 have hlt:n<k:=by
  have:=(ax.mp hn).1
  rw[bM] at this
  lia
 rw[cx hlt,i6] at hn
 exact⟨i+n,by lia,by lia,hn⟩
theorem jCL {a:Array Keyed}{i:Nat} :(a.extract i a.size).toList=a.toList.drop i:=by
 rw[fo,eg]
 exact bR (by rw[gX,aN]; exact aq _)
theorem ext_k {a:Array Keyed}{i k:Nat} :(a.extract i (i+k)).toList=(a.toList.drop i).take k:=by
 rw[fo,eg,cY]
structure Two (a b:Array Keyed):Prop where
 ia:AllI a.toList
 ib:AllI b.toList
 sa:Srt a.toList
 sb:Srt b.toList
 na:0<a.size
 nb:0<b.size
 last:∀x∈b.toList,∀y,a.toList[a.size - 1]?=some y->key x<key y
 first:∀y∈a.toList,∀p,b.toList[0]?=some p->key p<key y
def yG (a b r:Array Keyed):Prop:=r.toList.Perm (a.toList++b.toList)/\Srt r.toList
structure SG (st st':SortSt):Prop where
 k:kindOf st'=kindOf st
 a:arrOf st'=arrOf st
 p:pendingOf st'=pendingOf st
 f:failedOf st'=failedOf st
theorem SG.refl (st:SortSt):SG st st:=⟨rfl,rfl,rfl,rfl⟩
theorem SG.gal {st st':SortSt}(h:SG st st')(g:Nat):SG st (jG6 st' g):=⟨h.k,h.a,h.p,h.f⟩
abbrev MA (a b out:Array Keyed)(ia ib:Nat):Prop:=ML a.toList b.toList out.toList ia ib
variable {a b:Array Keyed}{i j:Nat}
section
variable {out:Array Keyed}{k:Nat}
theorem at_list {p:Keyed} :a[i]?=some p↔a.toList[i]?=some p:=by rw[bG]
theorem qD (h:i<a.size):∃p,a[i]?=some p/\a.toList[i]?=some p:=⟨a[i],by simp [h],by simp [h]⟩
theorem MA.doneA (T:Two a b)(h:MA a b out i j)(hj:b.size<=j):yG a b (out++a.extract i a.size++b.extract j b.size):=by
 unfold yG
 rw[bB,bB,jCL,jCL]
 exact ML.outA h T.sa (by rw[aN]; exact hj)
theorem MA.doneB (T:Two a b)(h:MA a b out i j)(hi:a.size<=i):yG a b (out++a.extract i a.size++b.extract j b.size):=by
 unfold yG
 rw[bB,bB,jCL,jCL]
 exact ML.outB h T.sb (by rw[aN]; exact hi)
theorem MA.doneL (T:Two a b)(h:MA a b out i j)(hi:i+1=a.size):yG a b (out++b.extract j b.size++a.extract i a.size):=by
 unfold yG
 rw[bB,bB,jCL,jCL]
 refine ML.last h T.sa T.sb λx hx y hy=>?_
 obtain⟨n,h1,h2⟩:=jD3 hy
 have:n=a.size - 1:=by
  have:=(ax.mp h2).1
  rw[aN] at this
  lia
 subst this
 exact cN (T.last x hx y h2)
theorem MA.pushB (T:Two a b)(h:MA a b out i j){p q:Keyed}(hp:b[j]?=some p)(hc:∀y∈a.toList.drop i,LE p y):MA a b (out.push p) i (j+1):=by
 have:=ML.takeB h T.sb 1 (by
  rw[jAE (at_list.mp hp)]
  intro x hx
  rw[ak.mp hx]
  exact hc)
 rw[jAE (at_list.mp hp)] at this
 unfold MA
 rw[eB]
 exact this
theorem MA.pushA (T:Two a b)(h:MA a b out i j){p q:Keyed}(hp:a[i]?=some p)(hc:∀y∈b.toList.drop j,LE p y):MA a b (out.push p) (i+1) j:=by
 have:=ML.takeA h T.sa 1 (by
  rw[jAE (at_list.mp hp)]
  intro x hx
  rw[ak.mp hx]
  exact hc)
 rw[jAE (at_list.mp hp)] at this
 unfold MA
 rw[eB]
 exact this
theorem MA.appA (T:Two a b)(h:MA a b out i j)(k:Nat)(hc:∀n x,i<=n->n<i+k->a.toList[n]?=some x->∀y∈b.toList.drop j,LE x y):MA a b (out++a.extract i (i+k)) (i+k) j:=by
 unfold MA
 rw[bB,ext_k]
 exact ML.takeA h T.sa k λx hx y hy=>by
  obtain⟨n,h1,h2,h3⟩:=jA6 hx
  exact hc n x h1 h2 h3 y hy
theorem MA.appB (T:Two a b)(h:MA a b out i j)(k:Nat)(hc:∀n x,j<=n->n<j+k->b.toList[n]?=some x->∀y∈a.toList.drop i,LE x y):MA a b (out++b.extract j (j+k)) i (j+k):=by
 unfold MA
 rw[bB,ext_k]
 exact ML.takeB h T.sb k λx hx y hy=>by
  obtain⟨n,h1,h2,h3⟩:=jA6 hx
  exact hc n x h1 h2 h3 y hy
theorem Two.atA (T:Two a b)(h:i<a.size):∃p,a[i]?=some p/\IsI p:=by
 obtain⟨p,h1,h2⟩:=qD h
 exact⟨p,h1,T.ia p (aE h2)⟩
theorem Two.atB (T:Two a b)(h:i<b.size):∃p,b[i]?=some p/\IsI p:=by
 obtain⟨p,h1,h2⟩:=qD h
 exact⟨p,h1,T.ib p (aE h2)⟩
theorem jF6 (s:Srt a.toList){p q:Keyed}(hp:a[i]?=some p)(h:LE q p):∀y∈a.toList.drop i,LE q y:=λy hy=>by
 obtain⟨n,h1,h2⟩:=jD3 hy
 exact df h (jE6 s (at_list.mp hp) h2 h1)
end
section
variable {prog:Program}{w:World}{A:Around}{E:Value->Shared->Prop}{s:Shared} [LtOk prog w A s]
theorem jSP {st:SortSt}{a:Array Keyed}{i:Nat}{p:Keyed}{Q:Option Nat->SortSt->Prop}(hk:kindOf st=Od.kd)(hp:IsI p)(ha:AllI a.toList)(sa:Srt a.toList)(hi:i<a.size)
  (h:∀k,i+k<=a.size->(∀n x,i<=n->n<i+k->a.toList[n]?=some x->LE x p)->(∀n x,i+k<=n->a.toList[n]?=some x->key p<key x)->Q (some k) st):
  wpS (model prog w) A E s (jBM false p a i (a.size - i) 0) Q st:=by
 refine jB6 hk hp (λn hn=>?_) (by lia) (λn=>match a[i+n]? with | some x=>!decide (key p<key x) | none=>false) (λn x hn hx=>?_) (λn m hnm hm hb=>?_) λk hk1 hk2 hk3=>h k (by lia) (λn x h1 h2 h3=>?_) λn x h1 h2=>?_
 ·obtain⟨q,q1,q2⟩:=qD (a:=a) (i:=i+n) (by lia)
  exact⟨q,q1,ha q (aE q2)⟩
 ·rw[hx,aj aA]
 ·obtain⟨x,x1,x2⟩:=qD (a:=a) (i:=i+n) (by lia)
  obtain⟨y,y1,y2⟩:=qD (a:=a) (i:=i+m) (by lia)
  rw[y1] at hb
  rw[x1]
  have:=jE6 sa x2 y2 (by lia)
  have hb:¬key p<key y:=by simpa using hb
  show (!decide (key p<key x))=true
  rw[gJ,eW]
  have:key x<=key y:=this
  lia
 ·have:=hk2 (n - i) (by lia)
  rw[show i+(n - i)=n by lia,at_list.mpr h3] at this
  have this:¬key p<key x:=by simpa using this
  show key x<=key p
  lia
 ·have hn:=(ax.mp h2).1
  rw[aN] at hn
  have:=hk3 (n - i) (by lia) (by lia)
  rw[show i+(n - i)=n by lia,at_list.mpr h2] at this
  simpa using this
theorem jSQ {st:SortSt}{a:Array Keyed}{i:Nat}{p:Keyed}{Q:Option Nat->SortSt->Prop}(hk:kindOf st=Od.kd)(hp:IsI p)(ha:AllI a.toList)(sa:Srt a.toList)(hi:i<a.size)
  (h:∀k,i+k<=a.size->(∀n x,i<=n->n<i+k->a.toList[n]?=some x->key x<key p)->(∀n x,i+k<=n->a.toList[n]?=some x->LE p x)->Q (some k) st):
  wpS (model prog w) A E s (jBM true p a i (a.size - i) 0) Q st:=by
 refine jB6 hk hp (λn hn=>?_) (by lia) (λn=>match a[i+n]? with | some x=>decide (key x<key p) | none=>false) (λn x hn hx=>?_) (λn m hnm hm hb=>?_) λk hk1 hk2 hk3=>h k (by lia) (λn x h1 h2 h3=>?_) λn x h1 h2=>?_
 ·obtain⟨q,q1,q2⟩:=qD (a:=a) (i:=i+n) (by lia)
  exact⟨q,q1,ha q (aE q2)⟩
 ·rw[hx,am rfl]
 ·obtain⟨x,x1,x2⟩:=qD (a:=a) (i:=i+n) (by lia)
  obtain⟨y,y1,y2⟩:=qD (a:=a) (i:=i+m) (by lia)
  rw[y1] at hb
  rw[x1]
  have:=jE6 sa x2 y2 (by lia)
  have hb:key y<key p:=aU hb
  show decide (key x<key p)=true
  rw[cb]
  have:key x<=key y:=this
  lia
 ·have:=hk2 (n - i) (by lia)
  rw[show i+(n - i)=n by lia,at_list.mpr h3] at this
  exact aU this
 ·have hn:=(ax.mp h2).1
  rw[aN] at hn
  have:=hk3 (n - i) (by lia) (by lia)
  rw[show i+(n - i)=n by lia,at_list.mpr h2] at this
  have this:¬key x<key p:=dZ this
  show key p<=key x
  lia
end
section
variable {prog:Program}{w:World}{A:Around}{E:Value->Shared->Prop}{s:Shared} [LtOk prog w A s]
theorem bp {a b:Nat}(h:a=b):(a==b)=true:=cU.mpr h
theorem bn {a b:Nat}(h:¬a=b):¬(a==b)=true:=λz=>h (cU.mp z)
structure LoI (a b:Array Keyed)(st:SortSt)(out:Array Keyed)(ia ib:Nat)(st':SortSt):Prop where
 m:MA a b out ia ib
 i:ia+1<a.size
 j:ib<b.size
 s:SG st st'
theorem jHC {a b:Array Keyed}{st:SortSt}{Q:Array Keyed->SortSt->Prop}(hk:kindOf st=Od.kd)(T:Two a b)(h:∀r st',yG a b r->SG st st'->Q r st'):wpS (model prog w) A E s (jF1 a b) Q st:=by
 rw[mergeLoB.2]
 delta mergeLoB
 dsimp only
 simp only [elP,ltP,jI5,jLE]
 have na:=T.na
 have nb:=T.nb
 refine aI (ig (cP ⟨rfl,?_⟩))
 obtain⟨p0,hp0,ip0⟩:=T.atB nb
 refine aI (jN hp0 ?_)
 have M0:MA a b #[p0] 0 1:=by
  have z:MA a b #[] 0 0:=⟨by show (([]:List Keyed)++(a.toList.drop 0++b.toList.drop 0)).Perm _; rw[lw,i4,i4],List.Pairwise.nil,λx hx=>by cases hx⟩
  have:=MA.pushB (q:=p0) T z hp0 λy hy=>cN (T.first y (cV hy) p0 (at_list.mp hp0))
  exact this
 by_cases e1:1=b.size
 ·rw[am (bp e1)]
  exact aM (h _ _ (MA.doneA T M0 (by lia)) (SG.refl _))
 rw[aj (bn e1)]
 by_cases e2:0+1=a.size
 ·rw[am (bp e2)]
  exact aM (h _ _ (MA.doneL T M0 e2) (SG.refl _))
 rw[aj (bn e2)]
 refine aI (gL ?_)
 refine aI (dH (b0 (I:=λx c st'=>∃out ia ib mg,c=(none,out,ia,ib,mg)/\LoI a b st out ia ib st'/\x+1<=ia+ib)
  (Q:=λc st'=>∃r,c.1=some r/\yG a b r/\SG st st') ?step ?fin ⟨_,0,1,_,rfl,⟨M0,by lia,by lia,SG.refl _⟩,by lia⟩) ?post)
 case post=>
  rintro ⟨r0,c⟩ st' ⟨r,hr,d,g⟩
  have hr:r0=some r:=hr
  subst hr
  exact aM (h r st' d g)
 case fin=>
  rintro c st' ⟨out,ia,ib,mg,rfl,I0,hx⟩
  have:=I0.i
  have:=I0.j
  lia
 case step=>
  rintro x c st1 _ hx ⟨out,ia,ib,mg,rfl,I0,hxx⟩
  dsimp only
  refine aI (dH (b0 (I:=λy c st'=>∃out' ia' ib' ac bc,c=(none,out',ia',ib',ac,bc)/\LoI a b st out' ia' ib' st'/\ia+ib<=ia'+ib'/\(y=0\/ia+ib<ia'+ib'))
   (Q:=λc st'=>(∃r,c.1=some r/\yG a b r/\SG st st')\/∃out' ia' ib' ac bc,c=(none,out',ia',ib',ac,bc)/\LoI a b st out' ia' ib' st'/\ia+ib<ia'+ib') ?step1 ?fin1 ⟨_,_,_,_,_,rfl,I0,by lia, .inl rfl⟩) ?post1)
  case fin1=>
   rintro c st' ⟨out',ia',ib',ac,bc,rfl,I1,h1,h2⟩
   exact .inr ⟨_,_,_,_,_,rfl,I1,by lia⟩
  case step1=>
   rintro y c st2 _ hy ⟨out',ia',ib',ac,bc,rfl,I1,h1,h2⟩
   dsimp only
   obtain⟨pb,hpb,ipb⟩:=T.atB I1.j
   obtain⟨pa,hpa,ipa⟩:=T.atA (i:=ia') (by have:=I1.i; lia)
   have ii:=I1.i
   have jj:=I1.j
   refine aI (jN hpb (aI (jN hpa (aI (jFN (I1.s.k.trans hk) ipb ipa ?_)))))
   dsimp only
   by_cases hlt:key pb<key pa
   ·rw[aB hlt,am rfl]
    refine aI (jN hpb ?_)
    have M2:=MA.pushB (q:=pb) T I1.m hpb (jF6 T.sa hpa (cN hlt))
    by_cases f1:ib'+1=b.size
    ·rw[am (bp f1)]
     exact aM (.inl ⟨_,rfl,MA.doneA T M2 (by lia),I1.s⟩)
    rw[aj (bn f1)]
    split
    ·exact aM (.inr ⟨_,_,_,_,_,rfl,⟨M2,ii,by lia,I1.s⟩,by lia⟩)
    ·exact aM ⟨_,_,_,_,_,rfl,⟨M2,ii,by lia,I1.s⟩,by lia, .inr (by lia)⟩
   ·rw[aV hlt,aj aA]
    refine aI (jN hpa ?_)
    have M2:=MA.pushA (q:=pa) T I1.m hpa (jF6 T.sb hpb (by show key pa<=key pb; lia))
    by_cases f1:ia'+1+1=a.size
    ·rw[am (bp f1)]
     exact aM (.inl ⟨_,rfl,MA.doneL T M2 f1,I1.s⟩)
    rw[aj (bn f1)]
    split
    ·exact aM (.inr ⟨_,_,_,_,_,rfl,⟨M2,by lia,jj,I1.s⟩,by lia⟩)
    ·exact aM ⟨_,_,_,_,_,rfl,⟨M2,by lia,jj,I1.s⟩,by lia, .inr (by lia)⟩
  case post1=>
   rintro c st2 (⟨r,hr,d,g⟩ | ⟨out1,ia1,ib1,ac,bc,rfl,I1,h1⟩)
   ·obtain⟨r0,c⟩:=c
    have hr:r0=some r:=hr
    subst hr
    exact aM ⟨r,rfl,d,g⟩
   dsimp only
   refine aI (ig (cP ⟨rfl,?_⟩))
   refine aI (dH (b0 (I:=λy c st'=>∃out' ia' ib' mg' ac bc,c=(none,out',ia',ib',mg',ac,bc)/\LoI a b st out' ia' ib' st'/\ia+ib<ia'+ib')
    (Q:=λc st'=>(∃r,c.1=some r/\yG a b r/\SG st st')\/∃out' ia' ib' mg' ac bc,c=(none,out',ia',ib',mg',ac,bc)/\LoI a b st out' ia' ib' st'/\ia+ib<ia'+ib') ?step2 ?fin2 ⟨_,_,_,_,_,_,rfl,I1,h1⟩) ?post2)
   case fin2=>
    rintro c st' ⟨out',ia',ib',mg',ac,bc,rfl,I2,h2⟩
    exact .inr ⟨_,_,_,_,_,_,rfl,I2,h2⟩
   case post2=>
    rintro c st3 (⟨r,hr,d,g⟩ | ⟨out2,ia2,ib2,mg2,ac,bc,rfl,I2,h2⟩)
    ·obtain⟨r0,c⟩:=c
     have hr:r0=some r:=hr
     subst hr
     exact aM ⟨r,rfl,d,g⟩
    dsimp only
    rw[jA2]
    exact aI (fb (aM ⟨_,_,_,_,rfl,⟨I2.m,I2.i,I2.j,I2.s.gal _⟩,by lia⟩))
   case step2=>
    clear I0 I1
    rintro y c st2 _ hy ⟨out,ia,ib,mg',ac,bc,rfl,I0,h2⟩
    dsimp only
    obtain⟨pb,hpb,ipb⟩:=T.atB I0.j
    by_cases hg:mg'>1
    case' pos=>
     rw[am hg]
     generalize hgg:mg' - 1=gg
    case' neg=>
     rw[aj hg]
     generalize hgg:mg'=gg
    all_goals
     rw[jA2]
     refine aI (fb ?_)
     have G1:=I0.s.gal gg
     refine aI (jN hpb ?_)
     refine aI (jSP (G1.k.trans hk) ipb T.ia T.sa (by have:=I0.i; lia) λk1 g1 g2 g3=>?_)
     dsimp only
     have M1:=MA.appA T I0.m k1 (λn x h1 h2 h3=>jF6 T.sb hpb (g2 n x h1 h2 h3))
     have hgt:∀y∈a.toList.drop (ia+k1),LE pb y:=λy hy=>by
      obtain⟨n,h1,h2⟩:=jD3 hy
      exact cN (g3 n y h1 h2)
     have jb:=I0.j
     by_cases e0:k1>0
     case' pos=>
      rw[am e0]
      by_cases f1:ia+k1+1=a.size
      ·rw[am (bp f1)]
       exact aM (.inl ⟨_,rfl,MA.doneL T M1 f1,G1⟩)
      rw[aj (bn f1)]
      by_cases f2:ia+k1=a.size
      ·rw[am (bp f2)]
       exact aM (.inl ⟨_,rfl,MA.doneB T M1 (by lia),G1⟩)
      rw[aj (bn f2)]
      obtain⟨pa,hpa,ipa⟩:=T.atA (i:=ia+k1) (by lia)
      have hz:ia+k1<a.size:=by lia
      generalize hiz:ia+k1=iz at*
     case' neg=>
      rw[aj e0]
      have e0':k1=0:=by lia
      subst e0'
      have M1:=I0.m
      obtain⟨pa,hpa,ipa⟩:=T.atA (i:=ia) (by have:=I0.i; lia)
      have hz:ia<a.size:=by have:=I0.i; lia
      rw[eZ] at hgt
      have hia:=I0.i
      generalize hiz:ia=iz at*
     all_goals
      refine aI (jN hpb ?_)
      have M2:=MA.pushB (q:=pb) T M1 hpb hgt
      by_cases e1:ib+1=b.size
      ·rw[am (bp e1)]
       exact aM (.inl ⟨_,rfl,MA.doneA T M2 (by lia),G1⟩)
      rw[aj (bn e1)]
      refine aI (jN hpa ?_)
      refine aI (jSQ (G1.k.trans hk) ipa T.ib T.sb (by lia) λk2 l1 l2 l3=>?_)
      dsimp only
      have M3:=MA.appB T M2 k2 (λn x h1 h2 h3=>jF6 T.sa hpa (cN (l2 n x h1 h2 h3)))
      have fin3:∀y∈b.toList.drop (ib+1+k2),LE pa y:=λy hy=>by
       obtain⟨n,h1,h2⟩:=jD3 hy
       exact l3 n y h1 h2
      by_cases e2:k2>0
      ·rw[am e2]
       by_cases e3:ib+1+k2=b.size
       ·rw[am (bp e3)]
        exact aM (.inl ⟨_,rfl,MA.doneA T M3 (by lia),G1⟩)
       rw[aj (bn e3)]
       refine aI (jN hpa ?_)
       have M4:=MA.pushA (q:=pa) T M3 hpa fin3
       by_cases e4:iz+1+1=a.size
       ·rw[am (bp e4)]
        exact aM (.inl ⟨_,rfl,MA.doneL T M4 e4,G1⟩)
       rw[aj (bn e4)]
       split
       ·exact aM (.inr ⟨_,_,_,_,_,_,rfl,⟨M4,by lia,by lia,G1⟩,by lia⟩)
       ·exact aM ⟨_,_,_,_,_,_,rfl,⟨M4,by lia,by lia,G1⟩,by lia⟩
      ·rw[aj e2]
       have e0:k2=0:=by lia
       subst e0
       refine aI (jN hpa ?_)
       have M4:=MA.pushA (q:=pa) T M2 hpa fin3
       by_cases e4:iz+1+1=a.size
       ·rw[am (bp e4)]
        exact aM (.inl ⟨_,rfl,MA.doneL T M4 e4,G1⟩)
       rw[aj (bn e4)]
       split
       ·exact aM (.inr ⟨_,_,_,_,_,_,rfl,⟨M4,by lia,by lia,G1⟩,by lia⟩)
       ·exact aM ⟨_,_,_,_,_,_,rfl,⟨M4,by lia,by lia,G1⟩,by lia⟩
end
structure MHL (tot xa xb o:List Keyed):Prop where
 perm:(xa++xb++o).Perm tot
 srt:Srt o
 le:∀x∈o,∀y∈xa++xb,LE y x
theorem MHL.takeA {tot u v xb o:List Keyed}(h:MHL tot (u++v) xb o)(s:Srt (u++v))(hc:∀x∈v,∀y∈xb,LE y x):MHL tot u xb (v++o):=by
 have sp:=bO.mp s
 refine⟨?_,yO sp.2.1 h.srt λx hx y hy=>h.le y hy x (aQ _ (az _ hx)),λx hx y hy=>?_⟩
 ·refine List.Perm.trans ?_ h.perm
  rw[aZ,aZ,aZ]
  refine dv u ?_
  rw[<- aZ,<- aZ]
  exact gM o ed
 ·rcases aL.mp hx with q | q
  ·rcases aL.mp hy with z | z
   ·exact sp.2.2 y z x q
   ·exact hc x q y z
  ·refine h.le x q y ?_
   rcases aL.mp hy with z | z
   ·exact aQ _ (aQ _ z)
   ·exact az _ z
theorem MHL.takeB {tot u v xa o:List Keyed}(h:MHL tot xa (u++v) o)(s:Srt (u++v))(hc:∀x∈v,∀y∈xa,LE y x):MHL tot xa u (v++o):=by
 have sp:=bO.mp s
 refine⟨?_,yO sp.2.1 h.srt λx hx y hy=>h.le y hy x (az _ (az _ hx)),λx hx y hy=>?_⟩
 ·refine List.Perm.trans (gt ?_) h.perm
  simp only [aZ]
 ·rcases aL.mp hx with q | q
  ·rcases aL.mp hy with z | z
   ·exact hc x q y z
   ·exact sp.2.2 y z x q
  ·refine h.le x q y ?_
   rcases aL.mp hy with z | z
   ·exact aQ _ z
   ·exact az _ (aQ _ z)
theorem MHL.out {tot xa xb o:List Keyed}(h:MHL tot xa xb o)(s:Srt (xa++xb)):(xa++xb++o).Perm tot/\Srt (xa++xb++o):=
 ⟨h.perm,yO s h.srt λx hx y hy=>h.le y hy x hx⟩
theorem MHL.outF {tot xa xb o:List Keyed}(h:MHL tot xa xb o)(s:Srt (xb++xa)):(xb++xa++o).Perm tot/\Srt (xb++xa++o):=
 ⟨(gM o ed).trans h.perm,yO s h.srt λx hx y hy=>h.le y hy x (by
  rcases aL.mp hx with z | z
  ·exact az _ z
  ·exact aQ _ z)⟩
theorem jII {l:List Keyed}{n:Nat}{p:Keyed}(hn:0<n)(h:l[n - 1]?=some p):l.take n=l.take (n - 1)++[p]:=by
 obtain⟨m,rfl⟩:∃m,n=m+1:=⟨n - 1,by lia⟩
 rw[Nat.add_sub_cancel] at h ⊢
 rw[List.take_succ,h]
 rfl
theorem jIH {l:List Keyed}{k n:Nat}(hk:k<=n):l.take n=l.take k++(l.drop k).take (n - k):=by
 obtain⟨m,rfl⟩:∃m,n=k+m:=⟨n - k,by lia⟩
 rw[cY,List.take_add]
theorem jAN {a:Array Keyed}{k n:Nat} :(a.extract k n).toList=(a.toList.drop k).take (n - k):=by
 rw[fo,eg]
theorem jBB {a:Array Keyed}{n:Nat} :(a.extract 0 n).toList=a.toList.take n:=by
 rw[jAN,i4,mE]
abbrev MH (a b out:Array Keyed)(na nb:Nat):Prop:=MHL (a.toList++b.toList) (a.toList.take na) (b.toList.take nb) out.toList.reverse
theorem jD2 {l:List Keyed}{n:Nat}{y:Keyed}(h:y∈l.take n):∃j,j<n/\l[j]?=some y:=by
 obtain⟨k,hk⟩:=bw h
 have hlt:k<n:=by
  have:=(ax.mp hk).1
  rw[bM] at this
  lia
 rw[cx hlt] at hk
 exact⟨k,hlt,hk⟩
section
variable {out:Array Keyed}{k:Nat}
theorem jD0 (s:Srt a.toList){p q:Keyed}(hp:a[i - 1]?=some p)(h:LE p q):∀y∈a.toList.take i,LE y q:=λy hy=>by
 obtain⟨n,h1,h2⟩:=jD2 hy
 exact df (jE6 s h2 (at_list.mp hp) (by lia)) h
theorem MH.pushA (T:Two a b)(h:MH a b out i j){p:Keyed}(hi:0<i)(hp:a[i - 1]?=some p)(hc:∀y∈b.toList.take j,LE y p):MH a b (out.push p) (i - 1) j:=by
 have e:=jII hi (at_list.mp hp)
 have s:=T.sa.take i
 unfold MH at h ⊢
 rw[e] at h s
 rw[eB,gh]
 exact h.takeA s λx hx=>by rw[ak.mp hx]; exact hc
theorem MH.pushB (T:Two a b)(h:MH a b out i j){p:Keyed}(hj:0<j)(hp:b[j - 1]?=some p)(hc:∀y∈a.toList.take i,LE y p):MH a b (out.push p) i (j - 1):=by
 have e:=jII hj (at_list.mp hp)
 have s:=T.sb.take j
 unfold MH at h ⊢
 rw[e] at h s
 rw[eB,gh]
 exact h.takeB s λx hx=>by rw[ak.mp hx]; exact hc
theorem MH.appA (T:Two a b)(h:MH a b out i j)(hk:k<=i)(hc:∀n x,k<=n->n<i->a.toList[n]?=some x->∀y∈b.toList.take j,LE y x):MH a b (out++(a.extract k i).reverse) k j:=by
 have e:=jIH (l:=a.toList) hk
 have s:=T.sa.take i
 unfold MH at h ⊢
 rw[e] at h s
 rw[bB,dI,gh,ma,jAN]
 exact h.takeA s λx hx y hy=>by
  obtain⟨n,h1,h2,h3⟩:=jA6 hx
  exact hc n x h1 (by lia) h3 y hy
theorem MH.appB (T:Two a b)(h:MH a b out i j)(hk:k<=j)(hc:∀n x,k<=n->n<j->b.toList[n]?=some x->∀y∈a.toList.take i,LE y x):MH a b (out++(b.extract k j).reverse) i k:=by
 have e:=jIH (l:=b.toList) hk
 have s:=T.sb.take j
 unfold MH at h ⊢
 rw[e] at h s
 rw[bB,dI,gh,ma,jAN]
 exact h.takeB s λx hx y hy=>by
  obtain⟨n,h1,h2,h3⟩:=jA6 hx
  exact hc n x h1 (by lia) h3 y hy
theorem MH.doneA (T:Two a b)(h:MH a b out 0 j):yG a b (a.extract 0 0++b.extract 0 j++out.reverse):=by
 unfold yG
 rw[bB,bB,jBB,jBB,dI]
 exact h.out (by rw[mf]; exact T.sb.take j)
theorem MH.doneB (T:Two a b)(h:MH a b out i 0):yG a b (a.extract 0 i++b.extract 0 0++out.reverse):=by
 unfold yG
 rw[bB,bB,jBB,jBB,dI]
 exact h.out (by rw[mf,bg]; exact T.sa.take i)
theorem MH.doneF (T:Two a b)(h:MH a b out i 1):yG a b (b.extract 0 1++a.extract 0 i++out.reverse):=by
 unfold yG
 rw[bB,bB,jBB,jBB,dI]
 refine h.outF (yO (T.sb.take 1) (T.sa.take i) λx hx y hy=>?_)
 obtain⟨n,h1,h2⟩:=jD2 hx
 have:n=0:=by lia
 subst this
 exact cN (T.first y (bU hy) x h2)
end
section
variable {prog:Program}{w:World}{A:Around}{E:Value->Shared->Prop}{s:Shared} [LtOk prog w A s]
theorem jJB {st:SortSt}{a:Array Keyed}{i len hint:Nat}{p:Keyed}{Q:Option Nat->SortSt->Prop}(hk:kindOf st=Od.kd)(hp:IsI p)(ha:AllI a.toList)
  (sa:∀n m x y,i<=n->n<=m->m<i+len->a[n]?=some x->a[m]?=some y->LE x y) (hh:hint<len) (hl:i+len<=a.size)
  (h:∀k,k<=len->(∀n x,i<=n->n<i+k->a[n]?=some x->LE x p)->(∀n x,i+k<=n->n<i+len->a[n]?=some x->key p<key x)->Q (some k) st):
  wpS (model prog w) A E s (jBM false p a i len hint) Q st:=by
 refine jB6 hk hp (λn hn=>?_) hh (λn=>match a[i+n]? with | some x=>!decide (key p<key x) | none=>false) (λn x hn hx=>?_) (λn m hnm hm hb=>?_) λk hk1 hk2 hk3=>h k (by lia) (λn x h1 h2 h3=>?_) λn x h1 h2 h3=>?_
 ·obtain⟨q,q1,q2⟩:=qD (a:=a) (i:=i+n) (by lia)
  exact⟨q,q1,ha q (aE q2)⟩
 ·rw[hx,aj aA]
 ·obtain⟨x,x1,x2⟩:=qD (a:=a) (i:=i+n) (by lia)
  obtain⟨y,y1,y2⟩:=qD (a:=a) (i:=i+m) (by lia)
  rw[y1] at hb
  rw[x1]
  have:=sa (i+n) (i+m) x y (by lia) (by lia) (by lia) x1 y1
  have hb:¬key p<key y:=by simpa using hb
  show (!decide (key p<key x))=true
  rw[gJ,eW]
  have:key x<=key y:=this
  lia
 ·have:=hk2 (n - i) (by lia)
  rw[show i+(n - i)=n by lia,h3] at this
  have this:¬key p<key x:=by simpa using this
  show key x<=key p
  lia
 ·have:=hk3 (n - i) (by lia) (by lia)
  rw[show i+(n - i)=n by lia,h3] at this
  simpa using this
theorem jJC {st:SortSt}{a:Array Keyed}{i len hint:Nat}{p:Keyed}{Q:Option Nat->SortSt->Prop}(hk:kindOf st=Od.kd)(hp:IsI p)(ha:AllI a.toList)
  (sa:∀n m x y,i<=n->n<=m->m<i+len->a[n]?=some x->a[m]?=some y->LE x y) (hh:hint<len) (hl:i+len<=a.size)
  (h:∀k,k<=len->(∀n x,i<=n->n<i+k->a[n]?=some x->key x<key p)->(∀n x,i+k<=n->n<i+len->a[n]?=some x->LE p x)->Q (some k) st):
  wpS (model prog w) A E s (jBM true p a i len hint) Q st:=by
 refine jB6 hk hp (λn hn=>?_) hh (λn=>match a[i+n]? with | some x=>decide (key x<key p) | none=>false) (λn x hn hx=>?_) (λn m hnm hm hb=>?_) λk hk1 hk2 hk3=>h k (by lia) (λn x h1 h2 h3=>?_) λn x h1 h2 h3=>?_
 ·obtain⟨q,q1,q2⟩:=qD (a:=a) (i:=i+n) (by lia)
  exact⟨q,q1,ha q (aE q2)⟩
 ·rw[hx,am rfl]
 ·obtain⟨x,x1,x2⟩:=qD (a:=a) (i:=i+n) (by lia)
  obtain⟨y,y1,y2⟩:=qD (a:=a) (i:=i+m) (by lia)
  rw[y1] at hb
  rw[x1]
  have:=sa (i+n) (i+m) x y (by lia) (by lia) (by lia) x1 y1
  have hb:key y<key p:=aU hb
  show decide (key x<key p)=true
  rw[cb]
  have:key x<=key y:=this
  lia
 ·have:=hk2 (n - i) (by lia)
  rw[show i+(n - i)=n by lia,h3] at this
  exact aU this
 ·have:=hk3 (n - i) (by lia) (by lia)
  rw[show i+(n - i)=n by lia,h3] at this
  have this:¬key x<key p:=dZ this
  show key p<=key x
  lia
end
section
variable {prog:Program}{w:World}{A:Around}{E:Value->Shared->Prop}{s:Shared} [LtOk prog w A s]
structure HiI (a b:Array Keyed)(st:SortSt)(out:Array Keyed)(na nb:Nat)(st':SortSt):Prop where
 m:MH a b out na nb
 i:0<na
 ia:na<=a.size
 j:1<nb
 jb:nb<=b.size
 s:SG st st'
theorem whole {a:Array Keyed}(s:Srt a.toList){len:Nat} :∀n m x y,0<=n->n<=m->m<0+len->a[n]?=some x->a[m]?=some y->LE x y:=λn m x y _ h _ hx hy=>jE6 s (at_list.mp hx) (at_list.mp hy) h
theorem jHD {a b:Array Keyed}{st:SortSt}{Q:Array Keyed->SortSt->Prop}(hk:kindOf st=Od.kd)(T:Two a b)(h:∀r st',yG a b r->SG st st'->Q r st'):wpS (model prog w) A E s (jF2 a b) Q st:=by
 rw[mergeHiB.2]
 delta mergeHiB
 dsimp only
 simp only [elP,ltP,jI5,jLE]
 have na:=T.na
 have nb:=T.nb
 refine aI (ig (cP ⟨rfl,?_⟩))
 obtain⟨p0,hp0,ip0⟩:=T.atA (i:=a.size - 1) (by lia)
 refine aI (jN hp0 ?_)
 have M0:MH a b #[p0] (a.size - 1) b.size:=by
  have z:MH a b #[] a.size b.size:=⟨by
   rw[show a.toList.take a.size=a.toList from bR (by simp),show b.toList.take b.size=b.toList from bR (by simp)]
   show ((a.toList++b.toList)++([]:List Keyed)).Perm _
   rw[bg],List.Pairwise.nil,λx hx=>by cases hx⟩
  have:=MH.pushA T z (by lia) hp0 λy hy=>cN (T.last y (bU hy) p0 (at_list.mp hp0))
  exact this
 by_cases e1:a.size - 1=0
 ·rw[am (bp e1)]
  rw[e1] at M0 ⊢
  exact aM (h _ _ (MH.doneA T M0) (SG.refl _))
 rw[aj (bn e1)]
 by_cases e2:b.size=1
 ·rw[am (bp e2)]
  rw[e2] at M0 ⊢
  exact aM (h _ _ (MH.doneF T M0) (SG.refl _))
 rw[aj (bn e2)]
 refine aI (gL ?_)
 refine aI (dH (b0 (I:=λx c st'=>∃out na nb mg,c=(none,na,nb,out,mg)/\HiI a b st out na nb st'/\x+1<=a.size - na+(b.size - nb))
  (Q:=λc st'=>∃r,c.1=some r/\yG a b r/\SG st st') ?step ?fin ⟨_,_,_,_,rfl,⟨M0,by lia,by lia,by lia,by lia,SG.refl _⟩,by lia⟩) ?post)
 case post=>
  rintro ⟨r0,c⟩ st' ⟨r,hr,d,g⟩
  have hr:r0=some r:=hr
  subst hr
  exact aM (h r st' d g)
 case fin=>
  rintro c st' ⟨out,na,nb,mg,rfl,I0,hx⟩
  have:=I0.i
  have:=I0.j
  lia
 case step=>
  rintro x c st1 _ hx ⟨out,na,nb,mg,rfl,I0,hxx⟩
  dsimp only
  refine aI (dH (b0 (I:=λy c st'=>∃out' na' nb' ac bc,c=(none,na',nb',out',ac,bc)/\HiI a b st out' na' nb' st'/\na'+nb'<=na+nb/\(y=0\/na'+nb'<na+nb))
   (Q:=λc st'=>(∃r,c.1=some r/\yG a b r/\SG st st')\/∃out' na' nb' ac bc,c=(none,na',nb',out',ac,bc)/\HiI a b st out' na' nb' st'/\na'+nb'<na+nb) ?step1 ?fin1 ⟨_,_,_,_,_,rfl,I0,by lia, .inl rfl⟩) ?post1)
  case fin1=>
   rintro c st' ⟨out',na',nb',ac,bc,rfl,I1,h1,h2⟩
   exact .inr ⟨_,_,_,_,_,rfl,I1,by lia⟩
  case step1=>
   rintro y c st2 _ hy ⟨out',na',nb',ac,bc,rfl,I1,h1,h2⟩
   dsimp only
   have i0:=I1.i
   have i1:=I1.ia
   have j0:=I1.j
   have j1:=I1.jb
   obtain⟨pb,hpb,ipb⟩:=T.atB (i:=nb' - 1) (by lia)
   obtain⟨pa,hpa,ipa⟩:=T.atA (i:=na' - 1) (by lia)
   refine aI (jN hpb (aI (jN hpa (aI (jFN (I1.s.k.trans hk) ipb ipa ?_)))))
   dsimp only
   by_cases hlt:key pb<key pa
   ·rw[aB hlt,am rfl]
    refine aI (jN hpa ?_)
    have M2:=MH.pushA T I1.m i0 hpa (jD0 T.sb hpb (cN hlt))
    by_cases f1:na' - 1=0
    ·rw[am (bp f1)]
     rw[f1] at M2 ⊢
     exact aM (.inl ⟨_,rfl,MH.doneA T M2,I1.s⟩)
    rw[aj (bn f1)]
    split
    ·exact aM (.inr ⟨_,_,_,_,_,rfl,⟨M2,by lia,by lia,j0,j1,I1.s⟩,by lia⟩)
    ·exact aM ⟨_,_,_,_,_,rfl,⟨M2,by lia,by lia,j0,j1,I1.s⟩,by lia, .inr (by lia)⟩
   ·rw[aV hlt,aj aA]
    refine aI (jN hpb ?_)
    have M2:=MH.pushB T I1.m (by lia) hpb (jD0 T.sa hpa (by show key pa<=key pb; lia))
    by_cases f1:nb' - 1=1
    ·rw[am (bp f1)]
     rw[f1] at M2 ⊢
     exact aM (.inl ⟨_,rfl,MH.doneF T M2,I1.s⟩)
    rw[aj (bn f1)]
    split
    ·exact aM (.inr ⟨_,_,_,_,_,rfl,⟨M2,i0,i1,by lia,by lia,I1.s⟩,by lia⟩)
    ·exact aM ⟨_,_,_,_,_,rfl,⟨M2,i0,i1,by lia,by lia,I1.s⟩,by lia, .inr (by lia)⟩
  case post1=>
   rintro c st2 (⟨r,hr,d,g⟩ | ⟨out1,na1,nb1,ac,bc,rfl,I1,h1⟩)
   ·obtain⟨r0,c⟩:=c
    have hr:r0=some r:=hr
    subst hr
    exact aM ⟨r,rfl,d,g⟩
   dsimp only
   refine aI (ig (cP ⟨rfl,?_⟩))
   refine aI (dH (b0 (I:=λy c st'=>∃out' na' nb' mg' ac bc,c=(none,na',nb',out',mg',ac,bc)/\HiI a b st out' na' nb' st'/\na'+nb'<na+nb)
    (Q:=λc st'=>(∃r,c.1=some r/\yG a b r/\SG st st')\/∃out' na' nb' mg' ac bc,c=(none,na',nb',out',mg',ac,bc)/\HiI a b st out' na' nb' st'/\na'+nb'<na+nb) ?step2 ?fin2 ⟨_,_,_,_,_,_,rfl,I1,h1⟩) ?post2)
   case fin2=>
    rintro c st' ⟨out',na',nb',mg',ac,bc,rfl,I2,h2⟩
    exact .inr ⟨_,_,_,_,_,_,rfl,I2,h2⟩
   case post2=>
    have q1:=I0.ia
    have q2:=I0.jb
    rintro c st3 (⟨r,hr,d,g⟩ | ⟨out2,na2,nb2,mg2,ac,bc,rfl,I2,h2⟩)
    ·obtain⟨r0,c⟩:=c
     have hr:r0=some r:=hr
     subst hr
     exact aM ⟨r,rfl,d,g⟩
    dsimp only
    rw[jA2]
    have q3:=I2.ia
    have q4:=I2.jb
    exact aI (fb (aM ⟨_,_,_,_,rfl,⟨I2.m,I2.i,I2.ia,I2.j,I2.jb,I2.s.gal _⟩,by lia⟩))
   case step2=>
    clear I0 I1
    rename_i na00 nb00
    generalize hbd:na+nb=bd
    clear hxx h1
    rintro y c st2 _ hy ⟨out,na,nb,mg',ac,bc,rfl,I0,h2⟩
    dsimp only
    obtain⟨pb,hpb,ipb⟩:=T.atB (i:=nb - 1) (by have:=I0.j; have:=I0.jb; lia)
    by_cases hg:mg'>1
    case' pos=>
     rw[am hg]
     generalize hgg:mg' - 1=gg
    case' neg=>
     rw[aj hg]
     generalize hgg:mg'=gg
    all_goals
     rw[jA2]
     refine aI (fb ?_)
     have G1:=I0.s.gal gg
     have na0:=I0.i
     have na1:=I0.ia
     have nb0:=I0.j
     have nb1:=I0.jb
     refine aI (jN hpb ?_)
     refine aI (jJB (G1.k.trans hk) ipb T.ia (whole T.sa) (by lia) (by lia) λk1 g1 g2 g3=>?_)
     dsimp only
     have M1:=MH.appA T I0.m g1 (λn x h1 h2 h3=>jD0 T.sb hpb (cN (g3 n x (by lia) (by lia) (at_list.mpr h3))))
     have hle:∀y∈a.toList.take k1,LE y pb:=λy hy=>by
      obtain⟨n,h1,h2⟩:=jD2 hy
      exact g2 n y (by lia) (by lia) (at_list.mpr h2)
     by_cases e0:na - k1>0
     case' pos=>
      rw[am e0]
      by_cases f1:k1=0
      ·rw[am (bp f1)]
       rw[f1] at M1 ⊢
       exact aM (.inl ⟨_,rfl,MH.doneA T M1,G1⟩)
      rw[aj (bn f1)]
      obtain⟨pa,hpa,ipa⟩:=T.atA (i:=k1 - 1) (by lia)
      have hz:0<k1:=by lia
      generalize hiz:k1=iz at*
     case' neg=>
      rw[aj e0]
      have e0':k1=na:=by lia
      subst e0'
      have M1:=I0.m
      obtain⟨pa,hpa,ipa⟩:=T.atA (i:=k1 - 1) (by lia)
      have hz:0<k1:=by lia
      generalize hiz:k1=iz at*
     all_goals
      refine aI (jN hpb ?_)
      have M2:=MH.pushB T M1 (by lia) hpb hle
      by_cases e1:nb - 1=1
      ·rw[am (bp e1)]
       rw[e1] at M2 ⊢
       exact aM (.inl ⟨_,rfl,MH.doneF T M2,G1⟩)
      rw[aj (bn e1)]
      refine aI (jN hpa ?_)
      refine aI (jJC (G1.k.trans hk) ipa T.ib (whole T.sb) (by lia) (by lia) λk2 l1 l2 l3=>?_)
      dsimp only
      have M3:=MH.appB T M2 l1 (λn x h1 h2 h3=>jD0 T.sa hpa (l3 n x (by lia) (by lia) (at_list.mpr h3)))
      have fin3:∀y∈b.toList.take k2,LE y pa:=λy hy=>by
       obtain⟨n,h1,h2⟩:=jD2 hy
       exact cN (l2 n y (by lia) (by lia) (at_list.mpr h2))
      by_cases e2:nb - 1 - k2>0
      ·rw[am e2]
       by_cases e3:k2=1
       ·rw[am (bp e3)]
        rw[e3] at M3 ⊢
        exact aM (.inl ⟨_,rfl,MH.doneF T M3,G1⟩)
       rw[aj (bn e3)]
       by_cases e5:k2=0
       ·rw[am (bp e5)]
        rw[e5] at M3 ⊢
        exact aM (.inl ⟨_,rfl,MH.doneB T M3,G1⟩)
       rw[aj (bn e5)]
       refine aI (jN hpa ?_)
       have M4:=MH.pushA T M3 hz hpa fin3
       by_cases e4:iz - 1=0
       ·rw[am (bp e4)]
        rw[e4] at M4 ⊢
        exact aM (.inl ⟨_,rfl,MH.doneA T M4,G1⟩)
       rw[aj (bn e4)]
       split
       ·exact aM (.inr ⟨_,_,_,_,_,_,rfl,⟨M4,by lia,by lia,by lia,by lia,G1⟩,by lia⟩)
       ·exact aM ⟨_,_,_,_,_,_,rfl,⟨M4,by lia,by lia,by lia,by lia,G1⟩,by lia⟩
      ·rw[aj e2]
       have e0:k2=nb - 1:=by lia
       subst e0
       refine aI (jN hpa ?_)
       have M4:=MH.pushA T M2 hz hpa fin3
       by_cases e4:iz - 1=0
       ·rw[am (bp e4)]
        rw[e4] at M4 ⊢
        exact aM (.inl ⟨_,rfl,MH.doneA T M4,G1⟩)
       rw[aj (bn e4)]
       split
       ·exact aM (.inr ⟨_,_,_,_,_,_,rfl,⟨M4,by lia,by lia,by lia,by lia,G1⟩,by lia⟩)
       ·exact aM ⟨_,_,_,_,_,_,rfl,⟨M4,by lia,by lia,by lia,by lia,G1⟩,by lia⟩
end
def KI (xs:Array Keyed)(i:Nat):Int:=match xs[i]? with
 | some p=>key p
 | none=>0
def STo (xs:Array Keyed)(k:Nat):Prop:=∀i j,i<=j->j<k->KI xs i<=KI xs j
structure SB (a₀:Array Keyed)(st:SortSt):Prop where
 perm:(arrOf st).Perm a₀
 kind:kindOf st=Od.kd
 failed:failedOf st=none
 pend:pendingOf st=#[]
theorem SB.size {a₀:Array Keyed}{st:SortSt}(h:SB a₀ st):(arrOf st).size=a₀.size:=h.perm.size_eq
theorem jBD {xs ys:Array Keyed}{i j:Nat}(h:xs[i]?=ys[j]?):KI xs i=KI ys j:=by unfold KI; rw[h]
theorem jO2 {xs:Array Keyed}{src d:Nat}(hs:src<xs.size)(hd:d<=src)(k:Nat):
  KI (bubble xs src d) k=if k=src - d then KI xs src else if src - d<k/\k<=src then KI xs (k - 1) else KI xs k:=by
 have e:=getElem?_bubble hs d hd k
 by_cases h1:k=src - d
 ·rw[am h1] at e ⊢; exact jBD e
 ·rw[aj h1] at e ⊢
  by_cases h2:src - d<k/\k<=src
  ·rw[am h2] at e ⊢; exact jBD e
  ·rw[aj h2] at e ⊢; exact jBD e
theorem jC6 {xs:Array Keyed}{i j:Nat}(hj:j<=xs.size)(k:Nat):
  KI (mirror xs i j ((j - i) / 2)) k=if i<=k/\k<j then KI xs (i+j - 1 - k) else KI xs k:=by
 have e:=getElem?_mirror_all (i:=i) hj k
 by_cases h1:i<=k/\k<j
 ·rw[am h1] at e
  rw[am h1]
  exact jBD e
 ·rw[aj h1] at e
  rw[aj h1]
  exact jBD e
theorem jA0 {xs:Array Keyed}{i j:Nat}(hj:j<=xs.size)(heq:∀k,i<=k->k<j->KI xs k=KI xs (j - 1))(k:Nat):
  KI (mirror xs i j ((j - i) / 2)) k=KI xs k:=by
 rw[jC6 hj]
 split
 ·rename_i h
  rw[heq _ (by lia) (by lia),heq k h.1 h.2]
 ·rfl
def Up (xs:Array Keyed)(lo n:Nat):Prop:=∀i j,lo<=i->i<=j->j<lo+n->KI xs i<=KI xs j
def Dn (xs:Array Keyed)(lo n:Nat):Prop:=∀i j,lo<=i->i<=j->j<lo+n->KI xs j<=KI xs i
structure BB (a₀:Array Keyed)(p:Array (Nat×Nat×Nat))(F:Nat->Int)(lo:Nat)(st:SortSt):Prop where
 perm:(arrOf st).Perm a₀
 kind:kindOf st=Od.kd
 failed:failedOf st=none
 pend:pendingOf st=p
 low:∀k,k<lo->KI (arrOf st) k=F k
theorem jQC {a₀ xs:Array Keyed}(hp:xs.Perm a₀)(h0:AllI a₀.toList){i:Nat}(hi:i<a₀.size):∃q,xs[i]?=some q/\IsI q/\key q=KI xs i:=by
 have hi':i<xs.size:=by rw[hp.size_eq]; exact hi
 have hm:xs[i]∈a₀.toList:=(ci.mp hp).mem_iff.mp (by simp)
 have e:xs[i]?=some xs[i]:=iK _ i hi'
 exact⟨xs[i],e,h0 _ hm,by unfold KI; rw[e]⟩
section
variable {prog:Program}{w:World}{A:Around}{E:Value->Shared->Prop}{s:Shared} [LtOk prog w A s]{a₀:Array Keyed}{p:Array (Nat×Nat×Nat)}{F:Nat->Int}{lo:Nat}
theorem BB.sz {st:SortSt}(h:BB a₀ p F lo st):(arrOf st).size=a₀.size:=h.perm.size_eq
theorem BB.arr {st:SortSt}(h:BB a₀ p F lo st){xs:Array Keyed}(hp:xs.Perm (arrOf st))(hl:∀k,k<lo->KI xs k=KI (arrOf st) k):BB a₀ p F lo (setArr st xs):=
 ⟨hp.trans h.perm,h.kind,h.failed,h.pend,λk hk=>(hl k hk).trans (h.low k hk)⟩
theorem jC7 {st:SortSt}{i j:Nat}{Q:Option Bool->SortSt->Prop}(hB:BB a₀ p F lo st)(h0:AllI a₀.toList)(hi:i<a₀.size)(hj:j<a₀.size)
  (h:Q (some (decide (KI (arrOf st) i<KI (arrOf st) j))) st):wpS (model prog w) A E s (ltAt' i j) Q st:=by
 obtain⟨x,e1,i1,k1⟩:=jQC hB.perm h0 hi
 obtain⟨y,e2,i2,k2⟩:=jQC hB.perm h0 hj
 rw[ltAt'_eq]
 refine aI (gL ?_)
 show wpS _ _ _ _ (do let x <- elem' (arrOf st) i; let y <- elem' (arrOf st) j; lt' x y) Q st
 rw[elem'_eq,elem'_eq,e1,e2]
 refine aI (aM (aI (aM (jFN hB.kind i1 i2 ?_))))
 rw[k1,k2]
 exact h
theorem Up.one {xs:Array Keyed} :Up xs lo 1:=λi j h1 h2 h3=>by
 have:i=j:=by lia
 rw[this]
 exact eF _
theorem Dn.one {xs:Array Keyed} :Dn xs lo 1:=λi j h1 h2 h3=>by
 have:i=j:=by lia
 rw[this]
 exact eF _
theorem Up.more {xs:Array Keyed}{n:Nat}(h:Up xs lo n)(hn:0<n)(hc:KI xs (lo+n - 1)<=KI xs (lo+n)):Up xs lo (n+1):=λi j h1 h2 h3=>by
 by_cases e:j<lo+n
 ·exact h i j h1 h2 e
 ·have ej:j=lo+n:=by lia
  subst ej
  by_cases ei:i=lo+n
  ·rw[ei]
   exact eF _
  ·exact df (h i (lo+n - 1) h1 (by lia) (by lia)) hc
theorem Dn.more {xs:Array Keyed}{n:Nat}(h:Dn xs lo n)(hn:0<n)(hc:KI xs (lo+n)<=KI xs (lo+n - 1)):Dn xs lo (n+1):=λi j h1 h2 h3=>by
 by_cases e:j<lo+n
 ·exact h i j h1 h2 e
 ·have ej:j=lo+n:=by lia
  subst ej
  by_cases ei:i=lo+n
  ·rw[ei]
   exact eF _
  ·exact df hc (h i (lo+n - 1) h1 (by lia) (by lia))
theorem Dn.congr {xs ys:Array Keyed}{n:Nat}(h:Dn xs lo n)(e:∀k,KI ys k=KI xs k):Dn ys lo n:=λi j h1 h2 h3=>by
 rw[e i,e j]
 exact h i j h1 h2 h3
theorem jEP {st:SortSt}{nrem:Nat}{Q:Option Nat->SortSt->Prop}(h0:AllI a₀.toList)(hn:lo+nrem<=a₀.size)(hn1:1<=nrem)(hB:BB a₀ p F lo st)
  (h:∀m st',BB a₀ p F lo st'->1<=m->m<=nrem->Up (arrOf st') lo m->Q (some m) st'):wpS (model prog w) A E s (countRun' lo nrem) Q st:=by
 rw[countRun'_eq]
 dsimp only
 refine aI (dH (b0 (I:=λx c st'=>st'=st/\c=(none,x)/\Up (arrOf st) lo x)
  (Q:=λc st'=>st'=st/\∃n,c=(none,n)/\1<=n/\n<=nrem/\Up (arrOf st) lo n/\(n=nrem\/KI (arrOf st) (lo+n)<KI (arrOf st) (lo+n - 1))) ?step ?fin ⟨rfl,rfl,Up.one⟩) ?post)
 case fin=>
  rintro c st' ⟨rfl,rfl,hu⟩
  rw[show max 1 nrem=nrem by lia] at hu ⊢
  exact⟨rfl,nrem,rfl,hn1,aq _,hu, .inl rfl⟩
 case step=>
  rintro x c st' h1 h2 ⟨rfl,rfl,hu⟩
  dsimp only
  refine aI (jC7 hB h0 (by lia) (by lia) ?_)
  dsimp only
  by_cases hl:KI (arrOf st') (lo+x)<KI (arrOf st') (lo+x - 1)
  ·rw[aB hl,am rfl]
   exact aM ⟨rfl,x,rfl,by lia,by lia,hu, .inr hl⟩
  ·rw[aV hl,aj aA]
   exact aM ⟨rfl,rfl,hu.more (by lia) (by lia)⟩
 case post=>
  rintro c st' ⟨rfl,n,rfl,n1,n2,hu,hor⟩
  dsimp only
  by_cases hnn:n=nrem
  ·rw[am (bp hnn)]
   exact aM (h n st' hB n1 n2 hu)
  rw[aj (bn hnn)]
  have hlt:=hor.resolve_left hnn
  have hz:lo+n<=(arrOf st').size:=by rw[hB.sz]; lia
  by_cases hgt:n>1
  case' pos=>
   rw[am hgt]
   refine aI (jC7 hB h0 (by lia) (by lia) ?_)
   dsimp only
   by_cases hr:KI (arrOf st') lo<KI (arrOf st') (lo+n - 1)
   ·rw[aB hr,am rfl]
    exact aM (h n st' hB n1 n2 hu)
   rw[aV hr,aj aA]
   have hall:∀k,lo<=k->k<lo+n->KI (arrOf st') k=KI (arrOf st') (lo+n - 1):=λk h1 h2=>by
    have a1:=hu lo k (by lia) h1 h2
    have a2:=hu k (lo+n - 1) h1 (by lia) (by lia)
    lia
   refine aI (wpS_reverse ?_)
   have hB1:=hB.arr (xs:=mirror (arrOf st') lo (lo+n) ((lo+n - lo) / 2)) (mirror_perm _ _ _ _) λk _=>jA0 hz hall k
   have hs0:Dn (arrOf st') lo n:=λi j h1 h2 h3=>by
    rw[hall i h1 (by lia),hall j (by lia) h3]
    exact eF _
   have hs1:Dn (arrOf (setArr st' (mirror (arrOf st') lo (lo+n) ((lo+n - lo) / 2)))) lo (n+1):=(hs0.more (by lia) (cN hlt)).congr (jA0 hz hall)
   generalize setArr st' (mirror (arrOf st') lo (lo+n) ((lo+n - lo) / 2))=st1 at*
  case' neg=>
   rw[aj hgt]
   have en:n=1:=by lia
   have hB1:=hB
   have hs1:Dn (arrOf st') lo (n+1):=by
    rw[en] at hlt ⊢
    exact Dn.one.more (by lia) (cN hlt)
  all_goals
   refine aI (ig (cP ⟨rfl,?_⟩))
   refine aI (dH (b0 (I:=λx c st'=>∃q,c=(none,x,q)/\BB a₀ p F lo st'/\Dn (arrOf st') lo x/\q+1<=x/\∀i,lo+x - (q+1)<=i->i<lo+x->KI (arrOf st') i=KI (arrOf st') (lo+x - 1))
    (Q:=λc st'=>∃m q,c=(none,m,q)/\1<=m/\m<=nrem/\BB a₀ p F lo st'/\Dn (arrOf st') lo m/\q+1<=m/\∀i,lo+m - (q+1)<=i->i<lo+m->KI (arrOf st') i=KI (arrOf st') (lo+m - 1)) ?dstep ?dfin ⟨0,rfl,hB1,hs1,by lia,λi h1 h2=>by congr 1; lia⟩) ?dpost)
   case dfin=>
    rintro c st' ⟨q,rfl,hb,hd,hq,he⟩
    rw[show max (n+1) nrem=nrem by lia] at hd hq he ⊢
    exact⟨nrem,q,rfl,by lia,by lia,hb,hd,hq,he⟩
   case dstep=>
    rintro x c st' h1 h2 ⟨q,rfl,hb,hd,hq,he⟩
    dsimp only
    have hz:lo+x<=(arrOf st').size:=by rw[hb.sz]; lia
    refine aI (jC7 hb h0 (by lia) (by lia) ?_)
    dsimp only
    by_cases hl:KI (arrOf st') (lo+x)<KI (arrOf st') (lo+x - 1)
    ·rw[aB hl,am rfl]
     have d1:=hd.more (by lia) (cN hl)
     by_cases hq0:q>0
     ·rw[am hq0]
      refine aI (wpS_reverse (aM ⟨0,rfl,hb.arr (mirror_perm _ _ _ _) λk _=>jA0 hz he k,d1.congr (jA0 hz he),by lia,λi h1 h2=>by congr 1; lia⟩))
     ·rw[aj hq0]
      exact aM ⟨0,rfl,hb,d1,by lia,λi h1 h2=>by congr 1; lia⟩
    ·rw[aV hl,aj aA]
     refine aI (jC7 hb h0 (by lia) (by lia) ?_)
     dsimp only
     by_cases hg:KI (arrOf st') (lo+x - 1)<KI (arrOf st') (lo+x)
     ·rw[aB hg,am rfl]
      exact aM ⟨x,q,rfl,by lia,by lia,hb,hd,hq,he⟩
     ·rw[aV hg,aj aA]
      have ex:KI (arrOf st') (lo+x)=KI (arrOf st') (lo+x - 1):=by lia
      refine aM ⟨q+1,rfl,hb,hd.more (by lia) (by lia),by lia,λi h1 h2=>?_⟩
      rw[show lo+(x+1) - 1=lo+x by lia]
      by_cases hix:i=lo+x
      ·rw[hix]
      ·rw[ex]
       exact he i (by lia) (by lia)
   case dpost=>
    rintro c st2 ⟨m,q,rfl,m1,m2,hB2,hs2,hq,he⟩
    dsimp only
    have hz2:lo+m<=(arrOf st2).size:=by rw[hB2.sz]; lia
    by_cases hq0:q>0
    case' pos=>
     rw[am hq0]
     refine aI (wpS_reverse ?_)
     have hB3:=hB2.arr (xs:=mirror (arrOf st2) (lo+m - (q+1)) (lo+m) ((lo+m - (lo+m - (q+1))) / 2)) (mirror_perm _ _ _ _) λk _=>jA0 hz2 he k
     have hs3:Dn (arrOf (setArr st2 (mirror (arrOf st2) (lo+m - (q+1)) (lo+m) ((lo+m - (lo+m - (q+1))) / 2)))) lo m:=hs2.congr (jA0 hz2 he)
     generalize setArr st2 (mirror (arrOf st2) (lo+m - (q+1)) (lo+m) ((lo+m - (lo+m - (q+1))) / 2))=st3 at*
    case' neg=>
     rw[aj hq0]
     have hB3:=hB2
     have hs3:=hs2
     generalize st2=st3 at*
    all_goals
     have hz3:lo+m<=(arrOf st3).size:=by rw[hB3.sz]; lia
     refine aI (wpS_reverse ?_)
     have hB4:=hB3.arr (xs:=mirror (arrOf st3) lo (lo+m) ((lo+m - lo) / 2)) (mirror_perm _ _ _ _) λk hk=>by
      rw[jC6 hz3,aj (by lia)]
     have hU:Up (mirror (arrOf st3) lo (lo+m) ((lo+m - lo) / 2)) lo m:=λi j h1 h2 h3=>by
      rw[jC6 hz3,jC6 hz3,am ⟨h1,by lia⟩,am ⟨by lia,h3⟩]
      exact hs3 _ _ (by lia) (by lia) (by lia)
     generalize mirror (arrOf st3) lo (lo+m) ((lo+m - lo) / 2)=xs4 at*
     refine aI (dH (b0 (I:=λx c st'=>st'=setArr st3 xs4/\c=(none,x)/\Up xs4 lo x)
      (Q:=λc st'=>st'=setArr st3 xs4/\∃n,c=(none,n)/\1<=n/\n<=nrem/\Up xs4 lo n) ?tstep ?tfin ⟨rfl,rfl,hU⟩) ?tpost)
     case tfin=>
      rintro c st' ⟨rfl,rfl,hu⟩
      rw[show max m nrem=nrem by lia] at hu ⊢
      exact⟨rfl,nrem,rfl,by lia,by lia,hu⟩
     case tstep=>
      rintro x c st' h1 h2 ⟨rfl,rfl,hu⟩
      dsimp only
      refine aI (jC7 hB4 h0 (by lia) (by lia) ?_)
      dsimp only
      by_cases hl:KI xs4 (lo+x)<KI xs4 (lo+x - 1)
      ·rw[aB hl,am rfl]
       exact aM ⟨rfl,x,rfl,by lia,by lia,hu⟩
      ·rw[aV hl,aj aA]
       exact aM ⟨rfl,rfl,hu.more (by lia) (by lia)⟩
     case tpost=>
      rintro c st' ⟨rfl,n,rfl,n1,n2,hu⟩
      exact aM (h n _ hB4 n1 n2 hu)
theorem jD8 {st:SortSt}{n ok:Nat}{Q:Bool->SortSt->Prop}(h0:AllI a₀.toList)(hn:lo+n<=a₀.size)(hok:ok<=n)(hB:BB a₀ p F lo st)(hs:Up (arrOf st) lo ok)
  (h:∀st',BB a₀ p F lo st'->Up (arrOf st') lo n->Q true st'):wpS (model prog w) A E s (binarySort' lo n ok) Q st:=by
 rw[binarySort'_eq]
 dsimp only
 refine aI (dH (b0 (I:=λk c st'=>c=(none,())/\BB a₀ p F lo st'/\Up (arrOf st') lo (min k n))
  (Q:=λc st'=>c=(none,())/\BB a₀ p F lo st'/\Up (arrOf st') lo n) ?step ?fin ⟨rfl,hB,?init⟩) ?post)
 case post=>
  rintro c st' ⟨rfl,hb,hu⟩
  exact aM (h st' hb hu)
 case init=>
  by_cases e:ok=0
  ·intro i j h1 h2 h3
   have:i=j:=by lia
   rw[this]
   exact eF _
  ·exact λi j h1 h2 h3=>hs i j h1 h2 (by lia)
 case fin=>
  rintro c st' ⟨hc,hb,hu⟩
  rw[show min (max (max ok 1) n) n=n by lia] at hu
  exact⟨hc,hb,hu⟩
 case step=>
  rintro k c st1 hk1 hk2 ⟨rfl,hb,hu⟩
  rw[show min k n=k by lia] at hu
  refine aI (dH (b0 (I:=λx c st'=>st'=st1/\∃l r,c=(none,l,r)/\l<=r/\r<=k/\r - l<=k - x/\
    (∀i,i<l->KI (arrOf st1) (lo+i)<=KI (arrOf st1) (lo+k))/\∀i,r<=i->i<k->KI (arrOf st1) (lo+k)<KI (arrOf st1) (lo+i))
   (Q:=λc st'=>st'=st1/\∃l r,c=(none,l,r)/\l<=k/\
    (∀i,i<l->KI (arrOf st1) (lo+i)<=KI (arrOf st1) (lo+k))/\∀i,l<=i->i<k->KI (arrOf st1) (lo+k)<KI (arrOf st1) (lo+i)) ?step1 ?fin1 ⟨rfl,0,k,rfl,by lia,by lia,by lia,λi hi=>by lia,λi h1 h2=>by lia⟩) ?post1)
  case fin1=>
   rintro c st' ⟨rfl,l,r,rfl,b1,b2,b3,b4,b5⟩
   have:l=r:=by lia
   subst this
   exact⟨rfl,l,l,rfl,b2,b4,b5⟩
  case step1=>
   rintro x c st' _ hx ⟨rfl,l,r,rfl,b1,b2,b3,b4,b5⟩
   dsimp only
   by_cases hge:l ≥ r
   ·rw[am hge]
    have:l=r:=by lia
    subst this
    exact aM ⟨rfl,l,l,rfl,b2,b4,b5⟩
   rw[aj hge]
   refine aI (jC7 hb h0 (by lia) (by lia) ?_)
   dsimp only
   by_cases hl:KI (arrOf st') (lo+k)<KI (arrOf st') (lo+(l+r) / 2)
   ·rw[aB hl,am rfl]
    exact aM ⟨rfl,l,(l+r) / 2,rfl,by lia,by lia,by lia,b4,λi h1 h2=>Int.lt_of_lt_of_le hl (hu _ _ (by lia) (by lia) (by lia))⟩
   ·rw[aV hl,aj aA]
    exact aM ⟨rfl,(l+r) / 2+1,r,rfl,by lia,by lia,by lia,λi h1=>df (hu (lo+i) (lo+(l+r) / 2) (by lia) (by lia) (by lia)) (Int.not_lt.mp hl),b5⟩
  case post1=>
   rintro c st' ⟨rfl,l,r,rfl,hlk,b4,b5⟩
   dsimp only
   rw[moveDown'_eq]
   have hks:lo+k<(arrOf st').size:=by rw[hb.sz]; lia
   have kb:∀x,KI (bubble (arrOf st') (lo+k) (lo+k - (lo+l))) x=if x=lo+l then KI (arrOf st') (lo+k) else if lo+l<x/\x<=lo+k then KI (arrOf st') (x - 1) else KI (arrOf st') x:=λx=>by
    have:=jO2 hks (d:=lo+k - (lo+l)) (by lia) x
    rw[show lo+k - (lo+k - (lo+l))=lo+l by lia] at this
    exact this
   refine aI (fb (aM ⟨rfl,hb.arr (bubble_perm _ _ _) λx hx=>?_,?_⟩))
   ·rw[kb,aj (by lia),aj (by lia)]
   rw[show min (k+1) n=k+1 by lia]
   intro i j h1 h2 h3
   show KI (bubble _ _ _) i<=KI (bubble _ _ _) j
   rw[kb,kb]
   have lo1:∀i,lo<=i->i<lo+l->KI (arrOf st') i<=KI (arrOf st') (lo+k):=λi h1 h2=>by
    have:=b4 (i - lo) (by lia)
    rw[show lo+(i - lo)=i by lia] at this
    exact this
   have hi1:∀i,lo+l<=i->i<lo+k->KI (arrOf st') (lo+k)<=KI (arrOf st') i:=λi h1 h2=>by
    have:=b5 (i - lo) (by lia) (by lia)
    rw[show lo+(i - lo)=i by lia] at this
    exact cN this
   repeat' split
   all_goals first
    | (exfalso; lia)
    | exact eF _
    | exact lo1 _ (by lia) (by lia)
    | exact hi1 _ (by lia) (by lia)
    | exact hu _ _ (by lia) (by lia) (by lia)
end
def mergeAtB: { g:Nat->StateT SortSt Sem Bool // mergeAt'=g} :=⟨λ_=>bind _ _,rfl⟩
theorem KI_key {xs:Array Keyed}{i:Nat}{p:Keyed}(h:xs[i]?=some p):KI xs i=key p:=by
 unfold KI
 rw[h]
theorem jIQ (s1:Nat):∀(l:List Keyed) (j0:Nat) (a:Array Keyed) (P M S:List Keyed),P.length=s1+j0->M.length=l.length->a.toList=P++(M++S)->
  ((l.zipIdx j0).foldl (λ(a:Array Keyed) (x:Keyed×Nat)=>a.setIfInBounds (s1+x.2) x.1) a).toList=P++(l++S)
 | [],j0,a,P,M,S,h1,h2,h3=>by
  rw[ik h2] at h3
  exact h3
 | q::l,j0,a,P,[],S,h1,h2,h3=>by cases h2
 | q::l,j0,a,P,m::M,S,h1,h2,h3=>by
  rw[kj,List.foldl_cons]
  have:=jIQ s1 l (j0+1) (a.setIfInBounds (s1+j0) q) (P++[q]) M S (by rw[aF,h1]; rfl) (Nat.succ.inj h2) (by
   rw[i7,h3,<- h1,lJ _ _ (aq _),lj,aZ]
   rfl)
  rw[this,aZ]
  rfl
theorem jSB {P m1 m2 S:List Keyed}(e:m1.length=m2.length){k:Nat}(h:k<P.length\/P.length+m1.length<=k):(P++(m1++S))[k]?=(P++(m2++S))[k]?:=by
 rcases h with h | h
 ·rw[cw h,cw h]
 ·rw[bv (by lia),bv (by lia),bv (by lia),bv (by lia),e]
theorem jUQ {P m S:List Keyed}{k:Nat}(h1:P.length<=k)(h2:k<P.length+m.length):(P++(m++S))[k]?=m[k - P.length]?:=by
 rw[bv h1,cw (by lia)]
theorem jJE {xs:Array Keyed}{i j t:Nat}(h:t<j - i):(xs.extract i j).toList[t]?=xs[i+t]?:=by
 rw[jAN,cx h,i6,bG]
theorem jCK {xs:Array Keyed}{i j:Nat}{p:Keyed}(h:p∈(xs.extract i j).toList):∃t,i<=t/\t<j/\xs[t]?=some p:=by
 rw[jAN] at h
 obtain⟨t,h1,h2,h3⟩:=jA6 h
 exact⟨t,h1,by lia,at_list.mpr h3⟩
theorem jDV {xs:Array Keyed}{i j:Nat}(h:j<=xs.size):(xs.extract i j).size=j - i:=by
 rw[Array.size_extract]
 lia
theorem jN5 {xs:Array Keyed}{i j:Nat}(h:∀n m x y,i<=n->n<=m->m<j->xs[n]?=some x->xs[m]?=some y->LE x y):Srt (xs.extract i j).toList:=by
 refine cO.mpr λa b ha hb hab=>?_
 have hl:(xs.extract i j).toList.length<=j - i:=by rw[jAN,bM]; lia
 have e1:=jJE (xs:=xs) (i:=i) (j:=j) (t:=a) (by lia)
 have e2:=jJE (xs:=xs) (i:=i) (j:=j) (t:=b) (by lia)
 rw[aK ha] at e1
 rw[aK hb] at e2
 exact h (i+a) (i+b) _ _ (by lia) (by lia) (by lia) e1.symm e2.symm
theorem KI_at {xs ys:Array Keyed}{i j:Nat}(h:xs.toList[i]?=ys.toList[j]?):KI xs i=KI ys j:=jBD (by rw[<- bG,<- bG]; exact h)
theorem jJY {xs r R:Array Keyed}{sa na sb nb k1 k2:Nat}(hsb:sb=sa+na)(hk1:k1<na)(hk2:0<k2)(hk2':k2<=nb)(hz:sb+nb<=xs.size)
  (u1:Up xs sa na) (u2:Up xs sb nb) (g2:∀t,sa<=t->t<sa+k1->KI xs t<=KI xs sb) (l3:∀t,sb+k2<=t->t<sb+nb->KI xs (sb - 1)<=KI xs t)
  (D:yG (xs.extract (sa+k1) sb) (xs.extract sb (sb+k2)) r)
  (hR:R.toList=xs.toList.take (sa+k1)++(r.toList++xs.toList.drop (sb+k2))):
  R.Perm xs/\(∀k,k<sa\/sa+(na+nb)<=k->KI R k=KI xs k)/\Up R sa (na+nb):=by
 have lr:r.toList.length=sb+k2 - (sa+k1):=by
  rw[D.1.length_eq,aF,aN,aN,jDV (by lia),jDV (by lia)]
  lia
 have lP:(xs.toList.take (sa+k1)).length=sa+k1:=by rw[bM,aN]; lia
 have hX:xs.toList=xs.toList.take (sa+k1)++(((xs.extract (sa+k1) sb).toList++(xs.extract sb (sb+k2)).toList)++xs.toList.drop (sb+k2)):=by
  have a1:=bx (sa+k1) xs.toList
  have a2:=bx (sb - (sa+k1)) (xs.toList.drop (sa+k1))
  have a3:=bx k2 (xs.toList.drop sb)
  rw[i5] at a2 a3
  rw[show sa+k1+(sb - (sa+k1))=sb by lia] at a2
  rw[jAN,jAN,cY,aZ,a3,a2,a1]
 have lm:((xs.extract (sa+k1) sb).toList++(xs.extract sb (sb+k2)).toList).length=r.toList.length:=D.1.length_eq.symm
 have out:∀k,k<sa+k1\/sb+k2<=k->KI R k=KI xs k:=λk hk=>KI_at (by
  have:=jSB (P:=xs.toList.take (sa+k1)) (S:=xs.toList.drop (sb+k2)) lm.symm (k:=k) (by rw[lP,lr]; lia)
  exact(bS (·[k]?) hR).trans (this.trans (bS (·[k]?) hX).symm))
 have inn:∀k,sa+k1<=k->k<sb+k2->R.toList[k]?=r.toList[k - (sa+k1)]?:=λk h1 h2=>by
  rw[hR,jUQ (by rw[lP]; exact h1) (by rw[lP,lr]; lia),lP]
 have mem:∀k,sa+k1<=k->k<sb+k2->∃t,sa+k1<=t/\t<sb+k2/\KI R k=KI xs t:=λk h1 h2=>by
  have hk:k - (sa+k1)<r.toList.length:=by lia
  have e:=inn k h1 h2
  rw[aK hk] at e
  have hm:=D.1.mem_iff.mp (dz hk)
  rcases aL.mp hm with q | q
  ·obtain⟨t,t1,t2,t3⟩:=jCK q
   exact⟨t,t1,by lia,(KI_key (at_list.mpr e)).trans (KI_key t3).symm⟩
  ·obtain⟨t,t1,t2,t3⟩:=jCK q
   exact⟨t,by lia,t2,(KI_key (at_list.mpr e)).trans (KI_key t3).symm⟩
 have srt:∀i j,sa+k1<=i->i<=j->j<sb+k2->KI R i<=KI R j:=λi j h1 h2 h3=>by
  have hi:i - (sa+k1)<r.toList.length:=by lia
  have hj:j - (sa+k1)<r.toList.length:=by lia
  have e1:=inn i h1 (by lia)
  have e2:=inn j (by lia) h3
  rw[aK hi] at e1
  rw[aK hj] at e2
  rw[KI_key (at_list.mpr e1),KI_key (at_list.mpr e2)]
  exact jE6 D.2 (aK hi) (aK hj) (by lia)
 have low:∀t u,sa<=t->t<sa+k1->t<=u->u<sb+nb->KI xs t<=KI xs u:=λt u h1 h2 h3 h4=>by
  by_cases e:u<sb
  ·exact u1 t u h1 h3 (by lia)
  ·exact df (g2 t h1 h2) (u2 sb u (aq _) (by lia) h4)
 have high:∀t u,sa<=t->t<=u->sb+k2<=u->u<sb+nb->KI xs t<=KI xs u:=λt u h1 h2 h3 h4=>by
  by_cases e:t<sb
  ·exact df (u1 t (sb - 1) h1 (by lia) (by lia)) (l3 u h3 h4)
  ·exact u2 t u (by lia) h2 h4
 refine⟨?_,λk hk=>out k (by lia),λi j h1 h2 h3=>?_⟩
 ·refine ci.mpr ?_
  rw[hR]
  refine List.Perm.trans ?_ (gt hX.symm)
  exact dv _ (gM _ D.1)
 ·have h3:j<sb+nb:=by lia
  by_cases i1:i<sa+k1
  ·rw[out i (.inl i1)]
   by_cases j1:j<sa+k1
   ·rw[out j (.inl j1)]
    exact low i j h1 i1 h2 h3
   by_cases j2:j<sb+k2
   ·obtain⟨t,t1,t2,t3⟩:=mem j (by lia) j2
    rw[t3]
    exact low i t h1 i1 (by lia) (by lia)
   ·rw[out j (.inr (by lia))]
    exact low i j h1 i1 h2 h3
  by_cases i2:i<sb+k2
  ·by_cases j2:j<sb+k2
   ·exact srt i j (by lia) h2 j2
   ·obtain⟨t,t1,t2,t3⟩:=mem i (by lia) i2
    rw[t3,out j (.inr (by lia))]
    exact high t j (by lia) (by lia) (by lia) h3
  ·rw[out i (.inr (by lia)),out j (.inr (by lia))]
   exact high i j h1 h2 (by lia) h3
section
variable {prog:Program}{w:World}{A:Around}{E:Value->Shared->Prop}{s:Shared} [LtOk prog w A s]
theorem jQS {st st':SortSt}{Q:PUnit->SortSt->Prop}(h:Q ⟨⟩ st'):wpS (model prog w) A E s (set st':StateT SortSt Sem PUnit) Q st:=fb (f:=λ_=>st') h
theorem jKM {α:Type}{a b:α}{Q:α->SortSt->Prop}{st:SortSt}(e:a=b)(h:Q b st):wpS (model prog w) A E s (pure a:StateT SortSt Sem α) Q st:=aM (e ▸ h)
structure Merged (st st':SortSt)(i sa na sb nb pw:Nat):Prop where
 perm:(arrOf st').Perm (arrOf st)
 kind:kindOf st'=Od.kd
 failed:failedOf st'=none
 pend:pendingOf st'=((pendingOf st).setIfInBounds i (sa,na+nb,pw)).eraseIdxIfInBounds (i+1)
 out:∀k,k<sa\/sa+(na+nb)<=k->KI (arrOf st') k=KI (arrOf st) k
 up:Up (arrOf st') sa (na+nb)
theorem jHE {st:SortSt}{i sa na pw sb nb w2:Nat}{Q:Bool->SortSt->Prop}(hk:kindOf st=Od.kd)(hf:failedOf st=none)(hI:AllI (arrOf st).toList)
  (h1:(pendingOf st)[i]?=some (sa,na,pw)) (h2:(pendingOf st)[i+1]?=some (sb,nb,w2)) (hsb:sb=sa+na) (hna:0<na) (hnb:0<nb) (hz:sb+nb<=(arrOf st).size)
  (u1:Up (arrOf st) sa na) (u2:Up (arrOf st) sb nb) (h:∀st',Merged st st' i sa na sb nb pw->Q true st'):wpS (model prog w) A E s (mergeAt' i) Q st:=by
 rw[mergeAtB.2]
 delta mergeAtB
 dsimp only
 simp only [elP,ltP,ltAtP,jI5,jOW,jOX]
 refine aI (gL ?_)
 rw[h1,h2]
 dsimp only
 refine aI (jQS ?_)
 generalize hpp:((pendingOf st).setIfInBounds i (sa,na+nb,pw)).eraseIdxIfInBounds (i+1)=pp
 show wpS _ _ _ _ _ _ (SortSt.mk' (kindOf st) (arrOf st) pp (gallopOf st) (failedOf st))
 generalize hst1:SortSt.mk' (kindOf st) (arrOf st) pp (gallopOf st) (failedOf st)=st1
 have G1:kindOf st1=kindOf st/\arrOf st1=arrOf st/\pendingOf st1=pp/\failedOf st1=failedOf st:=by rw[<- hst1]; exact⟨rfl,rfl,rfl,rfl⟩
 have at_:∀t,t<(arrOf st).size->∃q,(arrOf st)[t]?=some q/\IsI q:=λt ht=>by
  obtain⟨q,q1,q2⟩:=qD ht
  exact⟨q,q1,hI q (aE q2)⟩
 have m1:∀n m x y,sa<=n->n<=m->m<sa+na->(arrOf st)[n]?=some x->(arrOf st)[m]?=some y->LE x y:=λn m x y a1 a2 a3 hx hy=>by
  have:=u1 n m a1 a2 a3
  rw[KI_key hx,KI_key hy] at this
  exact this
 have m2:∀n m x y,sb<=n->n<=m->m<sb+nb->(arrOf st)[n]?=some x->(arrOf st)[m]?=some y->LE x y:=λn m x y a1 a2 a3 hx hy=>by
  have:=u2 n m a1 a2 a3
  rw[KI_key hx,KI_key hy] at this
  exact this
 obtain⟨pb,hpb,ipb⟩:=at_ sb (by lia)
 refine aI (jN hpb ?_)
 refine aI (jJB (G1.1.trans hk) ipb hI m1 hna (show sa+na<=(arrOf st).size by lia) λk1 g1 g2 g3=>?_)
 dsimp only
 have g2:∀t,sa<=t->t<sa+k1->KI (arrOf st) t<=KI (arrOf st) sb:=λt t1 t2=>by
  obtain⟨q,hq,_⟩:=at_ t (by lia)
  rw[KI_key hq,KI_key hpb]
  exact g2 t q t1 t2 hq
 by_cases e1:na - k1=0
 ·rw[am (bp e1)]
  refine aM (h _ ⟨?_,G1.1.trans hk,G1.2.2.2.trans hf,G1.2.2.1.trans hpp.symm,λk _=>?_,?_⟩)
  ·rw[G1.2.1]
  ·rw[G1.2.1]
  ·rw[G1.2.1]
   intro i j i1 i2 i3
   by_cases a:i<sb
   ·by_cases b:j<sb
    ·exact u1 i j i1 i2 (by lia)
    ·exact df (g2 i i1 (by lia)) (u2 sb j (aq _) (by lia) (by lia))
   ·exact u2 i j (by lia) i2 (by lia)
 rw[aj (bn e1)]
 obtain⟨pa,hpa,ipa⟩:=at_ (sa+k1+(na - k1) - 1) (by lia)
 refine aI (jN hpa ?_)
 refine aI (jJC (G1.1.trans hk) ipa hI m2 (by lia) (show sb+nb<=(arrOf st).size by lia) λk2 l1 l2 l3=>?_)
 dsimp only
 have epa:sa+k1+(na - k1) - 1=sb - 1:=by lia
 rw[epa] at hpa
 have l3':∀t,sb+k2<=t->t<sb+nb->KI (arrOf st) (sb - 1)<=KI (arrOf st) t:=λt t1 t2=>by
  obtain⟨q,hq,_⟩:=at_ t (by lia)
  rw[KI_key hq,KI_key hpa]
  exact l3 t q t1 t2 hq
 by_cases e2:k2=0
 ·rw[am (bp e2)]
  refine aM (h _ ⟨?_,G1.1.trans hk,G1.2.2.2.trans hf,G1.2.2.1.trans hpp.symm,λk _=>?_,?_⟩)
  ·rw[G1.2.1]
  ·rw[G1.2.1]
  ·rw[G1.2.1]
   intro i j i1 i2 i3
   by_cases a:i<sb
   ·by_cases b:j<sb
    ·exact u1 i j i1 i2 (by lia)
    ·exact df (u1 i (sb - 1) i1 (by lia) (by lia)) (l3' j (by lia) (by lia))
   ·exact u2 i j (by lia) i2 (by lia)
 rw[aj (bn e2)]
 have T:Two ((arrOf st).extract (sa+k1) sb) ((arrOf st).extract sb (sb+k2)):=by
  refine⟨λq hq=>?_,λq hq=>?_,jN5 λn m x y a1 a2 a3=>m1 n m x y (by lia) a2 (by lia),jN5 λn m x y a1 a2 a3=>m2 n m x y (by lia) a2 (by lia),?_,?_,λx hx y hy=>?_,λy hy q hq=>?_⟩
  ·obtain⟨t,_,_,t3⟩:=jCK hq
   exact hI q (aE (at_list.mp t3))
  ·obtain⟨t,_,_,t3⟩:=jCK hq
   exact hI q (aE (at_list.mp t3))
  ·rw[jDV (by lia)]; lia
  ·rw[jDV (by lia)]; lia
  ·obtain⟨t,t1,t2,t3⟩:=jCK hx
   rw[jDV (by lia),jJE (by lia),show sa+k1+(sb - (sa+k1) - 1)=sb - 1 by lia,hpa] at hy
   cases hy
   exact l2 t x t1 t2 t3
  ·obtain⟨t,t1,t2,t3⟩:=jCK hy
   rw[jJE (by lia),eZ,hpb] at hq
   cases hq
   exact g3 t y t1 (by lia) t3
 by_cases e3:na - k1<=k2
 case' pos=>
  rw[am e3]
  refine aI (jHC (G1.1.trans hk) T λr st2 D G0=>?_)
  have G:SG (SortSt.mk' (kindOf st) (arrOf st) pp (gallopOf st) (failedOf st)) st2:=by rw[hst1]; exact G0
  subst hpp
 case' neg=>
  rw[aj e3]
  refine aI (jHD (G1.1.trans hk) T λr st2 D G0=>?_)
  have G:SG (SortSt.mk' (kindOf st) (arrOf st) pp (gallopOf st) (failedOf st)) st2:=by rw[hst1]; exact G0
  subst hpp
 all_goals
  refine aI (fb (aI (gL ?_)))
  have ea:arrOf st2=arrOf st:=G.a
  have W:=jJY (R:=((r.toList.zipIdx 0).foldl (λ(a:Array Keyed) (x:Keyed×Nat)=>a.setIfInBounds (sa+k1+x.2) x.1) (arrOf st))) hsb (by lia) (by lia) l1 hz u1 u2 g2 l3' D (jIQ (sa+k1) r.toList 0 (arrOf st) ((arrOf st).toList.take (sa+k1)) (((arrOf st).extract (sa+k1) sb).toList++((arrOf st).extract sb (sb+k2)).toList) ((arrOf st).toList.drop (sb+k2)) (by rw[bM,aN]; lia) D.1.length_eq.symm (by
   have a1:=bx (sa+k1) (arrOf st).toList
   have a2:=bx (sb - (sa+k1)) ((arrOf st).toList.drop (sa+k1))
   have a3:=bx k2 ((arrOf st).toList.drop sb)
   rw[i5] at a2 a3
   rw[show sa+k1+(sb - (sa+k1))=sb by lia] at a2
   rw[jAN,jAN,cY,aZ,a3,a2,a1]))
  rw[<- ea] at W
  refine jKM (by show (failedOf st2).isNone=true; rw[G.f]; show (failedOf st).isNone=true; rw[hf]; rfl) (h _ ⟨?_,G.k.trans hk,G.f.trans hf,G.p,?_,?_⟩)
  ·rw[<- ea]
   exact W.1
  ·rw[<- ea]
   exact W.2.1
  ·exact W.2.2
end
def Runs (xs:Array Keyed):List (Nat×Nat×Nat)->Nat->Nat->Prop
 | [],a,b=>a=b
 | (s,n,_)::t,a,b=>s=a/\0<n/\Up xs s n/\Runs xs t (a+n) b
section
variable {xs ys:Array Keyed}
theorem Runs.le:∀{l:List (Nat×Nat×Nat)}{a b:Nat},Runs xs l a b->a+l.length<=b
 | [],a,b,h=>by have:a=b:=h; rw[cK]; lia
 | (s,n,_)::t,a,b,⟨_,h2,_,h4⟩=>by
  have:=Runs.le h4
  rw[aP]
  lia
theorem Runs.app:∀{l m:List (Nat×Nat×Nat)}{a b:Nat},Runs xs (l++m) a b->∃c,Runs xs l a c/\Runs xs m c b
 | [],m,a,b,h=>⟨a,rfl,h⟩
 | (s,n,_)::t,m,a,b,⟨h1,h2,h3,h4⟩=>by
  obtain⟨c,c1,c2⟩:=Runs.app h4
  exact⟨c,⟨h1,h2,h3,c1⟩,c2⟩
theorem Runs.put:∀{l m:List (Nat×Nat×Nat)}{a b c:Nat},Runs xs l a c->Runs xs m c b->Runs xs (l++m) a b
 | [],m,a,b,c,h,g=>by have:a=c:=h; subst this; exact g
 | (s,n,_)::t,m,a,b,c,⟨h1,h2,h3,h4⟩,g=>⟨h1,h2,h3,Runs.put h4 g⟩
theorem Up.same {lo n:Nat}(h:Up xs lo n)(e:∀k,lo<=k->k<lo+n->KI ys k=KI xs k):Up ys lo n:=λi j h1 h2 h3=>by
 rw[e i h1 (by lia),e j (by lia) h3]
 exact h i j h1 h2 h3
theorem Runs.same:∀{l:List (Nat×Nat×Nat)}{a b:Nat},Runs xs l a b->(∀k,a<=k->k<b->KI ys k=KI xs k)->Runs ys l a b
 | [],a,b,h,_=>h
 | (s,n,_)::t,a,b,⟨h1,h2,h3,h4⟩,e=>by
  have:=Runs.le h4
  exact⟨h1,h2,h3.same λk k1 k2=>e k (by lia) (by lia),Runs.same h4 λk k1 k2=>e k (by lia) k2⟩
theorem Runs.mod {f:Nat×Nat×Nat->Nat×Nat×Nat}(hf:∀x,(f x).1=x.1/\(f x).2.1=x.2.1):∀{l:List (Nat×Nat×Nat)}{i a b:Nat},Runs xs l a b->Runs xs (l.modify i f) a b
 | [],i,a,b,h=>by rw[List.modify_nil]; exact h
 | (s,n,w)::t,0,a,b,⟨h1,h2,h3,h4⟩=>by
  rw[List.modify_zero_cons]
  obtain⟨e1,e2⟩:=hf (s,n,w)
  generalize f (s,n,w)=v at e1 e2 ⊢
  obtain⟨s',n',w'⟩:=v
  have e1:s'=s:=e1
  have e2:n'=n:=e2
  subst e1 e2
  exact⟨h1,h2,h3,h4⟩
 | (s,n,w)::t,i+1,a,b,⟨h1,h2,h3,h4⟩=>by
  rw[List.modify_succ_cons]
  exact⟨h1,h2,h3,Runs.mod hf h4⟩
end
structure RI (a₀:Array Keyed)(lo:Nat)(st:SortSt):Prop where
 perm:(arrOf st).Perm a₀
 kind:kindOf st=Od.kd
 failed:failedOf st=none
 runs:Runs (arrOf st) (pendingOf st).toList 0 lo
theorem jFZ:∀(l:List (Nat×Nat×Nat)) (i:Nat),i+1<l.length->∃u x y t,l=u++x::y::t/\u.length=i
 | [],i,h=>absurd h (dQ _)
 | [x],i,h=>by rw[gS] at h; lia
 | x::y::t,0,h=>⟨[],x,y,t,rfl,rfl⟩
 | x::y::t,i+1,h=>by
  obtain⟨u,x',y',t',e,hu⟩:=jFZ (y::t) i (by rw[aP] at h; lia)
  exact⟨x::u,x',y',t',by rw[e]; rfl,by rw[aP,hu]⟩
theorem jT5 {a₀ xs:Array Keyed}(h0:AllI a₀.toList)(hp:xs.Perm a₀):AllI xs.toList:=λp hp'=>h0 p ((ci.mp hp).mem_iff.mp hp')
section
variable {prog:Program}{w:World}{A:Around}{E:Value->Shared->Prop}{s:Shared} [LtOk prog w A s]{a₀:Array Keyed}
theorem jD7 {st:SortSt}{i lo:Nat}{Q:Bool->SortSt->Prop}(h0:AllI a₀.toList)(R:RI a₀ lo st)(hlo:lo<=a₀.size)(hi:i+1<(pendingOf st).size)
  (h:∀st',RI a₀ lo st'->(pendingOf st').size+1=(pendingOf st).size->(∀k,lo<=k->KI (arrOf st') k=KI (arrOf st) k)->Q true st'):wpS (model prog w) A E s (mergeAt' i) Q st:=by
 obtain⟨u,⟨sa,na,pw⟩,⟨sb,nb,w2⟩,t,e,hu⟩:=jFZ (pendingOf st).toList i (by rw[aN]; exact hi)
 have rr:=R.runs
 rw[e] at rr
 obtain⟨c,r1,a1,a2,a3,a4,a5,a6,a7⟩:=Runs.app rr
 have r2:=Runs.le a7
 have r3:=Runs.le r1
 subst a1
 have e1:(pendingOf st)[i]?=some (sa,na,pw):=by
  rw[<- bG,e,bv (by lia),hu,lj]
  rfl
 have e2:(pendingOf st)[i+1]?=some (sb,nb,w2):=by
  rw[<- bG,e,bv (by lia),hu,cY]
  rfl
 have z:=R.perm.size_eq
 refine jHE R.kind R.failed (jT5 h0 R.perm) e1 e2 a4 a2 a5 (by lia) a3 a6 λst' M=>?_
 have ep:(pendingOf st').toList=u++(sa,na+nb,pw)::t:=by
  rw[M.pend,Array.toList_eraseIdxIfInBounds,i7,e,lJ _ _ (by lia),hu,lj,List.set_cons_zero,List.eraseIdx_append_of_length_le (by lia),hu,cY]
  rfl
 refine h st' ⟨M.perm.trans R.perm,M.kind,M.failed,?_⟩ ?_ λk hk=>M.out k (by lia)
 ·rw[ep]
  refine Runs.put (Runs.same r1 λk k1 k2=>M.out k (by lia)) ⟨rfl,by lia,M.up,?_⟩
  have:=Runs.same (ys:=arrOf st') a7 λk k1 k2=>M.out k (by lia)
  rw[Nat.add_assoc] at this
  exact this
 ·have q1:=bS List.length ep
  have q2:=bS List.length e
  rw[aN,aF,aP] at q1
  rw[aN,aF,aP,aP] at q2
  lia
theorem RI.of {st:SortSt}{F:Nat->Int}{lo:Nat}{p:Array (Nat×Nat×Nat)}{xs:Array Keyed}(h:BB a₀ p F lo st)(hr:Runs xs p.toList 0 lo)(hF:∀k,F k=KI xs k):RI a₀ lo st:=
 ⟨h.perm,h.kind,h.failed,by rw[h.pend]; exact hr.same λk _ hk=>(h.low k hk).trans (hF k)⟩
theorem wpS_sortRunsAny {st:SortSt}{Q:Unit->SortSt->Prop}(h0:AllI a₀.toList)(hB:SB a₀ st)(h1:1<=a₀.size)
  (h:∀st',(arrOf st').Perm a₀->failedOf st'=none->STo (arrOf st') a₀.size->Q () st'):wpS (model prog w) A E s sortRuns' Q st:=by
 rw[sortRuns'_eq]
 refine aI (gL ?_)
 try dsimp only
 have hz:=hB.size
 rw[hz]
 generalize minRun' a₀.size a₀.size 0=mr
 refine aI (dH (b0 (I:=λx c st'=>∃lo,c=(none,lo)/\x<=lo/\lo<=a₀.size/\RI a₀ lo st')
  (Q:=λc st'=>c=(none,a₀.size)/\RI a₀ a₀.size st') ?step ?fin ⟨0,rfl,aq _,bi _,hB.perm,hB.kind,hB.failed,by rw[hB.pend]; rfl⟩) ?post)
 case fin=>
  rintro c st' ⟨lo,rfl,l1,l2,R⟩
  have:lo=a₀.size:=by lia
  subst this
  exact⟨rfl,R⟩
 case step=>
  rintro x c st1 _ hx ⟨lo,rfl,l1,l2,R1⟩
  try dsimp only
  by_cases hl:lo ≥ a₀.size
  ·rw[am hl]
   have:lo=a₀.size:=by lia
   subst this
   exact aM ⟨rfl,R1⟩
  rw[aj hl]
  refine aI (jEP (F:=λk=>KI (arrOf st1) k) (p:=pendingOf st1) h0 (by lia) (by lia) ⟨R1.perm,R1.kind,R1.failed,rfl,λ_ _=>rfl⟩ λm st2 B2 m1 m2 U2=>?_)
  try dsimp only
  by_cases hm:m<mr
  case' pos=>
   rw[am hm]
   refine aI (ig (cP ⟨rfl,?_⟩))
   refine aI (jD8 h0 (by lia) (by lia) B2 U2 λst4 B4 U4=>?_)
   have R4:=RI.of B4 R1.runs λ_=>rfl
   have n0:0<min (a₀.size - lo) mr:=by lia
   have n9:min (a₀.size - lo) mr<=a₀.size - lo:=by lia
   generalize min (a₀.size - lo) mr=n at*
  case' neg=>
   rw[aj hm]
   have R4:=RI.of B2 R1.runs λ_=>rfl
   have U4:=U2
   generalize st2=st4 at*
   generalize m=n at*
  all_goals
   refine aI (gL ?_)
   have last:∀st5:SortSt,RI a₀ lo st5->Up (arrOf st5) lo n->∃lo',(none,lo+n)=((none:Option PUnit),lo')/\x+1<=lo'/\lo'<=a₀.size/\RI a₀ lo' (setPending st5 ((pendingOf st5).push (lo,n,0))):=λst5 R5 U5=>
    ⟨lo+n,rfl,by lia,by lia,R5.perm,R5.kind,R5.failed,by
     show Runs (arrOf st5) ((pendingOf st5).push (lo,n,0)).toList 0 (lo+n)
     rw[eB]
     exact R5.runs.put ⟨rfl,by lia,U5,rfl⟩⟩
   cases hb:(pendingOf st4).back? with
   | none=>
    try dsimp only
    exact aI (fb (aM (last st4 R4 U4)))
   | some v=>
    obtain⟨s1,n1,w1⟩:=v
    try dsimp only
    refine aI (dH (b0 (I:=λ_ c st'=>c=(none,())/\RI a₀ lo st'/\Up (arrOf st') lo n) (Q:=λc st'=>c=(none,())/\RI a₀ lo st'/\Up (arrOf st') lo n) ?mstep (λ_ _ z=>z) ⟨rfl,R4,U4⟩) ?mpost)
    case mstep=>
     rintro y c st5 _ _ ⟨rfl,R5,U5⟩
     try dsimp only
     refine aI (gL ?_)
     by_cases hs:(pendingOf st5).size>1
     ·rw[am hs]
      obtain⟨v,hv⟩:∃v,(pendingOf st5)[(pendingOf st5).size - 2]?=some v:=⟨_,Array.getElem?_eq_getElem (by lia)⟩
      rw[hv]
      obtain⟨v1,v2,older⟩:=v
      try dsimp only
      by_cases ho:older<=power' a₀.size (2*s1+n1) (2*s1+n1+n1+n) a₀.size
      ·rw[am ho]
       exact aM ⟨rfl,R5,U5⟩
      rw[aj ho]
      refine aI (jD7 h0 R5 (by lia) (by lia) λst6 R6 _ E6=>?_)
      exact aM ⟨rfl,R6,U5.same λk k1 _=>E6 k k1⟩
     ·rw[aj hs]
      exact aM ⟨rfl,R5,U5⟩
    case mpost=>
     rintro c st5 ⟨rfl,R5,U5⟩
     try dsimp only
     refine aI (fb (aI (fb (aM (last (setPending st5 ((pendingOf st5).modify ((pendingOf st5).size - 1) λx=>(x.1,x.2.1,power' a₀.size (2*s1+n1) (2*s1+n1+n1+n) a₀.size))) ⟨R5.perm,R5.kind,R5.failed,?_⟩ U5)))))
     show Runs (arrOf st5) (Array.modify _ _ _).toList 0 lo
     rw[Array.toList_modify]
     exact Runs.mod (f:=λx=>(x.1,x.2.1,power' a₀.size (2*s1+n1) (2*s1+n1+n1+n) a₀.size)) (λ_=>⟨rfl,rfl⟩) R5.runs
 case post=>
  rintro c st1 ⟨rfl,R1⟩
  try dsimp only
  refine aI (dH (b0 (I:=λx c st'=>c=(none,())/\RI a₀ a₀.size st'/\1<=(pendingOf st').size/\(pendingOf st').size+x<=a₀.size)
   (Q:=λc st'=>c=(none,())/\RI a₀ a₀.size st'/\(pendingOf st').size=1) ?step2 ?fin2 ⟨rfl,R1,?a1,?a2⟩) ?post2)
  case a1=>
   have:=R1.runs
   cases hp:(pendingOf st1).toList with
   | nil=>
    rw[hp] at this
    have:0=a₀.size:=this
    lia
   | cons v t=>
    have:=bS List.length hp
    rw[aN,aP] at this
    lia
  case a2=>
   have:=R1.runs.le
   rw[aN] at this
   lia
  case fin2=>
   rintro c st2 ⟨_,_,h2,h3⟩
   lia
  case post2=>
   rintro c st2 ⟨rfl,R2,h2⟩
   try dsimp only
   refine aM (h st2 R2.perm R2.failed ?_)
   have rr:=R2.runs
   cases hp:(pendingOf st2).toList with
   | nil=>
    rw[<- aN,hp] at h2
    cases h2
   | cons v t=>
    have:=bS List.length hp
    rw[aN,h2,aP] at this
    have:t=[]:=ik (by lia)
    subst this
    rw[hp] at rr
    obtain⟨v1,v2,v3⟩:=v
    obtain⟨q1,q2,q3,q4⟩:=rr
    have q4:0+v2=a₀.size:=q4
    subst q1
    exact λi j hij hj=>q3 i j (bi _) hij (by lia)
  case step2=>
   rintro x c st2 _ hx ⟨rfl,R2,h2,h3⟩
   try dsimp only
   refine aI (gL ?_)
   by_cases hs:(pendingOf st2).size<=1
   ·rw[am hs]
    exact aM ⟨rfl,R2,by lia⟩
   rw[aj hs]
   refine aI (jD7 h0 R2 (aq _) ?_ λst3 R3 e3 _=>?_)
   ·have ite_le:∀(c:Prop) [Decidable c] (a b:Nat),(if c then a else b)<=max a b:=λc _ a b=>by
     by_cases z:c
     ·rw[am z]; lia
     ·rw[aj z]; lia
    refine mz (Nat.add_le_add_right (ite_le _ _ _) 1) ?_
    lia
   ·exact aM ⟨rfl,R3,by lia,by lia⟩
end
end TM
namespace TM
open PySem PySem.Spec PyProof.Rows
section
variable {prog:Program}{w:World}{A:Around}{E:Value->Shared->Prop}{s:Shared}
abbrev turned (b:Bool)(xs:Array Value):Array Value:=if b then xs.reverse else xs
theorem jHI {b:Bool}{xs:Array Value} :(turned b xs).size=xs.size:=by
 cases b
 ·rfl
 ·exact Array.size_reverse
theorem jC9 (b:Bool)(vs:List Value):(if b=true then (vs.toArray.zip vs.toArray).reverse else vs.toArray.zip vs.toArray).Perm (pairsOf vs):=by
 cases b with
 | false=>exact lE _
 | true=>exact ci.mpr (by show ((vs.toArray.zip vs.toArray).reverse).toList.Perm _; rw[dI]; exact List.reverse_perm _)
def AskOk [Od](prog:Program)(w:World)(A:Around)(s:Shared)(a:Addr)(vs:List Value):Prop:=
 ∀h6:Heap,(∀c o,s.heap.get? c=some o->c≠a->h6.get? c=some o)->
  (∀(Q:SortKind->Shared->Prop) (E:Value->Shared->Prop),Q Od.kd { s with heap:=h6} ->wpAny (model prog w) A (keyKind' vs.toArray) Q E { s with heap:=h6})/\LtOk prog w A { s with heap:=h6}
theorem jIM [Od]{a:Addr}{vs:List Value}{n:Nat}{b:Bool}{P:Fin->Shared->Prop}(ho:s.heap.get? a=some (seqObj "list" vs.toArray n))(hz:vs.length<=sizeLine)(hI:AllI (pairsOf vs).toList)(hk:2<=vs.length->AskOk prog w A s a vs)
  (h:∀xs:Array Keyed,xs.Perm (pairsOf vs)->STo xs (pairsOf vs).size->P (.done (.ret .none)) { s with heap:=sortedHeap s.heap a vs (turned b (xs.map (·.2)))}):
  wpAny (model prog w) A (Builtin.«list.sort» ⟨[.ref a],[(Str.ofString "reverse", .bool b)]⟩) P E s:=by
 rw[list_sort_rev]
 have ha:=ay ho
 have hz':vs.toArray.size<=sizeLine:=by rw[aG]; exact hz
 refine aa (listItems_at ho rfl (aa (fh ho rfl ?_ hz' (bi _))))
 obtain⟨e1,ho1⟩:∃e1,(s.heap.update a (Obj.mapSeq λ_=>#[])).get? a=some (seqObj "list" #[] e1):=⟨_,iu ho _⟩
 refine aa (jo ho1 rfl (aa (iZ ?_ hz)))
 refine aa (fg (bE ?_))
 generalize hh6:((s.heap.update a (Obj.mapSeq λ_=>#[])).push (seqObj "tuple" vs.toArray 0)).push (seqObj "list" #[] 0)=h6
 have ho6:h6.get? a=some (seqObj "list" #[] e1):=by
  rw[<- hh6]
  exact ab _ (ab _ ho1)
 have k6:∀c o,s.heap.get? c=some o->c≠a->h6.get? c=some o:=λc o q ne=>by
  rw[<- hh6]
  exact ab _ (ab _ ((bb _ _ (dq ne)).trans q))
 have sh:∀out,sortedHeap s.heap a vs out=h6.update a (Obj.mapSeq λ_=>out):=λout=>by rw[<- hh6]; rfl
 have go:∀X:Sem Fin,wpAny (model prog w) A X P E { s with heap:=h6} ->wpAny (model prog w) A (if b=true then (do let _ <- rule "list.sort.reverse"; X) else X) P E { s with heap:=h6} :=λX hX=>by
  cases b with
  | false=>exact hX
  | true=>exact aa (cP hX)
 have hend:∀st':SortSt,(arrOf st').Perm (pairsOf vs)->STo (arrOf st') (pairsOf vs).size->P (.done (.ret .none)) { s with heap:=h6.update a (Obj.mapSeq λ_=>turned b ((arrOf st').map (·.2)))} :=λst' p1 p2=>by
  rw[<- sh]
  exact h _ p1 p2
 have hfit:∀st':SortSt,(arrOf st').Perm (pairsOf vs)->(turned b ((arrOf st').map (·.2))).size<=sizeLine+1:=λst' p1=>by
  rw[jHI,size_map,p1.size_eq,pairsOf_size]
  lia
 dsimp only
 refine go _ ?_
 by_cases few:vs.toArray.size<2
 ·rw[am few,am few]
  refine aa (ai ?_)
  rw[StateT.run_pure]
  refine aa (ai ?_)
  dsimp only
  refine aa (jo ho6 rfl (aa (fh ho6 rfl ?_ (bi _) (hfit (SortSt.mk' general' _ #[] 7 none) (jC9 b vs)))))
  rw[jp,aj aA]
  refine ai (hend (SortSt.mk' general' _ #[] 7 none) (jC9 b vs) λi j hij hj=>?_)
  have:i=j:=by
   rw[pairsOf_size] at hj
   rw[aG] at few
   lia
  rw[this]
  exact eF _
 ·rw[aj few,aj few]
  rw[aG] at few
  obtain⟨kk,ll⟩:=hk (by lia) h6 k6
  refine aa (kk _ _ (aa (b9 (wpS_sortRunsAny (a₀:=pairsOf vs) (st:=SortSt.mk' Od.kd _ #[] 7 none)
   (Q:=λ_ st'=>(arrOf st').Perm (pairsOf vs)/\failedOf st'=none/\STo (arrOf st') (pairsOf vs).size)
   hI ⟨jC9 b _,rfl,rfl,rfl⟩ (by rw[pairsOf_size]; lia) λst' a1 a2 a3=>⟨a1,a2,a3⟩) ?_ λ_ _ e=>e)))
  rintro ⟨⟨⟩,st'⟩ s' ⟨rfl,p1,p2,p3⟩
  dsimp only
  refine aa (jo ho6 rfl (aa (fh ho6 rfl ?_ (bi _) (hfit st' p1))))
  rw[p2]
  dsimp only
  rw[jp,aj aA]
  exact ai (hend st' p1 p3)
theorem plain_rev (a:Addr):Builtin.«list.sort» ⟨[.ref a],[]⟩=Builtin.«list.sort» ⟨[.ref a],[(Str.ofString "reverse", .bool false)]⟩:=by
 rw[list_sort_plain,list_sort_rev]
 rfl
abbrev odI:Od:=⟨oneType',λp=>numOf p.1,λp=>∃n t,p.1=Value.int n t⟩
theorem ltI: @LtOk prog w A s odI:= @LtOk.mk prog w A s odI λ{E st x y Q} hk hx hy h=>by
 obtain⟨a,t,ha⟩:=hx
 obtain⟨b,u,hb⟩:=hy
 have e1: @key odI x=a:=by show numOf x.1=a; rw[ha]; rfl
 have e2: @key odI y=b:=by show numOf y.1=b; rw[hb]; rfl
 rw[e1,e2] at h
 rw[lt'_eq]
 refine aI (gL ?_)
 rw[show kindOf st=oneType' from hk,keyLt'_oneType,ha,hb]
 exact aI (ig (dF (oneLt_int ⟨rfl,aM h⟩)))
theorem stoI {xs:Array Keyed}{k:Nat}(h: @STo odI xs k):SortedTo xs k:=h
theorem askI {a:Addr}{vs:List Value}{ns:List Int}(hI:IntsAre vs ns)(h2:2<=vs.length): @AskOk odI prog w A s a vs:=λh6 _=>⟨λQ E h=>by
 obtain⟨u,v,r,rfl⟩:∃u v r,vs=u::v::r:=by
  match vs,h2 with
  | [_],few=>exact absurd few (show ¬2<=1 by decide)
  | u::v::r,_=>exact⟨u,v,r,rfl⟩
 rw[keyKind_ints hI]
 exact ai h,ltI⟩
theorem sort_rev_any {a:Addr}{vs:List Value}{ns:List Int}{n:Nat}{b:Bool}{P:Fin->Shared->Prop}(ho:s.heap.get? a=some (seqObj "list" vs.toArray n))(hI:IntsAre vs ns)(hz:vs.length<=sizeLine)
  (h:∀(out:Array Value) (ns':List Int),IntsAre out.toList ns'->ns'.Perm ns->Ordered b ns'->P (.done (.ret .none)) { s with heap:=sortedHeap s.heap a vs out}):
  wpAny (model prog w) A (Builtin.«list.sort» ⟨[.ref a],[(Str.ofString "reverse", .bool b)]⟩) P E s:=
 @jIM prog w A E s odI a vs n b P ho hz hI.intKeys (λh2=>askI hI h2) λxs p1 p2=>by
  obtain⟨ns',q1,q2,q3⟩:=sorted_out_rev hI p1 (stoI p2) b
  exact h _ ns' q1 q2 q3
end
end TM
namespace L2
open PySem PySem.Spec PyProof.Rows
section
variable {prog:Program}{w:World}{A:Around}{E:Value->Shared->Prop}{s:Shared}{d:Addr}{kvs:List (Key×Value)}
theorem jB9:∀{vs:List Value}{ks:List Int},vs.length=ks.length->(∀(j:Nat) (v:Value),vs[j]?=some v->∃i t,ks[j]?=some i/\v=Value.int i t)->IntsAre vs ks
 | [],[],_,_=> .nil
 | [],_::_,h,_=>by cases h
 | _::_,[],h,_=>by cases h
 | v::vs,a::r,h,hat=>by
  obtain⟨i,t,e1,rfl⟩:=hat 0 v rfl
  cases e1
  exact .cons _ t (jB9 (Nat.succ.inj h) λj v e=>hat (j+1) v e)
theorem jG1 {Q:Value->Shared->Prop}{ks:List Int}{b:Bool}(hh:A.handled=none)(lo:(d==sysModules)=false)(D:s.heap.DictOf (jM prog w) d kvs)(hk:kvs.map (·.1)=ks.map Sum.inl)(hz:ks.length<=sizeLine)
  (h:∀(hf:Heap) (tk:Nat) (l:Addr) (vs:List Value) (ns:List Int) (e:Nat),s.heap.objs.size<=l->(∀b u,s.heap.get? b=some u->hf.get? b=some u)->
   hf.get? l=some { cls:= .type "list",data:= .seq vs.toArray e} ->IntsAre vs ns->ns.Perm ks->Ordered b ns->Q (.ref l) { s with heap:=hf,toks:=tk}):
  wpAny (model prog w) A (call (.builtin "sorted") [.ref d] [(Str.ofString "reverse", .bool b)]) Q E s:=by
 obtain⟨ep,hat⟩:=D.dictAt
 have hlen:kvs.length=ks.length:=by
  have:=bS List.length hk
  rwa [ae,ae] at this
 refine call_function_entry_kw jl iI iJ (args_sorted_rev _ _) ?_
 unfold Builtin.«sorted»
 refine aa (m:=checkCount "sorted" 1 1 _) (ai ?_)
 refine aa (jDY (A:=A.in1) (kn (knd:=jM prog w) (kvs:=kvs) (ep:=ep) lo) hh hat (by lia) λh1 tk acc hk1 hlt1 hacc=>?_)
 have hal:acc.toList.length=ks.length:=by rw[aN,hacc.1,hlen]
 have hI:IntsAre acc.toList ks:=jB9 hal λj v e=>by
  obtain⟨k,x,hx,hv⟩:=hacc.2 j v (by rw[<- bG]; exact e)
  have e2:(kvs.map (·.1))[j]?=some k:=by rw[aJ,hx]; rfl
  rw[hk,aJ] at e2
  cases hq:ks[j]? with
  | none=>rw[hq] at e2; cases e2
  | some i=>
   rw[hq] at e2
   cases e2
   rcases jO (show qL (Sum.inl i) v=true from hv) with ⟨i',t,q1,q2⟩ | ⟨x,t,q1,q2⟩
   ·cases q1
    exact⟨i,t,rfl,q2⟩
   ·cases q1
 refine aa (fg ?_ (by lia))
 have hL:(h1.push (seqObj "list" acc.toList.toArray 0)).get? h1.objs.size=some (seqObj "list" acc.toList.toArray 0):=ao _ rfl
 show wpAny _ _ _ _ _ { s with heap:=h1.push (seqObj "list" acc.toList.toArray 0),toks:=tk}
 refine aa (bE (wpAny_call_entry_kw gH ⟨_,hL,rfl⟩ gq (TM.sort_rev_any hL hI (by lia) λout ns' a1 a2 a3=>⟨_,rfl,?_⟩) (args_list_sort_rev _ _)))
 obtain⟨e,he⟩:=jw (out:=out) hL
 have kept:∀b u,s.heap.get? b=some u->(sortedHeap (h1.push (seqObj "list" acc.toList.toArray 0)) h1.objs.size acc.toList out).get? b=some u:=λb u q=>by
  have q1:=hk1 b u q
  have hb:b<h1.objs.size:=ay q1
  rw[iX (aO hb) (by rw[g5]; exact bL hb)]
  exact ab _ q1
 generalize sortedHeap (h1.push (seqObj "list" acc.toList.toArray 0)) h1.objs.size acc.toList out=hf at he kept ⊢
 exact ai ⟨_,rfl,h hf tk h1.objs.size out.toList ns' e (cC hlt1) kept (by rw[cX]; exact he) a1 a2 a3⟩
end
def jO3 (X:Cx)(f:Value)(ks:List Str)(r:List V->List V->Hp->VK->Prop):Prop:=
 ∀(ad:List (Addr×Obj)) (s:Shared) (σ:St) (H:Hp) (xs zs:List V) (us ws:List Value) (Q:VK),Inv X ad σ H s->Vals xs us->Vals zs ws->r xs zs H Q->
  wpAny (model X.prog X.w) X.A (call f us (ks.zip ws)) (EP X ad σ Q) X.xe s
def tCBK (r:List V->List V->Hp->VK->Prop)(t tk:TA):TE:=λσ H Q=>t σ H λvs H1=>tk σ H1 λzs H2=>r vs zs H2 Q
structure JK (X:Cx)(kws:List Keyword)(t:TA):Prop where
 h:PK X kws t
variable {X:Cx}
section
variable {x:Str}{p pos kpos:Pos}{e:Expr}{es:List Expr}{kws:List Keyword}{t tk:TA}{te:TE}{nm:Option Str}{ks:List Str}{id:String}{r:List V->List V->Hp->VK->Prop}
theorem jMK:JK X [] tNil:=⟨jU0⟩
theorem jI2 (ha:JE X e te)(hr:JK X kws t):JK X (⟨nm,e,kpos⟩::kws) (tCons te t):=⟨jRK ha.h hr.h⟩
theorem jGO (hc:jO3 X (.builtin id) ks r)(hg:Gl1 X x)(hm:X.mg x=none)(hv:bootBuiltins x=some (.builtin id))(ha:JA X (e::es) t)(hkw:JK X kws tk)(he:starEach (e::es) X.env=(false,eval e X.env)::starEach es X.env)
  (hn:x≠ "__name__" :=by decide) (hdb:(x==("__debug__" :Str))=false:=by decide) (hall:(backToKw pos (keywordEach kws X.env)).all (·.1.isSome)=true:=by rfl) (hks:(backToKw pos (keywordEach kws X.env)).filterMap (·.1)=ks:=by rfl)
  (hpl:(backTo pos (starEach es X.env)).any (·.1)=false:=by rfl) (hkn:(backToKw pos (keywordEach kws X.env)).any (·.1.isNone)=false:=by rfl):JE X (.Call (.Name x p) (e::es) kws pos) (tCBK r t tk):=by
 refine⟨λad s σ H Q I h=>?_⟩
 refine dy (jCU I hg.a hm hv ?_ hn hdb)
 refine callWith_kw (mI (ha.h pos ad s σ H _ I h) λus s1 ⟨vs,H1,I1,r1,q1⟩=>mI (hkw.h pos ad s1 σ H1 _ I1 q1) λws s2 ⟨zs,H2,I2,rz,q2⟩=>?_) (by rw[he]; rfl) (by rw[he]; exact hpl) hall hkn
 rw[hks]
 exact hc ad s2 σ H2 vs zs us ws Q I2 r1 rz q2
theorem jFH (hc:X.calm=true):jO3 X (.builtin "sorted") [Str.ofString "reverse"] (λxs zs H Q=>∃(p:Addr) (kvs:List (Key×V)) (ks:List Int) (b:Bool),xs=[.ref p]/\zs=[.bl b]/\H p=some (.dK kvs)/\kvs.map (·.1)=ks.map Sum.inl/\ks.length<=sizeLine/\
  ∀(l:Addr) (ns:List Int),H l=none->Ordered b ns->ns.Perm ks->Q (.ref l) (upd H l (.lst (ns.map V.int)))):=by
 intro ad s σ H xs zs us ws Q I r rz h
 obtain⟨p,kvs,ks,b,rfl,rfl,hp,hk,hn,q⟩:=h
 obtain⟨u,rfl,rx⟩:=r.one
 obtain⟨v,rfl,ry⟩:=rz.one
 cases rx
 cases ry
 obtain⟨z,lo,vs,rel,dd⟩:=dk_of I.hok hp
 refine jG1 (I.ok.hd hc) lo dd (by rw[<- rel.keys]; exact hk) hn λhf tk l vs ns e hl kp he hi pm srt=>?_
 have hz:(ns.map V.int).length<=sizeLine:=by rw[ae,pm.length_eq]; exact hn
 have I2:Inv X ad σ (upd H l (.lst (ns.map V.int))) { s with heap:=hf,toks:=tk} :=I.laid (t':=tk) kp hl ⟨hz,vs,e,jAB hi,he⟩
 exact⟨.ref l,_,I2,rfl,q l ns (I.hok.fresh hl) srt pm⟩
end
theorem jMR {o:Expr}{to:TE}{name:Str}{apos cpos:Pos}{T id:String}{r:V->List V->Hp->VK->Prop}(pa:PlainAttrs T)(slot:Slot T name id)(hty:typeOf (.builtin id)=pure (.type "method_descriptor"))(hm:MtR X id r)(ho:JE X o to)
  (hbase:attributeBase o name X.env (eval o X.env)=eval o X.env:=by rfl) (hline:(apos.endLine==cpos.line)=true:=by rfl):JE X (.Call (.Attribute o name apos) [] [] cpos) (tBM0 X.K T r to):=⟨jUA pa slot hty hm ho.h hbase hline⟩
def rBits:V->List V->Hp->VK->Prop:=λx vs H Q=>∃i,x= .int i/\vs=[]/\Q (.int (Builtin.Int.intBits i)) H
theorem jSA:MtR X "int.bit_length" rBits:=by
 intro ad s σ H x vs v us Q I rx rv h
 obtain⟨i,rfl,rfl,q⟩:=h
 obtain⟨t,rfl⟩:=rx
 have hus:=rv.zero
 subst hus
 exact call_int_bit_length ⟨.int _,H,I.tok _,⟨_,rfl⟩,q⟩
theorem jMQ {i o:Expr}{ty td:TE}{pos:Pos}(hu:X.A.units+1<cLine)(hi:JE X i ty)(ho:JE X o td)(h1:behindInMarks .NotIn o=false):JT X (.Compare i [.NotIn] [o] pos) (tB (jL5 ty td)):=⟨jTY (jLR hu hi.h ho.h) h1⟩
def jTD (i:Int)(b:Bool):TE:=λ_ H Q=>∀p H',H' p=some (.dK [(.inl i, .bl b)])->Ext H H'->H p=none->Q (.ref p) H'
theorem jP7 {i:Int}{b:Bool}{k1 k2:Nat}{p1 p2 pos:Pos} :JE X (.Dict [some (.Constant (.int i) k1 p1)] [.Constant (.bool b) k2 p2] pos) (jTD i b):=
 ⟨λad s σ H Q I h=>jLQ (jIS je_int.h je_bl.h jLN) rfl rfl (by intro z; cases z) (by show 1<=15; decide) ad s σ H Q I λp hp=>⟨j5,[(.inl i, .bl b)],rfl,by show 1<=15; decide,h p _ j5 (((Ext.refl H).new hp _).updNew hp _) hp⟩⟩
theorem jFB {K:W.Frag}{tp:Bool}{l:Addr}{xs:List V}{g:TG}{tb:TS}{D:Ends}{σ:St}{H:Hp}(Pv:Nat->St->Hp->Prop)(h0:Pv 0 σ H)(hl:∀i σ H,Pv i σ H->Sq tp K H l xs)
  (hs:∀i x T σ H,xs[i]?=some x->H T=none->Pv i σ H->g (.ref T) σ (upd H T (.tup [.int (i:Int),x])) λσ2 H2=>tb { D with nx:=Pv (i+1),ct:=Pv (i+1),bk:=D.nx} σ2 H2) (hd:∀σ H,Pv xs.length σ H->D.nx σ H):
  ∃W:Nat->Nat->St->Hp->Prop,(∃m,W 0 m σ H)/\∀i m σ H,W i m σ H->
   ((Ite tp K l).stop i H/\D.nx σ H)\/((Ite tp K l).go i H/\∃N:St->Hp->Prop,(∀σ' H',N σ' H'->∃m',m'<m/\W (i+1) m' σ' H')/\∀x H',(Ite tp K l).yld i H x H'->g x σ H' λσ2 H2=>tb { D with nx:=N,ct:=N,bk:=D.nx} σ2 H2):=by
 refine⟨λi m σ H=>m=xs.length - i/\i<=xs.length/\Pv i σ H,⟨_,rfl,bi _,h0⟩,?_⟩
 rintro i m σ H ⟨rfl,hi,p⟩
 have s1:=hl i σ H p
 by_cases hlt:i<xs.length
 ·refine .inr ⟨⟨xs,xs[i],s1,by simp [hlt]⟩,Pv (i+1),λσ' H' p'=>⟨xs.length - (i+1),by lia,rfl,hlt,p'⟩,λv H'' y=>?_⟩
  obtain⟨T,x,e1,e2,e3,e4⟩:=y
  subst e2 e3
  exact hs i x T σ _ (e4 xs s1) e1 p
 ·have e:i=xs.length:=by lia
  subst e
  exact .inl ⟨⟨xs,s1,aq _⟩,hd σ H p⟩
def All2 {α β:Type}(R:α->β->Prop):List α->List β->Prop
 | [],[]=>True
 | a::as,b::bs=>R a b/\All2 R as bs
 | _,_=>False
section
variable {α β:Type}{R S:α->β->Prop}
theorem All2.len:∀{as:List α}{bs:List β},All2 R as bs->as.length=bs.length
 | [],[],_=>rfl
 | _::_,_::_,h=>bS (· +1) (All2.len h.2)
theorem All2.imp (f:∀a b,R a b->S a b):∀{as:List α}{bs:List β},All2 R as bs->All2 S as bs
 | [],[],_=>trivial
 | _::_,_::_,h=>⟨f _ _ h.1,All2.imp f h.2⟩
theorem All2.snoc {a:α}{b:β} :∀{as:List α}{bs:List β},All2 R as bs->R a b->All2 R (as++[a]) (bs++[b])
 | [],[],_,h=>⟨h,trivial⟩
 | _::_,_::_,h,k=>⟨h.1,All2.snoc h.2 k⟩
theorem All2.get:∀{as:List α}{bs:List β}{i:Nat}{b:β},All2 R as bs->bs[i]?=some b->∃a,as[i]?=some a/\R a b
 | [],[],i,b,_,h=>by simp at h
 | a::_,_::_,0,b,h,e=>by
  simp at e
  subst e
  exact⟨a,rfl,h.1⟩
 | _::_,_::_,i+1,b,h,e=>by
  obtain⟨a,h1,h2⟩:=All2.get h.2 (i:=i) (b:=b) (by simpa using e)
  exact⟨a,by simpa using h1,h2⟩
theorem All2.get':∀{as:List α}{bs:List β}{i:Nat}{a:α},All2 R as bs->as[i]?=some a->∃b,bs[i]?=some b/\R a b
 | [],[],i,b,_,h=>by simp at h
 | a::_,b::_,0,x,h,e=>by
  simp at e
  subst e
  exact⟨b,rfl,h.1⟩
 | _::_,_::_,i+1,x,h,e=>by
  obtain⟨b,h1,h2⟩:=All2.get' h.2 (i:=i) (a:=x) (by simpa using e)
  exact⟨b,by simpa using h1,h2⟩
theorem All2.append:∀{as as':List α}{bs bs':List β},All2 R as bs->All2 R as' bs'->All2 R (as++as') (bs++bs')
 | [],_,[],_,_,h=>h
 | _::_,_,_::_,_,h,k=>⟨h.1,All2.append h.2 k⟩
theorem All2.of_get {as:List α}{bs:List β}(hl:as.length=bs.length)(h:∀(i:Nat) a b,as[i]?=some a->bs[i]?=some b->R a b):All2 R as bs:=by
 induction as generalizing bs with
 | nil=>cases bs with
  | nil=>trivial
  | cons b bs=>cases hl
 | cons a as ih=>cases bs with
  | nil=>cases hl
  | cons b bs=>exact⟨h 0 a b rfl rfl,ih (by simpa using hl) λi a b h1 h2=>h (i+1) a b (by simpa using h1) (by simpa using h2)⟩
end
def lowN (m:Nat):Nat:=if m % 2=1 then lowN (m / 2)+1 else 0
theorem jBW {m:Nat}(h:m % 2=0):lowN m=0:=by
 unfold lowN
 rw[aj (by lia)]
theorem jF4 {m:Nat}(h:m % 2=1):lowN m=lowN (m / 2)+1:=by
 rw[lowN,am h]
theorem jT3 (a b:Nat):a&&&b=2*((a / 2)&&&(b / 2))+(a % 2)*(b % 2):=by
 have h1:(a&&&b) / 2=(a / 2)&&&(b / 2):=Nat.and_div_two
 have h2:(a&&&b) % 2=(a % 2)*(b % 2):=by
  have t:=iw a b 0
  rw[fY,fY,fY] at t
  have t':((a&&&b) % 2=1)↔(a % 2=1/\b % 2=1):=by
   rw[<- im.trans (and_congr cb cb),<- t,cb]
  rcases dh a with ha | ha <;> rcases dh b with hb | hb <;> rw[ha,hb] at t' ⊢ <;> lia
 lia
theorem jSD (m:Nat):(m+1) - ((m+1)&&&m)=2 ^ lowN m:=by
 induction m using strongRecOn with
 | _ m ih=>
  rw[jT3]
  rcases dh m with h | h
  ·rw[jBW h,show (m+1) / 2=m / 2 by lia,Nat.and_self,h]
   lia
  ·have:=ih (m / 2) (by lia)
   rw[jF4 h,gN,show (m+1) / 2=m / 2+1 by lia,show (m+1) % 2=0 by lia]
   lia
theorem jOZ (m:Nat):Builtin.Int.intBits (Builtin.bitAnd (Builtin.bitNot (m:Int)) ((m:Int)+1))=lowN m+1:=by
 have e:Builtin.bitAnd (Builtin.bitNot (m:Int)) ((m:Int)+1)=((2 ^ lowN m:Nat):Int):=by
  unfold Builtin.bitAnd
  have h1:¬(0<=Builtin.bitNot (m:Int)):=by unfold Builtin.bitNot; lia
  have h2:(0:Int)<=(m:Int)+1:=by lia
  have h3:(Builtin.bitNot (Builtin.bitNot (m:Int))).toNat=m:=by unfold Builtin.bitNot; lia
  rw[aV h1,aB h2]
  show ((m:Int)+1) - ((((m:Int)+1).toNat&&&(Builtin.bitNot (Builtin.bitNot (m:Int))).toNat:Nat):Int)=_
  rw[h3,show ((m:Int)+1).toNat=m+1 by lia,<- jSD m]
  have:(m+1)&&&m<=m+1:=Nat.and_le_left
  lia
 rw[e]
 unfold Builtin.Int.intBits
 have hp:0<2 ^ lowN m:=dR _
 have h0:((((2 ^ lowN m:Nat):Int))==0)=false:=by
  rw[cA]
  lia
 rw[h0]
 simp [Nat.log2_two_pow]
theorem jCD (m:Nat):m.testBit (lowN m)=false:=by
 induction m using strongRecOn with
 | _ m ih=>
  rcases dh m with h | h
  ·rw[jBW h,fY,h]
   rfl
  ·rw[jF4 h,Nat.testBit_succ]
   exact ih _ (by lia)
theorem jCE (m:Nat):∀j,j<lowN m->m.testBit j=true:=by
 induction m using strongRecOn with
 | _ m ih=>
  intro j hj
  rcases dh m with h | h
  ·rw[jBW h] at hj
   lia
  ·rw[jF4 h] at hj
   cases j with
   | zero=>rw[fY,h]; rfl
   | succ j=>
    rw[Nat.testBit_succ]
    exact ih _ (by lia) j (by lia)
theorem jUS {m t:Nat}(h1:m.testBit t=false)(h2:∀j,j<t->m.testBit j=true):lowN m=t:=by
 rcases Nat.lt_trichotomy (lowN m) t with h | h | h
 ·have:=h2 _ h
  rw[jCD] at this
  cases this
 ·exact h
 ·have:=jCE m t h
  rw[h1] at this
  cases this
theorem jSR {m w:Nat}(h:m<2 ^ w)(a:∀j,j<w->m.testBit j=true):m=2 ^ w - 1:=by
 apply io
 intro i
 rw[db]
 by_cases hi:i<w
 ·rw[a i hi,aB hi]
 ·rw[aV hi]
  exact ln (aR h (cq (by decide) (by lia)))
theorem yV {m w:Nat}(h:m<2 ^ w)(hn:m≠2 ^ w - 1):lowN m<w:=by
 refine bP λz=>hn (jSR h λj hj=>jCE m j (by lia))
abbrev Ch:=List (List (Int×Nat))
def fullN (ch:Ch):Nat:=2 ^ ch.length - 1
def chAt (ch:Ch)(m:Nat):List (Int×Nat):=(ch.getD (lowN m) []).filter λc=>c.2&&&m==0
structure ChOk (ch:Ch):Prop where
 w:ch.length<=16
 len:∀(t:Nat) (cs:List (Int×Nat)),ch[t]?=some cs->cs.length<=33
 it:∀(t:Nat) (cs:List (Int×Nat)),ch[t]?=some cs->∀c∈cs,c.2.testBit t=true/\c.2<2 ^ ch.length/\ -1<=c.1/\c.1<32
theorem ChOk.mem {ch:Ch}{m:Nat}{c:Int×Nat}(o:ChOk ch)(h:m<2 ^ ch.length)(hn:m≠fullN ch)(hc:c∈chAt ch m):c.2.testBit (lowN m)=true/\c.2<2 ^ ch.length/\c.2&&&m=0/\ -1<=c.1/\c.1<32:=by
 obtain⟨h1,h2⟩:=bF.mp hc
 have hl:=yV h hn
 rw[aC,aK hl] at h1
 obtain⟨a,b,c1,c2⟩:=o.it _ _ (aK hl) c h1
 exact⟨a,b,by simpa using h2,c1,c2⟩
theorem ChOk.up {ch:Ch}{m:Nat}{c:Int×Nat}(o:ChOk ch)(h:m<2 ^ ch.length)(hn:m≠fullN ch)(hc:c∈chAt ch m):m<m|||c.2/\m|||c.2<2 ^ ch.length:=by
 obtain⟨a,b,z,_⟩:=o.mem h hn hc
 refine⟨?_,Nat.or_lt_two_pow h b⟩
 refine Nat.lt_of_le_of_ne Nat.left_le_or λe=>?_
 have t:m.testBit (lowN m)=(m|||c.2).testBit (lowN m):=bS (λz=>z.testBit (lowN m)) e
 rw[bZ,a,ga,jCD] at t
 cases t
def gvN {α:Type}(ch:Ch)(e:α)(J:List (Int×α)->α):Nat->Nat->α
 | 0,_=>e
 | n+1,m=>if m=fullN ch then e else J ((chAt ch m).map λc=>(c.1,gvN ch e J n (m|||c.2)))
def gv {α:Type}(ch:Ch)(e:α)(J:List (Int×α)->α)(m:Nat):α:=gvN ch e J (fullN ch - m) m
theorem jSN {α:Type}{ch:Ch}{e:α}{J:List (Int×α)->α}(o:ChOk ch):∀(k n m:Nat),fullN ch - m<=k->fullN ch - m<=n->m<2 ^ ch.length->gvN ch e J n m=gvN ch e J k m:=by
 intro k
 induction k with
 | zero=>
  intro n m h1 h2 h3
  have:m=fullN ch:=by
   unfold fullN at h1 ⊢
   lia
  subst this
  cases n with
  | zero=>rfl
  | succ n=>show gvN ch e J (n+1) (fullN ch)=e; rw[gvN,am rfl]
 | succ k ih=>
  intro n m h1 h2 h3
  by_cases hm:m=fullN ch
  ·subst hm
   cases n with
   | zero=>show e=gvN ch e J (k+1) (fullN ch); rw[gvN,am rfl]
   | succ n=>
    have q:∀i,gvN ch e J (i+1) (fullN ch)=e:=λi=>by rw[gvN,am rfl]
    rw[q,q]
  ·have hlt:m<fullN ch:=by
    unfold fullN at hm ⊢
    lia
   cases n with
   | zero=>lia
   | succ n=>
    rw[gvN,aj hm,gvN,aj hm]
    congr 1
    refine bo λc hc=>?_
    obtain⟨u1,u2⟩:=o.up h3 hm hc
    rw[ih n (m|||c.2) (by lia) (by lia) u2]
theorem jSM {α:Type}{ch:Ch}{e:α}{J:List (Int×α)->α} :gv ch e J (fullN ch)=e:=by
 unfold gv
 rw[lj,gvN]
theorem jSL {α:Type}{ch:Ch}{e:α}{J:List (Int×α)->α}{m:Nat}(o:ChOk ch)(h:m<2 ^ ch.length)(hn:m≠fullN ch):gv ch e J m=J ((chAt ch m).map λc=>(c.1,gv ch e J (m|||c.2))):=by
 have hlt:m<fullN ch:=by
  unfold fullN at hn ⊢
  lia
 have:gv ch e J m=gvN ch e J ((fullN ch - m - 1)+1) m:=by
  unfold gv
  rw[show fullN ch - m - 1+1=fullN ch - m by lia]
 rw[this,gvN,aj hn]
 congr 1
 refine bo λc hc=>?_
 obtain⟨u1,u2⟩:=o.up h hn hc
 unfold gv
 rw[jSN o (fullN ch - (m|||c.2)) _ _ (aq _) (by lia) u2]
end L2
namespace L2
open PySem
variable {X:Cx}
section
variable {tg iter elt:Expr}{ifs:List Expr}{sc:Scope}{pos:Pos}{wi:TI}{g:TG}{tt:TT}{te:TE}{m:List (Option Nat)}{Nc:List Str}
end
end L2
namespace L2
open PySem PySem.Spec PyProof.Rows
def ZC (cl:List (Str×Addr))(fs:List Str)(fv:List V):Shared->Hp->Prop:=λs H=>ClOk cl s H/\FvOk fs fv cl s
theorem ZC.st (cl:List (Str×Addr))(fs:List Str)(fv:List V):ZSt (ZC cl fs fv):=by
 rintro fr s s' H H' u ⟨C,F1,F2⟩
 have kc:∀{x c v},cl.lookup x=some c->s.heap.IsCell c v->s'.heap.IsCell c v:=λ{x c v} hc ⟨o,ho,hd⟩=>by
  obtain⟨sl,e⟩:=u.any ho (C.cell x c hc).2 (by simp)
  exact⟨_,e,hd⟩
 refine⟨⟨C.inj,λx c hc=>?_⟩,F1,λi x v h1 h2=>?_⟩
 ·obtain⟨⟨v,o,ho,hd⟩,n⟩:=C.cell x c hc
  exact⟨⟨v,kc hc ⟨o,ho,hd⟩⟩,u.free c o ho n (by simp)⟩
 ·obtain⟨c,w,a1,a2,a3⟩:=F2 i x v h1 h2
  exact⟨c,w,a1,a2,kc a1 a3⟩
theorem Callee.ofN {P:Program}{w:World}{K:W.Frag}{mg:Str->Option Value}{base:Heap}{k:Nat}{x q:Str}{args:Arguments}{body:List Stmt}{scope:Scope}{ps fs:List Str}{sp:List V->Sp}{cl:List (Str×Addr)}{fv:List V}{a c:Addr}(F:FnN P w K mg base k x q args body scope ps fs sp):
  Callee P w K mg base (ZC cl fs fv) (λH=>H a=some (.ext (nfP x q args body scope cl a c))/\H c=some (.ext (ncP q c))) k a (sp fv):=by
 refine⟨λA outer s H e z=>?_,λA outer s H us vs Q E hr e0 hz zh r hsp=>?_⟩
 ·obtain⟨⟨d,m,t,g⟩,_,_⟩:=(show ObjOk P w H s.heap a (.ext _) from e.hok a _ z.1)
  exact⟨_,_,_,_,g⟩
 ·obtain⟨p1,_,_⟩:=(show ObjOk P w H s.heap a (.ext _) from e0.hok a _ zh.1)
  obtain⟨p2,_,_⟩:=(show ObjOk P w H s.heap c (.ext _) from e0.hok c _ zh.2)
  exact F.run A outer s H a c cl us vs fv Q E hr e0 p1 p2 hz.1 hz.2 r hsp
def jTF {ι:Type}(G:ι->St->Prop)(sp:ι->Sp)(t:TA):TE:=λσ H Q=>t σ H λvs H1=>∃i,G i σ/\sp i vs H1 Q E0
theorem jP8 {ι:Type}{X:Cx}{Z:ι->Shared->Hp->Prop}{G:ι->St->Prop}{k:Nat}{f:Addr}{fd:FuncData}{ps:List Str}{sp:ι->Sp}{x:Str}{p pos:Pos}{e:Expr}{es:List Expr}{t:TA}(F:∀i,FnZ X.prog X.w X.K X.mg X.base CX0 (Z i) k f fd ps (sp i))(hr:Room k X.A)(hg:Gl1 X x)(hm:X.mg x=some (.ref f))(hk:keepIn X.K (.ref f)=true)(hb:Binds X.K fd ps [])
  (hZ:∀i ad s σ H,Inv X ad σ H s->G i σ->Z i s H) (ha:JA X (e::es) t) (he:starEach (e::es) X.env=(false,eval e X.env)::starEach es X.env) (hdb:(x==("__debug__" :Str))=false:=by decide) (hpl:(backTo pos (starEach es X.env)).any (·.1)=false:=by rfl):
  JE X (.Call (.Name x p) (e::es) [] pos) (jTF G sp t):=by
 refine⟨λad s σ H Q I h=>?_⟩
 refine dy (jI0 I hg.a hm ?_ hdb)
 refine mx (h₀:=X.base) I.ok.mod.kin hk (mI (ha.h pos ad s σ H _ I h) λus s1 ⟨vs,H1,I1,r,i,gi,q⟩=>⟨I1.kIn,?_⟩) he hpl
 have hl:(us++[]).length=ps.length:=by rw[bg,<- r.length]; exact(F i).len _ _ _ _ q
 have b:=hb s1 us I1.kIn hl
 rw[bg] at b
 refine iT (ev ((F i).run X.A X.stack s1 H1 ⟨us,[]⟩ us vs Q E0 hr I1.env0 b r (hZ i _ _ _ _ I1 gi) q) λr s' hq=>?_)
 cases r with
 | error e=>exact hq.elim
 | ok fl=>
  cases fl with
  | ret u=>exact I1.after hq
  | next=>exact False.elim hq
  | brk=>exact False.elim hq
  | cont=>exact False.elim hq
theorem jJ5 {P:Program}{w:World}{K:W.Frag}{mg:Str->Option Value}{base:Heap}{N:List Str}{qual:Str}{sc:Scope}{f:Addr}{cd:Value}{cl:List (Str×Addr)}{A:Around}{outer:List Env}{s:Shared}{H:Hp}{x y:Str}{p1 p2 pos:Pos}{k i j:Nat}(hN:N.Nodup)(hi:N[i]?=some x)(hj:N[j]?=some y)(hx:sc.names.lookup x=some .local)(hy:sc.names.lookup y=some .local):
  JG (cxN P w K mg base N qual sc f cd cl A outer s H) (.Tuple [.Name x p1, .Name y p2] k pos) (gTup K 2 (qA (kE i) (qA (kE j) gNil))):=
 jJ6 (X:=cxN P w K mg base N qual sc f cd cl A outer s H) rfl (jA8 (jJ hN hi (loc_n hx)) (jA8 (jJ hN hj (loc_n hy)) jDQ jAO) jAO)
end L2
namespace TM
open PySem PySem.Spec PyProof.Rows PySem.W
open HT (lexLt lexLt_cons)
open L2 (All2)
theorem jMA:∀x:List Int,lexLt x x=false
 | []=>rfl
 | a::x=>by rw[lexLt_cons,am rfl]; exact jMA x
theorem jM8:∀{x y z:List Int},lexLt x y=true->lexLt y z=true->lexLt x z=true
 | [],[],_,h,_=>by cases h
 | [],_::_,[],_,h=>by cases h
 | [],_::_,_::_,_,_=>rfl
 | _::_,[],_,h,_=>by cases h
 | _::_,_::_,[],_,h=>by cases h
 | a::x,b::y,c::z,h,k=>by
  rw[lexLt_cons] at h k ⊢
  by_cases e1:a=b
  ·rw[am e1] at h
   by_cases e2:b=c
   ·rw[am e2] at k
    rw[am (e1.trans e2)]
    exact jM8 h k
   ·rw[aj e2] at k
    rw[aj (e1 ▸ e2),e1]
    exact k
  ·rw[aj e1] at h
   have h:=aU h
   by_cases e2:b=c
   ·rw[aj (e2 ▸ e1),<- e2]
    exact aB h
   ·rw[aj e2] at k
    have k:=aU k
    rw[aj (by lia)]
    exact aB (by lia)
theorem jM9:∀{x y:List Int},lexLt x y=false->lexLt y x=false->x=y
 | [],[],_,_=>rfl
 | [],_::_,h,_=>by cases h
 | _::_,[],_,h=>by cases h
 | a::x,b::y,h,k=>by
  rw[lexLt_cons] at h k
  by_cases e:a=b
  ·rw[am e] at h
   rw[am e.symm] at k
   rw[e,jM9 h k]
  ·rw[aj e] at h
   rw[aj (λz=>e z.symm)] at k
   have:=dZ h
   have:=dZ k
   lia
def rk (ws:List (List Int))(x:List Int):Int:=((ws.countP λz=>lexLt z x:Nat):Int)
theorem jFD {p q:List Int->Bool}(h:∀z,p z=true->q z=true):∀ws:List (List Int),ws.countP p<=ws.countP q
 | []=>aq _
 | a::ws=>by
  have:=jFD h ws
  rw[cZ,cZ]
  have:=h a
  cases hp:p a <;> cases hq:q a <;> simp_all <;> lia
theorem jJI {p q:List Int->Bool}(h:∀z,p z=true->q z=true){x:List Int}(hp:p x=false)(hq:q x=true):∀{ws:List (List Int)},x∈ws->ws.countP p<ws.countP q
 | a::ws,hx=>by
  rw[cZ,cZ]
  rcases ar.mp hx with e | hx
  ·have:=jFD h ws
   rw[<- e,hp,hq]
   simp
   lia
  ·have:=jJI h hp hq hx
   have:=h a
   cases hpa:p a <;> cases hqa:q a <;> simp_all <;> lia
theorem rk_lt {ws:List (List Int)}{x y:List Int}(hx:x∈ws):decide (rk ws x<rk ws y)=lexLt x y:=by
 unfold rk
 cases h:lexLt x y with
 | true=>
  have:=jJI (p:=λz=>lexLt z x) (q:=λz=>lexLt z y) (λz hz=>jM8 hz h) (jMA x) h hx
  exact aB (by lia)
 | false=>
  refine aV ?_
  by_cases k:lexLt y x=true
  ·have:=jFD (p:=λz=>lexLt z y) (q:=λz=>lexLt z x) (λz hz=>jM8 hz k) ws
   lia
  ·have:=jM9 h (gO.mpr k)
   rw[this]
   lia
variable {prog:Program}{w:World}{A:Around}{E:Value->Shared->Prop}{s:Shared}
section
variable {kd:SortKind}{f:Value->List Int}
theorem pairs_mem {vs:List Value}{p:Keyed}(h:p∈(pairsOf vs).toList):p.1=p.2/\p.1∈vs:=by
 rw[pairsOf_toList] at h
 exact mem_zip_self h
end
def TupI (h:Heap)(v:Value)(l:List Int):Prop:=∃a n its,v= .ref a/\h.get? a=some { cls:= .type "tuple",data:= .seq its n} /\IntsAre its.toList l
noncomputable def decV (h:Heap):Value->List Int
 | .ref a=>match h.get? a with
  | some o=>match o.data with
   | .seq xs _=>xs.toList.map numOf
   | _=> []
  | none=> []
 | _=> []
theorem TupI.dec {h:Heap}{v:Value}{l:List Int}(t:TupI h v l):decV h v=l:=by
 obtain⟨a,n,its,rfl,ho,hi⟩:=t
 dsimp only [decV]
 rw[ho]
 exact hi.nums
theorem jS0 {b:Bool}{x y:Int}{t u:Tok}{Q:Bool->Shared->Prop}(h:Q (decide (x<y)) s):wpAny (model prog w) A (oneLt' b (.int x t) (.int y u)) Q E s:=by
 cases b with
 | true=>exact oneLt_int h
 | false=>exact kat_one _ _ (HT.rcLt_int A s x t y u prog w E _ h)
theorem jQD {b fin:Bool}{Q:Bool->Shared->Prop} :∀{us:List Value}{x:List Int}{vs:List Value}{y:List Int}(i:Nat),IntsAre us x->IntsAre vs y->fin=decide (us.length<vs.length)->Q (lexLt x y) s->KatLex prog w A b fin Q (us.zip vs) i s
 | _,_,_,_,i, .nil, .nil,hf,h=>by rw[hf]; exact h
 | _,_,_,_,i, .nil, .cons _ _ _,hf,h=>by rw[hf]; exact h
 | _,_,_,_,i, .cons _ _ _, .nil,hf,h=>by rw[hf]; exact h
 | _,_,_,_,i, .cons (ns:=ns) a t h1, .cons (ns:=ms) c u h2,hf,h=>by
  rw[dY]
  refine kat_cons (iV a t c u prog w _ _ ?_)
  rw[lexLt_cons] at h
  by_cases e:a=c
  ·rw[am e] at h
   rw[show (a==c)=true by simp [e]]
   refine kat_yes (jQD (i+1) h1 h2 ?_ h)
   rw[hf,aP,aP]
   exact decide_eq_decide.mpr (by lia)
  ·rw[aj e] at h
   rw[show (a==c)=false by simp [e]]
   exact kat_no (jS0 h)
theorem jM4 {b:Bool}{u v:Value}{x y:List Int}{Q:Bool->Shared->Prop}(hu:TupI s.heap u x)(hv:TupI s.heap v y)(h:Q (lexLt x y) s):wpAny (model prog w) A (keyLt' (tuples' b) u v) Q E s:=by
 obtain⟨a,n,its,rfl,ho,hi⟩:=hu
 obtain⟨a2,n2,its2,rfl,ho2,hi2⟩:=hv
 exact kat_lt ho rfl ho2 rfl (jQD 0 hi hi2 rfl h)
theorem jKB (x y:Value):keyLt' general' x y=oneLt' false x y:=rfl
theorem jK3 {u v:Value}{x y:List Int}{Q:Bool->Shared->Prop}(hu:TupI s.heap u x)(hv:TupI s.heap v y)(room:A.units<cLine)(h:Q (lexLt x y) s):wpAny (model prog w) A (keyLt' general' u v) Q E s:=by
 obtain⟨a,n,its,rfl,ho,hi⟩:=hu
 obtain⟨a2,n2,its2,rfl,ho2,hi2⟩:=hv
 rw[jKB]
 exact kat_one _ _ (HT.lt_tupInts (items:=its) (items2:=its2) ⟨_,ho,rfl,n,rfl⟩ ⟨_,ho2,rfl,n2,rfl⟩ hi hi2 room h)
theorem jK2 {u v:Value}{x y:List Int}{Q:Bool->Shared->Prop}(hu:TupI s.heap u x)(hv:TupI s.heap v y)(room:A.units<cLine)(h:Q (lexLt x y) s):wpAny (model prog w) A (keyLt' oneType' u v) Q E s:=by
 obtain⟨a,n,its,rfl,ho,hi⟩:=hu
 obtain⟨a2,n2,its2,rfl,ho2,hi2⟩:=hv
 rw[keyLt'_oneType,oneLt'_eq]
 simp only [fH]
 refine aa (wpAny_cRoomFor room ?_)
 have hT:s.TypeIs (.ref a) "tuple" :=⟨_,ho,rfl⟩
 refine aa (wpAny_callSpecialIfBound?_slot hT gR (gY gR hT kx (kf _ _) (HT.tuple_lt_ints a a2 its its2 n n2 _ _ _ _ x y hi hi2) ⟨ho,ho2,?_⟩))
 exact dJ h
def FsOf:List (Option Value)->List (List Int)->Prop:=All2 λo l=>(o=none/\l=[])\/∃n t r,o=some (Value.int n t)/\l=n::r
theorem jQK:∀{vs:List Value}{ws:List (List Int)},All2 (TupI s.heap) vs ws->∃fs,FsOf fs ws/\∀(Q:List (Option Value)->Shared->Prop) (E:Value->Shared->Prop),Q fs s->wpAny (model prog w) A (vs.mapM firstOfTuple') Q E s
 | [],[],_=>⟨[],trivial,λQ E h=>by rw[List.mapM_nil]; exact ai h⟩
 | v::vs,l::ws,⟨⟨a,n,its,e,ho,hi⟩,r⟩=>by
  obtain⟨fs,h1,h2⟩:=jQK r
  refine⟨its[0]?::fs,⟨?_,h1⟩,λQ E h=>?_⟩
  ·obtain⟨li⟩:=its
   cases hi with
   | nil=>exact .inl ⟨rfl,rfl⟩
   | cons c t _=>exact .inr ⟨c,t,_,rfl,rfl⟩
  ·rw[List.mapM_cons,e]
   refine aa ?_
   rw[kas_first_eq]
   refine aa (Looks.here (show Looks (model prog w) s.heap (typeOf (.ref a)) (.type "tuple") from(Looks.ld ho).andThen .now) ?_)
   rw[aj (by first | decide | simp)]
   refine aa (listItems_at ho rfl (ai ?_))
   exact aa (h2 _ _ (ai h))
theorem jN2:∀{fs:List (Option Value)}{ws:List (List Int)},FsOf fs ws->fs.all (·.isSome)=ws.all λx=>!x.isEmpty
 | [],[],_=>rfl
 | o::fs,l::ws,⟨h,r⟩=>by
  rw[gm,gm,jN2 r]
  rcases h with ⟨rfl,rfl⟩ | ⟨n,t,r,rfl,rfl⟩ <;> rfl
theorem jI6:∀{fs:List (Option Value)}{ws:List (List Int)},FsOf fs ws->∀v∈fs.filterMap id,∃n t,v=Value.int n t
 | [],[],_,v,h=>by cases h
 | o::fs,l::ws,⟨h,r⟩,v,hv=>by
  rcases h with ⟨rfl,rfl⟩ | ⟨n,t,r',rfl,rfl⟩
  ·exact jI6 r v (by simpa using hv)
  ·rw[eM] at hv
   rcases ar.mp hv with e | hv
   ·exact⟨n,t,e⟩
   ·exact jI6 r v hv
def kdOf (ws:List (List Int)):SortKind:=if (ws.all λx=>!x.isEmpty)=true then tuples' true else if (ws.headD []).isEmpty=true then oneType' else general'
theorem jIX {T:Value}{vs:List Value}(ne:vs≠ [])(hT:∀v∈vs,Looks (model prog w) s.heap (typeOf v) T)(hT2:(T==T)=true){Q:Option Value->Shared->Prop}(h:Q (some T) s):wpAny (model prog w) A (oneTypeOnly' vs.toArray) Q E s:=by
 obtain⟨v,r,rfl⟩:=fq ne
 rw[oneTypeOnly'_eq,List.mapM_toArray,map_eq_pure_bind]
 refine aa (aa (kas_mapM (r:=T) _ (λv hv Q' hq=>(hT v hv).here hq) (ai ?_)))
 have hall2:((List.map (λ_=>T) (v::r)).toArray.all λx=>x==T)=true:=by
  simp only [List.all_toArray,List.all_map,cM]
  intro _ _
  exact hT2
 have h0:(List.map (λ_=>T) (v::r)).toArray[0]?=some T:=by simp
 rw[h0]
 simp only [hall2,fH]
 exact ai h
theorem jO9 {v:Value}{l:List Int}(h:TupI s.heap v l):Looks (model prog w) s.heap (typeOf v) (.type "tuple"):=by
 obtain⟨a,n,its,rfl,ho,_⟩:=h
 exact(Looks.ld ho).andThen .now
theorem kind_of {vs:List Value}{ws:List (List Int)}{Q:SortKind->Shared->Prop}(t:All2 (TupI s.heap) vs ws)(h2:vs≠ [])(h:Q (kdOf ws) s):wpAny (model prog w) A (keyKind' vs.toArray) Q E s:=by
 obtain⟨fs,f1,f2⟩:=jQK (prog:=prog) (w:=w) (A:=A) t
 rw[kat_kind_eq,List.mapM_toArray,map_eq_pure_bind]
 refine aa (aa (f2 _ _ (ai ?_)))
 have e:=jN2 f1
 have ha:(fs.toArray.all λx=>x.isSome)=fs.all (·.isSome):=by simp
 unfold kdOf at h
 rw[ha,e]
 cases hc:(ws.all λx=>!x.isEmpty) with
 | true=>
  rw[hc,am rfl] at h
  rw[am rfl]
  refine aa (cP ?_)
  have hf:(fs.toArray.filterMap id)=(fs.filterMap id).toArray:=by simp
  rw[hf]
  have ne:fs.filterMap id≠ []:=by
   intro z
   obtain⟨v,vs',rfl⟩:=fq h2
   cases ws with
   | nil=>exact t.elim
   | cons l ws=>
    cases fs with
    | nil=>exact f1.elim
    | cons o fs=>
     rcases f1.1 with ⟨_,q⟩ | ⟨n,t',r,q,_⟩
     ·rw[q] at hc; simp at hc
     ·rw[q,eM] at z; cases z
  refine aa (jIX (T:= .type "int") ne (λv hv=>?_) rfl (ai ?_))
  ·obtain⟨n,t',e⟩:=jI6 f1 v hv
   rw[e]
   exact .now
  ·exact h
 | false=>
  rw[hc,aj aA] at h
  rw[aj aA]
  obtain⟨v,vs',rfl⟩:=fq h2
  cases ws with
  | nil=>exact t.elim
  | cons l ws=>
   cases fs with
   | nil=>exact f1.elim
   | cons o fs=>
    have h0:(o::fs).toArray[0]?=some o:=by simp
    rw[h0]
    rcases f1.1 with ⟨q,q2⟩ | ⟨n,t',r,q,q2⟩
    ·rw[q2] at h
     rw[q,aj (by simp)]
     refine aa (jIX (T:= .type "tuple") h2 (λu hu=>?_) rfl (ai h))
     obtain⟨i,hi⟩:=bw hu
     obtain⟨l',_,hl⟩:=t.get' hi
     exact jO9 hl
    ·rw[q2] at h
     rw[q,am (by simp)]
     exact ai h
theorem lt_kd {ws:List (List Int)}{u v:Value}{x y:List Int}{Q:Bool->Shared->Prop}(hu:TupI s.heap u x)(hv:TupI s.heap v y)(room:A.units<cLine)(h:Q (lexLt x y) s):wpAny (model prog w) A (keyLt' (kdOf ws) u v) Q E s:=by
 unfold kdOf
 split
 ·exact jM4 hu hv h
 ·split
  ·exact jK2 hu hv room h
  ·exact jK3 hu hv room h
end TM
namespace L2
open PySem PySem.Spec PyProof.Rows
variable {X:Cx}
noncomputable def refV:Value->V
 | .ref a=> .ref a
 | _=> .non
structure KeyS where
 TK:Heap->Value->List Int->Prop
 KR:Hp->V->List Int->Prop
 kd:List (List Int)->SortKind
 dc:Heap->Value->List Int
structure KeyOk (S:KeyS):Prop where
 of:∀{P:Program}{w:World}{H:Hp}{h:Heap}{v:V}{u:Value}{l:List Int},HOk P w H h->RelV v u->S.KR H v l->S.TK h u l
 mono:∀{H H':Hp}{v:V}{l:List Int},TupsK H H'->S.KR H v l->S.KR H' v l
 dec:∀{h:Heap}{u:Value}{l:List Int},S.TK h u l->S.dc h u=l
 kind:∀{prog:Program}{w:World}{A:Around}{E:Value->Shared->Prop}{s:Shared}{vs:List Value}{ws:List (List Int)}{Q:SortKind->Shared->Prop},All2 (S.TK s.heap) vs ws->vs≠ []->Q (S.kd ws) s->wpAny (model prog w) A (keyKind' vs.toArray) Q E s
 lt:∀{prog:Program}{w:World}{A:Around}{E:Value->Shared->Prop}{s:Shared}{ws:List (List Int)}{u v:Value}{x y:List Int}{Q:Bool->Shared->Prop},S.TK s.heap u x->S.TK s.heap v y->A.units+2<cLine->Q (HT.lexLt x y) s->wpAny (model prog w) A (keyLt' (S.kd ws) u v) Q E s
variable {S:KeyS}
section
variable {prog:Program}{w:World}{A:Around}{E:Value->Shared->Prop}{s:Shared}
noncomputable abbrev odK (S:KeyS)(ws:List (List Int))(h:Heap)(ks:List Value):TM.Od:=⟨S.kd ws,λp=>TM.rk (ks.map (S.dc h)) (S.dc h p.1),λp=>p.1∈ks⟩
theorem ltK (ok:KeyOk S){ks:List Value}{ws:List (List Int)}(t:All2 (S.TK s.heap) ks ws)(room:A.units+2<cLine): @TM.LtOk prog w A s (odK S ws s.heap ks):= @TM.LtOk.mk prog w A s (odK S ws s.heap ks) λ{E st x y Q} hk hx hy h=>by
 have e:decide (@TM.key (odK S ws s.heap ks) x< @TM.key (odK S ws s.heap ks) y)=HT.lexLt (S.dc s.heap x.1) (S.dc s.heap y.1):=TM.rk_lt (bQ hx)
 rw[e] at h
 rw[lt'_eq]
 refine aI (gL ?_)
 rw[show kindOf st=S.kd ws from hk]
 obtain⟨i,hi⟩:=bw hx
 obtain⟨j,hj⟩:=bw hy
 obtain⟨l1,_,t1⟩:=t.get' hi
 obtain⟨l2,_,t2⟩:=t.get' hj
 rw[ok.dec t1,ok.dec t2] at h
 exact aI (ig (dF (ok.lt t1 t2 room ⟨rfl,aM h⟩)))
theorem jMD (ok:KeyOk S){D kS:Addr}{its ks:List Value}{ws:List (List Int)}{e1 e:Nat}{P:PySem.Fin->Shared->Prop}(hl:ks.length=its.length)(hz:its.length<=sizeLine)(t:All2 (S.TK s.heap) ks ws)(room:A.units+2<cLine)
  (hD:s.heap.get? D=some (seqObj "list" #[] e1)) (hK:s.heap.get? kS=some (seqObj "list" ks.toArray e)) (ne:D≠kS)
  (h:∀ps:List (Value×Value),ps.Perm (ks.zip its)->ps.Pairwise (λp q=>HT.lexLt (S.dc s.heap q.1) (S.dc s.heap p.1)=false)->
   P (.done (.ret .none)) { s with heap:=(s.heap.update kS (Obj.mapSeq λ_=>#[])).update D (Obj.mapSeq λ_=>(ps.map Prod.snd).toArray)}):
  wpAny (model prog w) A (ksk_end D false its.toArray e1 (.ref kS) ks.toArray) P E s:=by
 have hpz:(ks.toArray.zip its.toArray).toList=ks.zip its:=by simp
 have hpn:(ks.toArray.zip its.toArray).size=its.length:=by rw[<- aN,hpz,lF]; lia
 have hD2:(s.heap.update kS (Obj.mapSeq λ_=>(#[]:Array Value))).get? D=some (seqObj "list" #[] e1):=(bb _ _ (dq ne)).trans hD
 have tail:∀st:SortSt,failedOf st=none->(arrOf st).Perm (ks.toArray.zip its.toArray)->(arrOf st).toList.Pairwise (λp q=>HT.lexLt (S.dc s.heap q.1) (S.dc s.heap p.1)=false)->wpAny (model prog w) A (ksk_tail D false e1 (.ref kS) st) P E s:=λst hf hp hs=>by
  unfold ksk_tail
  dsimp only
  refine aa (fh hK rfl ?_ (by rw[aG]; lia) (bi _))
  refine aa (eY ?_)
  refine aa (jo hD2 rfl ?_)
  refine aa (fh hD2 rfl ?_ (bi _) ?_)
  ·rw[hf]
   simp only [jp,dE,hV]
   refine ai ?_
   have:=h (arrOf st).toList (by rw[<- hpz]; exact ci.mp hp) hs
   have e:∀xs:Array Keyed,(xs.toList.map Prod.snd).toArray=xs.map (·.2):=λxs=>by rw[<- ko,cX]
   rw[e] at this
   exact this
  ·simp only [dE,hV]
   rw[size_map,hp.size_eq,hpn]
   lia
 unfold ksk_end
 dsimp only
 simp only [dE,hV]
 by_cases few:its.toArray.size<2
 ·rw[am few,am few]
  refine aa (ai ?_)
  rw[StateT.run_pure]
  refine aa (ai ?_)
  dsimp only
  refine tail (SortSt.mk' general' _ #[] 7 none) rfl (lE _) ?_
  show (ks.toArray.zip its.toArray).toList.Pairwise _
  rw[hpz]
  rw[aG] at few
  have:(ks.zip its).length<=1:=by rw[lF]; lia
  match hq:ks.zip its,this with
  | [],_=>exact .nil
  | [_],_=>exact cj _ _
 ·rw[aj few,aj few]
  rw[aG] at few
  have nek:ks≠ []:=λz=>by rw[z] at hl; simp at hl; lia
  have allk: @TM.AllI (odK S ws s.heap ks) (ks.toArray.zip its.toArray).toList:=λp hp=>by
   rw[hpz] at hp
   exact(dP hp).1
  letI iO:TM.Od:=odK S ws s.heap ks
  haveI iL:TM.LtOk prog w A s:=ltK ok t room
  refine aa (ok.kind t nek (aa (b9 (TM.wpS_sortRunsAny (a₀:=ks.toArray.zip its.toArray) (st:=SortSt.mk' (S.kd ws) _ #[] 7 none)
   (Q:=λ_ st'=>(arrOf st').Perm (ks.toArray.zip its.toArray)/\failedOf st'=none/\TM.STo (arrOf st') (ks.toArray.zip its.toArray).size)
   allk ⟨lE _,rfl,rfl,rfl⟩ (by rw[hpn]; lia) λst' a1 a2 a3=>⟨a1,a2,a3⟩) ?_ λ_ _ e=>e)))
  rintro ⟨⟨⟩,st'⟩ s' ⟨rfl,p1,p2,p3⟩
  dsimp only at p1 p2 p3 ⊢
  refine tail st' p2 p1 ?_
  have pl:=ci.mp p1
  rw[cO]
  intro i j hi hj hij
  rw[aN] at hi hj
  have sz:=p1.size_eq
  have k:=p3 i j (cC hij) (by lia)
  have ei:(arrOf st')[i]?=some (arrOf st')[i]:=iK _ i hi
  have ej:(arrOf st')[j]?=some (arrOf st')[j]:=iK _ j hj
  have m2:(arrOf st')[j].1∈ks:=allk _ (pl.mem_iff.mp (by simp))
  rw[@TM.KI_key (odK S ws s'.heap ks) _ _ _ ei,@TM.KI_key (odK S ws s'.heap ks) _ _ _ ej] at k
  have e:decide (@TM.key (odK S ws s'.heap ks) (arrOf st')[j]< @TM.key (odK S ws s'.heap ks) (arrOf st')[i])=HT.lexLt (S.dc s'.heap (arrOf st')[j].1) (S.dc s'.heap (arrOf st')[i].1):=TM.rk_lt (bQ m2)
  rw[fu,fu,<- e]
  exact aV (Int.not_lt.mpr k)
end
theorem Un.out {fs:List Addr}{H H':Hp}{h h1 h2:Heap}(u:Un fs [] H H' h h1)(k:∀b,b<h.objs.size->h2.get? b=h1.get? b):Un fs [] H H' h h2 where
 keep b o e n f x:=(k b (ay e)).trans (u.keep b o e n f x)
 slot b o e n f x:=by obtain⟨sl,q⟩:=u.slot b o e n f x; exact⟨sl,(k b (ay e)).trans q⟩
 free:=u.free
 there b o e x:=by obtain⟨o',q⟩:=u.there b o e x; exact⟨o',(k b (ay e)).trans q⟩
 tups:=u.tups
 frzs:=u.frzs
 tbls:=u.tbls
theorem Un.track {P:Program}{w:World}{fs:List Addr}{H H':Hp}{h h1:Heap}{D:Addr}{o:HO}(ok:HOk P w H h)(u:Un fs [] H H' h h1)(hD:h.objs.size<=D):Un fs [] H (upd H' D o) h h1 where
 keep:=u.keep
 slot:=u.slot
 free b ob e n x:=by rw[j6 (aO (aR (ay e) hD))]; exact u.free b ob e n x
 there:=u.there
 tups b xs e:=by rw[j6 (aO (aR (ok.lt e) hD))]; exact u.tups b xs e
 frzs b ob q e:=by rw[j6 (aO (aR (ok.lt e) hD))]; exact u.frzs b ob q e
 tbls b ps e:=by rw[j6 (aO (aR (ok.lt e) hD))]; exact u.tbls b ps e
theorem HOk.adopt {P:Program}{w:World}{H:Hp}{h:Heap}{D:Addr}{o:HO}(ok:HOk P w H h)(hn:H D=none)(new:ObjOk P w (upd H D o) h D o):HOk P w (upd H D o) h:=λb u e=>by
 by_cases hb:b=D
 ·subst hb; rw[j5] at e; cases e; exact new
 ·rw[j6 hb] at e
  exact(ok b u e).stay (λc v _ q=>q) (λc q=>by rw[j6 (j9 q hn)]; exact q) λc xs q=>by rw[j6 (j9 q hn)]; exact q
theorem Inv.repin {ad:List (Addr×Obj)}{σ:St}{H:Hp}{s:Shared}{D kS:Addr}{oD oK oK':Obj}{f:Obj->Obj}(I:Inv X (ad++[(D,oD),(kS,oK)]) σ H s)(fk:FpOk X ad H kS)(ne:D≠kS)(e:(s.heap.update kS f).get? kS=some oK')(hc:∀v,oK'.data≠ .cell v):
  Inv X (ad++[(D,oD),(kS,oK')]) σ H { s with heap:=s.heap.update kS f} :=by
 obtain⟨f0,f1,f2,f3,f4,f5⟩:=fk
 have I1:Inv X (ad++[(D,oD)]) σ H s:=I.pins_of λp hp=>I.pin p (az _ (by
  rcases aL.mp hp with z | z
  ·exact aQ _ z
  ·exact az _ (by rw[ak] at z; rw[z]; exact ag ..)))
 have I2:Inv X (ad++[(D,oD)]) σ H { s with heap:=s.heap.update kS f,toks:=s.toks} :=I1.turned (it:=kS) (λb o hb q=>(bb _ _ (dq hb)).trans q) f0 f1 f3 f4 λp hp=>by
  rcases aL.mp hp with z | z
  ·exact f5 p (aQ _ z)
  ·rcases aL.mp z with z | z
   ·exact f5 p (az _ z)
   ·rw[ak] at z
    rw[z]
    exact ne
 refine I2.pins_of λp hp=>?_
 rcases aL.mp hp with z | z
 ·exact I2.pin p (az _ (aQ _ z))
 ·rcases ar.mp z with z | z
  ·exact I2.pin p (az _ (az _ (by rw[z]; exact ag ..)))
  ·rw[ak] at z
   rw[z]
   exact⟨e,f0,f1,f2,hc⟩
theorem jQB (ok:KeyOk S){P:Program}{w:World}{H:Hp}{h:Heap}(hk:HOk P w H h){KF:V->List Int} :∀{kvs:List V}{ks:List Value}{us:List V},Vals kvs ks->All2 (λkv v=>S.KR H kv (KF v)) kvs us->All2 (S.TK h) ks (us.map KF)
 | [],_,[], .nil,_=>trivial
 | _::_,_,_::_, .cons r rs,⟨t,ts⟩=>⟨ok.of hk r t,jQB ok hk rs ts⟩
theorem jG8:∀{us:List V}{its:List Value},Vals us its->(∀v∈us,∃a,v=V.ref a)->its.map refV=us
 | [],_, .nil,_=>rfl
 | v::us,_, .cons r rs,h=>by
  obtain⟨a,e⟩:=h v (ag ..)
  subst e
  cases r
  rw[aX,jG8 rs λw hw=>h w (ah _ hw)]
  rfl
theorem jDL:∀{its:List Value},(∀u∈its,∃a,u=Value.ref a)->Vals (its.map refV) its
 | [],_=> .nil
 | u::its,h=>by
  obtain⟨a,e⟩:=h u (ag ..)
  subst e
  exact .cons rfl (jDL λw hw=>h w (ah _ hw))
theorem jFQ:∀{us:List V}{its:List Value},Vals us its->(∀v∈us,∃a,v=V.ref a)->∀u∈its,∃a,u=Value.ref a
 | [],_, .nil,_,u,hu=>by cases hu
 | v::us,_, .cons r rs,h,u,hu=>by
  obtain⟨a,e⟩:=h v (ag ..)
  subst e
  cases r
  rcases ar.mp hu with z | z
  ·exact⟨a,z⟩
  ·exact jFQ rs (λw hw=>h w (ah _ hw)) u z
theorem jKI {ks its:List Value}{f:Value->List Int}{g:Value->List Int} :∀{ks its:List Value}{us:List V}{KF:V->List Int},ks.map f=us.map KF->its.map refV=us->∀p∈ks.zip its,f p.1=KF (refV p.2)
 | [],_,_,_,_,_,p,hp=>by cases hp
 | _::_,[],_,_,_,_,p,hp=>by cases hp
 | k::ks,u::its,us,KF,e1,e2,p,hp=>by
  subst e2
  rw[aX,aX,aX] at e1
  injection e1 with q1 q2
  rw[dY] at hp
  rcases ar.mp hp with z | z
  ·rw[z]; exact q1
  ·exact jKI (ks:=ks) (its:=its) (f:=f) (g:=g) q2 rfl p z
theorem jL0 (ok:KeyOk S){h:Heap} :∀{ks:List Value}{ws:List (List Int)},All2 (S.TK h) ks ws->ks.map (S.dc h)=ws
 | [],[],_=>rfl
 | _::_,_::_,⟨t,r⟩=>by rw[aX,ok.dec t,jL0 ok r]
end L2
namespace TM
open PySem PySem.Spec PyProof.Rows PySem.W
open L2 (All2)
section
variable {prog:Program}{w:World}{A:Around}{E:Value->Shared->Prop}{s:Shared}
end
end TM
namespace L2
open PySem PySem.Spec PyProof.Rows
def keyT:KeyS:=⟨TM.TupI,λH v l=>∃a,v=V.ref a/\H a=some (.tup (l.map V.int)),TM.kdOf,TM.decV⟩
theorem jMF:KeyOk keyT where
 of:=λ{P w H h v u l} ok r k=>by
  obtain⟨a,rfl,ha⟩:=k
  cases r
  obtain⟨_,its,r2,m,ho⟩:=(show ObjOk P w H h a (.tup _) from ok a _ ha)
  exact⟨a,m,its.toArray,rfl,ho,jK8 r2⟩
 mono:=λt k=>let ⟨a,e,h⟩:=k; ⟨a,e,t _ _ h⟩
 dec:=TM.TupI.dec
 kind:=TM.kind_of
 lt:=λh1 h2 room h=>TM.lt_kd h1 h2 (by lia) h
section
variable {X:Cx}{S:KeyS}
theorem s_tk (ok:KeyOk S){P:Program}{w:World}{H:Hp}{h:Heap}(hk:HOk P w H h):∀{us:List V}{its:List Value}{ws:List (List Int)},Vals us its->All2 (S.KR H) us ws->All2 (S.TK h) its ws
 | [],_,[], .nil,_=>trivial
 | _::_,_,_::_, .cons r rs,⟨t,ts⟩=>⟨ok.of hk r t,s_tk ok hk rs ts⟩
theorem s_out {H:Hp}{h:Heap} :∀{us:List V}{its:List Value}{ws:List (List Int)},Vals us its->All2 (S.KR H) us ws->All2 (S.TK h) its ws->(ok:KeyOk S)->(∀v∈us,∃a,v=V.ref a)->∀u∈its,∃a,u= .ref a/\S.KR H (.ref a) (S.dc h u)
 | [],_,[], .nil,_,_,_,_,u,hu=>by cases hu
 | v::us,_,w::ws, .cons r rs,⟨t,ts⟩,⟨d,ds⟩,ok,hr,u,hu=>by
  rcases ar.mp hu with z | z
  ·obtain⟨a,rfl⟩:=hr v (ag ..)
   cases r
   rw[z,ok.dec d]
   exact⟨a,rfl,t⟩
  ·exact s_out rs ts ds ok (λv hv=>hr v (ah _ hv)) u z
end
end L2
namespace TM
open PySem PySem.Spec PyProof.Rows
section
variable {prog:Program}{w:World}{A:Around}{E:Value->Shared->Prop}{s:Shared}
end
end TM
namespace L2
open PySem PySem.Spec PyProof.Rows
variable {X:Cx}
section
variable {o:Expr}{td:TE}{apos cpos:Pos}{S:KeyS}
end
theorem jMU:entryFor table "dict_itemiterator.__iter__" =some Builtin.«dict_keyiterator.__iter__»:=lX (id':= "dict_keyiterator.__iter__") (by kernel_rfl) rfl (by decide+kernel) (by kernel_rfl)
def Iti (a:Addr)(o:Obj)(kvs:List (Key×V)):It:=
 ⟨λi H=>H a=some (.frz o (.dK kvs))/\i<kvs.length,
  λi H v H'=>∃T k y,H T=none/\v= .ref T/\H'=upd H T (.tup [kV k,y])/\kvs[i]?=some (k,y),
  λi H=>H a=some (.frz o (.dK kvs))/\kvs.length<=i⟩
theorem KV.at {kvs:List (Key×V)}{vs:List (Key×Value)}(r:KV kvs vs){i:Nat}{k:Key}{y:V}(h:kvs[i]?=some (k,y)):∃u,vs[i]?=some (k,u)/\RelV y u:=by
 induction r generalizing i with
 | nil=>cases h
 | @cons p q ps qs hp _ ih=>
  cases i with
  | zero=>
   have:p=(k,y):=by simpa using h
   subst this
   obtain⟨q1,q2⟩:=q
   obtain⟨e1,e2⟩:=hp
   have e1:k=q1:=e1
   subst e1
   exact⟨q2,rfl,e2⟩
  | succ i=>exact ih (by simpa using h)
theorem jJR {P:Program}{w:World}{K:W.Frag}{elts:List Expr}{x1:Nat}{tps:Pos}(a it:Addr)(o:Obj)(kvs:List (Key×V))(ep:Nat)(hep:∀h:Heap,h.get? a=some o->∀vs,h.DictOf (jM P w) a vs->h.DictAt (jM P w) a vs ep):
  Turn P w K (.Tuple elts x1 tps) (Iti a o kvs) [it] it (λi h=>∃ok ov,IsItemIter h it a i kvs.length ep ok ov) where
 mem:=by simp
 obj:=λi h st b hb=>by
  obtain⟨ok,ov,he⟩:=st
  rw[ak] at hb
  subst hb
  exact⟨_,he,λv q=>by cases q⟩
 keep:=λi h h' st k=>by
  obtain⟨ok,ov,he⟩:=st
  exact⟨ok,ov,k it (by simp) _ he⟩
 item:=by
  intro X hP hw hK hc i ad s σ H E I hf st hg
  subst hP hw hK
  obtain⟨ha,hi⟩:=hg
  obtain⟨ok,ov,he⟩:=st
  obtain⟨ho,z,hd,vs,rel,dd⟩:ObjOk X.prog X.w H s.heap a (.frz o (.dK kvs)):=I.hok a _ ha
  have hm:=hep _ ho vs dd
  have hl:=KV.length rel
  have hx:kvs[i]?=some kvs[i]:=aK hi
  generalize kvs[i]=p at hx
  obtain⟨k,y⟩:=p
  obtain⟨u,hu,ru⟩:=KV.at rel hx
  rw[hl] at he
  refine wpAny_pyNext_items_item he hm hu λkey h' hk a1 a3 a4 a5=>?_
  refine⟨_,rfl,wpAny_letOwnedTupleGo_items (s:= { s with heap:=h'}) a1 λh'' b1 sb=>?_⟩
  have fresh:H s.heap.objs.size=none:=I.fresh
  have ntr:∀b o,H b=some o->b∉([it]:List Addr):=λb o z hb=>by
   have:=(hf b hb).1
   rw[z] at this; cases this
  have kp:∀b o,b∉([it]:List Addr)->s.heap.get? b=some o->h''.get? b=some o:=λb o hb z=>by
   rw[ak] at hb
   exact(sb.2 b hb).trans (a5 b o hb z)
  have nz:s.heap.objs.size≠it:=cD (ay he)
  have hT2:h''.get? s.heap.objs.size=some { cls:= .type "tuple",data:= .seq #[key,u]} :=(sb.2 _ nz).trans a3
  have rk:RelV (kV k) key:=by
   rcases jO (show qL k key=true from hk) with ⟨i',t,q1,q2⟩ | ⟨x,t,q1,q2⟩
   ·rw[q1,q2]; exact⟨t,rfl⟩
   ·rw[q1,q2]; exact⟨t,rfl⟩
  have I2:Inv X ad σ (upd H s.heap.objs.size (.tup [kV k,y])) { s with heap:=h''} :=by
   refine I.step (g':=s.gens) (d':=s.drawn) (t':=s.toks) (ch:=[it]) (λb hb=>?_) (λb o _ _ hb z _=>kp b o hb z) (λb o _ _ hb z _=>⟨o.slots,kp b o hb z⟩)
    (λb o _ z n=>by rw[j6 (aO (ay z))]; exact n) (λb o hb z=>⟨o,kp b o hb z⟩) (λb ws z=>by rw[j6 (j9 z fresh)]; exact z) (λb o ws z=>by rw[j6 (j9 z fresh)]; exact z)
    (λb ps z=>⟨#[],by rw[j6 (j9 z fresh),z]; simp⟩) (λm hm=>?_) (λb o z=>?_) I.bare
   ·obtain⟨f0,f1,f2,f3,f4,f5⟩:=hf b hb
    exact⟨f3,f1,f4,f5⟩
   ·obtain⟨o,es,ep,ho,r⟩:=hm
    exact⟨o,es,ep,kp _ o (λhb=>(hf _ hb).2.1 rfl) ho,r⟩
   ·by_cases hb:b=s.heap.objs.size
    ·subst hb
     rw[j5] at z
     cases z
     exact⟨by rw[fm]; show 2<=_; decide,[key,u], .cons rk (.cons ru .nil),0,hT2⟩
    ·rw[j6 hb] at z
     refine(I.hok b o z).stay (λc w hc q=>kp c w ?_ q) (λc q=>by rw[j6 (j9 q fresh)]; exact q) (λc ws q=>by rw[j6 (j9 q fresh)]; exact q)
     rcases hc with rfl | hc
     ·exact ntr _ _ z
     ·exact ntr _ _ hc
  refine⟨.ref s.heap.objs.size,_,I2,rfl,⟨_,k,y,fresh,rfl,rfl,hx⟩,⟨_,_,by rw[hl]; exact b1⟩,λb hb=>?_⟩
  rw[j6 (λq=>by
   rw[ak] at hb
   exact nz (q.symm.trans hb))]
  exact(hf b hb).1
 done:=by
  intro X hP hw hK hc i ad s σ H E I hf st hg
  subst hP hw hK
  obtain⟨ha,hend⟩:=hg
  obtain⟨ok,ov,he⟩:=st
  obtain⟨ho,z,hd,vs,rel,dd⟩:ObjOk X.prog X.w H s.heap a (.frz o (.dK kvs)):=I.hok a _ ha
  have hm:=hep _ ho vs dd
  have hl:=KV.length rel
  rw[hl] at he
  refine wpAny_pyNext_items_end (I.ok.hd hc) he hm (cc (by lia)) λh' kp=>⟨rfl,?_⟩
  have kp2:∀b o,b∉([it]:List Addr)->s.heap.get? b=some o->h'.get? b=some o:=λb o hb z=>by
   rw[ak] at hb
   exact kp b o hb z
  have ntr:∀b o,H b=some o->b∉([it]:List Addr):=λb o z hb=>by
   have:=(hf b hb).1
   rw[z] at this; cases this
  refine I.step (g':=s.gens) (d':=s.drawn) (t':=s.toks) (ch:=[it]) (λb hb=>?_) (λb o _ _ hb z _=>kp2 b o hb z) (λb o _ _ hb z _=>⟨o.slots,kp2 b o hb z⟩)
   (λb o _ z n=>n) (λb o hb z=>⟨o,kp2 b o hb z⟩) (λb ws z=>z) (λb o ws z=>z) (λb ps z=>⟨#[],by rw[z]; simp⟩) (λm hm=>?_) (λb o z=>?_) I.bare
  ·obtain⟨f0,f1,f2,f3,f4,f5⟩:=hf b hb
   exact⟨f3,f1,f4,f5⟩
  ·obtain⟨o,es,ep,ho,r⟩:=hm
   exact⟨o,es,ep,kp2 _ o (λhb=>(hf _ hb).2.1 rfl) ho,r⟩
  ·refine(I.hok b o z).stay (λc w hc q=>kp2 c w ?_ q) (λ_ q=>q) λ_ _ q=>q
   rcases hc with rfl | hc
   ·exact ntr _ _ z
   ·exact ntr _ _ hc
 self:=λA i s Q E st h=>by
  obtain⟨ok,ov,he⟩:=st
  have hT:s.TypeIs (.ref it) "dict_itemiterator" :=⟨_,he,rfl⟩
  refine ji hT F.slot_dict_itemiterator_iter (bV F.slot_dict_itemiterator_iter hT jMU ?_ (F.args_dict_itemiterator_iter_1 _))
  show wpAny _ _ (ret (.ref it)) _ _ s
  exact ai ⟨_,rfl,"dict_itemiterator",_,hT,F.slot_dict_itemiterator_next.lookup,h⟩
def jMZ (td:TE):TI:=λσ H R=>td σ H λx H1=>∃(a:Addr) (kvs:List (Key×V)),x= .ref a/\Rd H1 a (.dK kvs)/\∀o:Obj,(∀o',H1 a=some (.frz o' (.dK kvs))->o'=o)->R (Iti a o kvs) (upd H1 a (.frz o (.dK kvs)))
theorem jOG {e:Expr}{td:TE}{apos cpos:Pos}{elts:List Expr}{x1:Nat}{tp:Pos}(ho:PE X e td)(base:attributeBase e "items" X.env (eval e X.env)=eval e X.env:=by rfl)(line:(apos.endLine==cpos.line)=true:=by rfl):
  PI X (.Tuple elts x1 tp) (.Call (.Attribute e "items" apos) [] [] cpos) (jMZ td):=by
 intro ad s σ H R I h
 refine gA base line (mI (ho ad s σ H _ I h) λu s1 ⟨x,H1,I1,rx,a,kvs,ex,d,q1⟩=>?_)
 subst ex
 obtain rfl:u=Value.ref a:=rx
 obtain⟨t1,t2,sm⟩:=jMW I1 (.inl ⟨kvs,d⟩)
 obtain⟨z,hd,vs,rel,dd⟩:=dk_rd I1.hok d
 refine⟨_,_,gB,eX,kq,t1,t2,dU rfl (iA ?_)⟩
 refine lc eX dd.typeIs jy (jc _) (meets_dict_items (jM X.prog X.w) a hd) ⟨⟨_,dd⟩,?_⟩
 obtain⟨o,es,ep,ho,hr⟩:=id dd
 have hm:s1.heap.DictAt (jM X.prog X.w) a vs ep:=⟨o,es,ho,hr⟩
 have g:(s1.heap.push { cls:= .type "dict_items",data:= .fields #[.ref a]}).get? s1.heap.objs.size=some { cls:= .type "dict_items",data:= .fields #[.ref a]} :=ao _ rfl
 have k1:∀b u,s1.heap.get? b=some u->(s1.heap.push { cls:= .type "dict_items",data:= .fields #[.ref a]}).get? b=some u:=λb u q=>ab _ q
 refine wpAny_pyIter_items (knd:=jM X.prog X.w) (kvs:=vs) (ep:=ep) ⟨_,g,rfl,rfl⟩ ⟨o,es,k1 _ _ ho,hr⟩ ?_
 have I2:Inv X ad σ (upd H1 a (.frz o (.dK kvs))) s1:=by
  rcases d with d | ⟨o',d⟩
  ·exact jDX (t':=s1.toks) I1 (by rw[d]; trivial) ⟨rfl,λ_ _=>rfl⟩ ⟨_,ho⟩ ⟨ho,z,hd,vs,rel,dd⟩
  ·have e1:s1.heap.get? a=some o':=(I1.hok a _ d).1
   rw[ho] at e1
   cases e1
   have e2:upd H1 a (.frz o (.dK kvs))=H1:=by
    funext b
    by_cases hb:b=a
    ·rw[hb,j5,d]
    ·rw[j6 hb]
   rw[e2]
   exact I1
 have hl:=KV.length rel
 have nw:∀h:Heap,((h.push { cls:= .type "dict_items",data:= .fields #[.ref a]}).push { cls:= .type "dict_itemiterator",data:= .fields #[.none, .bool false, .ref a, .int 0 0, .int vs.length 0, .int ep 0, .none, .none]}).get? (h.push { cls:= .type "dict_items",data:= .fields #[.ref a]}).objs.size=some { cls:= .type "dict_itemiterator",data:= .fields #[.none, .bool false, .ref a, .int 0 0, .int vs.length 0, .int ep 0, .none, .none]} :=λh=>ao _ rfl
 refine⟨_,[_],_,Iti a o kvs,_,rfl,I2.kept (t':=s1.toks) λb u q=>ab _ (ab _ q),jJR a _ o kvs ep λh hh vs' ⟨o',es',ep',ho',r1,r2,r3⟩=>?_,⟨_,_,by rw[hl]; exact nw _⟩,λb hb=>?_,q1 o λo' z=>?_⟩
 ·rw[hh] at ho'
  cases ho'
  have:=hr.2.1
  rw[r2] at this
  cases this
  exact⟨o,es,hh,r1,r2,r3⟩
 ·rw[ak] at hb
  have hge:s1.heap.objs.size<=b:=by
   rw[hb,bK]
   exact jh _
  exact I2.fpOk hge (I2.hok.fresh hge)
 ·have e1:s1.heap.get? a=some o':=(I1.hok a _ z).1
  rw[ho] at e1
  cases e1
  rfl
def tFrz (t:TE):TE:=λσ H Q=>t σ H λx H1=>∃(a:Addr) (kvs:List (Key×V)),x= .ref a/\H1 a=some (.dK kvs)/\∀o:Obj,Q x (upd H1 a (.frz o (.dK kvs)))
theorem jQG {e:Expr}{t:TE}(h:JE X e t):JE X e (tFrz t):=⟨λad s σ H Q I hw=>mI (h.h ad s σ H _ I hw) λu s1 ⟨x,H1,I1,rx,a,kvs,ex,d,q⟩=>by
 subst ex
 obtain⟨z,hd,vs,rel,dd⟩:=dk_of I1.hok d
 obtain⟨o,es,ep,ho,hr⟩:=id dd
 exact⟨_,_,jDX (t':=s1.toks) (ob:= .frz o (.dK kvs)) I1 (by rw[d]; trivial) ⟨rfl,λ_ _=>rfl⟩ ⟨_,ho⟩ ⟨ho,z,hd,vs,rel,dd⟩,rx,q o⟩⟩
theorem jP4 {e:Expr}{td:TE}{apos cpos:Pos}{elts:List Expr}{x1:Nat}{tp:Pos}(ho:JE X e td)(base:attributeBase e "items" X.env (eval e X.env)=eval e X.env:=by rfl)(line:(apos.endLine==cpos.line)=true:=by rfl):
  JI X (.Tuple elts x1 tp) (.Call (.Attribute e "items" apos) [] [] cpos) (jMZ td):=⟨jOG ho.h base line⟩
section
variable {m:List (Option Nat)}{g:TG}{tt:TT}{te:TE}{σ:St}{H1:Hp}{Q:VK}
end
theorem jN4 {a:Addr}{o:Obj}{kvs:List (Key×V)}{g:TG}{tb:TS}{D:Ends}{σ:St}{H:Hp}(Pv:Nat->St->Hp->Prop)(h0:Pv 0 σ H)(hl:∀i σ H,Pv i σ H->H a=some (.frz o (.dK kvs)))
  (hs:∀i k y T σ H,kvs[i]?=some (k,y)->H T=none->Pv i σ H->g (.ref T) σ (upd H T (.tup [kV k,y])) λσ2 H2=>tb { D with nx:=Pv (i+1),ct:=Pv (i+1),bk:=D.nx} σ2 H2) (hd:∀σ H,Pv kvs.length σ H->D.nx σ H):
  ∃W:Nat->Nat->St->Hp->Prop,(∃m,W 0 m σ H)/\∀i m σ H,W i m σ H->
   ((Iti a o kvs).stop i H/\D.nx σ H)\/((Iti a o kvs).go i H/\∃N:St->Hp->Prop,(∀σ' H',N σ' H'->∃m',m'<m/\W (i+1) m' σ' H')/\∀x H',(Iti a o kvs).yld i H x H'->g x σ H' λσ2 H2=>tb { D with nx:=N,ct:=N,bk:=D.nx} σ2 H2):=by
 refine⟨λi m σ H=>m=kvs.length - i/\i<=kvs.length/\Pv i σ H,⟨_,rfl,bi _,h0⟩,?_⟩
 rintro i m σ H ⟨rfl,hi,p⟩
 have s1:=hl i σ H p
 by_cases hlt:i<kvs.length
 ·refine .inr ⟨⟨s1,hlt⟩,Pv (i+1),λσ' H' p'=>⟨kvs.length - (i+1),by lia,rfl,hlt,p'⟩,λv H'' y=>?_⟩
  obtain⟨T,k,x,e1,e2,e3,e4⟩:=y
  subst e2 e3
  exact hs i k x T σ _ e4 e1 p
 ·have e:i=kvs.length:=by lia
  subst e
  exact .inl ⟨⟨s1,aq _⟩,hd σ H p⟩
end L2
namespace TM
open PySem PySem.Spec PyProof.Rows
section
variable {prog:Program}{w:World}{A:Around}{E:Value->Shared->Prop}{s:Shared}
theorem sorted_items {K:Type} [DecidableEq K]{knd:KeyKind prog w K}{v d:Addr}{kvs:List (K×Value)}{Q:Value->Shared->Prop}(hh:A.handled=none)(hv:s.heap.IsItemsView v d)(D:s.heap.DictOf knd d kvs)(hz0:kvs.length<=sizeLine)
  (hyp:∀(h1:Heap) (tk:Nat) (as:List Addr),(∀b o,s.heap.get? b=some o->h1.get? b=some o)->as.length=kvs.length->PySem.W.KdxG knd kvs s.heap.objs.size h1 as->∃od:Od,@AllI od (pairsOf (as.map Value.ref)).toList/\
   (2<=(as.map Value.ref).length->∀(h5:Heap) (a:Addr),(∀c o,h1.get? c=some o->h5.get? c=some o)->h1.objs.size<=a-> @AskOk od prog w A.in1.in1 { s with heap:=h5,toks:=tk} a (as.map Value.ref))/\
   ∀(hf:Heap) (l:Addr) (xs:Array Keyed) (e:Nat),h1.objs.size<=l->(∀b u,h1.get? b=some u->hf.get? b=some u)->hf.get? l=some { cls:= .type "list",data:= .seq (xs.map (·.2)) e} ->xs.Perm (pairsOf (as.map Value.ref))-> @STo od xs (pairsOf (as.map Value.ref)).size->Q (.ref l) { s with heap:=hf,toks:=tk}):
  wpAny (model prog w) A (call (.builtin "sorted") [.ref v]) Q E s:=by
 obtain⟨ep,hat⟩:=D.dictAt
 refine gc jl iI iJ (args_sorted1 _) ?_
 unfold Builtin.«sorted»
 refine aa (m:=checkCount "sorted" 1 1 _) (ai ?_)
 refine aa (PySem.W.kdx_collect (A:=A.in1) (knd:=knd) (kvs:=kvs) (ep:=ep) hh hv hat hz0 λh1 tk as hk1 hl1 G1=>?_)
 obtain⟨od,hI,hk,h⟩:=hyp h1 tk as hk1 hl1 G1
 have hz:(as.map Value.ref).length<=sizeLine:=by rw[ae,hl1]; exact hz0
 generalize as.map Value.ref=vs at hI hk h hz ⊢
 refine aa (fg ?_ hz)
 have hL:(h1.push (seqObj "list" vs.toArray 0)).get? h1.objs.size=some (seqObj "list" vs.toArray 0):=ao _ rfl
 show wpAny _ _ _ _ _ { s with heap:=h1.push (seqObj "list" vs.toArray 0),toks:=tk}
 refine aa (bE (bV gH ⟨_,hL,rfl⟩ gq (by
  rw[plain_rev]
  exact jIM (s:= { s with heap:=h1.push (seqObj "list" vs.toArray 0),toks:=tk}) hL hz hI (λh2=>hk h2 _ _ (λc o q=>ab _ q) (aq _)) λxs p1 p2=>⟨_,rfl,ai ⟨_,rfl,by
   obtain⟨e,he⟩:=jw (out:=turned false (xs.map (·.2))) hL
   refine h _ h1.objs.size xs e (aq _) (λb u q=>?_) he p1 p2
   have hb:b<h1.objs.size:=ay q
   show (sortedHeap (h1.push (seqObj "list" vs.toArray 0)) h1.objs.size vs _).get? b=_
   rw[iX (aO hb) (by rw[g5]; exact bL hb)]
   exact ab _ q⟩⟩) (args_list_sort _)))
end
end TM
namespace L2
open PySem PySem.Spec PyProof.Rows
def ViewI (v d:Addr):HO:= .ext λh=>h.IsItemsView v d
def jQZ (td:TE):TE:=λσ H Q=>td σ H λx H1=>∃(a:Addr) (kvs:List (Key×V)),x= .ref a/\Rd H1 a (.dK kvs)/\∀p,H1 p=none->Q (.ref p) (upd H1 p (ViewI p a))
variable {X:Cx}{S:KeyS}
section
variable {o:Expr}{td:TE}{apos cpos:Pos}
theorem jMN (ho:JE X o td)(base:attributeBase o "items" X.env (eval o X.env)=eval o X.env:=by rfl)
  (line:(apos.endLine==cpos.line)=true:=by rfl):JE X (.Call (.Attribute o "items" apos) [] [] cpos) (jQZ td):=⟨λad s σ H Q I h=>by
 refine gA base line (mI (ho.h ad s σ H _ I h) λu s1 ⟨x,H1,I1,rx,a,kvs,ex,d,q1⟩=>?_)
 subst ex
 obtain rfl:u=Value.ref a:=rx
 obtain⟨t1,t2,sm⟩:=jMW I1 (.inl ⟨kvs,d⟩)
 obtain⟨z,hd,vs,rel,dd⟩:=dk_rd I1.hok d
 refine⟨_,_,gB,eX,kq,t1,t2,dU rfl (iA ?_)⟩
 refine lc eX dd.typeIs jy (jc _) (meets_dict_items (jM X.prog X.w) a hd) ⟨⟨_,dd⟩,?_⟩
 have g:(s1.heap.push { cls:= .type "dict_items",data:= .fields #[.ref a]}).get? s1.heap.objs.size=some { cls:= .type "dict_items",data:= .fields #[.ref a]} :=ao _ rfl
 exact⟨.ref s1.heap.objs.size,_,I1.laid (t':=s1.toks) (o:=ViewI s1.heap.objs.size a) (λb ob q=>ab _ q) (aq _) ⟨⟨_,g,rfl,rfl⟩,⟨_,g⟩,λh1 h2 ⟨o,ho,r⟩ k=>⟨o,k o ho,r⟩⟩,rfl,q1 _ I1.fresh⟩⟩
theorem jLC (ok:KeyOk S)(hc:X.calm=true)(hu:X.A.units+101<cLine){ad:List (Addr×Obj)}{s:Shared}{σ:St}{H:Hp}{Q:VK}{us:List V}{its:List Value}{ws:List (List Int)}(I:Inv X ad σ H s)(r':Vals us its)(ht:All2 (S.KR H) us ws)(hrf:∀v∈us,∃a,v=V.ref a)(hz:its.length<=sizeLine)
  (q:∀(l:Addr) (us':List V) (ws':List (List Int)),H l=none->All2 (S.KR H) us' ws'->ws'.Perm ws->ws'.Pairwise (λx y=>HT.lexLt y x=false)->Q (.ref l) (upd H l (.lst us'))):
  ∃od:TM.Od,@TM.AllI od (pairsOf its).toList/\(2<=its.length->∀(h5:Heap) (a:Addr),(∀c o,s.heap.get? c=some o->h5.get? c=some o)->s.heap.objs.size<=a-> @TM.AskOk od X.prog X.w X.A.in1.in1 { s with heap:=h5} a its)/\
   ∀(hf:Heap) (l:Addr) (out:Array Keyed) (e:Nat),s.heap.objs.size<=l->(∀b u,s.heap.get? b=some u->hf.get? b=some u)->hf.get? l=some { cls:= .type "list",data:= .seq (out.map (·.2)) e} ->out.Perm (pairsOf its)-> @TM.STo od out (pairsOf its).size->EP X ad σ Q (.ref l) { s with heap:=hf} :=by
 have hlen:=r'.length
 have d:=s_tk ok I.hok r' ht
 have hat:=s_out r' ht d ok hrf
 have ddc:=jL0 ok d
 refine⟨odK S ws s.heap its,(λx hx=>(TM.pairs_mem hx).2),(λh2 h5 a k5 ha=>λh6 k6=>?_),λhf l out e hl kp he p1 p2=>?_⟩
 ·have hok6:HOk X.prog X.w H h6:=I.hok.kept λb o z=>k6 _ _ (k5 _ _ z) (aO (aR (ay z) ha))
  have d6:=s_tk ok hok6 r' ht
  have ne:its≠ []:=λz=>by rw[z] at h2; exact absurd h2 (by decide)
  refine⟨λQ' E' h=>ok.kind (s:= { s with heap:=h6}) d6 ne h,@TM.LtOk.mk _ _ _ _ (odK S ws s.heap its) λ{E st x y Q} hk hx hy h=>?_⟩
  have e:decide (@TM.key (odK S ws s.heap its) x< @TM.key (odK S ws s.heap its) y)=HT.lexLt (S.dc s.heap x.1) (S.dc s.heap y.1):=TM.rk_lt (bQ hx)
  rw[e] at h
  rw[lt'_eq]
  refine aI (gL ?_)
  rw[show kindOf st=S.kd ws from hk]
  obtain⟨i,hi⟩:=bw hx
  obtain⟨j,hj⟩:=bw hy
  obtain⟨l1,g1,t1⟩:=d.get' hi
  obtain⟨l2,g2,t2⟩:=d.get' hj
  obtain⟨m1,g3,t3⟩:=d6.get' hi
  obtain⟨m2,g4,t4⟩:=d6.get' hj
  rw[g1] at g3
  rw[g2] at g4
  cases g3
  cases g4
  rw[ok.dec t1,ok.dec t2] at h
  exact aI (ig (dF (ok.lt (s:= { s with heap:=h6}) t3 t4 (by rw[g6,g6]; lia) ⟨rfl,aM h⟩)))
 ·have pl:=ci.mp p1
  have o1:(out.map (·.2)).toList.Perm its:=by
   rw[ko]
   have:=pl.map Prod.snd
   rw[pairsOf_toList,List.map_snd_zip (aq _)] at this
   exact this
  have o2:(out.map (·.2)).toList.Pairwise λu v=>HT.lexLt (S.dc s.heap v) (S.dc s.heap u)=false:=by
   have me:∀q∈out.toList,q.1=q.2/\q.1∈its:=λq hq=>TM.pairs_mem (pl.mem_iff.mp hq)
   have sz:=p1.size_eq
   rw[ko,be,cO]
   intro i j hi hj hij
   rw[aN] at hi hj
   have k:=p2 i j (cC hij) (by lia)
   have ei:out[i]?=some out[i]:=iK _ i hi
   have ej:out[j]?=some out[j]:=iK _ j hj
   have m1:=me out[i] (by simp)
   have m2:=me out[j] (by simp)
   rw[@TM.KI_key (odK S ws s.heap its) _ _ _ ei,@TM.KI_key (odK S ws s.heap its) _ _ _ ej] at k
   have e:decide (@TM.key (odK S ws s.heap its) out[j]< @TM.key (odK S ws s.heap its) out[i])=HT.lexLt (S.dc s.heap out[j].1) (S.dc s.heap out[i].1):=TM.rk_lt (bQ m2.2)
   rw[fu,fu,<- m1.1,<- m2.1,<- e]
   exact aV (by lia)
  have rf:∀u∈(out.map (·.2)).toList,∃a,u= .ref a/\S.KR H (.ref a) (S.dc s.heap u):=λu hu=>hat u (o1.mem_iff.mp hu)
  have hz2:((out.map (·.2)).toList.map refV).length<=sizeLine:=by
   rw[ae,o1.length_eq]
   lia
  have v1:Vals ((out.map (·.2)).toList.map refV) (out.map (·.2)).toList:=jDL λu hu=>let ⟨a,e,_⟩:=rf u hu; ⟨a,e⟩
  have I2:Inv X ad σ (upd H l (.lst ((out.map (·.2)).toList.map refV))) { s with heap:=hf} :=I.laid (t':=s.toks) kp hl ⟨hz2,(out.map (·.2)).toList,e,v1,by rw[cX]; exact he⟩
  have v2:All2 (S.KR H) ((out.map (·.2)).toList.map refV) ((out.map (·.2)).toList.map (S.dc s.heap)):=by
   generalize (out.map (·.2)).toList=l at rf
   induction l with
   | nil=>trivial
   | cons u l ih=>
    obtain⟨a,e,k⟩:=rf u (ag ..)
    refine⟨?_,ih λw hw=>rf w (ah _ hw)⟩
    rw[e] at k ⊢
    exact k
  refine⟨.ref _,_,I2,rfl,q _ _ ((out.map (·.2)).toList.map (S.dc s.heap)) (I.hok.fresh hl) v2 ?_ ?_⟩
  ·rw[<- ddc]
   exact o1.map _
  ·exact be.mpr o2
end
section
variable {β:Type}
theorem jKH:∀{as:List Addr}{ws:List β}{b:Addr},b∉as->(as.zip ws).lookup b=none
 | [],_,_,_=>rfl
 | _::_,[],_,_=>rfl
 | a::as,w::ws,b,h=>by
  have n:(b==a)=false:=by simpa using λz:b=a=>h (by rw[z]; exact ag ..)
  show (match b==a with | true=>some w | false=>(as.zip ws).lookup b)=none
  rw[n]
  exact jKH λz=>h (ah _ z)
theorem zl_at:∀{as:List Addr}{ws:List β}{j:Nat}{b:Addr}{w:β},as.Nodup->as[j]?=some b->ws[j]?=some w->(as.zip ws).lookup b=some w
 | [],_,_,_,_,_,h,_=>by cases h
 | _::_,[],_,_,_,_,_,h=>by cases h
 | a::as,x::ws,0,b,w,_,h1,h2=>by
  have e1:a=b:=by simpa using h1
  have e2:x=w:=by simpa using h2
  show (match b==a with | true=>some x | false=>(as.zip ws).lookup b)=some w
  rw[e1,e2,show (b==b)=true by simp]
 | a::as,x::ws,j+1,b,w,nd,h1,h2=>by
  obtain⟨n1,n2⟩:=bJ.mp nd
  have h1:as[j]?=some b:=by simpa using h1
  have n:(b==a)=false:=by simpa using λz:b=a=>n1 (by rw[<- z]; exact aE h1)
  show (match b==a with | true=>some x | false=>(as.zip ws).lookup b)=some w
  rw[n]
  exact zl_at n2 h1 (by simpa using h2)
end
def withP (H:Hp)(as:List Addr)(ws:List (Int×Int)):Hp:=λb=>match (as.zip ws).lookup b with | some w=>some (.tup [.int w.1, .int w.2]) | none=>H b
theorem jA5 {H:Hp}{as:List Addr}{ws:List (Int×Int)}{b:Addr}(h:b∉as):withP H as ws b=H b:=by
 unfold withP
 rw[jKH h]
theorem jIF {H:Hp}{as:List Addr}{ws:List (Int×Int)}{b:Addr}{w:Int×Int}{j:Nat}(nd:as.Nodup)(h1:as[j]?=some b)(h2:ws[j]?=some w):withP H as ws b=some (.tup [.int w.1, .int w.2]):=by
 unfold withP
 rw[zl_at nd h1 h2]
def prW (w:Int×Int):List Int:=[w.1,w.2]
theorem jQP {R:V->List Int->Prop}{S:V->Int×Int->Prop}(h:∀u w,R u (prW w)->S u w):∀{us:List V}{ws:List (Int×Int)},All2 R us (ws.map prW)->All2 S us ws
 | [],[],_=>trivial
 | _::_,_::_,k=>⟨h _ _ k.1,jQP h k.2⟩
 | [],_::_,k=>k.elim
 | _::_,[],k=>k.elim
theorem jGW (hc:X.calm=true)(hu:X.A.units+101<cLine):y9 X (.builtin "sorted") (λxs H Q=>∃(p d:Addr) (kvs:List (Key×V)) (ws:List (Int×Int)),xs=[.ref p]/\H p=some (ViewI p d)/\Rd H d (.dK kvs)/\kvs=ws.map (λw=>((Sum.inl w.1:Key),V.int w.2))/\
  ∀(l:Addr) (us:List V) (ws':List (Int×Int)) (H':Hp),H' l=some (.lst us)->All2 (λu w=>∃a,u=V.ref a/\H' a=some (.tup [.int w.1, .int w.2])) us ws'->ws'.Perm ws->ws'.Pairwise (λx y=>HT.lexLt (prW y) (prW x)=false)->Ext H H'->H l=none->Q (.ref l) H'):=by
 intro ad s σ H xs us Q I r h
 obtain⟨p,dx,kvs,ws,rfl,hp,hdx,hk,q⟩:=h
 obtain⟨u,rfl,rx⟩:=r.one
 cases rx
 obtain⟨hview,_,_⟩:=I.hok p _ hp
 obtain⟨z,lo,vs,rel,dd⟩:=dk_rd I.hok hdx
 have vl:=KV.length rel
 refine TM.sorted_items (I.ok.hd hc) hview dd (by lia) λh1 tk as kp hl G=>?_
 have wl:ws.length=as.length:=by rw[hl,<- vl,hk,ae]
 have nd:as.Nodup:=G.rise.imp λ{a b} h=>aO h
 have old:∀b o,s.heap.get? b=some o->b∉as:=λb o e hb=>absurd (G.above b hb) (la.mpr (cC (ay e)))
 have oldH:∀b o,H b=some o->b∉as:=λb o e hb=>absurd (G.above b hb) (la.mpr (cC (I.hok b o e).lt))
 have prs:∀(j:Nat) (a:Addr) (w:Int×Int),as[j]?=some a->ws[j]?=some w->∃key x,h1.get? a=some { cls:= .type "tuple",data:= .seq #[key,x]} /\RelV (.int w.1) key/\RelV (.int w.2) x:=λj a w ha hw=>by
  obtain⟨key,k,x,e1,e2,e3⟩:=G.pairs j a ha
  have hkj:kvs[j]?=some ((Sum.inl w.1:Key),V.int w.2):=by rw[hk,aJ,hw]; rfl
  obtain⟨u,hu2,ru⟩:=KV.at rel hkj
  rw[hu2] at e1
  cases e1
  refine⟨key,x,e3,?_,ru⟩
  rcases jO (show qL (Sum.inl w.1) key=true from e2) with ⟨i',t,q1,q2⟩ | ⟨y,t,q1,q2⟩
  ·cases q1
   rw[q2]; exact⟨t,rfl⟩
  ·cases q1
 have un:Un X.fs [] H (withP H as ws) s.heap h1:=by
  refine⟨λb o e _ _ _=>kp b o e,λb o e _ _ _=>⟨o.slots,kp b o e⟩,λb o e n _=>by rw[jA5 (old b o e)]; exact n,λb o e _=>⟨o,kp b o e⟩,λb xs e=>by rw[jA5 (oldH b _ e)]; exact e,λb o u e=>by rw[jA5 (oldH b _ e)]; exact e,λb ps e=>⟨#[],by rw[jA5 (oldH b _ e),e]; simp⟩⟩
 have hok:HOk X.prog X.w (withP H as ws) h1:=λb o e=>by
  by_cases hb:b∈as
  ·obtain⟨j,hj,ej⟩:=List.mem_iff_getElem.mp hb
   have h1':as[j]?=some b:=by rw[aK hj,ej]
   have hw:ws[j]?=some ws[j]:=aK (by lia)
   rw[jIF nd h1' hw] at e
   cases e
   obtain⟨key,x,g1,g2,g3⟩:=prs j b _ h1' hw
   exact⟨by rw[fm]; show 2<=_; decide,[key,x], .cons g2 (.cons g3 .nil),0,g1⟩
  ·rw[jA5 hb] at e
   refine(I.hok b o e).stay (λc w _ q=>kp c w q) (λc q=>by rw[jA5 (oldH c _ q)]; exact q) (λc ws q=>by rw[jA5 (oldH c _ q)]; exact q)
 have I1:Inv X ad σ (withP H as ws) { s with heap:=h1,toks:=tk} :=I.un (t':=tk) un hok
 have v1:Vals (as.map V.ref) (as.map Value.ref):=by
  clear hl G wl nd old oldH prs un hok I1
  induction as with
  | nil=>exact .nil
  | cons a as ih=>exact .cons rfl ih
 have a2:All2 (keyT.KR (withP H as ws)) (as.map V.ref) (ws.map prW):=All2.of_get (by rw[ae,ae,wl]) λj u l hu2 hl2=>by
  rw[aJ] at hu2 hl2
  cases ha:as[j]? with
  | none=>rw[ha] at hu2; cases hu2
  | some a=>
   cases hw:ws[j]? with
   | none=>rw[hw] at hl2; cases hl2
   | some w=>
    rw[ha] at hu2
    rw[hw] at hl2
    cases hu2
    cases hl2
    exact⟨a,rfl,jIF nd ha hw⟩
 refine jLC jMF hc hu I1 v1 a2 (λv hv=>let ⟨a,_,e⟩:=aW.mp hv; ⟨a,e.symm⟩) (by rw[ae]; lia) λl us' wsL hl0 al pm pw=>?_
 have f1:∀x∈wsL,prW (x.getD 0 0,x.getD 1 0)=x:=λx hx=>by
  obtain⟨w,_,rfl⟩:=aW.mp (pm.mem_iff.mp hx)
  rfl
 have e1:(wsL.map λx=>(x.getD 0 0,x.getD 1 0)).map prW=wsL:=by
  rw[bz]
  exact(bo f1).trans (fw _)
 have p1:(wsL.map λx=>(x.getD 0 0,x.getD 1 0)).Perm ws:=by
  have:=pm.map λx:List Int=>(x.getD 0 0,x.getD 1 0)
  rw[bz] at this
  exact this.trans (gt ((bo λw _=>rfl).trans (fw _)))
 have Hl:H l=none:=by
  cases e:H l with
  | none=>rfl
  | some o=>rw[jA5 (oldH l o e),e] at hl0; cases hl0
 rw[<- e1] at al pw
 refine q l us' _ _ j5 ?_ p1 (be.mp pw) (λb o e=>?_) Hl
 ·refine jQP (λu w ⟨a,e,ha⟩=>⟨a,e,?_⟩) al
  rw[j6 (λz=>by rw[z] at ha; rw[hl0] at ha; cases ha)]
  exact ha
 ·rw[j6 (λz=>by rw[z,Hl] at e; cases e),jA5 (oldH b o e)]
  exact e
variable {prog:Program}{w:World}{A:Around}{E:Value->Shared->Prop}{s:Shared}
def Tells (Q E:Value->Shared->Prop):Result->Shared->Prop:=λr s=>match r with | .ok (.ret v)=>Q v s | .ok _=>False | .error e=>E e s
theorem jPO {id:String}{b:Builtin}{args:List Value}{kw:List (Str×Value)}{Q:Value->Shared->Prop}(hk:builtinKind id=none)(hp:plainId id=true)(hb:entryFor table id=some b)(ha:argsOk id ⟨args,kw⟩)
  (hc:wpAny (model prog w) A.in1 (b ⟨args,kw⟩) (λfin t=>match fin with | .done f=>Tells Q E (Except.ok f) t | .again c=>c.quiet=true/\codeAny (model prog w) A c (Tells Q E) t) E s):wpAny (model prog w) A (call (.builtin id) args kw) Q E s:=by
 refine iT (codeAny_call_builtin hp hb ?_)
 simp only [checkBuiltinCall,hk]
 cases z:Manifest.signature? id with
 | none=>exact ai hc
 | some g=>
  have y:Bind.checkArgs id g ⟨args,kw⟩=pure ():=by simpa only [argsOk,z] using ha
  simp only [y]
  exact ai hc
abbrev dKw (d:Value):List (Str×Value):=[(Str.ofString "default",d)]
abbrev mxB (I S:Addr)(d:Value):Code:= .builtin "max.loop" ⟨[.ref I, .none, .ref S],dKw d⟩
abbrev LstO (vs:Array Value)(c:Nat):Obj:= { cls:= .type "list",dict:=none,data:= .seq vs c,slots:=#[]}
section
variable {R:Result->Shared->Prop}{I:Addr}{fp wr:List Addr}{n:Nat}{P:Nat->Value->Prop}{St:Nat->Heap->Prop}
theorem jJ0:(toString "max" ++toString ".loop" :String)= "max.loop" :=by decide
theorem mx_go (W:Walks prog w A.in1 I fp wr n P St)(bt:Nat->Nat->Bool)(cm:CmpOf prog w A.in1 .Gt P bt){S:Addr}{d:Value}(Sf:S∉fp):∀(k j:Nat) (t:Shared) (b:Value) (c:Nat),n=j+1+k->St (j+1) t.heap->P (argBest bt j) b->t.heap.get? S=some (LstO #[b,b] c)->
  (∀v h u,P (argBest bt (n - 1)) v->(∀a o,a∉wr->a≠S->t.heap.get? a=some o->h.get? a=some o)->R (.ok (.ret v)) { t with heap:=h,toks:=u})->codeAny (model prog w) A (mxB I S d) R t
 | 0,j,t,b,c,hn,st,pb,hS,fin=>by
  have Sw:S∉wr:=λz=>Sf (W.sub _ z)
  refine cL F.entry_max_loop ?_
  rw[bY F.plain_max_loop _]
  refine aa (m:=seqItems? (.ref S)) (cS hS rfl ?_)
  refine aa (gP (W.done t _ _ (by rw[hn]; exact st) λh u kp=>?_))
  have S2:=kp S _ Sw hS
  refine aa (m:=updateSeq S λ_=>#[]) (gn S2 rfl (aa (eY (ai ?_))))
  exact fin b _ u (by rw[hn]; exact pb) λa o aw aS e=>(bb _ _ (dq aS)).trans (kp a o aw e)
 | k+1,j,t,b,c,hn,st,pb,hS,fin=>by
  have Sw:S∉wr:=λz=>Sf (W.sub _ z)
  refine cL F.entry_max_loop ?_
  rw[bY F.plain_max_loop _]
  refine aa (m:=seqItems? (.ref S)) (cS hS rfl ?_)
  refine aa (gP (W.item (j+1) t _ _ (by lia) st λv h u pv st2 kp=>?_))
  have S2:=kp S _ Sw hS
  refine aa (ai ?_)
  refine aa (gP (bE (aa (cm (j+1) (argBest bt j) v b _ _ _ pv pb ?_))))
  refine aa (bE (dJ (aa (eY (ai ?_)))))
  cases hb:bt (j+1) (argBest bt j) with
  | true=>
   simp only [fH]
   refine aa (gn S2 rfl (aa (eY ?_)))
   rw[jJ0]
   refine ai ⟨dW F.plain_max_loop _,mx_go W bt cm Sf k (j+1) _ v _ (by lia) (W.frame _ _ _ st2 λa af o e=>(bb _ _ (λz:S=a=>Sf (by rw[z]; exact af))).trans e) (by simp only [argBest,hb,fH]; exact pv) (cR _ S2 rfl) λv' h2 u2 pv2 kp2=>?_⟩
   exact fin v' h2 u2 pv2 λa o aw aS e=>kp2 a o aw aS ((bb _ _ (dq aS)).trans (kp a o aw e))
  | false=>
   simp only [dE,hV]
   refine aa (eY ?_)
   rw[jJ0]
   refine ai ⟨dW F.plain_max_loop _,mx_go W bt cm Sf k (j+1) _ b c (by lia) st2 (by simp only [argBest,hb,dE,hV]; exact pb) S2 λv' h2 u2 pv2 kp2=>?_⟩
   exact fin v' h2 u2 pv2 λa o aw aS e=>kp2 a o aw aS (kp a o aw e)
theorem jOT (W:Walks prog w A.in1 I fp wr n P St)(bt:Nat->Nat->Bool)(cm:CmpOf prog w A.in1 .Gt P bt){S:Addr}{d:Value}(Sf:S∉fp){t:Shared}{c:Nat}(st:St 0 t.heap)(hS:t.heap.get? S=some (LstO #[] c))
  (none_:n=0->∀h u,(∀a o,a∉wr->a≠S->t.heap.get? a=some o->h.get? a=some o)->R (.ok (.ret d)) { t with heap:=h,toks:=u})
  (fin:0<n->∀v h u,P (argBest bt (n - 1)) v->(∀a o,a∉wr->a≠S->t.heap.get? a=some o->h.get? a=some o)->R (.ok (.ret v)) { t with heap:=h,toks:=u}):codeAny (model prog w) A (mxB I S d) R t:=by
 have Sw:S∉wr:=λz=>Sf (W.sub _ z)
 refine cL F.entry_max_loop ?_
 rw[bY F.plain_max_loop _]
 refine aa (m:=seqItems? (.ref S)) (cS hS rfl ?_)
 by_cases hn:n=0
 ·refine aa (gP (W.done t _ _ (by rw[hn]; exact st) λh u kp=>?_))
  refine aa (cP (ai ?_))
  exact none_ hn h u λa o aw _ e=>kp a o aw e
 ·refine aa (gP (W.item 0 t _ _ (by lia) st λv h u pv st2 kp=>?_))
  have S2:=kp S _ Sw hS
  refine aa (ai ?_)
  refine aa (m:=updateSeq S λ_=>#[v,v]) (gn S2 rfl ?_)
  rw[jJ0]
  refine ai ⟨dW F.plain_max_loop _,mx_go W bt cm Sf (n - 1) 0 _ v _ (by lia) (W.frame _ _ _ st2 λa af o e=>(bb _ _ (λz:S=a=>Sf (by rw[z]; exact af))).trans e) pv (cR _ S2 rfl) λv' h2 u2 pv2 kp2=>?_⟩
  exact fin (by lia) v' h2 u2 pv2 λa o aw aS e=>kp2 a o aw aS ((bb _ _ (dq aS)).trans (kp a o aw e))
end
theorem jNZ (a d:Value):argsOk "max" ⟨[a],dKw d⟩:=by unfold argsOk; kernel_rfl
theorem jNQ (hc:X.calm=true):jO3 X (.builtin "max") [Str.ofString "default"] (λxs zs H Q=>∃(p:Addr) (ns:List Int) (d M:Int),xs=[.ref p]/\zs=[.int d]/\SqL X.K H p (ns.map V.int)/\(ns=[]->d=M)/\(∀m,m∈ns->(∀a∈ns,a<=m)->m=M)/\Q (.int M) H):=by
 intro ad s σ H xs zs us ws Q I r rz h
 obtain⟨p,ns,d,M,rfl,rfl,hq,h0,h1,qq⟩:=h
 have q0:ns=[]->Q (.int d) H:=λe=>by rw[h0 e]; exact qq
 have q:∀m,m∈ns->(∀a∈ns,a<=m)->Q (.int m) H:=λm a b=>by rw[h1 m a b]; exact qq
 obtain⟨u,rfl,rx⟩:=r.one
 obtain⟨v,rfl,ry⟩:=rz.one
 cases rx
 obtain⟨td,rfl⟩:=ry
 obtain⟨its,r',pl,hz⟩:=I.list hq
 have hlen:=r'.length
 rw[ae] at hlen
 have val:∀(i:Nat) (v:Value),its[i]?=some v->∃t,v=Value.int (ns.getD i 0) t:=λi v hi=>by
  have hb:i<ns.length:=by
   rw[hlen]
   exact(ax.mp hi).1
  obtain⟨u,hu,ru⟩:=r'.get (i:=i) (x:= .int (ns[i])) (by simp [hb])
  rw[hi] at hu
  cases hu
  obtain⟨t,rfl⟩:=ru
  exact⟨t,by simp [List.getD,hb]⟩
 have hne:p≠s.heap.objs.size:=by
  obtain⟨o,ho,_⟩:=pl.isList
  exact aO (ay ho)
 refine jPO F.kind_max F.plain_max F.entry_max (jNZ _ _) ?_
 refine aa (m:=Builtin.Builtins.bindParams "max" ["key","default"] 0 ⟨[],dKw (.int d td)⟩) (lU (show _=pure [none,some (.int d td)] from rfl) ?_)
 refine aa (ai (aa (cQ pl.isList ?_)))
 refine aa (cE ?_)
 rw[jJ0]
 have pz:p<s.heap.objs.size:=by obtain⟨o,ho,_⟩:=pl.isList; exact ay ho
 have z1:(s.heap.push { cls:= .type "list_iterator",data:= .fields #[.ref p, .int 0 0]}).objs.size=s.heap.objs.size+1:=bK ..
 have kp:∀{h:Heap},(∀a o,a∉ [s.heap.objs.size]->a≠(s.heap.push { cls:= .type "list_iterator",data:= .fields #[.ref p, .int 0 0]}).objs.size->((s.heap.push { cls:= .type "list_iterator",data:= .fields #[.ref p, .int 0 0]}).push { cls:= .type "list",data:= .seq #[]}).get? a=some o->h.get? a=some o)->∀b u,s.heap.get? b=some u->h.get? b=some u:=λk b u e=>by
  have:=ay e
  exact k b u (by rw[ak]; exact aO this) (by rw[z1]; exact aO (bL this)) (ab _ (ab _ e))
 refine ai ⟨dW F.plain_max_loop _,jOT (iW (by simpa using I.ok.hd hc) s.heap.objs.size p hne its.toArray) _ (CmpOf.ints_gt (λi=>ns.getD i 0) (λi v hP=>val i v (by simpa using hP))) (λhb=>?_) ⟨⟨_,ab _ (ao _ rfl),rfl,rfl⟩,(pl.isList.push _).push _⟩ (ao _ rfl) (λh0 h u k=>?_) λh0 v h u hP k=>?_⟩
 ·rcases ar.mp hb with e | hb
  ·exact absurd e (by show (s.heap.push _).objs.size≠_; rw[z1]; lia)
  ·have e:(s.heap.push { cls:= .type "list_iterator",data:= .fields #[.ref p, .int 0 0]}).objs.size=p:=by simpa using hb
   rw[z1] at e
   exact absurd pz (by rw[<- e]; exact la.mpr (jh _))
 ·have e:ns=[]:=by
   rw[aG] at h0
   exact kh.mp (by lia)
  exact⟨.int d,H,I.kept (t':=u) (kp k),⟨_,rfl⟩,q0 e⟩
 ·obtain⟨h1,h2⟩:=argBest_gt (λi=>ns.getD i 0) (its.toArray.size - 1)
  rw[aG] at h0 h1 h2 hP
  rw[lK] at hP
  obtain⟨t,rfl⟩:=val _ v hP
  refine⟨.int _,H,I.kept (t':=u) (kp k),⟨_,rfl⟩,q _ ?_ λa ha=>?_⟩
  ·generalize argBest _ _=j at h1
   have hj:j<ns.length:=by lia
   rw[aC,aK hj]
   exact dz hj
  ·obtain⟨j,hj⟩:=lN.mp ha
   have hjl:=(ax.mp hj).1
   have:=h2 j (by lia)
   have e:ns.getD j 0=a:=by rw[aC,hj]; rfl
   rw[e] at this
   exact this
def rMaxL (K:W.Frag):List V->Hp->VK->Prop:=λxs H Q=>∃(p:Addr) (ns:List Int) (M:Int),xs=[.ref p]/\(SqL K H p (ns.map V.int))/\0<ns.length/\(∀m,m∈ns->(∀a∈ns,a<=m)->m=M)/\Q (.int M) H
theorem jNP (hc:X.calm=true):y9 X (.builtin "max") (rMaxL X.K):=by
 intro ad s σ H xs us Q I r h
 obtain⟨p,ns,M,rfl,hq,hn,hM,q⟩:=h
 obtain⟨u,rfl,rx⟩:=r.one
 cases rx
 obtain⟨its,r',pl,hz⟩:=I.list hq
 have hlen:=r'.length
 rw[ae] at hlen
 have val:∀(i:Nat) (v:Value),its[i]?=some v->∃t,v=Value.int (ns.getD i 0) t:=λi v hi=>by
  have hb:i<ns.length:=by
   rw[hlen]
   exact(ax.mp hi).1
  obtain⟨u,hu,ru⟩:=r'.get (i:=i) (x:= .int (ns[i])) (by simp [hb])
  rw[hi] at hu
  cases hu
  obtain⟨t,rfl⟩:=ru
  exact⟨t,by simp [List.getD,hb]⟩
 refine call_max_walk (cQ pl.isList ?_)
 have hne:p≠s.heap.objs.size:=by
  obtain⟨o,ho,_⟩:=pl.isList
  exact aO (ay ho)
 refine⟨s.heap.objs.size,_,_,_,_,_,_,rfl,iW (by simpa using I.ok.hd hc) _ p hne its.toArray,⟨⟨_,ao _ rfl,rfl,rfl⟩,pl.isList.push _⟩,(λb hb=>?_),by rw[aG]; lia,CmpOf.ints_gt (λi=>ns.getD i 0) (λi v hP=>val i v (by simpa using hP)),λv h' tk hP hk=>?_⟩
 ·show b<(s.heap.push _).objs.size
  rw[bK]
  obtain⟨o,ho,_⟩:=pl.isList
  have:=ay ho
  rcases ar.mp hb with rfl | hb
  ·exact fO _
  ·rcases ar.mp hb with rfl | hb
   ·exact bL this
   ·cases hb
 ·obtain⟨h1,h2⟩:=argBest_gt (λi=>ns.getD i 0) (its.toArray.size - 1)
  rw[aG] at h1 h2 hP
  rw[lK] at hP
  obtain⟨t,rfl⟩:=val _ v hP
  have e:(ns.getD (argBest (λi j=>decide (ns.getD i 0>ns.getD j 0)) (its.length - 1)) 0)=M:=by
   refine hM _ ?_ λa ha=>?_
   ·generalize argBest _ _=j at h1
    have hj:j<ns.length:=by lia
    rw[aC,aK hj]
    exact dz hj
   ·obtain⟨j,hj⟩:=lN.mp ha
    have hjl:=(ax.mp hj).1
    have:=h2 j (by lia)
    have e:ns.getD j 0=a:=by rw[aC,hj]; rfl
    rw[e] at this
    exact this
  refine⟨.int _,H,I.kept (t':=tk) λb o e=>hk b o (by
   intro z
   have z:b=s.heap.objs.size:=by simpa using z
   exact absurd (ay e) (by rw[z]; exact b8 _)) (ab _ e),⟨_,rfl⟩,?_⟩
  rw[e]
  exact q
section
variable {d:Addr}{kvs:List (Key×Value)}
theorem jG2 {Q:Value->Shared->Prop}{ks:List Int}(hh:A.handled=none)(lo:(d==sysModules)=false)(D:s.heap.DictOf (jM prog w) d kvs)(hk:kvs.map (·.1)=ks.map Sum.inl)(hz:ks.length<=sizeLine)
  (h:∀(hf:Heap) (tk:Nat) (l:Addr) (vs:List Value) (ns:List Int) (e:Nat),s.heap.objs.size<=l->(∀b u,s.heap.get? b=some u->hf.get? b=some u)->
   hf.get? l=some { cls:= .type "list",data:= .seq vs.toArray e} ->IntsAre vs ns->ns.Perm ks->ns.Pairwise (· <= ·)->Q (.ref l) { s with heap:=hf,toks:=tk}):
  wpAny (model prog w) A (call (.builtin "sorted") [.ref d]) Q E s:=by
 obtain⟨ep,hat⟩:=D.dictAt
 have hlen:kvs.length=ks.length:=by
  have:=bS List.length hk
  rwa [ae,ae] at this
 refine gc jl iI iJ (args_sorted1 _) ?_
 unfold Builtin.«sorted»
 refine aa (m:=checkCount "sorted" 1 1 _) (ai ?_)
 refine aa (jDY (A:=A.in1) (kn (knd:=jM prog w) (kvs:=kvs) (ep:=ep) lo) hh hat (by lia) λh1 tk acc hk1 hlt1 hacc=>?_)
 have hal:acc.toList.length=ks.length:=by rw[aN,hacc.1,hlen]
 have hI:IntsAre acc.toList ks:=jB9 hal λj v e=>by
  obtain⟨k,x,hx,hv⟩:=hacc.2 j v (by rw[<- bG]; exact e)
  have e2:(kvs.map (·.1))[j]?=some k:=by rw[aJ,hx]; rfl
  rw[hk,aJ] at e2
  cases hq:ks[j]? with
  | none=>rw[hq] at e2; cases e2
  | some i=>
   rw[hq] at e2
   cases e2
   rcases jO (show qL (Sum.inl i) v=true from hv) with ⟨i',t,q1,q2⟩ | ⟨x,t,q1,q2⟩
   ·cases q1
    exact⟨i,t,rfl,q2⟩
   ·cases q1
 refine aa (fg ?_ (by lia))
 have hL:(h1.push (seqObj "list" acc.toList.toArray 0)).get? h1.objs.size=some (seqObj "list" acc.toList.toArray 0):=ao _ rfl
 show wpAny _ _ _ _ _ { s with heap:=h1.push (seqObj "list" acc.toList.toArray 0),toks:=tk}
 refine aa (bE (bV gH ⟨_,hL,rfl⟩ gq (by
  rw[TM.plain_rev]
  exact TM.sort_rev_any (s:= { s with heap:=h1.push (seqObj "list" acc.toList.toArray 0),toks:=tk}) (b:=false) hL hI (by lia) λout ns' a1 a2 a3=>⟨_,rfl,ai ⟨_,rfl,by
   obtain⟨e,he⟩:=jw (out:=out) hL
   refine h _ tk h1.objs.size out.toList ns' e (cC hlt1) (λb u q=>?_) (by rw[cX]; exact he) a1 a2 a3
   have q1:=hk1 b u q
   have hb:b<h1.objs.size:=ay q1
   show (sortedHeap (h1.push (seqObj "list" acc.toList.toArray 0)) h1.objs.size acc.toList _).get? b=_
   rw[iX (aO hb) (by rw[g5]; exact bL hb)]
   exact ab _ q1⟩⟩) (args_list_sort _)))
end
theorem jFI (hc:X.calm=true):y9 X (.builtin "sorted") (λxs H Q=>∃(p:Addr) (kvs:List (Key×V)) (ks:List Int),xs=[.ref p]/\H p=some (.dK kvs)/\kvs.map (·.1)=ks.map Sum.inl/\ks.length<=sizeLine/\
  ∀(l:Addr) (ns:List Int),H l=none->ns.Pairwise (· <= ·)->ns.Perm ks->Q (.ref l) (upd H l (.lst (ns.map V.int)))):=by
 intro ad s σ H xs us Q I r h
 obtain⟨p,kvs,ks,rfl,hp,hk,hn,q⟩:=h
 obtain⟨u,rfl,rx⟩:=r.one
 cases rx
 obtain⟨z,lo,vs,rel,dd⟩:=dk_of I.hok hp
 refine jG2 (I.ok.hd hc) lo dd (by rw[<- rel.keys]; exact hk) hn λhf tk l vs ns e hl kp he hi pm srt=>?_
 have hz:(ns.map V.int).length<=sizeLine:=by rw[ae,pm.length_eq]; exact hn
 have I2:Inv X ad σ (upd H l (.lst (ns.map V.int))) { s with heap:=hf,toks:=tk} :=I.laid (t':=tk) kp hl ⟨hz,vs,e,jAB hi,he⟩
 exact⟨.ref l,_,I2,rfl,q l ns (I.hok.fresh hl) srt pm⟩
theorem jKE (hc:X.calm=true):y9 X (.type "list") (λxs H Q=>∃(p:Addr) (kvs:List (Key×V)) (ks:List Int),xs=[.ref p]/\H p=some (.dK kvs)/\kvs.map (·.1)=ks.map Sum.inl/\ks.length<=sizeLine/\
  ∀l,H l=none->Q (.ref l) (upd H l (.lst (ks.map V.int)))):=by
 intro ad s σ H xs us Q I r h
 obtain⟨p,kvs,ks,rfl,hp,hk,hn,q⟩:=h
 obtain⟨u,rfl,rx⟩:=r.one
 cases rx
 obtain⟨z,lo,vs,rel,dd⟩:=dk_of I.hok hp
 obtain⟨ep,hat⟩:=dd.dictAt
 have hk':vs.map (·.1)=ks.map Sum.inl:=by rw[<- rel.keys]; exact hk
 have hlen:vs.length=ks.length:=by
  have:=bS List.length hk'
  rwa [ae,ae] at this
 refine PySem.W.kdl_call (kn (knd:=jM X.prog X.w) (kvs:=vs) (ep:=ep) lo) (I.ok.hd hc) hat (by lia) λh' tk acc c' kp hS hacc=>?_
 have hal:acc.toList.length=ks.length:=by rw[aN,hacc.1,hlen]
 have hI:IntsAre acc.toList ks:=jB9 hal λj v e=>by
  obtain⟨k,x,hx,hv⟩:=hacc.2 j v (by rw[<- bG]; exact e)
  have e2:(vs.map (·.1))[j]?=some k:=by rw[aJ,hx]; rfl
  rw[hk',aJ] at e2
  cases hq:ks[j]? with
  | none=>rw[hq] at e2; cases e2
  | some i=>
   rw[hq] at e2
   cases e2
   rcases jO (show qL (Sum.inl i) v=true from hv) with ⟨i',t,q1,q2⟩ | ⟨x,t,q1,q2⟩
   ·cases q1
    exact⟨i,t,rfl,q2⟩
   ·cases q1
 have hz:(ks.map V.int).length<=sizeLine:=by rw[ae]; exact hn
 exact⟨.ref s.heap.objs.size,_,I.laid (t':=tk) (o:= .lst (ks.map V.int)) kp (aq _) ⟨hz,acc.toList,c',jAB hI,by rw[cX]; exact hS⟩,rfl,q _ I.fresh⟩
def jQQ (X:Cx)(f:Value)(ks:List Str)(r:St->List V->List V->Hp->VK->Prop):Prop:=
 ∀(ad:List (Addr×Obj)) (s:Shared) (σ:St) (H:Hp) (xs zs:List V) (us ws:List Value) (Q:VK),Inv X ad σ H s->Vals xs us->Vals zs ws->r σ xs zs H Q->
  wpAny (model X.prog X.w) X.A (call f us (ks.zip ws)) (EP X ad σ Q) X.xe s
def tCBKS (r:St->List V->List V->Hp->VK->Prop)(t tk:TA):TE:=λσ H Q=>t σ H λvs H1=>tk σ H1 λzs H2=>r σ vs zs H2 Q
section
variable {x:Str}{p pos kpos:Pos}{e:Expr}{es:List Expr}{kws:List Keyword}{t tk:TA}{te:TE}{nm:Option Str}{ks:List Str}{id:String}{r:St->List V->List V->Hp->VK->Prop}
theorem jK6 (hc:jQQ X (.builtin id) ks r)(hg:Gl1 X x)(hm:X.mg x=none)(hv:bootBuiltins x=some (.builtin id))(ha:JA X (e::es) t)(hkw:JK X kws tk)(he:starEach (e::es) X.env=(false,eval e X.env)::starEach es X.env)
  (hn:x≠ "__name__" :=by decide) (hdb:(x==("__debug__" :Str))=false:=by decide) (hall:(backToKw pos (keywordEach kws X.env)).all (·.1.isSome)=true:=by rfl) (hks:(backToKw pos (keywordEach kws X.env)).filterMap (·.1)=ks:=by rfl)
  (hpl:(backTo pos (starEach es X.env)).any (·.1)=false:=by rfl) (hkn:(backToKw pos (keywordEach kws X.env)).any (·.1.isNone)=false:=by rfl):JE X (.Call (.Name x p) (e::es) kws pos) (tCBKS r t tk):=by
 refine⟨λad s σ H Q I h=>?_⟩
 refine dy (jCU I hg.a hm hv ?_ hn hdb)
 refine callWith_kw (mI (ha.h pos ad s σ H _ I h) λus s1 ⟨vs,H1,I1,r1,q1⟩=>mI (hkw.h pos ad s1 σ H1 _ I1 q1) λws s2 ⟨zs,H2,I2,rz,q2⟩=>?_) (by rw[he]; rfl) (by rw[he]; exact hpl) hall hkn
 rw[hks]
 exact hc ad s2 σ H2 vs zs us ws Q I2 r1 rz q2
end
theorem jGK (ok:KeyOk S){Z:Shared->Hp->Prop}{k:Nat}{q:Addr}{zh:Hp->Prop}{sp:Sp}(F:Callee X.prog X.w X.K X.mg X.base Z zh k q sp)(zo:∀H H',Ext H H'->zh H->zh H')(hr:Room k X.A.in1.in1){ad:List (Addr×Obj)}{σ:St}{H:Hp}{s:Shared}{D kS:Addr}{oD:Obj}{us:List V}{KF:V->List Int}{E:Value->Shared->Prop}
  (hZ:∀ad s H,Inv X ad σ H s->Z s H) (hkey:∀v∈us,∀(H1:Hp) (Q1:VK),Ext H H1->(∀r H2,S.KR H2 r (KF v)->Ext H1 H2->Q1 r H2)->sp [v] H1 Q1 E0) (fk:FpOk X ad H kS) (ne:D≠kS) (hkS:s.heap.objs.size<=kS)
  {body:Value->PUnit->Sem (ForInStep PUnit)}(hb:∀x (sj:Shared) (C:ForInStep PUnit->Shared->Prop),wpAny (model X.prog X.w) X.A.in1.in1 (call (.ref q) [x]) (λkv s''=>∃ks e,s''.heap.get? kS=some (seqObj "list" ks e)/\ks.size<sizeLine/\C (.yield ⟨⟩) { s'' with heap:=s''.heap.update kS (Obj.mapSeq (·.push kv))}) (λ_ _=>False) sj->wpAny (model X.prog X.w) X.A.in1.in1 (body x ⟨⟩) C E sj):
  ∀(r:List Value) (rv:List V) (ks:List Value) (kvs dn:List V) (e:Nat) (sj:Shared) (Hj:Hp),Vals rv r->(∀v∈rv,v∈us)->ks.length+r.length<=sizeLine->
   Inv X (ad++[(D,oD),(kS,seqObj "list" ks.toArray e)]) σ Hj sj->Un (frs X.stack) [] H Hj s.heap sj.heap->Ext H Hj->zh Hj->Vals kvs ks->All2 (λkv v=>S.KR Hj kv (KF v)) kvs dn->
   wpAny (model X.prog X.w) X.A.in1.in1 (forIn r PUnit.unit body) (λ_ s'=>∃ks' kvs' e' H',Inv X (ad++[(D,oD),(kS,seqObj "list" ks'.toArray e')]) σ H' s'/\Un (frs X.stack) [] H H' s.heap s'.heap/\Ext H H'/\Vals kvs' ks'/\All2 (λkv v=>S.KR H' kv (KF v)) kvs' (dn++rv)) E sj
 | [],rv,ks,kvs,dn,e,sj,Hj,hv,hm,hz,I,u,ex,z,hk,al=>by
  rw[iY]
  cases hv
  exact ai ⟨ks,kvs,e,Hj,I,u,ex,hk,by rw[bg]; exact al⟩
 | x::r,rv,ks,kvs,dn,e,sj,Hj,hv,hm,hz,I,u,ex,z,hk,al=>by
  cases hv with
  | @cons v _ rv' _ rx rs=>
  rw[aP] at hz
  rw[ir]
  refine aa (hb x sj _ ?_)
  have sp1:=hkey v (hm v (ag ..)) Hj (λr H2=>S.KR H2 r (KF v)/\Ext Hj H2) ex λr H2 h1 h2=>⟨h1,h2⟩
  refine iT (ev (F.run X.A.in1.in1 X.stack sj Hj [x] [v] _ E0 hr I.env0.in1.in1 (hZ _ _ _ I) z (.cons rx .nil) sp1) λfr s' hq=>?_)
  cases fr with
  | error e=>exact hq.elim
  | ok fl=>
   cases fl with
   | ret kv=>
    obtain⟨v',H2,os,bare,un,hok,rel,kr,e2⟩:=hq
    have I2:=Inv.call' I os un hok bare λb z=>absurd z (by simp)
    obtain⟨gk,nk,_,_,_⟩:=I2.pin (kS,seqObj "list" ks.toArray e) (az _ (az _ (ah _ (ag ..))))
    have ea:ks.toArray.push kv=(ks++[kv]).toArray:=by simp
    obtain⟨c2,hc2⟩:∃c2,(s'.heap.update kS (Obj.mapSeq (·.push kv))).get? kS=some (seqObj "list" (ks++[kv]).toArray c2):=⟨_,by rw[<- ea]; exact iu gk (·.push kv)⟩
    have I3:=I2.repin (oK':=seqObj "list" (ks++[kv]).toArray c2) ⟨nk,fk.2⟩ ne hc2 (by intro v q; cases q)
    refine⟨_,e,gk,by rw[aG]; lia,?_⟩
    show wpAny (model X.prog X.w) X.A.in1.in1 (forIn r PUnit.unit body) _ E _
    have u3:=(u.trans un).out (h2:=s'.heap.update kS (Obj.mapSeq (·.push kv))) λb hb=>bb _ _ (cD (aR hb hkS))
    have:=jGK ok F zo hr hZ hkey fk ne hkS hb r rv' (ks++[kv]) (kvs++[v']) (dn++[v]) c2 _ H2 rs (λw hw=>hm w (ah _ hw)) (by rw[aF,gS]; lia) I3 u3 (ex.trans e2) (zo _ _ e2 z) (hk.append (.cons rel .nil)) (All2.snoc (All2.imp (λa b q=>ok.mono (λc xs h=>e2 c _ h) q) al) kr)
    rw[aZ] at this
    exact this
   | next=>exact False.elim hq
   | brk=>exact False.elim hq
   | cont=>exact False.elim hq
theorem jFG {ι:Type}(ok:KeyOk S){k:Nat}{Z:ι->Shared->Hp->Prop}{G:ι->St->Prop}{sp:ι->Sp}{zh:Addr->Addr->Hp->Prop}(F:∀i q c,Callee X.prog X.w X.K X.mg X.base (Z i) (zh q c) k q (sp i))(hZ:∀i ad s σ H,Inv X ad σ H s->G i σ->Z i s H)(zo:∀q c H H',Ext H H'->zh q c H->zh q c H')(hr:Room (k+2) X.A):
  jQQ X (.builtin "sorted") [Str.ofString "key"] (λσ xs zs H Q=>∃(p:Addr) (us:List V) (q c:Addr) (KF:V->List Int) (i:ι),G i σ/\xs=[.ref p]/\zs=[.ref q]/\SqL X.K H p us/\zh q c H/\(∀v∈us,∃a,v=V.ref a)/\
   (∀v∈us,∀(H1:Hp) (Q1:VK),Ext H H1->(∀r H2,S.KR H2 r (KF v)->Ext H1 H2->Q1 r H2)->sp i [v] H1 Q1 E0)/\
   ∀(l:Addr) (us':List V) (H':Hp),H l=none->us'.Perm us->us'.Pairwise (λu v=>HT.lexLt (KF v) (KF u)=false)->Ext H H'->H' l=some (.lst us')->Q (.ref l) H'):=by
 intro ad s σ H xs zs us0 ws0 Q I r1 r2 h
 obtain⟨p,us,q,c,KF,i,gi,rfl,rfl,hp,hz,hrf,hkey,fin⟩:=h
 obtain⟨u,rfl,rx⟩:=r1.one
 cases rx
 obtain⟨u2,rfl,ry⟩:=r2.one
 cases ry
 obtain⟨its,rv,pl,hlen⟩:=I.list hp
 have rl:=rv.length
 show wpAny (model X.prog X.w) X.A (call (.builtin "sorted") [.ref p] [(Str.ofString "key", .ref q)]) (EP X ad σ Q) X.xe s
 refine call_function_entry_kw jl iI iJ (ksk_s1 _ _) ?_
 unfold Builtin.«sorted»
 refine aa (m:=checkCount "sorted" 1 1 _) (ai ?_)
 refine aa (collect_list pl.isList ?_ (by lia))
 refine aa (fg ?_ (by lia))
 have hsz:((s.heap.push (seqObj "list" #[] 0)).update s.heap.objs.size (Obj.mapSeq (· ++its.toArray))).objs.size=s.heap.objs.size+1:=by
  rw[Heap.size_update,g5]
 have hoL:(((s.heap.push (seqObj "list" #[] 0)).update s.heap.objs.size (Obj.mapSeq (· ++its.toArray))).push (seqObj "list" its.toArray 0)).get? (s.heap.objs.size+1)=some (seqObj "list" its.toArray 0):=by
  rw[<- hsz]; exact ao _ rfl
 have k5:∀b o,s.heap.get? b=some o->(((s.heap.push (seqObj "list" #[] 0)).update s.heap.objs.size (Obj.mapSeq (· ++its.toArray))).push (seqObj "list" its.toArray 0)).get? b=some o:=λb o q=>by
  refine ab _ ?_
  rw[bb _ _ (cD (ay q))]
  exact ab _ q
 have z5:(((s.heap.push (seqObj "list" #[] 0)).update s.heap.objs.size (Obj.mapSeq (· ++its.toArray))).push (seqObj "list" its.toArray 0)).objs.size=s.heap.objs.size+2:=by rw[g5,hsz]
 show wpAny _ _ _ _ _ { s with heap:=((s.heap.push (seqObj "list" #[] 0)).update s.heap.objs.size (Obj.mapSeq (· ++its.toArray))).push (seqObj "list" its.toArray 0)}
 rw[hsz]
 generalize ((s.heap.push (seqObj "list" #[] 0)).update s.heap.objs.size (Obj.mapSeq (· ++its.toArray))).push (seqObj "list" its.toArray 0)=h5 at hoL k5 z5
 have hD:s.heap.objs.size<=s.heap.objs.size+1:=jh _
 have hDk:s.heap.objs.size+1≠h5.objs.size+1:=by lia
 have hkS:s.heap.objs.size<=h5.objs.size+1:=by lia
 generalize s.heap.objs.size+1=D at hoL hD hDk
 refine aa (bE (wpAny_call_entry_kw gH ⟨_,hoL,rfl⟩ gq ?body (ksk_l1 _ _)))
 case body=>
  show wpAny (model X.prog X.w) X.A.in1.in1 (Builtin.«list.sort» ⟨[.ref D],[(Str.ofString "key", .ref q)]⟩) _ _ _
  rw[ksk_t1]
  unfold ksk_tree
  refine aa (listItems_at hoL rfl ?_)
  refine aa (fh hoL rfl ?_ (by rw[aG]; lia) (bi _))
  obtain⟨e1,ho1⟩:∃e1,(h5.update D (Obj.mapSeq λ_=>(#[]:Array Value))).get? D=some (seqObj "list" #[] e1):=⟨_,iu hoL λ_=>#[]⟩
  refine aa (jo ho1 rfl ?_)
  refine aa (iZ ?_ (by show its.length<=_; lia))
  refine aa (fg ?_ (bi _))
  refine bE ?_
  have hkz:((h5.update D (Obj.mapSeq λ_=>(#[]:Array Value))).push (seqObj "tuple" its.toArray 0)).objs.size=h5.objs.size+1:=by rw[g5,Heap.size_update]
  have hoK:(((h5.update D (Obj.mapSeq λ_=>(#[]:Array Value))).push (seqObj "tuple" its.toArray 0)).push (seqObj "list" #[] 0)).get? (h5.objs.size+1)=some (seqObj "list" #[] 0):=by
   rw[<- hkz]; exact ao _ rfl
  have hoD:(((h5.update D (Obj.mapSeq λ_=>(#[]:Array Value))).push (seqObj "tuple" its.toArray 0)).push (seqObj "list" #[] 0)).get? D=some (seqObj "list" #[] e1):=ab _ (ab _ ho1)
  have k6:∀b o,s.heap.get? b=some o->(((h5.update D (Obj.mapSeq λ_=>(#[]:Array Value))).push (seqObj "tuple" its.toArray 0)).push (seqObj "list" #[] 0)).get? b=some o:=λb o z=>by
   refine ab _ (ab _ ?_)
   rw[bb _ _ (cD (aR (ay z) hD))]
   exact k5 b o z
  show wpAny _ _ (ksk_rest D (.ref q) false its.toArray e1 (.ref ((h5.update D (Obj.mapSeq λ_=>(#[]:Array Value))).push (seqObj "tuple" its.toArray 0)).objs.size)) _ _ { s with heap:=((h5.update D (Obj.mapSeq λ_=>(#[]:Array Value))).push (seqObj "tuple" its.toArray 0)).push (seqObj "list" #[] 0)}
  rw[hkz]
  generalize ((h5.update D (Obj.mapSeq λ_=>(#[]:Array Value))).push (seqObj "tuple" its.toArray 0)).push (seqObj "list" #[] 0)=h6 at hoK hoD k6
  generalize h5.objs.size+1=kS at hoK hkS hDk
  have fD:FpOk X ad H D:=I.fpOk hD (I.hok.fresh hD)
  have fK:FpOk X ad H kS:=I.fpOk hkS (I.hok.fresh hkS)
  have I6:Inv X ad σ H { s with heap:=h6,toks:=s.toks} :=I.kept k6
  have I7:Inv X (ad++[(D,seqObj "list" #[] e1),(kS,seqObj "list" ([]:List Value).toArray 0)]) σ H { s with heap:=h6} :=I6.pins_of λx hx=>by
   rcases aL.mp hx with z | z
   ·exact I6.pin x (az _ z)
   ·rcases ar.mp z with z | z
    ·rw[z]; exact⟨hoD,fD.1,fD.2.1,fD.2.2.1,by intro v q; cases q⟩
    ·rw[ak] at z
     rw[z]; exact⟨hoK,fK.1,fK.2.1,fK.2.2.1,by intro v q; cases q⟩
  have u7:Un (frs X.stack) [] H H s.heap h6:=Un.kept k6
  unfold ksk_rest
  refine aa (cP ?_)
  rw[<- Array.forIn_toList]
  simp only [List.toList_toArray]
  refine aa (b9 (jGK ok (F i q c) (zo q c) hr.in1.in1 (λ_ _ _ J=>hZ i _ _ _ _ J gi) hkey fK hDk hkS (λx sj C hx=>?_) its us [] [] [] 0 { s with heap:=h6} H rv (λv hv=>hv) (by rw[cK]; lia) I7 u7 (Ext.refl _) hz .nil trivial) (λ_ s' hd=>?_) λ_ _ x=>x)
  ·refine aa (dF (b9 hx (λkv s'' hk=>?_) λ_ _ hF=>hF.elim))
   obtain⟨ks,e,gk,sz,hc⟩:=hk
   dsimp only
   refine aa (fh gk rfl ?_ (cC sz) (bf (Nat.le_of_eq (Array.size_push ..)) (by lia)))
   exact ai hc
  ·obtain⟨ks,kvs,e,HN,IN,uN,eN,vk,al⟩:=hd
   rw[lw] at al
   obtain⟨gD,nD,_,_,_⟩:=IN.pin (D,seqObj "list" #[] e1) (az _ (az _ (ag ..)))
   obtain⟨gK,nK,_,_,_⟩:=IN.pin (kS,seqObj "list" ks.toArray e) (az _ (az _ (ah _ (ag ..))))
   refine aa (listItems_at gK rfl ?_)
   have tk:=jQB ok IN.hok vk al
   have kl:ks.length=its.length:=by rw[<- vk.length,al.len]; exact rl
   have un:=hr.un
   refine jMD ok kl (by lia) tk (by rw[g6,g6]; lia) gD gK hDk λps pm pw=>⟨_,rfl,ai ⟨_,rfl,?_⟩⟩
   have bk:=jG8 rv hrf
   have dk:∀x∈ks.zip its,S.dc s'.heap x.1=KF (refV x.2):=jKI (g:=λ_=> []) (ks:=[]) (its:=[]) (jL0 ok tk) bk
   have pi:(ps.map Prod.snd).Perm its:=by
    have:=pm.map Prod.snd
    rw[List.map_snd_zip (by lia)] at this
    exact this
   have rf:∀u∈ps.map Prod.snd,∃a,u=Value.ref a:=λu hu=>jFQ rv hrf u (pi.mem_iff.mp hu)
   have p1:((ps.map Prod.snd).map refV).Perm us:=by rw[<- bk]; exact pi.map _
   have p2:((ps.map Prod.snd).map refV).Pairwise λu v=>HT.lexLt (KF v) (KF u)=false:=by
    rw[be,be]
    exact(dw.mp pw).imp λ{a b} h=>by
     rw[<- dk a (pm.mem_iff.mp h.1),<- dk b (pm.mem_iff.mp h.2.1)]
     exact h.2.2
   obtain⟨e9,he9⟩:∃e9,((s'.heap.update kS (Obj.mapSeq λ_=>(#[]:Array Value))).update D (Obj.mapSeq λ_=>(ps.map Prod.snd).toArray)).get? D=some (seqObj "list" (ps.map Prod.snd).toArray e9):=⟨_,iu ((bb _ _ (dq hDk)).trans gD) λ_=>(ps.map Prod.snd).toArray⟩
   have oth:∀b,b≠D->b≠kS->((s'.heap.update kS (Obj.mapSeq λ_=>(#[]:Array Value))).update D (Obj.mapSeq λ_=>(ps.map Prod.snd).toArray)).get? b=s'.heap.get? b:=λb n1 n2=>(bb _ _ (dq n1)).trans (bb _ _ (dq n2))
   generalize (s'.heap.update kS (Obj.mapSeq λ_=>(#[]:Array Value))).update D (Obj.mapSeq λ_=>(ps.map Prod.snd).toArray)=hf at he9 oth
   have nt:∀b o,HN b=some o->b≠D/\b≠kS:=λb o z=>⟨λy=>(by rw[y,nD] at z; cases z),λy=>(by rw[y,nK] at z; cases z)⟩
   have ok1:HOk X.prog X.w HN hf:=λb o z=>(IN.hok b o z).stay (λc v hc y=>by
    have:c≠D/\c≠kS:=by
     rcases hc with e | e
     ·rw[e]; exact nt b o z
     ·exact nt c _ e
    rw[oth c this.1 this.2]
    exact y) (λ_ y=>y) λ_ _ y=>y
   have pz:((ps.map Prod.snd).map refV).length<=sizeLine:=by rw[ae,pi.length_eq]; lia
   have ok2:HOk X.prog X.w (upd HN D (.lst ((ps.map Prod.snd).map refV))) hf:=ok1.adopt nD ⟨pz,ps.map Prod.snd,e9,jDL rf,he9⟩
   have u9:Un (frs X.stack) [] H (upd HN D (.lst ((ps.map Prod.snd).map refV))) s.heap hf:=(uN.out λb hb=>oth b (aO (aR hb hD)) (aO (aR hb hkS))).track I.hok hD
   have I9:Inv X ad σ (upd HN D (.lst ((ps.map Prod.snd).map refV))) { s' with heap:=hf} :=Inv.call' I (IN.os.trans I.os.symm) u9 ok2 IN.bare λb z=>absurd z (by simp)
   exact⟨.ref D,_,I9,rfl,fin D _ _ (I.hok.fresh hD) p1 p2 (λb o z=>by rw[j6 (aO (aR (I.hok.lt z) hD))]; exact eN b o z) j5⟩
end L2
open PySem L2
variable {P:Program}{w:World}{K:W.Frag}{mg:Str->Option Value}{base:Heap}{f fT fL fW fR fG fM fF fA fC a c c0 tb fU fV tb1 tb2:Addr}{fdT fdL fdW fdR fdG fdM fdF fdA fdC fdU fdV:FuncData}{cdv:Value}{A:Around}{outer:List Env}{s:Shared}{H0 H H':Hp}{E:XK}{ms:List Int}{pcs:List (List Int×Int)}{cl:List (Str×Addr)}
namespace Eo
open PySem L2
def Keep (H H':Hp)(p:Addr):Prop:=∀b o,H b=some o->b≠p->H' b=some o
structure Txt (mg:Str->Option Value):Prop where
 len:mg "len" =none
 range:mg "range" =none
 tuple:mg "tuple" =none
 sorted:mg "sorted" =none
 set:mg "set" =none
 list:mg "list" =none
 int:mg "int" =none
 isinstance:mg "isinstance" =none
 bool:mg "bool" =none
 str:mg "str" =none
 all:mg "all" =none
 zip:mg "zip" =none
 max:mg "max" =none
 min:mg "min" =none
 any:mg "any" =none
 abs:mg "abs" =none
 sum:mg "sum" =none
 enumerate:mg "enumerate" =none
 dict:mg "dict" =none
structure Can (P:Program)(w:World)(K:W.Frag)(mg:Str->Option Value)(base:Heap)(x:Str)(k:Nat)(f:Addr)(fd:FuncData)(ps:List Str)(sp:Sp):Prop where
 G:FnOk P w K mg base CX0 k f fd ps sp
 m:mg x=some (.ref f)
 kp:keepIn K (.ref f)=true
 b:Binds K fd ps []
theorem Can.pe {X:Cx}{x:Str}{k:Nat}{f:Addr}{fd:FuncData}{ps:List Str}{sp:Sp}{e:Expr}{es:List Expr}{t:TA}{p pos:Pos}(C:Can X.prog X.w X.K X.mg X.base x k f fd ps sp)(hr:Room k X.A)(hg:Gl X x)(ha:PA X (e::es) t)(hdb:(x==("__debug__" :Str))=false:=by decide)
  (he:starEach (e::es) X.env=(false,eval e X.env)::starEach es X.env:=by rfl) (hpl:(backTo pos (starEach es X.env)).any (·.1)=false:=by rfl):PE X (.Call (.Name x p) (e::es) [] pos) (tCall sp [] E0 t):=
 jRU C.G hr hg C.m C.kp C.b .nil pass0 ha hdb he hpl
theorem Can.je {X:Cx}{x:Str}{k:Nat}{f:Addr}{fd:FuncData}{ps:List Str}{sp:Sp}{e:Expr}{es:List Expr}{t:TA}{p pos:Pos}(C:Can X.prog X.w X.K X.mg X.base x k f fd ps sp)(hr:Room k X.A)(hg:Gl1 X x)(ha:JA X (e::es) t)(he:starEach (e::es) X.env=(false,eval e X.env)::starEach es X.env)
  (hdb:(x==("__debug__" :Str))=false:=by decide) (hpl:(backTo pos (starEach es X.env)).any (·.1)=false:=by rfl):JE X (.Call (.Name x p) (e::es) [] pos) (tCall sp [] E0 t):=
 ⟨C.pe hr hg.a ha.h hdb he hpl⟩
def jLB (K:W.Frag):Sp:=λvs H Q _=>∃(a:Addr) (ns:List Int) (k:Int),vs=[.ref a, .int k]/\SqL K H a (ns.map V.int)/\0<=k/\∀c:Int,Q (.int c) H
theorem jTP:FnScope ["script","k"] ["script","k"] (jA sCell):= {}
theorem jS7 {f:Addr}{fd:FuncData}(F:Fun K "_law_cell_at" "_law_cell_at" sCell f fd)(T:Txt mg):FnOk P w K mg base CX0 1 f fd ["script","k"] (jLB K):=by
 refine F.ok jTP (λvs H Q E h=>?_) (λcdv A outer s H vs Q E hr h=>?_)
 ·obtain⟨a,ns,k,rfl,_⟩:=h
  rfl
 ·obtain⟨a,ns,k,rfl,hS,h0,q⟩:=h
  refine⟨_,kG (ps_if (jDM op_lt (pv 1) (jEZ jU (by rfl) T.len PySem.boot_len (jS (pv 0) y8)) (jX _)) (jAZ (jCQ (pe_ix jB3 (pv 0) (pv 1) (λ_ _=>rfl)))) jEX) (jAZ (jCQ jK)),?_⟩
  refine⟨_,rfl,_,rfl,a,_,rfl, .inl hS,_,_,rfl,rfl,_,rfl,?_⟩
  refine ite2 (λhlt=>?_) (λ_=>?_)
  ·have hlt:k<((ns.map V.int).length:Int):=aU hlt
   have hk:k.toNat<ns.length:=by rw[ae] at hlt; lia
   refine⟨_,rfl,_,rfl,a,_,k, .int (ns[k.toNat]),rfl,rfl,hS,?_,q _⟩
   have e:(k.toNat:Int)=k:=by lia
   have q2:=jB2 (xs:=ns.map V.int) (j:=k.toNat) (v:=V.int ns[k.toNat]) (by simp [hk])
   rw[e] at q2
   exact q2
  ·exact q 0
def yP:Sp:=λvs H Q _=>∃(p:Addr) (N w:Int),vs=[.ref p, .int w]/\H p=some (.lst [.int N])/\0<=N/\0<w/\w<2 ^ 64/\∀N' r:Int,0<=N'->0<=r->r<w->Q (.int r) (upd H p (.lst [.int N']))
theorem scTake:FnScope ["pot","wide","found"] ["pot","wide"] (jA sTake):= {}
theorem jS3 {f:Addr}{fd:FuncData}(F:Fun K "_law_take" "_law_take" sTake f fd):FnOk P w K mg base CX0 1 f fd ["pot","wide"] yP:=by
 refine F.ok scTake (λvs H Q E h=>?_) (λcdv A outer s H vs Q E hr h=>?_)
 ·obtain⟨a,ns,k,rfl,_⟩:=h
  rfl
 ·obtain⟨p,N,w,rfl,hp,h0,h1,h2,q⟩:=h
  refine⟨_,kG (qB (i:=2) scTake.nd rfl (Or.inl rfl) (kD jGD (pe_ix jB3 (pv 0) jK (λ_ _=>rfl)) (pv 1)))
   (kG (jQ6 (kD jIW (pe_ix jB3 (pv 0) jK (λ_ _=>rfl)) (pv 1)) (jU4 (pv 0) jK jIO))
   (jAZ (jCQ (pv 2)))),?_⟩
  refine⟨_,rfl,p,_,0, .int N,rfl,rfl,SqL.of hp,rfl,_,rfl,_,_,rfl,rfl,h1,?_⟩
  refine⟨_,rfl,p,_,0, .int N,rfl,rfl,SqL.of hp,rfl,_,rfl,_,_,rfl,rfl,⟨h1,h2⟩,?_⟩
  refine⟨_,rfl,p,_,0,0,rfl,rfl,hp,rfl,_,rfl,?_⟩
  exact q _ _ (Int.ediv_nonneg h0 (by lia)) (Int.emod_nonneg _ (by lia)) (mD _ h1)
def spPot:Sp:=λvs H Q _=>∃c:Int,vs=[.int c]/\∀(p:Addr) (N:Int),H p=none->0<=N->Q (.ref p) (upd H p (.lst [.int N]))
theorem scPot:FnScope ["cell","number","j","more"] ["cell"] (jA sPot):= {}
theorem jUJ {f:Addr}{fd:FuncData}(F:Fun K "_law_pot" "_law_pot" sPot f fd)(T:Txt mg):FnOk P w K mg base CX0 1 f fd ["cell"] spPot:=by
 refine F.ok scPot (λvs H Q E h=>?_) (λcdv A outer s H vs Q E hr h=>?_)
 ·obtain⟨c,rfl,_⟩:=h
  rfl
 ·obtain⟨c,rfl,q⟩:=h
  have one: [V.int 0].length<=sizeLine:=by show 1<=sizeLine; decide
  refine⟨_,kG (ps_if (jDM op_ge (pv 0) (kD jLS jK jK) (jX _)) (jAZ (jCQ (jIT (jS (kD jEC (pv 0) (kD jLS jK jK)) y8)))) jEX)
   (kG (qB (i:=1) scPot.nd rfl (Or.inl rfl) jK)
   (kG (jQ5 bX rfl (jBR rfl T.range (jS jK y8)) (jEY (i:=2) scPot.nd rfl (Or.inl rfl))
    (kG (qB (i:=3) scPot.nd rfl (Or.inl rfl) (kD jGD (kD jCT (kD kP (kD kP (kD jGD (pv 0) jK) (kD jCT jK (pv 2))) jK) jK) jK))
    (kG (qB (i:=3) scPot.nd rfl (Or.inl rfl) (kD jGD (kD kP (kD kP (kD jCT (pv 3) (pv 3)) (kD jCT jK (pv 2))) jK) jK))
    (jAZ (qB (i:=1) scPot.nd rfl (Or.inl rfl) (kD kP (kD jCT (pv 1) jK) (pv 3)))))))
   (jAZ (jCQ (jIT (jS (pv 1) y8)))))),?_⟩
  refine⟨_,rfl,_,_,rfl,rfl,⟨by decide,by decide,by decide⟩,_,_,rfl,rfl,_,rfl,?_⟩
  refine ite2 (λhge=>?_) (λ_=>?_)
  ·refine⟨_,rfl,_,_,rfl,rfl,⟨by decide,by decide,by decide⟩,_,_,rfl,rfl,one,λp hp=>q p _ hp ?_⟩
   exact Int.sub_nonneg_of_le (aU hge)
  ·refine⟨64,rfl,by decide,by decide,jC2 (n:=64) (λi σ H2=>∃(num:Int) (v1 v2:Option V),σ=[some (.int c),some (.int num),v1,v2]/\0<=num/\H2=H) ⟨0,none,none,rfl,eF _,rfl⟩ ?_ ?_⟩
   ·rintro i σ H2 hi ⟨num,v1,v2,rfl,hn,rfl⟩
    refine⟨_,rfl,_,_,rfl,rfl,(by show (0:Int)<2147483629; decide),_,rfl,_,_,rfl,rfl, .inl ⟨by decide,by decide⟩,_,_,rfl,rfl,_,_,rfl,rfl,_,_,rfl,rfl, .inr ⟨by decide,by decide⟩,_,_,rfl,rfl,(by show (0:Int)<2147483647; decide),?_⟩
    refine⟨_,rfl,_,rfl,_,_,rfl,rfl, .inl ⟨?_,?_⟩,_,rfl,_,_,rfl,rfl, .inl ⟨by decide,by decide⟩,_,_,rfl,rfl,_,_,rfl,rfl,_,_,rfl,rfl,(by show (0:Int)<2147483587; decide),?_⟩
    ·lia
    ·lia
    ·refine⟨_,rfl,_,_,rfl,rfl, .inr ⟨by decide,by decide⟩,_,rfl,_,_,rfl,rfl,?_⟩
     refine⟨_,_,_,rfl,?_,rfl⟩
     lia
   ·rintro σ H2 ⟨num,v1,v2,rfl,hn,rfl⟩
    exact⟨_,rfl,one,λp hp=>q p num hp hn⟩
theorem jC8 {H:Hp}{a:Addr}{o o':HO} :upd (upd H a o) a o'=upd H a o':=by
 funext b
 unfold upd
 by_cases h:b=a
 ·rw[am h,am h]
 ·rw[aj h,aj h,aj h]
theorem kX {H:Hp}{a b:Addr}{o:HO}(h:upd H a o b=none):b≠a/\H b=none:=by
 have h1:b≠a:=λe=>by rw[e,j5] at h; cases h
 exact⟨h1,by rw[j6 h1] at h; exact h⟩
theorem Keep.refl (H:Hp)(p:Addr):Keep H H p:=λ_ _ h _=>h
theorem Keep.trans {H H1 H2:Hp}{p:Addr}(a:Keep H H1 p)(b:Keep H1 H2 p):Keep H H2 p:=λc o h n=>b c o (a c o h n) n
theorem Keep.upd {H H1:Hp}{p:Addr}(a:Keep H H1 p)(o:HO):Keep H (upd H1 p o) p:=λc u h n=>by rw[j6 n]; exact a c u h n
theorem Keep.new {H H1:Hp}{p l:Addr}(a:Keep H H1 p)(hl:H1 l=none)(o:HO):Keep H (L2.upd H1 l o) p:=λc u h n=>by
 have:=a c u h n
 rw[j6 (j9 this hl)]
 exact this
theorem pw {w:Int}(h1:1<=w)(h2:w<=16):(2:Int)<=2 ^ w.toNat/\(2:Int) ^ w.toNat<=65536:=by
 have e:∀n:Nat,n<17->1<=n->(2:Int)<=2 ^ n/\(2:Int) ^ n<=65536:=by decide+kernel
 exact e w.toNat (by lia) (by lia)
structure Lot (w:Int)(ts:List Int):Prop where
 ris:ts.Pairwise (· < ·)
 bnd:∀z∈ts,0<=z/\z<w
 ne:ts≠ []
def bits (n:Int)(k:Nat):List Int:=((List.range k).filter λt=>decide (Builtin.bitAnd (n / 2 ^ t) 1=1)).map λ(t:Nat)=>(t:Int)
theorem jH5 (n:Int)(k:Nat):bits n (k+1)=bits n k++(if decide (Builtin.bitAnd (n / 2 ^ k) 1=1)=true then [(k:Int)] else []):=by
 unfold bits
 rw[lG,bH,ba]
 congr 1
 rw[dX]
 split <;> rfl
theorem jPQ {n w:Int}(h1:1<=n)(hw:0<=w)(h2:n<2 ^ w.toNat):Lot w (bits n w.toNat):=by
 refine⟨?_,λz hz=>?_,?_⟩
 ·unfold bits
  rw[be]
  have:=(lu (n:=w.toNat)).filter (λt=>decide (Builtin.bitAnd (n / 2 ^ t) 1=1))
  exact this.imp λh=>by lia
 ·unfold bits at hz
  obtain⟨t,ht,rfl⟩:=aW.mp hz
  have:=cG.mp (bF.mp ht).1
  lia
 ·obtain⟨m,rfl⟩:∃m:Nat,n=(m:Int):=⟨n.toNat,by lia⟩
  have hm:m≠0:=by lia
  have hlt:m<2 ^ w.toNat:=by
   have:((m:Nat):Int)<((2 ^ w.toNat:Nat):Int):=by rw[Int.natCast_pow]; exact h2
   lia
  obtain⟨i,hi⟩:=Nat.exists_testBit_of_ne_zero hm
  have hiw:i<w.toNat:=by
   rcases mF i w.toNat with h | h
   ·exact h
   ·rw[ln (aR hlt (cq (by lia) h))] at hi
    cases hi
  have hb:Builtin.bitAnd ((m:Int) / 2 ^ i) 1=1:=by
   have e:((m:Int) / 2 ^ i)=((m / 2 ^ i:Nat):Int):=by rw[Int.natCast_ediv,Int.natCast_pow]; rfl
   rw[e,PyProof.Rows.bitAnd_pp (gw _) (by decide)]
   have e2:(((m / 2 ^ i:Nat):Int).toNat&&&(1:Int).toNat)=1:=by
    rw[br]
    show (m / 2 ^ i)&&&1=1
    rw[Nat.and_one_is_mod]
    have:=hi
    rw[Nat.testBit_eq_decide_div_mod_eq] at this
    exact aU this
   rw[e2]
   rfl
  intro z
  have hmem:(i:Int)∈bits (m:Int) w.toNat:=by
   unfold bits
   exact aW.mpr ⟨i,bF.mpr ⟨cG.mpr hiw,aB hb⟩,rfl⟩
  rw[z] at hmem
  cases hmem
def qH:Sp:=λvs H Q _=>∃(p:Addr) (N w:Int),vs=[.ref p, .int w]/\H p=some (.lst [.int N])/\0<=N/\1<=w/\w<=16/\
 ∀(q:Addr) (N':Int) (ts:List Int) (H':Hp),0<=N'->Lot w ts->H' q=some (.tup (ts.map V.int))->H' p=some (.lst [.int N'])->Keep H H' p->Q (.ref q) H'
theorem scLot:FnScope ["pot","wide","way","number","start","step","size"] ["pot","wide"] (jA sLot):= {}
theorem jUL {f fT:Addr}{fd fdT:FuncData}(F:Fun K "_law_lot" "_law_lot" sLot f fd)(T:Txt mg)(CT:Can P w K mg base "_law_take" 1 fT fdT ["pot","wide"] yP):FnOk P w K mg base CX0 2 f fd ["pot","wide"] qH:=by
 refine F.ok scLot (λvs H Q E h=>?_) (λcdv A outer s H vs Q E hr h=>?_)
 ·obtain⟨a,ns,k,rfl,_⟩:=h
  rfl
 ·obtain⟨p,N,w,rfl,hp,hN,h1,h2,q⟩:=h
  have hpw:=pw h1 h2
  have nd:=scLot.nd
  refine⟨_,kG (qB (i:=2) nd rfl (Or.inl rfl) (CT.pe hr rfl (jS (pv 0) (jS jK y8))))
   (kG (ps_if (jDM qK (pv 2) jK (jX _))
    (kG (qB (i:=3) nd rfl (Or.inr rfl) (kD kP jK (CT.pe hr rfl (jS (pv 0) (jS (kD jEC (kD jIU jK (pv 1)) jK) y8)))))
    (jAZ (jCQ (jBS jA1 rfl T.tuple (by decide+kernel) (jS
     (jHR (m:=[none,some 3]) (Nc:=["t","number"]) rfl (jBR rfl T.range (jS (pv 1) y8)) rfl (by decide+kernel) (by decide+kernel) (jT (psc:=jA sLot))
      (jL (N:=["pot","wide","way","number","start","step","size"]) rfl rfl (by decide+kernel))
      (λcl C fp s H=>jEY (i:=0) (show (["t","number"]:List Str).Nodup by decide+kernel) rfl (Or.inl rfl))
      (λcl C fp s H=>jLJ (jDM qK (kD jLU (kD jUD (pv 1) (pv 0)) jK) jK (jX _)))
      (λcl C fp s H=>pv 0)) y8)))))
    jEX)
   (kG (qB (i:=4) nd rfl (Or.inr rfl) (CT.pe hr rfl (jS (pv 0) (jS (pv 1) y8))))
   (kG (qB (i:=5) nd rfl (Or.inr rfl) (kD kP jK (CT.pe hr rfl (jS (pv 0) (jS jK y8)))))
   (kG (qB (i:=6) nd rfl (Or.inl rfl) (kD kP jK (CT.pe hr rfl (jS (pv 0) (jS (pe_ix jB3 (jIT (jS jK (jS jK (jS jK y8)))) (kD jEC (pv 2) jK) (λ_ _=>rfl)) y8)))))
   (jAZ (jCQ (jBS jA1 rfl T.tuple (by decide+kernel) (jS (jEZ (jE5 rfl) rfl T.sorted (by decide+kernel) (jS (jBS (jNN rfl) rfl T.set (by decide+kernel) (jS
     (jHR (m:=[none,some 4,some 5,some 1]) (Nc:=["j","start","step","wide"]) rfl (jBR rfl T.range (jS (pv 6) y8)) rfl (by decide+kernel) (by decide+kernel) (jT (psc:=jA sLot))
      (jL (N:=["pot","wide","way","number","start","step","size"]) rfl rfl (by decide+kernel))
      (λcl C fp s H=>jEY (i:=0) (show (["j","start","step","wide"]:List Str).Nodup by decide+kernel) rfl (Or.inl rfl))
      (λcl C fp s H=>jLK)
      (λcl C fp s H=>kD jGD (kD kP (pv 1) (kD jCT (pv 2) (pv 0))) (pv 3))) y8)) y8)) y8)))))))),?_⟩
  refine⟨_,rfl,p,N,4,rfl,hp,hN,by decide,by decide,λN1 way b1 b2 b3=>?_⟩
  have hp1:∀M,(upd H p (.lst [.int M])) p=some (.lst [.int M]):=λ_=>j5
  refine⟨_,rfl,rfl,_,rfl,?_⟩
  refine ite2 (λ_=>?_) (λhw0=>?_)
  ·refine⟨_,rfl,_,rfl,_,_,rfl,rfl,⟨by lia,by lia,by decide⟩,_,_,rfl,rfl,p,N1,_,rfl,hp1 _,b1,by lia,by lia,λN2 r2 c1 c2 c3=>⟨_,_,rfl,rfl,?_⟩⟩
   have hnum:1+r2<2 ^ w.toNat:=by lia
   refine⟨_,rfl,w,rfl,by lia,by lia,jC4 (n:=w.toNat) (by rw[aH]; lia) (λD i σ' H' ys=>(∃v,σ'=[v,some (.int (1+r2))])/\ys=(bits (1+r2) i).map V.int/\H'=upd (upd (upd H p (.lst [.int N1])) p (.lst [.int N2])) D (.lst ys)) ?_ ?_ ?_ ?_⟩
   ·intro D hD
    exact⟨⟨_,rfl⟩,rfl,rfl⟩
   ·rintro D i σ' H' ys hD hi ⟨_,e1,e2⟩
    refine⟨by rw[e2]; exact j5,?_⟩
    rw[e1,ae]
    unfold bits
    rw[ae]
    exact bf (bh _ _) (by rw[bW]; exact aq _)
   ·rintro D i σ' H' ys hD hi ⟨⟨v,rfl⟩,rfl,rfl⟩
    refine⟨_,rfl,_,rfl,_,_,rfl,rfl,(by show (0:Int)<=0+(i:Int); lia),_,_,rfl,rfl,rfl,_,rfl,?_⟩
    have ei:(0+(i:Int)).toNat=i:=by lia
    refine ite2 (λhb=>?_) (λhb=>?_)
    ·have hb:Builtin.bitAnd ((1+r2) / 2 ^ i) 1=1:=by
      have:=aU hb
      rw[ei] at this
      exact V.int.inj this
     refine⟨_,rfl,j5,⟨_,rfl⟩,?_,jC8⟩
     rw[jH5,am (aB hb),ba]
     congr 1
     show [V.int (0+(i:Int))]=[V.int (i:Int)]
     rw[iM]
    ·have hb:¬Builtin.bitAnd ((1+r2) / 2 ^ i) 1=1:=λe=>hb (aB (by rw[ei]; exact bS V.int e))
     refine⟨⟨_,rfl⟩,?_,rfl⟩
     rw[jH5,aj (by simpa using hb),bg]
   ·rintro D σ' H' ys hD ⟨_,rfl,rfl⟩
    refine⟨D,_,rfl, .inl ⟨SqL.of j5,λqq hqq=>?_⟩⟩
    obtain⟨n1,n2⟩:=kX hqq
    have pD:p≠D:=j9 j5 hD
    have pq:p≠qq:=j9 j5 n2
    exact q qq N2 (bits (1+r2) w.toNat) _ c1 (jPQ (by lia) (by lia) hnum) j5 (by rw[j6 pq,j6 pD,j5]) (((((Keep.refl H p).upd _).upd _).new hD _).new hqq _)
  ·have hway:1<=way:=by
    have:¬way=0:=λe=>hw0 (aB (by rw[e]))
    lia
   refine⟨_,rfl,_,rfl,p,N1,w,rfl,hp1 _,b1,by lia,by lia,λN2 kT c1 c2 c3=>?_⟩
   rw[jC8]
   refine⟨_,rfl,p,N2,3,rfl,hp1 _,c1,by decide,by decide,λN3 st d1 d2 d3=>⟨_,_,rfl,rfl,?_⟩⟩
   rw[jC8]
   refine⟨_,rfl,(by show 3<=sizeLine; decide),λl hl=>?_⟩
   have pl:p≠l:=j9 (hp1 _) hl
   obtain⟨wd,hwd,e1,e2⟩:∃wd:Int,atI [V.int 1,V.int 2,V.int 4] (way - 1)=some (.int wd)/\1<=wd/\wd<=4:=by
    rcases (show way=1\/way=2\/way=3 by lia) with e | e | e
    ·subst e; exact⟨1,rfl,by decide,by decide⟩
    ·subst e; exact⟨2,rfl,by decide,by decide⟩
    ·subst e; exact⟨4,rfl,by decide,by decide⟩
   refine⟨_,rfl,_,_,rfl,rfl,l,_,_,_,rfl,rfl,SqL.of j5,hwd,p,N3,wd,rfl,by rw[j6 pl]; exact hp1 _,d1,by lia,by lia,λN4 r4 g1 g2 g3=>⟨_,_,rfl,rfl,?_⟩⟩
   have kp:Keep H (upd (upd (upd H p (.lst [.int N3])) l (.lst [V.int 1,V.int 2,V.int 4])) p (.lst [.int N4])) p:=(((Keep.refl H p).upd _).new hl _).upd _
   have hp4:(upd (upd (upd H p (.lst [.int N3])) l (.lst [V.int 1,V.int 2,V.int 4])) p (.lst [.int N4])) p=some (.lst [.int N4]):=j5
   generalize (upd (upd (upd H p (.lst [.int N3])) l (.lst [V.int 1,V.int 2,V.int 4])) p (.lst [.int N4]))=H4 at kp hp4 ⊢
   refine⟨_,rfl,1+r4,rfl,by lia,by lia,jC4 (n:=(1+r4).toNat) (by rw[aH]; lia) (λD i σ' H' ys=>(∃v,σ'=[v,some (.int kT),some (.int (1+st)),some (.int w)])/\(∃ns:List Int,ys=ns.map V.int/\ns.length=i/\∀z∈ns,0<=z/\z<w)/\H'=upd H4 D (.lst ys)) ?_ ?_ ?_ ?_⟩
   ·intro D hD
    exact⟨⟨_,rfl⟩,⟨[],rfl,rfl,λz hz=>by cases hz⟩,rfl⟩
   ·rintro D i σ' H' ys hD hi ⟨_,⟨ns,rfl,e,_⟩,rfl⟩
    exact⟨j5,by rw[ae,e]; exact aq _⟩
   ·rintro D i σ' H' ys hD hi ⟨⟨v,rfl⟩,⟨ns,rfl,e,hb⟩,rfl⟩
    dsimp only [kE,yW]
    rw[am rfl]
    refine⟨_,rfl,_,rfl,_,rfl,_,_,rfl,rfl, .inl ⟨by lia,by lia⟩,_,_,rfl,rfl,_,rfl,_,_,rfl,rfl,(by show 0<w; lia),j5,⟨_,rfl⟩,⟨ns++[(kT+(1+st)*(0+(i:Int))) % w],by simp,by simp [e],λz hz=>?_⟩,jC8⟩
    rcases aL.mp hz with hz | hz
    ·exact hb z hz
    ·have:z=(kT+(1+st)*(0+(i:Int))) % w:=by simpa using hz
     rw[this]
     exact⟨Int.emod_nonneg _ (by lia),mD _ (by lia)⟩
   ·rintro D σ' H' ys hD ⟨_,⟨ns,rfl,e,hb⟩,rfl⟩
    refine⟨D,ns,rfl,SqL.of j5,by lia,λz hz=>⟨(hb z hz).1,by have:=(hb z hz).2; lia⟩,λl1 ks h11 hm1=>?_⟩
    refine⟨l1,ks,rfl,j5,λl2 ms h12 srt hm2=>?_⟩
    refine⟨l2,_,rfl, .inl ⟨SqL.of j5,λqq hqq=>?_⟩⟩
    have pD:p≠D:=j9 hp4 hD
    have p1:p≠l1:=j9 hp4 (kX h11).2
    have p2:p≠l2:=j9 hp4 (kX (kX h12).2).2
    have pq:p≠qq:=j9 hp4 (kX (kX (kX hqq).2).2).2
    refine q qq N4 ms _ g1 ⟨srt,λz hz=>hb z ((hm1 z).mp ((hm2 z).mp hz)),λz=>?_⟩ j5 (by rw[j6 pq,j6 p2,j6 p1,j6 pD]; exact hp4) ((((kp.new hD _).new h11 _).new h12 _).new hqq _)
    subst z
    cases ns with
    | nil=>simp at e; lia
    | cons x r=>
     have:=(hm2 x).mpr ((hm1 x).mpr ag)
     cases this
structure Ris (w:Int)(ts:List Int):Prop where
 ris:ts.Pairwise (· < ·)
 bnd:∀z∈ts,0<=z/\z<w
theorem Ris.nil (w:Int):Ris w []:=⟨.nil,λz hz=>by cases hz⟩
theorem Ris.take {w:Int}{ts:List Int}(h:Ris w ts)(k:Nat):Ris w (ts.take k):=⟨h.ris.sublist (de _ _),λz hz=>h.bnd z (bU hz)⟩
theorem Ris.drop {w:Int}{ts:List Int}(h:Ris w ts)(k:Nat):Ris w (ts.drop k):=⟨h.ris.sublist (jd _ _),λz hz=>h.bnd z (cV hz)⟩
theorem Ris.snoc {i:Nat}{ts:List Int}(h:Ris i ts):Ris (i+1:Nat) (ts++[(i:Int)]):=by
 refine⟨bO.mpr ⟨h.ris,cj _ _,λa ha b hb=>?_⟩,λz hz=>?_⟩
 ·have:=(h.bnd a ha).2
  have e:b=i:=by simpa using hb
  lia
 ·rcases aL.mp hz with q | q
  ·have:=h.bnd z q
   lia
  ·have e:z=i:=by simpa using q
   lia
theorem Ris.step {i:Nat}{ts:List Int}(h:Ris i ts):Ris (i+1:Nat) ts:=⟨h.ris,λz hz=>by have:=h.bnd z hz; lia⟩
def upto (n:Nat):List Int:=(List.range n).map λ(i:Nat)=>(i:Int)
theorem jMY (n:Nat):jDT n=(upto n).map V.int:=by
 unfold jDT upto
 rw[bz]
 rfl
theorem jAC (n:Nat):Ris n (upto n):=by
 refine⟨?_,λz hz=>?_⟩
 ·unfold upto
  rw[be]
  exact lu.imp λh=>by lia
 ·unfold upto at hz
  obtain⟨t,ht,rfl⟩:=aW.mp hz
  have:=cG.mp ht
  lia
def Tups (H H':Hp):Prop:=∀b xs,H b=some (.tup xs)->H' b=some (.tup xs)
theorem Tups.trans {H H1 H2:Hp}(a:Tups H H1)(b:Tups H1 H2):Tups H H2:=λc o h=>b c o (a c o h)
theorem Keep.tups {H H':Hp}{p:Addr}{xs:List V}(k:Keep H H' p)(hp:H p=some (.lst xs)):Tups H H':=λb ys hb=>k b _ hb λe=>by
 subst e
 rw[hb] at hp
 cases hp
theorem Tups.upd {H:Hp}{p:Addr}{xs:List V}(hp:H p=some (.lst xs))(o:HO):Tups H (upd H p o):=λb ys hb=>by
 rw[j6 (λe=>by subst e; rw[hb] at hp; cases hp)]
 exact hb
theorem Tups.new {H:Hp}{p:Addr}(hp:H p=none)(o:HO):Tups H (L2.upd H p o):=λb ys hb=>by
 rw[j6 (j9 hb hp)]
 exact hb
def PcAt (H:Hp)(v:V)(pc:List Int×Int):Prop:=∃a q,v= .ref a/\H a=some (.tup [.ref q, .int pc.2])/\H q=some (.tup (pc.1.map V.int))
def PcsAt (H:Hp):List V->List (List Int×Int)->Prop
 | [],[]=>True
 | v::vs,p::ps=>PcAt H v p/\PcsAt H vs ps
 | _,_=>False
theorem PcAt.mono {H H':Hp}{v:V}{pc:List Int×Int}(h:PcAt H v pc)(t:Tups H H'):PcAt H' v pc:=by
 obtain⟨a,q,rfl,h1,h2⟩:=h
 exact⟨a,q,rfl,t _ _ h1,t _ _ h2⟩
theorem PcsAt.mono {H H':Hp}(t:Tups H H'):∀{vs:List V}{ps:List (List Int×Int)},PcsAt H vs ps->PcsAt H' vs ps
 | [],[],_=>trivial
 | _::_,_::_,h=>⟨h.1.mono t,PcsAt.mono t h.2⟩
 | [],_::_,h=>h.elim
 | _::_,[],h=>h.elim
theorem PcsAt.len {H:Hp} :∀{vs:List V}{ps:List (List Int×Int)},PcsAt H vs ps->vs.length=ps.length
 | [],[],_=>rfl
 | _::_,_::_,h=>bS (· +1) (PcsAt.len h.2)
 | [],_::_,h=>h.elim
 | _::_,[],h=>h.elim
theorem PcsAt.put {H:Hp}{v:V}{p:List Int×Int}(hv:PcAt H v p):∀(k:Nat) {vs:List V}{ps:List (List Int×Int)},PcsAt H vs ps->PcsAt H (vs.take k++v::vs.drop k) (ps.take k++p::ps.drop k)
 | 0,_,_,h=>⟨hv,h⟩
 | _+1,[],[],_=>⟨hv,trivial⟩
 | k+1,_::_,_::_,h=>⟨h.1,PcsAt.put hv k h.2⟩
 | _+1,[],_::_,h=>h.elim
 | _+1,_::_,[],h=>h.elim
structure GoodPc (w:Int)(pc:List Int×Int):Prop where
 lot:Lot w pc.1
 lo: -1000000000000<=pc.2
 hi:pc.2<=1000000000000
structure BoxAt (H:Hp)(b:Addr)(w:Int)(mays:List Int)(pcs:List (List Int×Int)):Prop where
 ex:∃qm qp vs,H b=some (.tup [.int w, .ref qm, .ref qp])/\H qm=some (.tup (mays.map V.int))/\H qp=some (.tup vs)/\PcsAt H vs pcs
theorem BoxAt.mono {H H':Hp}{b:Addr}{w:Int}{mays:List Int}{pcs:List (List Int×Int)}(h:BoxAt H b w mays pcs)(t:Tups H H'):BoxAt H' b w mays pcs:=by
 obtain⟨qm,qp,vs,h1,h2,h3,h4⟩:=h.ex
 exact⟨qm,qp,vs,t _ _ h1,t _ _ h2,t _ _ h3,h4.mono t⟩
structure Good (mt mp:Int)(w:Int)(mays:List Int)(pcs:List (List Int×Int)):Prop where
 w0:0<=w
 w1:w<=mt
 mr:Ris w mays
 pl:(pcs.length:Int)<=mp
 pg:∀pc∈pcs,GoodPc w pc
theorem Keep.updNew {H H1:Hp}{p l:Addr}(a:Keep H H1 p)(hl:H l=none)(o:HO):Keep H (L2.upd H1 l o) p:=λc u h n=>by
 rw[j6 (j9 h hl)]
 exact a c u h n
def spBox:Sp:=λvs H Q _=>∃(p:Addr) (N mt mp:Int),vs=[.ref p, .int mt, .int mp]/\H p=some (.lst [.int N])/\0<=N/\0<=mt/\mt<=16/\0<=mp/\mp<=32/\
 ∀(b:Addr) (N' w:Int) (mays:List Int) (pcs:List (List Int×Int)) (H':Hp),0<=N'->H' p=some (.lst [.int N'])->BoxAt H' b w mays pcs->Good mt mp w mays pcs->Keep H H' p->Q (.ref b) H'
noncomputable abbrev nBox:List Str:=["pot","most_things","most_pieces","wide","mays","left","far","pieces","k","size","things"]
theorem scBox:FnScope nBox ["pot","most_things","most_pieces"] (jA sBox):= {}
abbrev XBox (P:Program)(w:World)(K:W.Frag)(mg:Str->Option Value)(base:Heap)(f:Addr)(cdv:Value)(A:Around)(outer:List Env)(s:Shared)(H:Hp)(E:XK):Cx:=(cxOf CX0 P w K mg base nBox "_law_box" (jA sBox) f cdv A outer s H E).nox
def yS:Stmt->List Stmt
 | .For _ _ b _ _=>b
 | _=> []
def boxI {f fT fL:Addr}{fdT fdL:FuncData}{cdv:Value}{A:Around}{outer:List Env}{s:Shared}{H:Hp}{E:XK}(T:Txt mg)(CT:Can P w K mg base "_law_take" 1 fT fdT ["pot","wide"] yP)(CL:Can P w K mg base "_law_lot" 2 fL fdL ["pot","wide"] qH)(hr:Room 2 (XBox P w K mg base f cdv A outer s H E).A): { t:TS // JSs (XBox P w K mg base f cdv A outer s H E) ((yS ((jC sBox).getD 7 (.Pass ⟨0,0,0,0⟩))).drop 4) t} :=
 have nd:=scBox.nd
 ⟨_,(jD (jCH (je_bm cF PySem.F.slot_list_insert PySem.F.type_list_insert jM2 (jv 7 rfl vL) (j3 (CT.je (hr.mono (by decide)) gD (j3 (jv 0 rfl vC) (j3 (kI kP (jE jU gD T.len (by decide+kernel) (j3 (jv 7 rfl vL) j8 j4) j4) (je_int)) j8 y0) j4) j4) (j3 (jJ7 (j3 (jv 10 rfl vL) (j3 (kI jEC (CT.je (hr.mono (by decide)) gD (j3 (jv 0 rfl vC) (j3 (jv 6 rfl vL) j8 j4) j4) j4) (kI jIW (jv 6 rfl vL) (je_int))) j8 y0) j4)) j8 yQ) jH) jH) kB))⟩
def boxL {f fT fL:Addr}{fdT fdL:FuncData}{cdv:Value}{A:Around}{outer:List Env}{s:Shared}{H:Hp}{E:XK}(T:Txt mg)(CT:Can P w K mg base "_law_take" 1 fT fdT ["pot","wide"] yP)(CL:Can P w K mg base "_law_lot" 2 fL fdL ["pot","wide"] qH)(hr:Room 2 (XBox P w K mg base f cdv A outer s H E).A): { t:TS // JSs (XBox P w K mg base f cdv A outer s H E) (yS ((jC sBox).getD 7 (.Pass ⟨0,0,0,0⟩))) t} :=
 have nd:=scBox.nd
 ⟨_,(jB (jQ (i:=9) nd rfl lL (kI kP (je_int) (CT.je (hr.mono (by decide)) gD (j3 (jv 0 rfl vC) (j3 (je_int) j8 jG) j4) j4)) jDE)
   (jB (jQ (i:=10) nd rfl lL (jAA jA1 gD T.tuple (by decide+kernel) (j3 (jJ8 jLD (jv 5 rfl vL) jMJ (jMI (jv 9 rfl vL))) j8 yF) yF) kB)
   (jB (jQ (i:=5) nd rfl lL (jJ8 jLD (jv 5 rfl vL) (jMI (jv 9 rfl vL)) jMJ) jPZ)
   (jB (yY (jY (jUF hr.units0) (jv 10 rfl vL) (jJ7 j8) (jX _)) (jD (jQ (i:=10) nd rfl lL (CL.je hr gD (j3 (jv 0 rfl vC) (j3 (jv 3 rfl vL) j8 j4) j4) j4) kB)) kU)
   (boxI T CT CL hr).2))))⟩
def boxC {f fT fL:Addr}{fdT fdL:FuncData}{cdv:Value}{A:Around}{outer:List Env}{s:Shared}{H:Hp}{E:XK}(T:Txt mg)(CT:Can P w K mg base "_law_take" 1 fT fdT ["pot","wide"] yP)(CL:Can P w K mg base "_law_lot" 2 fL fdL ["pot","wide"] qH)(hr:Room 2 (XBox P w K mg base f cdv A outer s H E).A): { t:TS // JSs (XBox P w K mg base f cdv A outer s H E) ((jC sBox).drop 5) t} :=
 have nd:=scBox.nd
 ⟨_,(jB (jQ (i:=6) nd rfl lL (kJ jB3 (jMM (j3 (je_int) (j3 (je_int) (j3 (jV4) j8 y0) jG) jG)) (CT.je (hr.mono (by decide)) gD (j3 (jv 0 rfl vC) (j3 (je_int) j8 jG) j4) j4) jRA) jPZ)
   (jB (jQ (i:=7) nd rfl lL (jMM j8) jFX)
   (jB (yT bX rfl (jAJ gD T.range (j3 (kI jCT (CT.je (hr.mono (by decide)) gD (j3 (jv 0 rfl vC) (j3 (kI kP (jv 2 rfl vL) (je_int)) j8 y0) j4) j4) (jAA jNS gD T.int (by decide+kernel) (j3 (jBL op_gt (jv 3 rfl vL) (je_int) (jX _)) j8 jQ2) jQ2)) j8 y0) y0) (jJ (i:=8) nd rfl lL) (boxL T CT CL hr).2 kO)
   (jD (jV (jJ7 (j3 (jv 3 rfl vL) (j3 (jv 4 rfl vL) (j3 (jAA jA1 gD T.tuple (by decide+kernel) (j3 (jv 7 rfl vL) j8 j4) j4) j8 jH) j4) j4)))))))⟩
def boxB {f fT fL:Addr}{fdT fdL:FuncData}{cdv:Value}{A:Around}{outer:List Env}{s:Shared}{H:Hp}{E:XK}(T:Txt mg)(CT:Can P w K mg base "_law_take" 1 fT fdT ["pot","wide"] yP)(CL:Can P w K mg base "_law_lot" 2 fL fdL ["pot","wide"] qH)(hr:Room 2 (XBox P w K mg base f cdv A outer s H E).A): { t:TS // JSs (XBox P w K mg base f cdv A outer s H E) ((jC sBox).drop 3) t} :=
 have nd:=scBox.nd
 ⟨_,(jB (jQ (i:=5) nd rfl lL (jAA (jGX rfl) gD T.list (by decide+kernel) (j3 (jAA jID gD T.range (by decide+kernel) (j3 (jv 3 rfl vL) j8 j4) j4) j8 jH) jH) kB)
   (jB (yY (jY qK (CT.je (hr.mono (by decide)) gD (j3 (jv 0 rfl vC) (j3 (je_int) j8 jG) j4) j4) (je_int) (jX _)) (jD (jQ (i:=5) nd rfl lL (jMM j8) jFX)) kU)
   (boxC T CT CL hr).2))⟩
def boxA {f fT fL:Addr}{fdT fdL:FuncData}{cdv:Value}{A:Around}{outer:List Env}{s:Shared}{H:Hp}{E:XK}(T:Txt mg)(CT:Can P w K mg base "_law_take" 1 fT fdT ["pot","wide"] yP)(CL:Can P w K mg base "_law_lot" 2 fL fdL ["pot","wide"] qH)(hr:Room 2 (XBox P w K mg base f cdv A outer s H E).A): { t:TS // JSs (XBox P w K mg base f cdv A outer s H E) (jC sBox) t} :=
 have nd:=scBox.nd
 ⟨_,(jB (jQ (i:=3) nd rfl lL (CT.je (hr.mono (by decide)) gD (j3 (jv 0 rfl vC) (j3 (kI kP (jv 1 rfl vL) (je_int)) j8 y0) j4) j4) kB)
   (jB (jQ (i:=4) nd rfl lL (jJ7 j8) jTJ)
   (jB (yY (jY qK (CT.je (hr.mono (by decide)) gD (j3 (jv 0 rfl vC) (j3 (je_int) j8 jG) j4) j4) (je_int) (jX _)) (jD (jQ (i:=4) nd rfl lL (jAA jA1 gD T.tuple (by decide+kernel) (j3 (yE (m:=[none,some 0]) (Nc:=["t","pot"]) rfl (jAJ gD T.range (j3 (jv 3 rfl vL) j8 j4) j4) rfl (by decide+kernel) (by decide+kernel) (jT (psc:=jA sBox)) (jL (N:=nBox) rfl rfl (by decide+kernel)) (λcl C fp s H=>jJ (i:=0) (show (["t","pot"]:List Str).Nodup by decide+kernel) rfl qG) (λcl C fp s H=>jCG (jY qK (CT.je (hr.mono (by decide)) gl_b (j3 (jv 1 rfl yJ) (j3 (je_int) j8 jG) j4) j4) (je_int) (jX _))) (λcl C fp s H=>(jv 0 rfl jW)) kO) j8 jP) jP) kB)) kU)
   (boxB T CT CL hr).2)))⟩
structure St0 (H H2:Hp)(p:Addr)(w:Int)(qm ql:Addr)(mays lf:List Int)(N:Int):Prop where
 hp:H2 p=some (.lst [.int N])
 hN:0<=N
 hm:H2 qm=some (.tup (mays.map V.int))
 rm:Ris w mays
 hl:H2 ql=some (.lst (lf.map V.int))
 rl:Ris w lf
 ne:ql≠p
 kp:Keep H H2 p
theorem St0.step {H H2 H3:Hp}{p:Addr}{w:Int}{qm ql:Addr}{mays lf:List Int}{N N':Int}(S:St0 H H2 p w qm ql mays lf N)(k:Keep H2 H3 p)(hp:H3 p=some (.lst [.int N']))(hN:0<=N'):St0 H H3 p w qm ql mays lf N':=
 ⟨hp,hN,k qm _ S.hm (ne_of S.hm S.hp (by intro z; cases z)),S.rm,k ql _ S.hl S.ne,S.rl,S.ne,S.kp.trans k⟩
theorem jNC {w:Int}{lf:List Int}(h:Ris w lf)(lo hi:Option Int):∃l',cutV (lf.map V.int) lo hi=l'.map V.int/\Ris w l':=by
 refine⟨(lf.drop (HT.sIx lf.length 0 lo)).take (HT.sIx lf.length lf.length hi - HT.sIx lf.length 0 lo),?_,(h.drop _).take _⟩
 unfold cutV
 rw[ae,mo,List.map_drop]
theorem jH1 (T:Txt mg)(CT:Can P w K mg base "_law_take" 1 fT fdT ["pot","wide"] yP)(CL:Can P w K mg base "_law_lot" 2 fL fdL ["pot","wide"] qH)(hr:Room 2 (XBox P w K mg base f cdv A outer s H0 E).A)
  {D:Ends}{H H5:Hp}{p qm ql qp qt:Addr}{mt mp w N far:Int}{mays lf ts:List Int}{vs:List V}{pcs:List (List Int×Int)}{v8 v9:Option V}
  (S:St0 H H5 p w qm ql mays lf N) (hqp:H5 qp=some (.lst vs)) (hv:PcsAt H5 vs pcs) (hg:∀pc∈pcs,GoodPc w pc) (hqt:H5 qt=some (.tup (ts.map V.int))) (lt:Lot w ts) (hf:far=1\/far=10\/far=2000000000001) (hn:pcs.length<=100) (hH:H qp=none) (hne:ql≠qp) (hpp:p≠qp)
  (nx:∀H6 N' vs' pcs',St0 H H6 p w qm ql mays lf N'->H6 qp=some (.lst vs')->PcsAt H6 vs' pcs'->(∀pc∈pcs',GoodPc w pc)->pcs'.length=pcs.length+1->D.nx [some (.ref p),some (.int mt),some (.int mp),some (.int w),some (.ref qm),some (.ref ql),some (.int far),some (.ref qp),v8,v9,some (.ref qt)] H6):
  (boxI T CT CL hr).1 D [some (.ref p),some (.int mt),some (.int mp),some (.int w),some (.ref qm),some (.ref ql),some (.int far),some (.ref qp),v8,v9,some (.ref qt)] H5:=by
 have hlen:=hv.len
 have h64:(0:Int)<far/\far<2 ^ 64:=by rcases hf with e | e | e <;> subst e <;> decide
 refine⟨_,rfl, .inl ⟨rfl,_,SqL.of hqp⟩,_,rfl,_,rfl,qp,vs,rfl, .inl (SqL.of hqp),_,_,rfl,rfl,p,N,_,rfl,S.hp,S.hN,by lia,by lia,λN1 i a1 a2 a3=>?_⟩
 refine⟨_,rfl,_,rfl,_,rfl,p,N1,far,rfl,j5,a1,h64.1,h64.2,λN2 r b1 b2 b3=>?_⟩
 rw[jC8]
 refine⟨_,rfl,_,_,rfl,rfl,⟨by decide,by decide⟩,_,_,rfl,rfl,(by show 2<=sizeLine; decide),λtq htq=>?_⟩
 obtain⟨t1,t2⟩:=kX htq
 have ht:tq≠qp:=λe=>by subst e; rw[hqp] at t2; cases t2
 refine⟨qp,vs,i,_,rfl,rfl,by rw[j6 ht.symm,j6 hpp.symm]; exact hqp,a2,by lia,by rw[aH]; lia,?_⟩
 have T1:Tups H5 (upd (upd H5 p (.lst [.int N2])) tq (.tup [.ref qt, .int (r - far / 2)])):=(Tups.upd S.hp _).trans (Tups.new htq _)
 have k1:Keep H5 (upd (upd H5 p (.lst [.int N2])) tq (.tup [.ref qt, .int (r - far / 2)])) p:=((Keep.refl _ _).upd _).new htq _
 have S1:=S.step k1 (by rw[j6 t1.symm]; exact j5) b1
 have hq1:(upd (upd H5 p (.lst [.int N2])) tq (.tup [.ref qt, .int (r - far / 2)])) qp=some (.lst vs):=by rw[j6 ht.symm,j6 hpp.symm]; exact hqp
 have T2:=T1.trans (Tups.upd hq1 (.lst (vs.take i.toNat++V.ref tq::vs.drop i.toNat)))
 have pc:PcAt (upd (upd H5 p (.lst [.int N2])) tq (.tup [.ref qt, .int (r - far / 2)])) (.ref tq) (ts,r - far / 2):=⟨tq,qt,rfl,j5,T1 _ _ hqt⟩
 refine nx _ N2 _ (pcs.take i.toNat++(ts,r - far / 2)::pcs.drop i.toNat) ⟨?_,b1,?_,S.rm,?_,S.rl,S.ne,S1.kp.updNew hH _⟩ j5 ?_ ?_ ?_
 ·rw[j6 hpp]; exact S1.hp
 ·exact(Tups.upd hq1 _) _ _ S1.hm
 ·rw[j6 hne]; exact S1.hl
 ·exact PcsAt.put (pc.mono (Tups.upd hq1 _)) _ (hv.mono T2)
 ·intro c hc
  rcases aL.mp hc with h | h
  ·exact hg c (bU h)
  ·rcases ar.mp h with h | h
   ·subst h
    refine⟨lt,?_,?_⟩
    ·show -1000000000000<=r - far / 2
     rcases hf with e | e | e <;> subst e <;> lia
    ·show r - far / 2<=1000000000000
     rcases hf with e | e | e <;> subst e <;> lia
   ·exact hg c (cV h)
 ·rw[aF,aP,bM,gX]
  lia
theorem jNU (T:Txt mg)(CT:Can P w K mg base "_law_take" 1 fT fdT ["pot","wide"] yP)(CL:Can P w K mg base "_law_lot" 2 fL fdL ["pot","wide"] qH)(hr:Room 2 (XBox P w K mg base f cdv A outer s H0 E).A)
  {D:Ends}{H H5:Hp}{p qm ql qp:Addr}{mt mp w N far:Int}{mays lf:List Int}{vs:List V}{pcs:List (List Int×Int)}{v8 v9 v10:Option V}
  (S:St0 H H5 p w qm ql mays lf N) (hqp:H5 qp=some (.lst vs)) (hv:PcsAt H5 vs pcs) (hg:∀pc∈pcs,GoodPc w pc) (hf:far=1\/far=10\/far=2000000000001) (hn:pcs.length<=100) (hH:H qp=none) (hpp:p≠qp) (w1:1<=w) (w2:w<=16)
  (nx:∀H6 N' vs' pcs' ql' lf' v9' v10',St0 H H6 p w qm ql' mays lf' N'->ql'≠qp->H6 qp=some (.lst vs')->PcsAt H6 vs' pcs'->(∀pc∈pcs',GoodPc w pc)->pcs'.length=pcs.length+1->D.nx [some (.ref p),some (.int mt),some (.int mp),some (.int w),some (.ref qm),some (.ref ql'),some (.int far),some (.ref qp),v8,v9',v10'] H6):
  (boxL T CT CL hr).1 D [some (.ref p),some (.int mt),some (.int mp),some (.int w),some (.ref qm),some (.ref ql),some (.int far),some (.ref qp),v8,v9,v10] H5:=by
 refine⟨_,rfl,p,N,3,rfl,S.hp,S.hN,by decide,by decide,λN1 r1 a1 a2 a3=>⟨_,_,rfl,rfl,?_⟩⟩
 have S1:=S.step ((Keep.refl _ _).upd (.lst [.int N1])) j5 a1
 have hq1:(upd H5 p (.lst [.int N1])) qp=some (.lst vs):=by rw[j6 hpp.symm]; exact hqp
 have hv1:=hv.mono (Tups.upd S.hp (.lst [.int N1]))
 generalize upd H5 p (.lst [.int N1])=H6 at S1 hq1 hv1 ⊢
 clear S hqp hv
 obtain⟨l1,e1,g1⟩:=jNC S1.rl none (some (1+r1))
 obtain⟨l2,e2,g2⟩:=jNC S1.rl (some (1+r1)) none
 refine⟨_,rfl,_,rfl,1+r1,rfl,ql,_,rfl,SqL.of S1.hl,λx hx=>⟨x,_,rfl, .inl ⟨SqL.of j5,λqt hqt=>?_⟩⟩⟩
 rw[e1] at hqt ⊢
 have k1:Keep H6 (upd (upd H6 x (.lst (l1.map V.int))) qt (.tup (l1.map V.int))) p:=((Keep.refl _ _).new hx _).new hqt _
 obtain⟨t1,t2⟩:=kX hqt
 have px:p≠x:=j9 S1.hp hx
 have pt:p≠qt:=j9 S1.hp t2
 have qx:qp≠x:=j9 hq1 hx
 have qq:qp≠qt:=j9 hq1 t2
 have S2:=S1.step k1 (by rw[j6 pt,j6 px]; exact S1.hp) S1.hN
 have hq2:(upd (upd H6 x (.lst (l1.map V.int))) qt (.tup (l1.map V.int))) qp=some (.lst vs):=by rw[j6 qq,j6 qx]; exact hq1
 have hv2:=hv1.mono (k1.tups S1.hp)
 have ht2:(upd (upd H6 x (.lst (l1.map V.int))) qt (.tup (l1.map V.int))) qt=some (.tup (l1.map V.int)):=j5
 generalize upd (upd H6 x (.lst (l1.map V.int))) qt (.tup (l1.map V.int))=H7 at S2 hq2 hv2 ht2 ⊢
 clear k1 hqt t2 hx S1 hq1 hv1
 refine⟨_,rfl,_,rfl,1+r1,rfl,ql,_,rfl,SqL.of S2.hl,λql' hql=>?_⟩
 rw[e2]
 have pl:p≠ql':=j9 S2.hp hql
 have k2:Keep H7 (upd H7 ql' (.lst (l2.map V.int))) p:=(Keep.refl _ _).new hql _
 have S3':=S2.step k2 (by rw[j6 pl]; exact S2.hp) S2.hN
 have S3:St0 H (upd H7 ql' (.lst (l2.map V.int))) p w qm ql' mays l2 N1:=⟨S3'.hp,S3'.hN,S3'.hm,S3'.rm,j5,g2,pl.symm,S3'.kp⟩
 have hne:qp≠ql':=j9 hq2 hql
 have hq3:(upd H7 ql' (.lst (l2.map V.int))) qp=some (.lst vs):=by rw[j6 hne]; exact hq2
 have hv3:=hv2.mono (k2.tups S2.hp)
 have ht3:=k2.tups S2.hp _ _ ht2
 generalize upd H7 ql' (.lst (l2.map V.int))=H8 at S3 hq3 hv3 ht3 ⊢
 clear k2 S3' S2 hq2 hv2 ht2 hql
 refine⟨_,rfl,(by show 0<=sizeLine; exact bi _),λz hz=>⟨qt,z,l1.map V.int,rfl,rfl,SqT.of ?_,SqT.of j5,_,rfl,?_⟩⟩
 ·rw[j6 (j9 ht3 hz)]; exact ht3
 have pz:p≠z:=j9 S3.hp hz
 have qz:qp≠z:=j9 hq3 hz
 have k3:Keep H8 (upd H8 z (.tup [])) p:=(Keep.refl _ _).new hz _
 have S4:=S3.step k3 (by rw[j6 pz]; exact S3.hp) S3.hN
 have hq4:(upd H8 z (.tup [])) qp=some (.lst vs):=by rw[j6 qz]; exact hq3
 have hv4:=hv3.mono (k3.tups S3.hp)
 have ht4:=k3.tups S3.hp _ _ ht3
 generalize upd H8 z (.tup [])=H9 at S4 hq4 hv4 ht4 ⊢
 clear k3 S3 hq3 hv3 ht3 hz pz qz
 refine ite2 (λhy=>?_) (λhy=>?_)
 ·refine⟨_,rfl,_,rfl,p,N1,w,rfl,S4.hp,S4.hN,w1,w2,λq N2 ts H' b1 lt b2 b3 b4=>?_⟩
  exact jH1 T CT CL hr (S4.step b4 b3 b1) (b4 _ _ hq4 hpp.symm) (hv4.mono (b4.tups S4.hp)) hg b2 lt hf hn hH hne.symm hpp λH6 N' vs' pcs' z1 z2 z3 z4 z5=>nx H6 N' vs' pcs' ql' l2 _ _ z1 hne.symm z2 z3 z4 z5
 ·have nl:l1≠ []:=λe=>hy (aB (by rw[e]; rfl))
  exact jH1 T CT CL hr S4 hq4 hv4 hg ht4 ⟨g1.ris,g1.bnd,nl⟩ hf hn hH hne.symm hpp λH6 N' vs' pcs' z1 z2 z3 z4 z5=>nx H6 N' vs' pcs' ql' l2 _ _ z1 hne.symm z2 z3 z4 z5
def Told (H:Hp)(p:Addr)(mt mp:Int)(R:VK):Prop:=∀(b:Addr) (N' w:Int) (mays:List Int) (pcs:List (List Int×Int)) (H':Hp),0<=N'->H' p=some (.lst [.int N'])->BoxAt H' b w mays pcs->Good mt mp w mays pcs->Keep H H' p->R (.ref b) H'
theorem jH2 (T:Txt mg)(CT:Can P w K mg base "_law_take" 1 fT fdT ["pot","wide"] yP)(CL:Can P w K mg base "_law_lot" 2 fL fdL ["pot","wide"] qH)(hr:Room 2 (XBox P w K mg base f cdv A outer s H0 E).A)
  {D:Ends}{H H5:Hp}{p qm ql:Addr}{mt mp w N:Int}{mays lf:List Int}{v6 v7 v8 v9 v10:Option V}
  (S:St0 H H5 p w qm ql mays lf N) (hpH:∃o,H p=some o) (w0:0<=w) (w1:w<=mt) (w2:mt<=16) (n0:0<=mp) (n1:mp<=32) (q:Told H p mt mp D.rt):
  (boxC T CT CL hr).1 D [some (.ref p),some (.int mt),some (.int mp),some (.int w),some (.ref qm),some (.ref ql),v6,v7,v8,v9,v10] H5:=by
 refine⟨(by show 3<=sizeLine; decide),λl hl=>?_⟩
 have pl:p≠l:=j9 S.hp hl
 refine⟨_,rfl,p,N,3,rfl,by rw[j6 pl]; exact S.hp,S.hN,by decide,by decide,λN1 r a1 a2 a3=>?_⟩
 obtain⟨far,hfar,hf⟩:∃far:Int,atI [V.int 1,V.int 10,V.int 2000000000001] r=some (.int far)/\(far=1\/far=10\/far=2000000000001):=by
  rcases (show r=0\/r=1\/r=2 by lia) with e | e | e
  ·subst e; exact⟨_,rfl, .inl rfl⟩
  ·subst e; exact⟨_,rfl, .inr (.inl rfl)⟩
  ·subst e; exact⟨_,rfl, .inr (.inr rfl)⟩
 refine⟨l,_,r,_,rfl,rfl,SqL.of (by rw[j6 pl.symm]; exact j5),hfar,?_⟩
 have S1:=S.step ((((Keep.refl _ _).new hl (.lst [V.int 1,V.int 10,V.int 2000000000001])).upd (.lst [.int N1]))) j5 a1
 generalize upd (upd H5 l (.lst [V.int 1,V.int 10,V.int 2000000000001])) p (.lst [.int N1])=H6 at S1 ⊢
 clear hl S
 refine⟨(by show 0<=sizeLine; exact bi _),λqp hqp=>?_⟩
 have pq:p≠qp:=j9 S1.hp hqp
 have hHq:H qp=none:=by
  cases e:H qp with
  | none=>rfl
  | some o=>
   have:=S1.kp _ _ e pq.symm
   rw[hqp] at this
   cases this
 have lq:ql≠qp:=j9 S1.hl hqp
 have S2:=S1.step ((Keep.refl _ _).new hqp (.lst [])) (by rw[j6 pq]; exact S1.hp) S1.hN
 have hq2:(upd H6 qp (.lst [])) qp=some (.lst []):=j5
 generalize upd H6 qp (.lst [])=H7 at S2 hq2 ⊢
 clear hqp S1
 refine⟨_,rfl,_,rfl,_,_,rfl,rfl,p,N1,_,rfl,S2.hp,S2.hN,by lia,by lia,λN2 n b1 b2 b3=>?_⟩
 refine⟨_,rfl,_,_,rfl,rfl, .inr ⟨_,rfl,_,_,rfl,rfl, .inl ⟨by lia,by lia⟩,_,rfl,?_⟩⟩
 have S3:=S2.step ((Keep.refl _ _).upd (.lst [.int N2])) j5 b1
 have hq3:(upd H7 p (.lst [.int N2])) qp=some (.lst []):=by rw[j6 pq.symm]; exact hq2
 generalize upd H7 p (.lst [.int N2])=H8 at S3 hq3 ⊢
 clear S2 hq2
 obtain⟨m,em,hm,hw⟩:∃m:Int,n*(if decide (0<w)=true then 1 else 0)=m/\(0<=m/\m<=mp)/\(0<m->1<=w):=by
  by_cases h:0<w
  ·exact⟨n,by simp [h],⟨b2,by lia⟩,λ_=>h⟩
  ·exact⟨0,by simp [h],⟨by lia,n0⟩,λz=>by lia⟩
 show _/\_/\_
 rw[show (n*(if decide (0<w)=true then 1 else 0))=m from em]
 refine⟨by lia,by lia,jC2 (n:=m.toNat) (λi σ H5=>∃ql' lf' N' vs pcs v8 v9 v10,σ=[some (.ref p),some (.int mt),some (.int mp),some (.int w),some (.ref qm),some (.ref ql'),some (.int far),some (.ref qp),v8,v9,v10]/\St0 H H5 p w qm ql' mays lf' N'/\ql'≠qp/\H5 qp=some (.lst vs)/\PcsAt H5 vs pcs/\(∀pc∈pcs,GoodPc w pc)/\pcs.length=i) ?_ ?_ ?_⟩
 ·exact⟨ql,lf,N2,[],[],_,_,_,rfl,S3,lq,hq3,trivial,(λ_ h=>by cases h),rfl⟩
 ·rintro i σ H9 hi ⟨ql',lf',N',vs,pcs,x8,x9,x10,rfl,S4,l4,hq4,hv4,hg4,e4⟩
  exact jNU T CT CL hr S4 hq4 hv4 hg4 hf (by lia) hHq pq (hw (by lia)) (by lia) λH6 N' vs' pcs' ql' lf' v9' v10' z1 z2 z3 z4 z5 z6=>⟨ql',lf',N',vs',pcs',_,_,_,rfl,z1,z2,z3,z4,z5,by lia⟩
 ·rintro σ H9 ⟨ql',lf',N',vs,pcs,x8,x9,x10,rfl,S4,l4,hq4,hv4,hg4,e4⟩
  refine⟨_,rfl,_,rfl,_,rfl,qp,vs,rfl, .inl ⟨SqL.of hq4,λtq htq=>⟨(by show 3<=sizeLine; decide),λb hb=>?_⟩⟩⟩
  have k1:Keep H9 (upd H9 tq (.tup vs)) p:=(Keep.refl _ _).new htq _
  have k2:Keep H9 (upd (upd H9 tq (.tup vs)) b (.tup [.int w, .ref qm, .ref tq])) p:=k1.new hb _
  have tb:=j9 j5 hb
  have S5:=S4.step k2 (by rw[j6 (kX hb |>.2 |> λh=>j9 S4.hp h),j6 (j9 S4.hp htq)]; exact S4.hp) S4.hN
  exact q b N' w mays pcs _ S4.hN S5.hp ⟨qm,tq,vs,j5,S5.hm,by rw[j6 tb]; exact j5,hv4.mono (k2.tups S4.hp)⟩ ⟨w0,w1,S4.rm,by lia,hg4⟩ S5.kp
theorem jH3 (T:Txt mg)(CT:Can P w K mg base "_law_take" 1 fT fdT ["pot","wide"] yP)(CL:Can P w K mg base "_law_lot" 2 fL fdL ["pot","wide"] qH)(hr:Room 2 (XBox P w K mg base f cdv A outer s H0 E).A)
  {D:Ends}{H H5:Hp}{p qm:Addr}{mt mp w N:Int}{mays:List Int}{v5 v6 v7 v8 v9 v10:Option V}
  (hp:H5 p=some (.lst [.int N])) (hN:0<=N) (hm:H5 qm=some (.tup (mays.map V.int))) (rm:Ris w mays) (kp:Keep H H5 p) (hpH:∃o,H p=some o) (w0:0<=w) (w1:w<=mt) (w2:mt<=16) (n0:0<=mp) (n1:mp<=32) (q:Told H p mt mp D.rt):
  (boxB T CT CL hr).1 D [some (.ref p),some (.int mt),some (.int mp),some (.int w),some (.ref qm),v5,v6,v7,v8,v9,v10] H5:=by
 refine⟨_,rfl,w,rfl,λx hx=>⟨x,w,rfl,j5,w0,by lia,λql hql=>?_⟩⟩
 rw[jMY]
 have px:p≠x:=j9 hp hx
 have pl:p≠ql:=j9 hp (kX hql).2
 have k1:Keep H5 (upd (upd H5 x (.rng 0 w)) ql (.lst ((upto w.toNat).map V.int))) p:=((Keep.refl _ _).new hx _).new hql _
 have e:((w.toNat:Nat):Int)=w:=by lia
 have rl:Ris w (upto w.toNat):=by
  have:=jAC w.toNat
  rw[e] at this
  exact this
 have S:St0 H (upd (upd H5 x (.rng 0 w)) ql (.lst ((upto w.toNat).map V.int))) p w qm ql mays (upto w.toNat) N:=
  ⟨by rw[j6 pl,j6 px]; exact hp,hN,k1 qm _ hm (ne_of hm hp (by intro z; cases z)),rm,j5,rl,pl.symm,kp.trans k1⟩
 generalize upd (upd H5 x (.rng 0 w)) ql (.lst ((upto w.toNat).map V.int))=H6 at S ⊢
 clear k1 hql hx hp hm kp
 refine⟨_,rfl,p,N,3,rfl,S.hp,S.hN,by decide,by decide,λN1 r a1 a2 a3=>⟨rfl,_,rfl,?_⟩⟩
 have S1:=S.step ((Keep.refl _ _).upd (.lst [.int N1])) j5 a1
 generalize upd H6 p (.lst [.int N1])=H7 at S1 ⊢
 clear S
 refine ite2 (λhy=>?_) (λhy=>?_)
 ·refine⟨(by show 0<=sizeLine; exact bi _),λl hl=>?_⟩
  have pl2:p≠l:=j9 S1.hp hl
  have S2:=S1.step ((Keep.refl _ _).new hl (.lst [])) (by rw[j6 pl2]; exact S1.hp) S1.hN
  have S3:St0 H (upd H7 l (.lst [])) p w qm l mays [] N1:=⟨S2.hp,S2.hN,S2.hm,S2.rm,j5,Ris.nil w,pl2.symm,S2.kp⟩
  exact jH2 T CT CL hr S3 hpH w0 w1 w2 n0 n1 q
 ·exact jH2 T CT CL hr S1 hpH w0 w1 w2 n0 n1 q
theorem jNV (T:Txt mg)(CT:Can P w K mg base "_law_take" 1 fT fdT ["pot","wide"] yP)(CL:Can P w K mg base "_law_lot" 2 fL fdL ["pot","wide"] qH)(hr:Room 2 (XBox P w K mg base f cdv A outer s H0 E).A)
  {D:Ends}{H:Hp}{p:Addr}{mt mp N:Int}
  (hp:H p=some (.lst [.int N])) (hN:0<=N) (w0:0<=mt) (w2:mt<=16) (n0:0<=mp) (n1:mp<=32) (q:Told H p mt mp D.rt):
  (boxA T CT CL hr).1 D [some (.ref p),some (.int mt),some (.int mp),none,none,none,none,none,none,none,none] H:=by
 refine⟨_,rfl,_,rfl,_,_,rfl,rfl,p,N,_,rfl,hp,hN,by lia,by lia,λN1 w a1 a2 a3=>?_⟩
 refine⟨(by show 0<=sizeLine; exact bi _),λt ht=>?_⟩
 have pt:p≠t:=(kX ht).1.symm
 refine⟨_,rfl,p,N1,3,rfl,by rw[j6 pt]; exact j5,a1,by decide,by decide,λN2 r b1 b2 b3=>⟨rfl,_,rfl,?_⟩⟩
 have k1:Keep H (upd (upd (upd H p (.lst [.int N1])) t (.tup [])) p (.lst [.int N2])) p:=(((Keep.refl _ _).upd _).new ht _).upd _
 have hp1:(upd (upd (upd H p (.lst [.int N1])) t (.tup [])) p (.lst [.int N2])) p=some (.lst [.int N2]):=j5
 have ht1:(upd (upd (upd H p (.lst [.int N1])) t (.tup [])) p (.lst [.int N2])) t=some (.tup []):=by rw[j6 pt.symm]; exact j5
 generalize upd (upd (upd H p (.lst [.int N1])) t (.tup [])) p (.lst [.int N2])=H1 at k1 hp1 ht1 ⊢
 clear ht
 refine ite2 (λhy=>?_) (λhy=>?_)
 ·refine⟨_,rfl,w,rfl,by lia,by lia,jC4 (n:=w.toNat) (by rw[aH]; lia) (λD i σ' H' ys=>(∃v,σ'=[v,some (.ref p)])/\(∃(ms:List Int) (N':Int),ys=ms.map V.int/\ms.length<=i/\Ris i ms/\0<=N'/\H' p=some (.lst [.int N']))/\Keep H1 H' p/\H' D=some (.lst ys)/\D≠p/\H1 D=none) ?_ ?_ ?_ ?_⟩
  ·intro D hD
   have:p≠D:=j9 hp1 hD
   exact⟨⟨_,rfl⟩,⟨[],N2,rfl,aq _,Ris.nil _,b1,by rw[j6 this]; exact hp1⟩,(Keep.refl _ _).new hD _,j5,this.symm,hD⟩
  ·rintro D i σ' H' ys hD hi ⟨_,⟨ms,N',rfl,e,_⟩,_,e2,_⟩
   exact⟨e2,by rw[ae]; exact e⟩
  ·rintro D i σ' H' ys hD hi ⟨⟨v,rfl⟩,⟨ms,N',rfl,e,rs,n',hp'⟩,kk,e2,dp,hn⟩
   refine⟨_,rfl,p,N',3,rfl,hp',n',by decide,by decide,λN3 r3 c1 c2 c3=>⟨rfl,_,rfl,?_⟩⟩
   have k2:Keep H1 (upd H' p (.lst [.int N3])) p:=kk.upd _
   have e3:(upd H' p (.lst [.int N3])) D=some (.lst (ms.map V.int)):=by rw[j6 dp]; exact e2
   have hp3:(upd H' p (.lst [.int N3])) p=some (.lst [.int N3]):=j5
   generalize upd H' p (.lst [.int N3])=H'' at k2 e3 hp3 ⊢
   refine ite2 (λhz=>?_) (λhz=>?_)
   ·refine⟨_,rfl,e3,⟨_,rfl⟩,⟨ms++[(i:Int)],N3,?_,?_,rs.snoc,c1,by rw[j6 dp.symm]; exact hp3⟩,k2.updNew hn _,j5,dp,hn⟩
    ·rw[ba]
     show _++[V.int (0+(i:Int))]=_++[V.int (i:Int)]
     rw[iM]
    ·rw[aF]
     show ms.length+1<=i+1
     lia
   ·exact⟨⟨_,rfl⟩,⟨ms,N3,rfl,by lia,rs.step,c1,hp3⟩,k2,e3,dp,hn⟩
  ·rintro D σ' H' ys hD ⟨_,⟨ms,N',rfl,e,rs,n',hp'⟩,kk,e2,dp,hn⟩
   refine⟨D,_,rfl, .inl ⟨SqL.of e2,λqm hqm=>?_⟩⟩
   have pm:p≠qm:=j9 hp' hqm
   have e':((w.toNat:Nat):Int)=w:=by lia
   rw[e'] at rs
   exact jH3 T CT CL hr (by rw[j6 pm]; exact hp') n' j5 rs ((k1.trans kk).new hqm _) ⟨_,hp⟩ a2 (by lia) w2 n0 n1 q
 ·exact jH3 T CT CL hr hp1 b1 (mays:=[]) ht1 (Ris.nil w) k1 ⟨_,hp⟩ a2 (by lia) w2 n0 n1 q
theorem jUO {f fT fL:Addr}{fd fdT fdL:FuncData}(F:Fun K "_law_box" "_law_box" sBox f fd)(T:Txt mg)(CT:Can P w K mg base "_law_take" 1 fT fdT ["pot","wide"] yP)(CL:Can P w K mg base "_law_lot" 2 fL fdL ["pot","wide"] qH):
  FnOk P w K mg base CX0 3 f fd ["pot","most_things","most_pieces"] spBox:=by
 refine F.ok scBox (λvs H Q E h=>?_) (λcdv A outer s H vs Q E hr h=>?_)
 ·obtain⟨_,_,_,_,rfl,_⟩:=h
  rfl
 ·obtain⟨p,N,mt,mp,rfl,hp,hN,m0,m1,n0,n1,q⟩:=h
  exact⟨_,(boxA T CT CL hr).2.h,jNV T CT CL hr hp hN m0 m1 n0 n1 q⟩
inductive Ob where
 | int (i:Int)
 | oth
 | tup (os:List Ob)
def OthAt (H:Hp)(v:V):Prop:=v= .non\/(∃b,v= .bl b)\/(∃x,v= .str x)\/∃a,v= .ref a/\((∃xs,H a=some (.lst xs))\/∃kvs,H a=some (.dK kvs))
mutual
def At (H:Hp):Ob->V->Prop
 | .int i,v=>v= .int i
 | .oth,v=>OthAt H v
 | .tup os,v=>∃a vs,v= .ref a/\H a=some (.tup vs)/\vs.length<=100/\Ats H os vs
def Ats (H:Hp):List Ob->List V->Prop
 | [],vs=>vs=[]
 | o::os,vs=>∃v r,vs=v::r/\At H o v/\Ats H os r
end
structure Kp (H H':Hp):Prop where
 t:Tups H H'
 l:∀a xs,H a=some (.lst xs)->∃ys,H' a=some (.lst ys)
 d:∀a xs,H a=some (.dK xs)->∃ys,H' a=some (.dK ys)
theorem OthAt.mono {H H':Hp}(k:Kp H H'){v:V}(h:OthAt H v):OthAt H' v:=by
 rcases h with h | h | h | ⟨a,rfl,⟨xs,h⟩ | ⟨xs,h⟩⟩
 ·exact .inl h
 ·exact .inr (.inl h)
 ·exact .inr (.inr (.inl h))
 ·exact .inr (.inr (.inr ⟨a,rfl, .inl (k.l _ _ h)⟩))
 ·exact .inr (.inr (.inr ⟨a,rfl, .inr (k.d _ _ h)⟩))
mutual
theorem At.mono {H H':Hp}(k:Kp H H'):∀(o:Ob) (v:V),At H o v->At H' o v
 | .int _,_,h=>h
 | .oth,_,h=>OthAt.mono k h
 | .tup os,_,⟨a,vs,e,h,n,r⟩=>⟨a,vs,e,k.t _ _ h,n,Ats.mono k os vs r⟩
theorem Ats.mono {H H':Hp}(k:Kp H H'):∀(os:List Ob) (vs:List V),Ats H os vs->Ats H' os vs
 | [],_,h=>h
 | o::os,_,⟨v,r,e,h,t⟩=>⟨v,r,e,At.mono k o v h,Ats.mono k os r t⟩
end
theorem getI {is:List Int}{k:Nat}(h:k<is.length):(is.map V.int)[k]?=some (.int (is.getD k 0)):=by
 rw[aJ,aC]
 simp [h]
noncomputable abbrev XOf (N:List Str)(q:Str)(st:Stmt)(P:Program)(w:World)(K:W.Frag)(mg:Str->Option Value)(base:Heap)(f:Addr)(cdv:Value)(A:Around)(outer:List Env)(s:Shared)(H:Hp)(E:XK):Cx:=(cxOf CX0 P w K mg base N q (jA st) f cdv A outer s H E).nox
end Eo
namespace L2
open PySem
theorem qb {Q:VK}{H:Hp}{a b:Bool}(q:Q (.bl a) H)(e:a=b):Q (.bl b) H:=e ▸ q
end L2
namespace Eo
open PySem L2
section
variable {fI fPs:Addr}{fdI fdPs:FuncData}
end
end Eo
namespace L2
open PySem
section
variable {P:Program}{w:World}{K:W.Frag}{mg:Str->Option Value}{base:Heap}{N:List Str}{qual:Str}{sc:Scope}{f:Addr}{cdv:Value}{A:Around}{outer:List Env}{s:Shared}{H:Hp}{E:XK}{x y z:Str}{p1 p2 p3 pos:Pos}{k i j l:Nat}
theorem jF7 (hN:N.Nodup)(hi:N[i]?=some x)(hj:N[j]?=some y)(hx:sc.names.lookup x=some .local)(hy:sc.names.lookup y=some .local):
  JG (cxOf CX0 P w K mg base N qual sc f cdv A outer s H E).nox (.Tuple [.Name x p1, .Name y p2] k pos) (gTup K 2 (qA (kE i) (qA (kE j) gNil))):=
 jJ6 (X:=(cxOf CX0 P w K mg base N qual sc f cdv A outer s H E).nox) rfl (jA8 (jJ hN hi (loc_l hx)) (jA8 (jJ hN hj (loc_l hy)) jDQ jAO) jAO)
end
section
variable {K:W.Frag}{m:List (Option Nat)}{g:TG}{tt:TT}{te:TE}{σ:St}{H1:Hp}{Q:VK}
end
end L2
namespace Eo
open PySem L2
theorem jB4 (l:List Int):(l.map V.int).all flatV=true:=by
 rw[cM]
 intro x hx
 obtain⟨i,_,rfl⟩:=aW.mp hx
 rfl
theorem jC0 (i:Int)(l:List Int):inV (.int i) (l.map V.int)=decide (i∈l):=by
 unfold inV
 rw[dO,fQ,cb]
 constructor
 ·rintro ⟨x,hx,e⟩
  obtain⟨j,hj,rfl⟩:=aW.mp hx
  have:j=i:=eq_of_beq e
  rw[<- this]
  exact hj
 ·intro h
  exact⟨.int i,aW.mpr ⟨i,h,rfl⟩,by simp [eqV]⟩
theorem jAY:∀(ts:List Int) (lo w:Int),ts.Pairwise (· < ·)->(∀z∈ts,lo<=z/\z<w)->(ts.length:Int)<=max (w - lo) 0
 | [],lo,w,_,_=>by show (0:Int)<=_; lia
 | a::r,lo,w,hp,hb=>by
  have h1:=hb a ag
  have hp':=cH.mp hp
  have:=jAY r (a+1) w hp'.2 λz hz=>⟨by have:=hp'.1 z hz; lia,(hb z (ah _ hz)).2⟩
  rw[aP]
  lia
def j7 (pcs:List (List Int×Int))(k:Int):List Int:=(pcs.getD k.toNat ([],0)).1
theorem PcsAt.get {H:Hp} :∀{vs:List V}{ps:List (List Int×Int)},PcsAt H vs ps->∀{k:Nat},k<ps.length->∃v,vs[k]?=some v/\PcAt H v (ps.getD k ([],0))
 | v::vs,p::ps,h,0,_=>⟨v,rfl,h.1⟩
 | v::vs,p::ps,h,k+1,hk=>PcsAt.get h.2 (k:=k) (by simpa using hk)
 | [],[],_,k,hk=>absurd hk (dQ _)
 | [],_::_,h,_,_=>h.elim
 | _::_,[],h,_,_=>h.elim
theorem Good.at {mt mp w:Int}{ms:List Int}{pcs:List (List Int×Int)}(g:Good mt mp w ms pcs){k:Nat}(hk:k<pcs.length):GoodPc w (pcs.getD k ([],0)):=by
 have e:pcs.getD k ([],0)=pcs[k]:=by simp [List.getD,hk]
 rw[e]
 exact g.pg _ (dz hk)
theorem jOF {H:Hp}{vs:List V}{pcs:List (List Int×Int)}(h:PcsAt H vs pcs){k:Int}(h0:0<=k)(h1:k<pcs.length):∃a q wt,atI vs k=some (.ref a)/\H a=some (.tup [.ref q, .int wt])/\H q=some (.tup ((j7 pcs k).map V.int)):=by
 obtain⟨v,hv,a,q,rfl,b1,b2⟩:=h.get (k:=k.toNat) (by lia)
 refine⟨a,q,_,?_,b1,b2⟩
 have e:((k.toNat:Nat):Int)=k:=by lia
 have:=jB2 hv
 rw[e] at this
 exact this
theorem jDA {n i:Nat}(h:i<n):(upto n).take (i+1)=(upto n).take i++[(i:Int)]:=by
 unfold upto
 rw[<- mo,<- mo,List.take_range,List.take_range,show min (i+1) n=i+1 by lia,show min i n=i by lia,lG,ba]
 rfl
theorem jBO (n:Nat):(upto n).length=n:=by
 unfold upto
 rw[ae,bW]
theorem jCX {n i:Nat}(h:i<n):(upto n)[i]?=some (i:Int):=by
 unfold upto
 rw[aJ,dj h]
 rfl
theorem _root_.L2.Ext.tups {H H':Hp}(e:Ext H H'):Tups H H':=λb xs h=>e b _ h
theorem PcsAt.at {H:Hp} :∀{vs:List V}{ps:List (List Int×Int)},PcsAt H vs ps->∀{i:Nat}{v:V},vs[i]?=some v->∃pc,ps[i]?=some pc/\PcAt H v pc
 | [],[],_,i,v,e=>by cases e
 | x::vs,p::ps,h,0,v,e=>by cases e; exact⟨p,rfl,h.1⟩
 | x::vs,p::ps,h,i+1,v,e=>PcsAt.at h.2 (i:=i) e
 | [],_::_,h,_,_,_=>h.elim
 | _::_,[],h,_,_,_=>h.elim
theorem Keep.ext {H H':Hp}{p:Addr}{o:HO}(k:Keep (L2.upd H p o) H' p)(hp:H p=none):Ext H H':=λb u hb=>by
 have n:b≠p:=j9 hb hp
 exact k b u (by rw[j6 n]; exact hb) n
theorem Good.wide {mt mp w mt' mp':Int}{ms:List Int}{pcs:List (List Int×Int)}(g:Good mt mp w ms pcs)(h1:mt<=mt')(h2:mp<=mp'):Good mt' mp' w ms pcs:=⟨g.w0,df g.w1 h1,g.mr,df g.pl h2,g.pg⟩
theorem jLX (n:Nat):∀(ds:List Int),ds.Nodup->(∀t∈ds,0<=t/\t<(n:Int))->ds.length<=n:=by
 intro ds h1 h2
 have h3:(ds.map Int.toNat).Nodup:=by
  rw[List.Nodup,be]
  refine List.Pairwise.imp_of_mem (R:=(· ≠ ·)) (λ{a b} ha hb hne e=>hne ?_) h1
  have:=h2 a ha
  have:=h2 b hb
  lia
 have h4:(ds.map Int.toNat).length<=(List.range n).length:=h3.length_le_of_subset λx hx=>by
  obtain⟨t,ht,rfl⟩:=aW.mp hx
  have:=h2 t ht
  exact cG.mpr (by lia)
 rw[ae,bW] at h4
 exact h4
theorem jQH {H:Hp} :∀l:List Int,TsAt H (l.map Tr.int) (l.map V.int)
 | []=>rfl
 | i::r=>⟨.int i,_,rfl,rfl,jQH r⟩
theorem jGU:∀l:List Int,deps (l.map Tr.int)=0
 | []=>by simp [deps]
 | i::r=>by simp [deps,dep,jGU r]
theorem iteN {A B:Prop}{c:Bool}(hc:c=false)(h:B):if c=true then A else B:=by
 rw[hc]
 exact iteF h
abbrev leI:Int->Int->Bool:=λa b=>decide (a<=b)
def srt (l:List Int):List Int:=l.mergeSort leI
theorem jAD (l:List Int):(srt l).Perm l:=List.mergeSort_perm _ _
theorem jQ0 (l:List Int):(srt l).Pairwise (· <= ·):=by
 have:=List.pairwise_mergeSort (le:=leI) (λa b c h1 h2=>aB (df (aU h1) (aU h2))) (λa b=>by
  rw[Bool.or_eq_true]
  rcases Int.le_total a b with h | h
  ·exact .inl (aB h)
  ·exact .inr (aB h)) l
 exact this.imp λh=>aU h
theorem jTM {l m:List Int}(h1:m.Pairwise (· <= ·))(h2:m.Perm l):m=srt l:=
 List.Perm.eq_of_pairwise (λa b _ _ h1 h2=>Int.le_antisymm h1 h2) h1 (jQ0 l) (h2.trans (jAD l).symm)
noncomputable abbrev nMask:List Str:=["lot"]
theorem scMask:FnScope nMask ["lot"] (jA sMask):= {}
def jG0:Sp:=λvs H Q _=>∃(q:Addr) (ts:List Int),vs=[.ref q]/\H q=some (.tup (ts.map V.int))/\(∀t∈ts,0<=t/\t<64)/\ts.length<=64/\∀H',Ext H H'->Q (.int ((maskN ts:Nat):Int)) H'
def maskA (T:Txt mg): { t:TS // JSs (XOf nMask "mask_of" sMask P w K mg base f cdv A outer s H0 E) (jC sMask) t} :=
 have nd:=scMask.nd
 ⟨_,(jD (jV (jE (jE0 rfl) gD T.sum (by decide+kernel) (j3 (yE (m:=[none]) (Nc:=["thing"]) rfl (jGN (jv 0 rfl vL)) rfl (by decide+kernel) (by decide+kernel) (jT (psc:=jA sMask)) (jL (N:=nMask) rfl rfl (by decide+kernel)) (λcl C fp s H=>jJ (i:=0) (show (["thing"]:List Str).Nodup by decide+kernel) rfl qG) (λcl C fp s H=>yH) (λcl C fp s H=>(kI jIU (je_int) (jv 0 rfl jW))) yI) j8 jP) jP)))⟩
theorem jK0 (ts:List Int)(h:∀t∈ts,0<=t):(ts.map λt=>(1:Int)*2 ^ t.toNat).sum=((maskN ts:Nat):Int):=by
 induction ts with
 | nil=>rfl
 | cons t r ih=>
  have e:maskN (t::r)=2 ^ t.toNat+maskN r:=by simp [maskN]
  rw[aX,jz,ih λx hx=>h x (ah _ hx),e]
  push_cast
  lia
theorem jS4 {fd:FuncData}(F:Fun K "mask_of" "mask_of" sMask f fd)(T:Txt mg):FnOk P w K mg base CX0 1 f fd ["lot"] jG0:=by
 refine F.ok scMask (λvs H Q E h=>?_) (λcdv A outer s H vs Q E hr h=>?_)
 ·obtain⟨_,_,rfl,_⟩:=h
  rfl
 ·obtain⟨q,ts,rfl,hq,hb,hl,k⟩:=h
  refine⟨_,(maskA T).2.h,?_⟩
  refine⟨_,rfl,q,rfl,⟨_,SqT.of hq⟩,jFE (xs:=ts.map V.int) (by rw[ae,aH]; lia) (λD i σ' H' zs=>(∃v,σ'=[v])/\Ext H H'/\H' D=some (.lst zs)/\H D=none/\zs=((ts.take i).map λt=>(1:Int)*2 ^ t.toNat).map V.int) ?_ ?_ ?_ ?_⟩
  ·intro D hD
   exact⟨⟨_,rfl⟩,(Ext.refl _).new hD _,j5,hD,rfl⟩
  ·rintro D i σ' H' zs hD ⟨_,e,h2,_,rfl⟩
   refine⟨e _ _ hq,h2,?_⟩
   rw[ae,ae,bM]
   lia
  ·rintro D i σ' H' zs x hD hx ⟨⟨v,rfl⟩,e,h2,hn,rfl⟩
   obtain⟨z,hz,rfl⟩:∃z:Int,ts[i]?=some z/\V.int z=x:=by
    rw[aJ] at hx
    cases hq:ts[i]? with
    | none=>rw[hq] at hx; cases hx
    | some z=>rw[hq] at hx; cases hx; exact⟨z,rfl,rfl⟩
   have hzb:=hb z (aE hz)
   dsimp only [kE,yW]
   rw[am rfl]
   refine⟨_,rfl,_,_,rfl,rfl,⟨?_,?_,?_⟩,h2,⟨_,rfl⟩,e.updNew hn _,j5,hn,?_⟩
   ·first | lia | decide
   ·first | lia | decide
   ·first | lia | decide
   ·have:ts.take (i+1)=ts.take i++[z]:=by
     rw[bu,hz]
     rfl
    rw[this,ba,ba]
    rfl
  ·rintro D σ' H' zs hD ⟨_,e,h2,hn,rfl⟩
   refine⟨D,_,rfl,SqL.of h2,?_⟩
   rw[ae,bI,jK0 ts λt ht=>(hb t ht).1]
   exact k H' e
end Eo
namespace L2
open PySem
theorem jMO {X:Cx}{a b c:Expr}{pos:Pos}{ta tb:TE}{tc:TT}(hc:JT X c tc)(ha:JE X a ta)(hb:JE X b tb):JE X (.IfExp c a b pos) (tIf tc ta tb):=⟨jOJ hc.h ha.h hb.h⟩
theorem jTK {a b c:Expr}{pos:Pos}{o:Option Expr} :SwOk (.IfExp c a b pos) o:=⟨λ_ _=>rfl⟩
end L2
namespace Eo
open PySem L2
def PrAt (H:Hp)(v:V)(c:Int×Nat):Prop:=∃q,v= .ref q/\H q=some (.tup [.int c.1, .int ((c.2:Nat):Int)])
theorem PrAt.mono {H H':Hp}(t:Tups H H'){v:V}{c:Int×Nat}(h:PrAt H v c):PrAt H' v c:=let ⟨q,e,z⟩:=h; ⟨q,e,t _ _ z⟩
def RowAt (H:Hp)(l:Addr)(cs:List (Int×Nat)):Prop:=∃vs,H l=some (.lst vs)/\All2 (PrAt H) vs cs
structure ChAt (H:Hp)(L:Addr)(ch:Ch):Prop where
 ex:∃ls:List Addr,H L=some (.lst (ls.map V.ref))/\ls.Nodup/\All2 (RowAt H) ls ch
theorem RowAt.keep {H H':Hp}{l:Addr}{cs:List (Int×Nat)}(h:RowAt H l cs)(k:∀xs,H l=some (.lst xs)->H' l=some (.lst xs))(t:Tups H H'):RowAt H' l cs:=let ⟨vs,a,b⟩:=h; ⟨vs,k _ a,b.imp λ_ _=>PrAt.mono t⟩
theorem ChAt.keep {H H':Hp}{L:Addr}{ch:Ch}(h:ChAt H L ch)(k:∀b xs,H b=some (.lst xs)->H' b=some (.lst xs))(t:Tups H H'):ChAt H' L ch:=by
 obtain⟨ls,a,b,c⟩:=h.ex
 exact⟨ls,k _ _ a,b,c.imp λl cs r=>r.keep (k l) t⟩
theorem ChAt.ext {H H':Hp}{L:Addr}{ch:Ch}(h:ChAt H L ch)(e:Ext H H'):ChAt H' L ch:=h.keep (λb xs z=>e _ _ z) e.tups
theorem ChAt.len {H:Hp}{L:Addr}{ch:Ch}(h:ChAt H L ch):∃ls:List Addr,H L=some (.lst (ls.map V.ref))/\ls.length=ch.length:=by
 obtain⟨ls,a,b,c⟩:=h.ex
 exact⟨ls,a,c.len⟩
def kZ (ms:List Int)(pcs:List (List Int×Int))(n t:Nat):List (Int×Nat):=
 (if (t:Int)∈ms then [(-1,2 ^ t)] else [])++(((upto pcs.length).take n).filter λk=>decide ((j7 pcs k).headD 0=(t:Int))).map λk=>(k,maskN (j7 pcs k))
def chsN (w:Nat)(ms:List Int)(pcs:List (List Int×Int))(n:Nat):Ch:=(List.range w).map (kZ ms pcs n)
def chs (w:Nat)(ms:List Int)(pcs:List (List Int×Int)):Ch:=chsN w ms pcs pcs.length
theorem kN (w:Nat)(ms:List Int)(pcs:List (List Int×Int))(n:Nat):(chsN w ms pcs n).length=w:=by
 unfold chsN
 rw[ae,bW]
theorem kR {w:Nat}{ms:List Int}{pcs:List (List Int×Int)}{n t:Nat}(h:t<w):(chsN w ms pcs n)[t]?=some (kZ ms pcs n t):=by
 unfold chsN
 rw[aJ,dj h]
 rfl
theorem jGH {ts:List Int}{t:Nat}(hp:ts.Pairwise (· < ·))(h0:∀x∈ts,0<=x)(h:(t:Int)∈ts):(maskN ts).testBit t=true:=by
 rw[jBV ts t hp h0,aB h]
theorem jHY {ts:List Int}{w:Nat}(hp:ts.Pairwise (· < ·))(h0:∀x∈ts,0<=x/\x<(w:Int)):maskN ts<2 ^ w:=by
 refine Nat.lt_pow_two_of_testBit _ λi hi=>?_
 rw[jBV ts i hp λx hx=>(h0 x hx).1,aV]
 intro z
 have:=(h0 _ z).2
 lia
theorem jJA {l:List Int}(h:l≠ []):l.headD 0∈l:=by
 cases l with
 | nil=>exact absurd rfl h
 | cons a r=>exact ag ..
theorem yU {w:Int}{ms:List Int}{pcs:List (List Int×Int)}{n:Nat}(g:Good 16 32 w ms pcs):ChOk (chsN w.toNat ms pcs n):=by
 have w0:=g.w0
 have w1:=g.w1
 have gpl:=g.pl
 refine⟨by rw[kN]; lia,λt cs h=>?_,λt cs h c hc=>?_⟩
 ·have ht:t<w.toNat:=by
   have:=(ax.mp h).1
   rwa [kN] at this
  rw[kR ht] at h
  cases h
  unfold kZ
  rw[aF,ae]
  have:=bh (λk=>decide ((j7 pcs k).headD 0=(t:Int))) ((upto pcs.length).take n)
  have:=ce n (upto pcs.length)
  have:=jBO pcs.length
  have:((upto pcs.length).take n).length<=(upto pcs.length).length:=by rw[bM]; lia
  split <;> simp only [aP,cK] <;> lia
 ·have ht:t<w.toNat:=by
   have:=(ax.mp h).1
   rwa [kN] at this
  rw[kR ht] at h
  cases h
  unfold kZ at hc
  rw[kN]
  rcases aL.mp hc with hc | hc
  ·split at hc
   ·rw[ak] at hc
    subst hc
    exact⟨by simp [eQ],lZ (by decide) ht,by show (-1:Int)<= -1; decide,by show (-1:Int)<32; decide⟩
   ·cases hc
  ·obtain⟨k,hk,rfl⟩:=aW.mp hc
   obtain⟨hk1,hk2⟩:=bF.mp hk
   have kb:=(jAC pcs.length).bnd k (bU hk1)
   have gp:=g.at (k:=k.toNat) (by lia)
   have hk2:=aU hk2
   have hne:j7 pcs k≠ []:=gp.lot.ne
   have hm:(t:Int)∈j7 pcs k:=by
    rw[<- hk2]
    exact jJA hne
   exact⟨jGH gp.lot.ris (λx hx=>(gp.lot.bnd x hx).1) hm,jHY gp.lot.ris λx hx=>⟨(gp.lot.bnd x hx).1,by have:=(gp.lot.bnd x hx).2; lia⟩,by lia,by lia⟩
abbrev jB8:List Str:=["box","choices","number","piece"]
theorem scChoices:FnScope jB8 ["box"] (jA kY):= {}
def jA9:Sp:=λvs H Q _=>∃(b:Addr) (w:Int) (ms:List Int) (pcs:List (List Int×Int)),vs=[.ref b]/\BoxAt H b w ms pcs/\Good 16 32 w ms pcs/\∀r H',ChAt H' r (chs w.toNat ms pcs)->Ext H H'->Q (.ref r) H'
def jT1 (T:Txt mg)(CM:Can P w K mg base "mask_of" 1 fM fdM ["lot"] jG0)(hr:Room 1 (XOf jB8 "choices_of" kY P w K mg base f cdv A outer s H0 E).A): { t:TS // JSs (XOf jB8 "choices_of" kY P w K mg base f cdv A outer s H0 E) (yS ((jC kY).getD 1 (.Pass ⟨0,0,0,0⟩))) t} :=
 have nd:=scChoices.nd
 ⟨_,(jD (jCH (je_bm cF eJ eL jAP (kJ jB3 (jv 1 rfl vL) (kJ yL (kJ yL (jv 3 rfl vL) (je_int) jI) (je_int) jI) jTS) (j3 (yC (j3 (jv 2 rfl vL) (j3 (CM.je hr gD (j3 (kJ yL (jv 3 rfl vL) (je_int) jI) j8 yF) yF) j8 jH) j4)) j8 yQ) yQ) kB))⟩
def jPN (T:Txt mg)(CM:Can P w K mg base "mask_of" 1 fM fdM ["lot"] jG0)(hr:Room 1 (XOf jB8 "choices_of" kY P w K mg base f cdv A outer s H0 E).A): { t:TS // JSs (XOf jB8 "choices_of" kY P w K mg base f cdv A outer s H0 E) (jC kY) t} :=
 have nd:=scChoices.nd
 ⟨_,(jB (jI1 (i:=1) nd rfl lL ⟨by rfl⟩ (m:=[none,some 0]) (Nc:=["thing","box"]) rfl (jAJ gD T.range (j3 (kJ yL (jv 0 rfl vC) (je_int) jI) j8 yF) yF) rfl (by decide+kernel) (by decide+kernel) (jT (psc:=jA kY)) (jL (N:=jB8) rfl rfl (by decide+kernel)) (λcl C fp s H=>jJ (i:=0) (show (["thing","box"]:List Str).Nodup by decide+kernel) rfl qG) (λcl C fp s H=>yH) (λcl C fp s H=>(jMO (jY jLT (jv 0 rfl jW) (kJ jAK (jv 1 rfl yJ) (je_int) jI) jGF) (yD (j3 (yC (j3 (je_un jKV (je_int)) (j3 (kI jIU (je_int) (jv 0 rfl jW)) j8 y0) se_un)) j8 yQ)) (yD j8))) kO) (jB (yT bX rfl (jI3 gD T.enumerate (j3 (kJ yL (jv 0 rfl vC) (je_int) jI) j8 yF) yF) (jF7 (i:=2) (j:=3) nd rfl rfl (by decide+kernel) (by decide+kernel)) (jT1 T CM hr).2 kO) (jD (jV (jv 1 rfl vL)))))⟩
noncomputable abbrev nFull:List Str:=["choices"]
theorem scFull:FnScope nFull ["choices"] (jA sFull):= {}
def jE7:Sp:=λvs H Q _=>∃(L:Addr) (ch:Ch),vs=[.ref L]/\ChAt H L ch/\ch.length<=16/\Q (.int ((fullN ch:Nat):Int)) H
def fullA (T:Txt mg): { t:TS // JSs (XOf nFull "full_mask" sFull P w K mg base f cdv A outer s H0 E) (jC sFull) t} :=
 have nd:=scFull.nd
 ⟨_,(jD (jV (kI jEC (kI jIU (je_int) (jE jU gD T.len (by decide+kernel) (j3 (jv 0 rfl vL) j8 j4) j4)) (je_int))))⟩
noncomputable abbrev nAt:List Str:=["choices","mask","least_lacked"]
theorem scAt:FnScope nAt ["choices","mask"] (jA sAt):= {}
def spAt:Sp:=λvs H Q _=>∃(L:Addr) (ch:Ch) (m:Nat),vs=[.ref L, .int (m:Int)]/\ChAt H L ch/\ChOk ch/\m<2 ^ ch.length/\m≠fullN ch/\∀r H',RowAt H' r (chAt ch m)->Ext H H'->H r=none->Q (.ref r) H'
def atA (T:Txt mg): { t:TS // JSs (XOf nAt "choices_at" sAt P w K mg base f cdv A outer s H0 E) (jC sAt) t} :=
 have nd:=scAt.nd
 ⟨_,(jB (jQ (i:=2) nd rfl lL (kI jEC (jMR PySem.F.plainAttrs_int PySem.F.slot_int_bit_length PySem.F.type_int_bit_length jSA (kI jLU (je_un jTB (jv 1 rfl vC)) (kI kP (jv 1 rfl vC) (je_int)))) (je_int)) jDE)
   (jD (jV (yE (m:=[none,some 1]) (Nc:=["choice","mask"]) rfl (yB (kJ jB3 (jv 0 rfl vL) (jv 2 rfl vL) jBI)) rfl (by decide+kernel) (by decide+kernel) (jT (psc:=jA sAt)) (jL (N:=nAt) rfl rfl (by decide+kernel)) (λcl C fp s H=>jJ (i:=0) (show (["choice","mask"]:List Str).Nodup by decide+kernel) rfl qG) (λcl C fp s H=>jCG (jY qK (kI jLU (kJ jAK (jv 0 rfl jW) (je_int) jI) (jv 1 rfl yJ)) (je_int) (jX _))) (λcl C fp s H=>(jv 0 rfl jW)) jQI))))⟩
theorem jEL (ms:List Int)(pcs:List (List Int×Int))(t:Nat):kZ ms pcs 0 t=if (t:Int)∈ms then [(-1,2 ^ t)] else []:=by
 unfold kZ
 rw[mf]
 simp
theorem jNF {w n:Nat}{ms:List Int}{pcs:List (List Int×Int)}(hn:n<pcs.length)(t:Nat)(ht:(j7 pcs (n:Int)).headD 0=(t:Int)):chsN w ms pcs (n+1)=(chsN w ms pcs n).set t (kZ ms pcs n t++[((n:Int),maskN (j7 pcs n))]):=by
 have key:∀u,kZ ms pcs (n+1) u=kZ ms pcs n u++if u=t then [((n:Int),maskN (j7 pcs n))] else []:=λu=>by
  unfold kZ
  rw[jDA hn,bH,ba,aZ]
  congr 2
  rw[dX,ht]
  by_cases hu:u=t
  ·subst hu
   rw[am (aB rfl),am rfl]
   rfl
  ·rw[aj (by rw[cb]; lia),aj hu]
   rfl
 refine jk λi=>?_
 rw[jq,kN]
 by_cases hi:i<w
 ·rw[kR hi,kR hi,key]
  by_cases h:t=i
  ·subst h
   rw[am rfl,am rfl,am hi]
  ·rw[aj h,aj (λz=>h z.symm),bg]
 ·rw[cc (by rw[kN]; lia),cc (by rw[kN]; lia)]
  split
  ·rw[aj (by lia)]
  ·rfl
theorem ChAt.app {H:Hp}{L:Addr}{ch:Ch}{t:Nat}{l:Addr}{ls:List Addr}{vs:List V}{cs:List (Int×Nat)}{v:V}{c:Int×Nat}(hL:H L=some (.lst (ls.map V.ref)))(nd:ls.Nodup)(al:All2 (RowAt H) ls ch)(hl:ls[t]?=some l)(hc:ch[t]?=some cs)(hv:H l=some (.lst vs))(av:All2 (PrAt H) vs cs)(pv:PrAt H v c)(ne:l≠L):
  (L2.upd H l (.lst (vs++[v]))) L=some (.lst (ls.map V.ref))/\All2 (RowAt (L2.upd H l (.lst (vs++[v])))) ls (ch.set t (cs++[c])):=by
 have tu:Tups H (L2.upd H l (.lst (vs++[v]))):=Tups.upd hv _
 refine⟨by rw[j6 ne.symm]; exact hL,?_⟩
 refine All2.of_get (by rw[List.length_set]; exact al.len) λi a b h1 h2=>?_
 rw[jq] at h2
 by_cases hi:t=i
 ·subst hi
  rw[am rfl,am (ax.mp hc).1] at h2
  cases h2
  rw[hl] at h1
  cases h1
  exact⟨_,j5,(av.imp λ_ _=>PrAt.mono tu).snoc (pv.mono tu)⟩
 ·rw[aj hi] at h2
  obtain⟨b',hb',r⟩:=al.get' h1
  rw[h2] at hb'
  cases hb'
  refine r.keep (λxs hx=>?_) tu
  rw[j6 λz=>hi ?_]
  ·exact hx
  ·exact(jr (ax.mp hl).1 nd).mp (by rw[hl,h1,z])
theorem jJX {fd:FuncData}(F:Fun K "choices_of" "choices_of" kY f fd)(T:Txt mg)(CM:Can P w K mg base "mask_of" 1 fM fdM ["lot"] jG0):FnOk P w K mg base CX0 2 f fd ["box"] jA9:=by
 refine F.ok scChoices (λvs H Q E h=>?_) (λcdv A outer s H vs Q E hr h=>?_)
 ·obtain⟨_,_,_,_,rfl,_⟩:=h
  rfl
 ·obtain⟨b,w,ms,pcs,rfl,hB,g,q⟩:=h
  refine⟨_,(jPN T CM hr).2.h,?_⟩
  obtain⟨qm,qp,ps,b1,b2,b3,b4⟩:=id hB.ex
  have pl:=b4.len
  have w0:=g.w0
  have w1:=g.w1
  have gpl:=g.pl
  refine⟨_,rfl,b,_,0,_,rfl,rfl,SqT.of b1,rfl,w,rfl,by lia,by lia,jC4 (n:=w.toNat) (by rw[aH]; lia) (λD i σ' H' zs=>(∃v,σ'=[v,some (.ref b)])/\Ext H H'/\H' D=some (.lst zs)/\H D=none/\∃ls:List Addr,zs=ls.map V.ref/\ls.Nodup/\D∉ls/\(∀a∈ls,H a=none)/\All2 (RowAt H') ls ((List.range i).map (kZ ms pcs 0))) ?_ ?_ ?_ ?_⟩
  ·intro D hD
   exact⟨⟨_,rfl⟩,(Ext.refl _).new hD _,j5,hD,[],rfl,eS,by simp,by simp,trivial⟩
  ·rintro D i σ' H' zs hD hi ⟨_,e,h2,_,ls,rfl,_,_,_,al⟩
   refine⟨h2,?_⟩
   rw[ae,al.len,ae,bW]
   lia
  ·rintro D i σ' H' zs hD hi ⟨⟨v,rfl⟩,e,h2,hn,ls,rfl,nd,hDl,nol,al⟩
   dsimp only [kE,yW]
   rw[am rfl]
   have e0:(0+(i:Int))=(i:Int):=by lia
   have key:∀(l:Addr) (H2:Hp),Ext H' H2->H' l=none->RowAt H2 l (kZ ms pcs 0 i)->H2 D=some (.lst (ls.map V.ref))/\((∃v,[some (V.int (i:Int)),some (.ref b)]=[v,some (.ref b)])/\Ext H (L2.upd H2 D (.lst (ls.map V.ref++[.ref l])))/\(L2.upd H2 D (.lst (ls.map V.ref++[.ref l]))) D=some (.lst (ls.map V.ref++[.ref l]))/\H D=none/\∃ls':List Addr,ls.map V.ref++[.ref l]=ls'.map V.ref/\ls'.Nodup/\D∉ls'/\(∀a∈ls',H a=none)/\All2 (RowAt (L2.upd H2 D (.lst (ls.map V.ref++[.ref l])))) ls' ((List.range (i+1)).map (kZ ms pcs 0))):=λl H2 e2 nl rl=>by
    have hD2:=e2 _ _ h2
    have lD:l≠D:=λz=>by rw[z,h2] at nl; cases nl
    have tu:Tups H2 (L2.upd H2 D (.lst (ls.map V.ref++[.ref l]))):=Tups.upd hD2 _
    have kp:∀a xs,a≠D->H2 a=some (.lst xs)->(L2.upd H2 D (.lst (ls.map V.ref++[.ref l]))) a=some (.lst xs):=λa xs ha h=>by rw[j6 ha]; exact h
    refine⟨hD2,⟨_,rfl⟩,(e.trans e2).updNew hn _,j5,hn,ls++[l],by rw[ba]; rfl,?_,?_,?_,?_⟩
    ·rw[jm]
     refine⟨nd,by simp,λa ha b hb z=>?_⟩
     rw[ak] at hb
     subst hb z
     obtain⟨j,hj⟩:=bw ha
     obtain⟨cs,_,vs,r,_⟩:=al.get' hj
     rw[nl] at r
     cases r
    ·rw[aL,ak]
     rintro (z | z)
     ·exact hDl z
     ·exact lD z.symm
    ·intro a ha
     rcases aL.mp ha with z | z
     ·exact nol a z
     ·rw[ak] at z
      subst z
      cases y:H a with
      | none=>rfl
      | some o=>rw[e _ _ y] at nl; cases nl
    ·rw[lG,ba]
     refine(All2.of_get al.len λj a c h1 h2'=>?_).snoc (rl.keep (λxs=>kp l xs lD) tu)
     obtain⟨c',hc',r⟩:=al.get' h1
     rw[h2'] at hc'
     cases hc'
     have aD:a≠D:=λz=>hDl (z ▸ aE h1)
     exact r.keep (λxs hx=>kp a xs aD (e2 _ _ hx)) (e2.tups.trans tu)
   refine⟨_,rfl,_,rfl,b,_,1,_,rfl,rfl,SqT.of (e _ _ b1),rfl,qm,_,rfl, .inr (SqT.of (e _ _ b2)),rfl,jB4 ms,_,rfl,?_⟩
   rw[e0,jC0]
   refine ite2 (λhz=>?_) (λhz=>?_)
   ·have hz:=aU hz
    refine⟨_,rfl,_,rfl,_,_,rfl,rfl,⟨by lia,by lia,by decide⟩,by show (2:Nat)<=_; decide,λr H2 d2 e2=>⟨by show (1:Nat)<=_; decide,λl H3 d3 e3 n3=>?_⟩⟩
    have nl:H' l=none:=by
     cases z:H' l with
     | none=>rfl
     | some o=>rw[e2 _ _ z] at n3; cases n3
    refine key l H3 (e2.trans e3) nl ⟨_,d3,?_⟩
    rw[jEL,am hz]
    refine⟨⟨r,rfl,?_⟩,trivial⟩
    have:(1:Int)*2 ^ (i:Int).toNat=((2 ^ i:Nat):Int):=by
     rw[br]
     push_cast
     lia
    rw[e3 _ _ d2]
    show some (HO.tup [V.int (-1),V.int ((1:Int)*2 ^ (i:Int).toNat)])=_
    rw[this]
   ·refine⟨by show (0:Nat)<=_; decide,λl H3 d3 e3 n3=>?_⟩
    refine key l H3 e3 n3 ⟨_,d3,?_⟩
    rw[jEL,aj (λz=>hz (aB z))]
    trivial
  ·rintro D σ' H1 zs hD ⟨_,e1,h2,hn,ls,rfl,nd,hDl,nol,al⟩
   refine⟨_,rfl,b,_,2,_,rfl,rfl,SqT.of (e1 _ _ b1),rfl,true,qp,rfl,⟨_,SqT.of (e1 _ _ b3)⟩,jFB (tp:=true) (xs:=ps) (λi σ H'=>(∃v2 v3,σ=[some (.ref b),some (.ref D),v2,v3])/\Ext H H'/\H' D=some (.lst (ls.map V.ref))/\All2 (RowAt H') ls (chsN w.toNat ms pcs i)) ⟨⟨_,_,rfl⟩,e1,h2,al⟩ (λi σ H' ⟨_,e,_⟩=>SqT.of (e _ _ b3)) ?_ ?_⟩
   ·rintro i x t σ H' hx ht ⟨⟨v2,v3,rfl⟩,e,h3,al3⟩
    obtain⟨pc,hpc,hPc⟩:=b4.at hx
    obtain⟨pa,pq,rfl,c1,c2⟩:=id hPc
    have hi:i<pcs.length:=(ax.mp hpc).1
    have gp:=g.pg pc (aE hpc)
    have et:j7 pcs (i:Int)=pc.1:=by
     unfold j7
     rw[br,aC,hpc]
     rfl
    have lt:=jAY _ 0 w gp.lot.ris gp.lot.bnd
    have e':=e.new ht (.tup [.int (i:Int), .ref pa])
    have k':Ext H' (L2.upd H' t (.tup [.int (i:Int), .ref pa])):=(Ext.refl _).new ht _
    refine⟨t,_,rfl,SqT.of j5,rfl,_,_,rfl,_,_,rfl,rfl,?_⟩
    have h5:=k' _ _ h3
    have al5:=al3.imp λl cs r=>r.keep (λxs z=>k' _ _ z) k'.tups
    generalize L2.upd H' t (.tup [.int (i:Int), .ref pa])=H5 at e' h5 al5 ⊢
    obtain⟨hd,tl,hp1⟩:∃hd tl,pc.1=hd::tl:=by
     cases z:pc.1 with
     | nil=>exact absurd z gp.lot.ne
     | cons a r=>exact⟨a,r,rfl⟩
    have hb:=gp.lot.bnd hd (by rw[hp1]; exact ag ..)
    have hdl:(j7 pcs (i:Int)).headD 0=((hd.toNat:Nat):Int):=by
     rw[et,hp1]
     show hd=_
     lia
    have hw:hd.toNat<w.toNat:=by lia
    obtain⟨l,hl,vs,hv,av⟩:=al5.get (kR hw)
    have lne:l≠D:=λz=>hDl (z ▸ aE hl)
    have iD:atI (ls.map V.ref) hd=some (.ref l):=by
     have:=jB2 (xs:=ls.map V.ref) (j:=hd.toNat) (v:= .ref l) (by rw[aJ,hl]; rfl)
     rwa [show ((hd.toNat:Nat):Int)=hd by lia] at this
    have c2':H5 pq=some (.tup (pc.1.map V.int)):=e' _ _ c2
    refine⟨_,rfl,_,rfl,pa,_,0,_,rfl,rfl,SqT.of (e' _ _ c1),rfl,pq,_,0, .int hd,rfl,rfl,SqT.of c2',by rw[hp1]; exact jB2 (j:=0) rfl,D,_,_,_,rfl,rfl,SqL.of h5,iD, .inl ⟨rfl,_,SqL.of hv⟩,_,rfl,_,rfl,pa,_,0,_,rfl,rfl,SqT.of (e' _ _ c1),rfl,pq,pc.1,rfl,c2',λx hx=>?_,by lia,λH6 e6=>?_⟩
    ·have:=gp.lot.bnd x hx
     lia
    refine⟨by show (2:Nat)<=_; decide,λr H7 d7 e7=>?_⟩
    have E7:=e6.trans e7
    have hv7:=E7 _ _ hv
    have vl:vs.length<=33:=by
     rw[av.len]
     exact(yU g).len _ _ (kR hw)
    have ap:=ChAt.app (v:= .ref r) (c:=((i:Int),maskN (j7 pcs (i:Int)))) (E7 _ _ h5) nd (al5.imp λl cs r=>r.keep (λxs z=>E7 _ _ z) E7.tups) hl (kR hw) hv7 (av.imp λ_ _=>PrAt.mono E7.tups) ⟨r,rfl,by rw[et]; exact d7⟩ lne
    have nH:H l=none:=by
     cases z:H l with
     | none=>rfl
     | some o=>
      exfalso
      rw[nol l (aE hl)] at z
      cases z
    refine⟨l,_,_,rfl,rfl,hv7,by rw[aH]; lia,⟨_,_,rfl⟩,?_,ap.1,?_⟩
    ·exact(e'.trans E7).updNew nH _
    ·rw[jNF hi hd.toNat hdl]
     exact ap.2
   ·rintro σ H' ⟨⟨v2,v3,rfl⟩,e,h3,al3⟩
    refine⟨_,rfl,q D H' ⟨ls,h3,nd,?_⟩ e⟩
    rw[pl] at al3
    exact al3
theorem jS6 {fd:FuncData}(F:Fun K "full_mask" "full_mask" sFull f fd)(T:Txt mg):FnOk P w K mg base CX0 1 f fd ["choices"] jE7:=by
 refine F.ok scFull (λvs H Q E h=>?_) (λcdv A outer s H vs Q E hr h=>?_)
 ·obtain⟨_,_,rfl,_⟩:=h
  rfl
 ·obtain⟨L,ch,rfl,hL,hw,q⟩:=h
  refine⟨_,(fullA T).2.h,?_⟩
  obtain⟨ls,h1,h2⟩:=hL.len
  refine⟨_,rfl,L,_,rfl, .inl (SqL.of h1),_,_,rfl,rfl,⟨?_,?_,?_⟩,_,_,rfl,rfl,?_⟩
  ·first | lia | decide
  ·rw[ae]; lia
  ·first | lia | decide
  ·have e:(1:Int)*2 ^ (((ls.map V.ref).length:Nat):Int).toNat - 1=((fullN ch:Nat):Int):=by
    rw[ae,h2,br]
    unfold fullN
    have:=dR ch.length
    have e2:((2 ^ ch.length:Nat):Int)=(2:Int) ^ ch.length:=by push_cast; rfl
    lia
   show Q (V.int ((1:Int)*2 ^ (((ls.map V.ref).length:Nat):Int).toNat - 1)) H
   rw[e]
   exact q
theorem ok_at {fd:FuncData}(F:Fun K "choices_at" "choices_at" sAt f fd)(T:Txt mg):FnOk P w K mg base CX0 1 f fd ["choices","mask"] spAt:=by
 refine F.ok scAt (λvs H Q E h=>?_) (λcdv A outer s H vs Q E hr h=>?_)
 ·obtain⟨_,_,_,rfl,_⟩:=h
  rfl
 ·obtain⟨L,ch,m,rfl,hL,ok,hm,hf,q⟩:=h
  refine⟨_,(atA T).2.h,?_⟩
  obtain⟨ls,h1,nd,al⟩:=hL.ex
  have hlow:=yV hm hf
  have w16:=ok.w
  refine⟨_,rfl,_,rfl,_,rfl,_,_,rfl,rfl,_,_,rfl,rfl,rfl,_,rfl,rfl,_,_,rfl,rfl,?_⟩
  have el:(Builtin.Int.intBits (Builtin.bitAnd (Builtin.bitNot (m:Int)) ((m:Int)+1)):Int) - 1=((lowN m:Nat):Int):=by
   rw[jOZ]
   lia
  show kE 2 (V.int ((Builtin.Int.intBits (Builtin.bitAnd (Builtin.bitNot (m:Int)) ((m:Int)+1)):Int) - 1)) _ _ _
  rw[el]
  obtain⟨l,hl,vs,hv,av⟩:=al.get (aK hlow)
  have vl:vs.length<=33:=by
   rw[av.len]
   exact ok.len _ _ (aK hlow)
  have er:ch.getD (lowN m) []=ch[lowN m]:=by
   rw[aC,aK hlow]
   rfl
  refine⟨_,rfl,_,rfl,L,_,_,_,rfl,rfl,SqL.of h1,jB2 (by rw[aJ,hl]; rfl),l,rfl,⟨_,SqL.of hv⟩,jBC (xs:=vs) (λσ=>∃v,σ=[v,some (.int (m:Int))]) (λH' zs j=>All2 (PrAt H') zs (((ch[lowN m]).take j).filter λc=>c.2&&&m==0)) ⟨λH=>trivial,λH H' zs j t h=>h.imp λ_ _=>PrAt.mono t,λH zs j h=>?_⟩ hv (by rw[aH]; lia) ⟨_,rfl⟩ ?_ ?_⟩
  ·rw[h.len]
   exact bf (bh _ _) (ce _ _)
  ·rintro j x σ' H' zs hx ⟨v,rfl⟩ e hz R S yes no
   obtain⟨c,hc,qa,rfl,hq⟩:=av.get' hx
   have hq':=e _ _ hq
   have et:(ch[lowN m]).take (j+1)=(ch[lowN m]).take j++[c]:=by
    rw[bu,hc]
    rfl
   refine⟨_,rfl,qa,_,1,_,rfl,rfl,SqT.of hq',rfl,_,rfl,_,_,rfl,rfl,rfl,_,rfl,?_⟩
   have ez:decide (V.int (Builtin.bitAnd ((c.2:Nat):Int) (m:Int))=V.int 0)=(c.2&&&m==0):=by
    rw[jKG,dO,cb,cU]
    exact⟨λh=>by have:=V.int.inj h; lia,λh=>by rw[h]; rfl⟩
   show if decide (V.int (Builtin.bitAnd ((c.2:Nat):Int) (m:Int))=V.int 0)=true then _ else _
   rw[ez]
   refine ite2 (λh=>?_) (λh=>?_)
   ·refine⟨_,rfl,yes _ _ _ ⟨_,rfl⟩ (Ext.refl _) ?_⟩
    show All2 _ _ (((ch[lowN m]).take (j+1)).filter _)
    rw[et,bH,dX,am h]
    exact hz.snoc ⟨qa,rfl,hq'⟩
   ·refine no _ _ ⟨_,rfl⟩ (Ext.refl _) ?_
    show All2 _ _ (((ch[lowN m]).take (j+1)).filter _)
    rw[et,bH,dX,aj h,ff,bg]
    exact hz
  ·rintro D H' zs hD e hn hz
   rw[av.len,bI] at hz
   refine q D H' ⟨zs,hD,?_⟩ e hn
   unfold chAt
   rw[er]
   exact hz
end Eo
namespace L2
open PySem
theorem jDD {ks:List (Option Expr)}{vs:List Expr}{pos:Pos}{o:Option Expr} :SwOk (.Dict ks vs pos) o:=⟨λ_ _=>rfl⟩
end L2
namespace Eo
open PySem L2
abbrev natV (n:Nat):V:= .int (n:Int)
structure MetOk (ch:Ch)(ns:List Nat):Prop where
 zero:0∈ns
 bnd:∀m∈ns,m<2 ^ ch.length
 up:∀m∈ns,m≠fullN ch->∀c∈chAt ch m,(m|||c.2)∈ns
def trK (ks:List Nat):List (Key×V):=ks.map λ(k:Nat)=>(Sum.inl (k:Int),V.bl true)
def jQU:Stmt->List Stmt
 | .While _ b _ _=>b
 | _=> []
theorem jHH (n:Nat):∀ks:List Nat,valV (trK ks) (.inl (n:Int))=if n∈ks then some (.bl true) else none
 | []=>rfl
 | k::ks=>by
  show valV ((Sum.inl (k:Int),V.bl true)::trK ks) _=_
  by_cases h:k=n
  ·subst h
   rw[jB7 rfl,am (ag ..)]
  ·rw[jAU (by intro z; have:=gy z; lia),jHH n ks]
   by_cases h2:n∈ks
   ·rw[am h2,am (ah _ h2)]
   ·rw[aj h2,aj]
    intro z
    rcases ar.mp z with z | z
    ·exact h z.symm
    ·exact h2 z
theorem jSV {H:Hp}{M:Addr}{ks:List Nat}{m c:Nat}(h:H M=some (.dK (trK ks))):DGet H M (.int (Builtin.bitOr (m:Int) (c:Int))) (if (m|||c)∈ks then some (.bl true) else none):=by
 rw[jC5,<- jHH]
 exact DGet.k (k:=Sum.inl (((m|||c:Nat):Nat):Int)) h
theorem jSU {H:Hp}{M:Addr}{ks:List Nat}{m c:Nat}(h:H M=some (.dK (trK ks)))(hn:¬(m|||c)∈ks)(hl:(trK ks).length<sizeLine):DPut H M (.int (Builtin.bitOr (m:Int) (c:Int))) (.bl true) (L2.upd H M (.dK (trK (ks++[m|||c])))):=by
 rw[jC5]
 have:=DPut.k (k:=Sum.inl (((m|||c:Nat):Nat):Int)) (v:= .bl true) h hl
 rw[jEW _ (by rw[jHH,aj hn])] at this
 unfold trK
 rw[ba]
 exact this
theorem jB0 {n:Nat}{ks:List Nat}(nd:ks.Nodup)(hb:∀k∈ks,k<n):ks.length<=n:=by
 have:(ks.map λk:Nat=>(k:Int)).length<=n:=jLX n _ (be.mpr (nd.imp λh=>by lia)) λt ht=>by
  obtain⟨k,hk,rfl⟩:=aW.mp ht
  have:=hb k hk
  lia
 rwa [ae] at this
noncomputable abbrev nMet:List Str:=["choices","full","met","waiting","mask","number","more"]
theorem scMet:FnScope nMet ["choices"] (jA sMet):= {}
def spMet:Sp:=λvs H Q _=>∃(L:Addr) (ch:Ch),vs=[.ref L]/\ChAt H L ch/\ChOk ch/\∀(r:Addr) (ns:List Nat) (H':Hp),H' r=some (.lst (ns.map natV))->ns.Pairwise (· > ·)->MetOk ch ns->Ext H H'->H r=none->Q (.ref r) H'
def jJ2 (T:Txt mg)(CA:Can P w K mg base "choices_at" 1 fA fdA ["choices","mask"] spAt)(hr:Room 1 (XOf nMet "masks_met" sMet P w K mg base f cdv A outer s H0 E).A): { t:TS // JSs (XOf nMet "masks_met" sMet P w K mg base f cdv A outer s H0 E) (jQU ((jC sMet).getD 3 (.Pass ⟨0,0,0,0⟩))) t} :=
 have nd:=scMet.nd
 ⟨_,(jB (jQ (i:=4) nd rfl lL (jMR cF PySem.F.slot_list_pop PySem.F.type_list_pop jUP (jv 3 rfl vL)) kB)
   (jD (yY (jY op_ne (jv 4 rfl vL) (jv 1 rfl vL) (jX _)) (jD (yT bX rfl (yB (CA.je hr gD (j3 (jv 0 rfl vL) (j3 (jv 4 rfl vL) j8 j4) j4) j4)) (jF7 (i:=5) (j:=6) nd rfl rfl (by decide+kernel) (by decide+kernel)) (jD (yY (jMQ (yZ hr) (kI op_or (jv 4 rfl vL) (jv 6 rfl vL)) (jv 2 rfl vL) rfl) (jB (jCI (yZ hr) (jv 2 rfl vL) (kI op_or (jv 4 rfl vL) (jv 6 rfl vL)) (je_bl) jOA)
   (jD (jCH (je_bm cF eJ eL jAP (jv 3 rfl vL) (j3 (kI op_or (jv 4 rfl vL) (jv 6 rfl vL)) j8 y0) y0) kB))) kU)) kO)) kU)))⟩
def metA (T:Txt mg)(CF:Can P w K mg base "full_mask" 1 fF fdF ["choices"] jE7)(CA:Can P w K mg base "choices_at" 1 fA fdA ["choices","mask"] spAt)(hr:Room 1 (XOf nMet "masks_met" sMet P w K mg base f cdv A outer s H0 E).A): { t:TS // JSs (XOf nMet "masks_met" sMet P w K mg base f cdv A outer s H0 E) (jC sMet) t} :=
 have nd:=scMet.nd
 ⟨_,(jB (jQ (i:=1) nd rfl lL (CF.je (hr.mono (by decide)) gD (j3 (jv 0 rfl vL) j8 j4) j4) kB) (jB (jQ (i:=2) nd rfl lL (jP7) jDD) (jB (jQ (i:=3) nd rfl lL (yD (j3 (je_int) j8 jG)) jFX) (jB (jP3 bX (jY op_gt (jE jU gD T.len (by decide+kernel) (j3 (jv 3 rfl vL) j8 j4) j4) (je_int) (jX _)) (jJ2 T CA hr).2) (jD (jV (jGO (jFH rfl) gD T.sorted (by decide+kernel) (j3 (jv 2 rfl vL) j8 j4) (jI2 je_bl jMK) j4)))))))⟩
theorem jOV (T:Txt mg)(CA:Can P w K mg base "choices_at" 1 fA fdA ["choices","mask"] spAt)(hr:Room 1 (XOf nMet "masks_met" sMet P w K mg base f cdv A outer s H0 E).A)
  {D:Ends}{H:Hp}{L M W:Addr}{ch:Ch}{ks ws:List Nat}{m:Nat}{v4 v5 v6:Option V}(hL:ChAt H L ch) (ok:ChOk ch) (hM:H M=some (.dK (trK ks))) (hW:H W=some (.lst ((ws++[m]).map natV))) (nd:ks.Nodup) (hb:∀k∈ks,k<2 ^ ch.length) (hm:m∈ks) (wln:ws.length<=ks.length)
  (nx:∀(H':Hp) (new:List Nat) (v4 v5 v6:Option V),(∀b o,H b=some o->b≠M->b≠W->H' b=some o)->H' M=some (.dK (trK (ks++new)))->H' W=some (.lst ((ws++new).map natV))->(ks++new).Nodup->(∀k∈ks++new,k<2 ^ ch.length)->(m≠fullN ch->∀c∈chAt ch m,(m|||c.2)∈ks++new)->D.nx [some (.ref L),some (natV (fullN ch)),some (.ref M),some (.ref W),v4,v5,v6] H'):
  (jJ2 T CA hr).1 D [some (.ref L),some (natV (fullN ch)),some (.ref M),some (.ref W),v4,v5,v6] H:=by
 have MW:M≠W:=λz=>by rw[z,hW] at hM; cases hM
 have LW:∀ls:List Addr,H L=some (.lst (ls.map V.ref))->L≠W:=λls h z=>by
  rw[z,hW] at h
  have h:=HO.lst.inj (bA h)
  have h2:natV m∈ls.map V.ref:=by rw[<- h]; simp
  obtain⟨a,_,ha⟩:=aW.mp h2
  cases ha
 have rw':∀l cs,RowAt H l cs->l≠W:=λl cs ⟨vs,h1,h2⟩ z=>by
  rw[z,hW] at h1
  have h1:=HO.lst.inj (bA h1)
  have h3:vs[ws.length]?=some (natV m):=by rw[<- h1]; simp
  obtain⟨_,_,q,e,_⟩:=h2.get' h3
  cases e
 have w16:=ok.w
 have hm2:=hb m hm
 have wl:((ws++[m]).map natV)[((ws++[m]).map natV).length - 1]?=some (natV m):=by
  rw[ae,aF,aJ,bv (by simp)]
  simp
 have dl:((ws++[m]).map natV).dropLast=ws.map natV:=by
  rw[ba]
  simp
 refine⟨_,rfl, .inl ⟨rfl,_,SqL.of hW⟩,W,_,_,rfl,rfl,hW,wl,?_⟩
 rw[dl]
 have hM1:(L2.upd H W (.lst (ws.map natV))) M=some (.dK (trK ks)):=by rw[j6 MW]; exact hM
 have hW1:(L2.upd H W (.lst (ws.map natV))) W=some (.lst (ws.map natV)):=j5
 have k1:∀b o,H b=some o->b≠W->(L2.upd H W (.lst (ws.map natV))) b=some o:=λb o h n=>by rw[j6 n]; exact h
 have hL1:ChAt (L2.upd H W (.lst (ws.map natV))) L ch:=by
  obtain⟨ls,a1,a2,a3⟩:=hL.ex
  exact⟨ls,k1 _ _ a1 (LW _ a1),a2,a3.imp λl cs r=>r.keep (λxs z=>k1 _ _ z (rw' _ _ r)) (Tups.upd hW _)⟩
 generalize L2.upd H W (.lst (ws.map natV))=H1 at hM1 hW1 k1 hL1
 refine⟨_,rfl,_,rfl,rfl,_,rfl,?_⟩
 have nf:(!decide (natV m=natV (fullN ch)))=true↔m≠fullN ch:=by
  rw[gJ,eW]
  refine not_congr ⟨λh=>?_,λh=>by rw[h]⟩
  have:=V.int.inj h
  lia
 refine ite2 (λh=>?_) (λh=>?_)
 ·have h:=nf.mp h
  refine⟨_,rfl,_,rfl,L,ch,m,rfl,hL1,ok,hm2,h,λr H2 ⟨vs,hr2,av⟩ e2 nr=>?_⟩
  have hM2:=e2 _ _ hM1
  have hW2:=e2 _ _ hW1
  have rW:r≠W:=λz=>by rw[z,hW1] at nr; cases nr
  have rM:r≠M:=λz=>by rw[z,hM1] at nr; cases nr
  refine⟨r,rfl,⟨_,SqL.of hr2⟩,jBA (xs:=vs) (λi σ H'=>(∃v5 v6,σ=[some (.ref L),some (natV (fullN ch)),some (.ref M),some (.ref W),some (natV m),v5,v6])/\(∀b o,H2 b=some o->b≠M->b≠W->H' b=some o)/\∃new:List Nat,H' M=some (.dK (trK (ks++new)))/\H' W=some (.lst ((ws++new).map natV))/\(ks++new).Nodup/\(∀k∈ks++new,k<2 ^ ch.length)/\∀c∈(chAt ch m).take i,(m|||c.2)∈ks++new) ⟨⟨_,_,rfl⟩,λb o h _ _=>h,[],by rw[bg]; exact hM2,by rw[bg]; exact hW2,by rw[bg]; exact nd,by rw[bg]; exact hb,λc hc=>by cases hc⟩ (λi σ H' _ ⟨_,k,_⟩=>SqL.of (k _ _ hr2 rM rW)) ?_ ?_⟩
  ·rintro i x σ H' hx ⟨⟨v5,v6,rfl⟩,k,new,hM',hW',nd',hb',cl⟩
   obtain⟨c,hc,q,rfl,hq⟩:=av.get' hx
   have qM:q≠M:=λz=>by rw[z,hM2] at hq; cases hq
   have qW:q≠W:=λz=>by rw[z,hW2] at hq; cases hq
   have hcm:=aE hc
   obtain⟨u1,u2⟩:=ok.up hm2 h hcm
   have tk:(chAt ch m).take (i+1)=(chAt ch m).take i++[c]:=by rw[bu,hc]; rfl
   refine⟨q,_,rfl,SqT.of (k _ _ hq qM qW),rfl,_,_,rfl,_,_,rfl,rfl,?_⟩
   refine⟨_,rfl,_,rfl,_,_,rfl,rfl,_,rfl,M,_,rfl,jSV hM',_,rfl,?_⟩
   by_cases hin:(m|||c.2)∈ks++new
   ·rw[am hin]
    refine iteF ⟨⟨_,_,rfl⟩,k,new,hM',hW',nd',hb',λc' hc'=>?_⟩
    rw[tk] at hc'
    rcases aL.mp hc' with z | z
    ·exact cl c' z
    ·rw[ak] at z
     rw[z]
     exact hin
   ·rw[aj hin]
    have ndn:(ks++(new++[m|||c.2])).Nodup:=by
     rw[<- aZ,jm]
     refine⟨nd',by simp,λa ha b hb z=>?_⟩
     rw[ak] at hb
     exact hin (hb ▸ z ▸ ha)
    have bdn:∀k∈ks++(new++[m|||c.2]),k<2 ^ ch.length:=λk hk=>by
     rw[<- aZ] at hk
     rcases aL.mp hk with z | z
     ·exact hb' k z
     ·rw[ak] at z
      rw[z]
      exact u2
    have sz:(ks++(new++[m|||c.2])).length<=2 ^ 16:=bf (jB0 ndn bdn) (cq (by decide) w16)
    rw[aF,aF] at sz
    have kl:(trK (ks++new)).length<sizeLine:=by
     unfold trK
     rw[ae,aF,aH]
     simp at sz
     lia
    refine iteT ⟨_,rfl,_,rfl,_,rfl,_,_,rfl,rfl,M,_,rfl,jSU hM' hin kl,?_⟩
    have hW3:(L2.upd H' M (.dK (trK (ks++new++[m|||c.2])))) W=some (.lst ((ws++new).map natV)):=by rw[j6 MW.symm]; exact hW'
    have hM3:(L2.upd H' M (.dK (trK (ks++new++[m|||c.2])))) M=some (.dK (trK (ks++(new++[m|||c.2])))):=by rw[j5,aZ]
    have k3:∀b o,H2 b=some o->b≠M->b≠W->(L2.upd H' M (.dK (trK (ks++new++[m|||c.2])))) b=some o:=λb o hbo n1 n2=>by rw[j6 n1]; exact k b o hbo n1 n2
    generalize L2.upd H' M (.dK (trK (ks++new++[m|||c.2])))=H3 at hW3 hM3 k3
    refine⟨_,rfl, .inl ⟨rfl,_,SqL.of hW3⟩,_,rfl,_,rfl,_,_,rfl,rfl,W,_,_,rfl,rfl,hW3,?_,⟨_,_,rfl⟩,λb o hbo n1 n2=>by rw[j6 n2]; exact k3 b o hbo n1 n2,new++[m|||c.2],by rw[j6 MW]; exact hM3,?_,ndn,bdn,λc' hc'=>?_⟩
    ·skip
     rw[ae,aF,aH]
     simp at sz
     lia
    ·rw[j5]
     show some (HO.lst ((ws++new).map natV++[V.int (Builtin.bitOr (m:Int) (c.2:Int))]))=_
     rw[jC5,<- aZ]
     exact bS (λz=>some (HO.lst z)) (ba (f:=natV) (l₁:=ws++new) (l₂:=[m|||c.2])).symm
    ·rw[<- aZ,aL]
     rw[tk] at hc'
     rcases aL.mp hc' with z | z
     ·exact .inl (cl c' z)
     ·rw[ak] at z
      rw[z]
      exact .inr (ak.mpr rfl)
  ·rintro σ H' ⟨⟨v5,v6,rfl⟩,k,new,hM',hW',nd',hb',cl⟩
   have:(chAt ch m).take vs.length=chAt ch m:=by rw[av.len,bI]
   rw[this] at cl
   exact nx H' new _ _ _ (λb o hbo n1 n2=>k _ _ (e2 _ _ (k1 _ _ hbo n2)) n1 n2) hM' hW' nd' hb' λ_=>cl
 ·have h:m=fullN ch:=bP λz=>h (nf.mpr z)
  exact nx H1 [] _ _ _ (λb o hbo n1 n2=>k1 _ _ hbo n2) (by rw[bg]; exact hM1) (by rw[bg]; exact hW1) (by rw[bg]; exact nd) (by rw[bg]; exact hb) λz=>absurd h z
theorem jUK {fd:FuncData}(F:Fun K "masks_met" "masks_met" sMet f fd)(T:Txt mg)(CF:Can P w K mg base "full_mask" 1 fF fdF ["choices"] jE7)(CA:Can P w K mg base "choices_at" 1 fA fdA ["choices","mask"] spAt):FnOk P w K mg base CX0 2 f fd ["choices"] spMet:=by
 refine F.ok scMet (λvs H Q E h=>?_) (λcdv A outer s H vs Q E hr h=>?_)
 ·obtain⟨_,_,rfl,_⟩:=h
  rfl
 ·obtain⟨L,ch,rfl,hL,ok,q⟩:=h
  refine⟨_,(metA T CF CA hr).2.h,?_⟩
  have w16:=ok.w
  refine⟨_,rfl,L,ch,rfl,hL,w16,?_⟩
  refine λM H1 hM1 e1 nM=>?_
  refine⟨by show (1:Nat)<=_; decide,λW H2 hW2 e2 nW=>?_⟩
  have hM2:=e2 _ _ hM1
  have nW0:H W=none:=by
   cases z:H W with
   | none=>rfl
   | some o=>rw[e1 _ _ z] at nW; cases nW
  have E2:=e1.trans e2
  have pz:(0:Nat)<2 ^ ch.length:=dR _
  refine⟨λn σ H'=>(∃v4 v5 v6,σ=[some (.ref L),some (natV (fullN ch)),some (.ref M),some (.ref W),v4,v5,v6])/\Ext H H'/\∃ks ws:List Nat,n=2*(2 ^ ch.length - ks.length)+ws.length/\H' M=some (.dK (trK ks))/\H' W=some (.lst (ws.map natV))/\ks.Nodup/\(∀k∈ks,k<2 ^ ch.length)/\(∀k∈ws,k∈ks)/\ws.length<=ks.length/\0∈ks/\∀k∈ks,k∉ws->k≠fullN ch->∀c∈chAt ch k,(k|||c.2)∈ks,⟨_,⟨_,_,_,rfl⟩,E2,[0],[0],rfl,hM2,hW2,by simp,λk hk=>by rw[ak] at hk; lia,λk hk=>hk,aq _,by simp,λk h1 h2=>absurd h1 h2⟩,?_⟩
  rintro n σ H' ⟨⟨v4,v5,v6,rfl⟩,e,ks,ws,rfl,hM',hW',nd,hb,sub,wl,z0,cl⟩
  refine⟨_,rfl,W,_,rfl, .inl (SqL.of hW'),_,_,rfl,rfl,_,rfl,?_⟩
  rcases lO ws with hws | ⟨ws',m,hws⟩
  ·subst hws
   refine iteF ?_
   have ksl:=jB0 nd hb
   have p16:2 ^ ch.length<=2 ^ 16:=cq (by decide) w16
   refine⟨_,rfl,M,trK ks,ks.map λk:Nat=>(k:Int),true,rfl,rfl,hM',by unfold trK; rw[bz,bz]; rfl,by rw[ae,aH]; lia,λl ns hl ord pm=>?_⟩
   obtain⟨js,rfl⟩:∃js:List Nat,ns=js.map λk:Nat=>(k:Int):=by
    refine⟨ns.map Int.toNat,?_⟩
    rw[bz]
    refine(fw ns).symm.trans (bo λx hx=>?_)
    obtain⟨k,_,rfl⟩:=aW.mp (pm.mem_iff.mp hx)
    show ((k:Nat):Int)=(((k:Nat):Int).toNat:Int)
    lia
   have pm':js.Perm ks:=by
    have:=pm.map Int.toNat
    rw[bz,bz] at this
    have e:∀l:List Nat,l.map (Int.toNat ∘ λk:Nat=>(k:Int))=l:=λl=>(bo λx _=>by show ((x:Nat):Int).toNat=x; lia).trans (fw l)
    rwa [e,e] at this
   refine q l js _ ?_ ?_ ⟨pm'.mem_iff.mpr z0,λm hm=>hb m (pm'.mem_iff.mp hm),λm hm hf c hc=>pm'.mem_iff.mpr (cl m (pm'.mem_iff.mp hm) (by simp) hf c hc)⟩ ((Ext.refl _).trans (e.new hl _)) ?_
   ·rw[j5,bz]
    rfl
   ·have nj:js.Nodup:=pm'.nodup_iff.mpr nd
    have:js.Pairwise (λ(a b:Nat)=>(b:Int)<=(a:Int)):=be.mp ord
    exact(this.and nj).imp λ{a b} h=>by lia
   ·cases z:H l with
    | none=>rfl
    | some o=>rw[e _ _ z] at hl; cases hl
  ·have hws:ws=ws'++[m]:=by rw[hws,lQ]
   subst hws
   have lp:decide ((0:Int)<(((ws'++[m]).map natV).length:Int))=true:=by
    rw[cb,ae,aF]
    show (0:Int)<((ws'.length+1:Nat):Int)
    lia
   show if decide ((0:Int)<(((ws'++[m]).map natV).length:Int))=true then _ else _
   rw[am lp]
   rw[aF] at wl
   refine⟨λσ' H''=>(∃v4 v5 v6,σ'=[some (.ref L),some (natV (fullN ch)),some (.ref M),some (.ref W),v4,v5,v6])/\Ext H H''/\∃new:List Nat,H'' M=some (.dK (trK (ks++new)))/\H'' W=some (.lst ((ws'++new).map natV))/\(ks++new).Nodup/\(∀k∈ks++new,k<2 ^ ch.length)/\(m≠fullN ch->∀c∈chAt ch m,(m|||c.2)∈ks++new),?_,jOV T CA hr (ks:=ks) (ws:=ws') (m:=m) (hL.ext e) ok hM' hW' nd hb (sub m (by simp)) (by lia) ?_⟩
   ·rintro σ' H'' ⟨hσ,e',new,a1,a2,a3,a4,a5⟩
    have sl:=jB0 a3 a4
    rw[aF] at sl
    refine⟨_,?_,hσ,e',ks++new,ws'++new,rfl,a1,a2,a3,a4,λk hk=>?_,?_,aQ _ z0,λk hk hkw hf c hc=>?_⟩
    ·rw[aF,aF,aF]
     simp only [aP,cK]
     lia
    ·rcases aL.mp hk with z | z
     ·exact aQ _ (sub k (aQ _ z))
     ·exact az _ z
    ·rw[aF,aF]
     lia
    ·by_cases hkm:k=m
     ·subst hkm
      exact a5 hf c hc
     ·rcases aL.mp hk with z | z
      ·refine aQ _ (cl k z (λy=>?_) hf c hc)
       rcases aL.mp y with y | y
       ·exact hkw (aQ _ y)
       ·exact hkm (ak.mp y)
      ·exact absurd (az _ z) hkw
   ·intro H'' new v4 v5 v6 kp a1 a2 a3 a4 a5
    refine⟨⟨_,_,_,rfl⟩,λb o hbo=>?_,new,a1,a2,a3,a4,a5⟩
    refine kp b o (e b o hbo) (λz=>?_) λz=>?_
    ·rw[z,nM] at hbo; cases hbo
    ·rw[z,nW0] at hbo; cases hbo
end Eo
namespace L2
open PySem
theorem jR2 {x:Str}{pos:Pos}{o:Option Expr} :SwOk (.Name x pos) o:=⟨λ_ _=>rfl⟩
end L2
namespace Eo
open PySem L2
structure HpOk (φ:Hp->Prop):Prop where
 keep:∀(H H':Hp) (D:Addr) (kvs:List (Key×V)),H D=some (.dK kvs)->(∃kvs',H' D=some (.dK kvs'))->(∀b o,H b=some o->b≠D->H' b=some o)->φ H->φ H'
 ext:∀H H',Ext H H'->φ H->φ H'
abbrev RepT:=Nat->Hp->V->Prop
def RepOk (R:RepT):Prop:=∀m v,HpOk λH=>R m H v
def ItAt (R:RepT)(m:Nat)(H:Hp)(v:V)(c:Int×Nat):Prop:=∃q u,v= .ref q/\H q=some (.tup [.int c.1,u])/\R (m|||c.2) H u
def jDH (ch:Ch)(R:RepT):Sp:=λvs H Q _=>∃(l:Addr) (us:List V) (m:Nat),vs=[.ref l]/\H l=some (.lst us)/\m<2 ^ ch.length/\m≠fullN ch/\All2 (ItAt R m H) us (chAt ch m)/\∀r H',R m H' r->Ext H H'->Q r H'
def gvs (ns:List Nat)(us:List V):List (Key×V):=(ns.zip us).map λp:Nat×V=>(Sum.inl (p.1:Int),p.2)
structure GotAt (H:Hp)(r:Addr)(ch:Ch)(R:RepT)(ns:List Nat):Prop where
 ex:∃us,H r=some (.dK (gvs ns us))/\All2 (λn u=>R n H u) ns us
theorem jEQ {R:Nat->V->Prop} :∀{ns:List Nat}{us:List V}{n:Nat},All2 R ns us->ns.Nodup->n∈ns->∃u,valV (gvs ns us) (.inl (n:Int))=some u/\R n u
 | [],_,_,_,_,h=>by cases h
 | k::ns,[],_,h,_,_=>h.elim
 | k::ns,u::us,n,h,nd,hm=>by
  show ∃x,valV ((Sum.inl (k:Int),u)::gvs ns us) _=_/\_
  by_cases hk:k=n
  ·subst hk
   exact⟨u,jB7 rfl,h.1⟩
  ·rw[jAU (by intro z; have:=gy z; lia)]
   rcases ar.mp hm with z | z
   ·exact absurd z.symm hk
   ·exact jEQ h.2 (bJ.mp nd).2 z
theorem jBN:∀{ns:List Nat}{us:List V}{n:Nat},n∉ns->valV (gvs ns us) (.inl (n:Int))=none
 | [],_,_,_=>by
  unfold gvs
  rw[List.zip_nil_left]
  rfl
 | k::ns,[],_,_=>rfl
 | k::ns,u::us,n,h=>by
  show valV ((Sum.inl (k:Int),u)::gvs ns us) _=_
  rw[jAU (by intro z; have:=gy z; exact h (by rw[show n=k by lia]; exact ag ..))]
  exact jBN λz=>h (ah _ z)
theorem jPD {ns:List Nat}{us:List V}{n:Nat}{u:V}(h:ns.length=us.length):gvs (ns++[n]) (us++[u])=gvs ns us++[(Sum.inl (n:Int),u)]:=by
 unfold gvs
 rw[List.zip_append h,ba]
 rfl
section
variable {j:Addr}{Z:Shared->Hp->Prop}{zh:Hp->Prop}{ch:Ch}{R:RepT}
noncomputable abbrev nGath:List Str:=["choices","at_end","join","full","values","mask"]
theorem scGath:FnScope nGath ["choices","at_end","join"] (jA qJ):= {}
def jIL (j:Addr)(zh:Hp->Prop)(ch:Ch)(R:RepT):Sp:=λvs H Q _=>∃(L:Addr) (ve:V),vs=[.ref L,ve, .ref j]/\ChAt H L ch/\R (fullN ch) H ve/\zh H/\∀(r:Addr) (ns:List Nat) (H':Hp),GotAt H' r ch R ns->ns.Pairwise (· > ·)->MetOk ch ns->Ext H H'->H r=none->Q (.ref r) H'
def jN1 (T:Txt mg)(CA:Can P w K mg base "choices_at" 1 fA fdA ["choices","mask"] spAt)(CJ:Callee P w K mg base Z zh 3 j (jDH ch R))(zs:ZSt Z)(hz:Z s H0)(hr:Room 3 (XOf nGath "gathered" qJ P w K mg base f cdv A outer s H0 E).A): { t:TS // JSs (XOf nGath "gathered" qJ P w K mg base f cdv A outer s H0 E) (yS ((jC qJ).getD 2 (.Pass ⟨0,0,0,0⟩))) t} :=
 have nd:=scGath.nd
 ⟨_,(jD (yY (jY qK (jv 5 rfl vC) (jv 3 rfl vL) (jX _)) (jD (jCI (yZ hr) (jv 4 rfl vC) (jv 5 rfl vC) (jv 1 rfl vL) jR2)) (jD (jCI (yZ hr) (jv 4 rfl vC) (jv 5 rfl vC) (jP9 (j:=2) CJ (hr.mono (by decide)) zs hz rfl rfl vL (j3 (yE (m:=[none,none,some 4,some 5]) (Nc:=["number","more","values","mask"]) rfl (yB (CA.je (hr.mono (by decide)) gD (j3 (jv 0 rfl vL) (j3 (jv 5 rfl vC) j8 j4) j4) j4)) rfl (by decide+kernel) (by decide+kernel) (jT (psc:=jA qJ)) (jL (N:=nGath) rfl rfl (by decide+kernel)) (λcl C fp s H=>jBZ (i:=0) (j:=1) rfl (show (["number","more","values","mask"]:List Str).Nodup by decide+kernel) rfl rfl (by decide+kernel) (by decide+kernel)) (λcl C fp s H=>yH) (λcl C fp s H=>(yC (j3 (jv 0 rfl jW) (j3 (jDR (yZ hr) (jv 2 rfl yJ) (kI op_or (jv 3 rfl yJ) (jv 1 rfl jW)) jTT) j8 yF) j4))) kO) j8 jP) jP) kB))))⟩
def gathA (T:Txt mg)(CF:Can P w K mg base "full_mask" 1 fF fdF ["choices"] jE7)(CM:Can P w K mg base "masks_met" 2 fM fdM ["choices"] spMet)(CA:Can P w K mg base "choices_at" 1 fA fdA ["choices","mask"] spAt)(CJ:Callee P w K mg base Z zh 3 j (jDH ch R))(zs:ZSt Z)(hz:Z s H0)(hr:Room 3 (XOf nGath "gathered" qJ P w K mg base f cdv A outer s H0 E).A): { t:TS // JSs (XOf nGath "gathered" qJ P w K mg base f cdv A outer s H0 E) (jC qJ) t} :=
 have nd:=scGath.nd
 ⟨_,(jB (jQ (i:=3) nd rfl lL (CF.je (hr.mono (by decide)) gD (j3 (jv 0 rfl vL) j8 j4) j4) kB) (jB (jQ (i:=4) nd rfl loc_c (jD4) jDD) (jB (yT bX rfl (yB (CM.je (hr.mono (by decide)) gD (j3 (jv 0 rfl vL) j8 j4) j4)) (jJ (i:=5) nd rfl loc_c) (jN1 T CA CJ zs hz hr).2 kO) (jD (jV (jv 4 rfl vC))))))⟩
theorem jHU {fd:FuncData}(F:Fun K "gathered" "gathered" qJ f fd)(T:Txt mg)(CF:Can P w K mg base "full_mask" 1 fF fdF ["choices"] jE7)(CM:Can P w K mg base "masks_met" 2 fM fdM ["choices"] spMet)(CA:Can P w K mg base "choices_at" 1 fA fdA ["choices","mask"] spAt)(CJ:Callee P w K mg base Z zh 3 j (jDH ch R))(zs:ZSt Z)(zo:HpOk zh)(ro:RepOk R)(ok:ChOk ch):FnZ P w K mg base CX0 Z 4 f fd ["choices","at_end","join"] (jIL j zh ch R):=by
 refine F.okZ scGath (λvs H Q E h=>?_) (λcdv A outer s H vs Q E hr hz h=>?_)
 ·obtain⟨_,_,rfl,_⟩:=h
  rfl
 ·obtain⟨L,ve,rfl,hL,he,hzh,q⟩:=h
  refine⟨_,(gathA T CF CM CA CJ zs hz hr).2.h,?_⟩
  have w16:=ok.w
  have p16:2 ^ ch.length<=2 ^ 16:=cq (by decide) w16
  refine⟨_,rfl,L,ch,rfl,hL,w16,?_⟩
  refine λD nD=>?_
  have e1:Ext H (L2.upd H D (.dK [])):=(Ext.refl _).new nD _
  have hD1:(L2.upd H D (.dK [])) D=some (.dK []):=j5
  generalize L2.upd H D (.dK [])=H1 at e1 hD1
  refine⟨_,rfl,L,ch,rfl,hL.ext e1,ok,λr ns H2 hr2 srt mt e2 nr=>?_⟩
  have hD2:=e2 _ _ hD1
  have rD:r≠D:=λz=>by rw[z,hD1] at nr; cases nr
  have E2:=e1.trans e2
  have nsn:ns.Nodup:=srt.imp λ{a b} h=>by lia
  have nsl:=jB0 nsn mt.bnd
  refine⟨r,rfl,⟨_,SqL.of hr2⟩,jBA (xs:=ns.map natV) (λi σ H'=>(∃v5,σ=[some (.ref L),some ve,some (.ref j),some (natV (fullN ch)),some (.ref D),v5])/\(∀b o,H2 b=some o->b≠D->H' b=some o)/\GotAt H' D ch R (ns.take i)) ⟨⟨_,rfl⟩,λb o h _=>h,[],hD2,trivial⟩ (λi σ H' _ ⟨_,k,_⟩=>SqL.of (k _ _ hr2 rD)) ?_ ?_⟩
  ·rintro i x σ H' hx ⟨⟨v5,rfl⟩,k,us,hD',au⟩
   obtain⟨m,hm,rfl⟩:∃m,ns[i]?=some m/\natV m=x:=by
    rw[aJ] at hx
    cases hq:ns[i]? with
    | none=>rw[hq] at hx; cases hx
    | some z=>rw[hq] at hx; cases hx; exact⟨z,rfl,rfl⟩
   have hmn:=aE hm
   have hm2:=mt.bnd m hmn
   have il:i<ns.length:=(ax.mp hm).1
   have tk:ns.take (i+1)=ns.take i++[m]:=by rw[bu,hm]; rfl
   have kl:(gvs (ns.take i) us).length<sizeLine:=by
    unfold gvs
    rw[ae,lF,bM,aH]
    lia
   have kH:∀b o,H b=some o->H' b=some o:=λb o h=>k _ _ (E2 _ _ h) λz=>by rw[z,nD] at h; cases h
   have mi:m∉ns.take i:=λz=>by
    obtain⟨a,ha⟩:=bw z
    have al:a<i:=by have:=(ax.mp ha).1; rw[bM] at this; lia
    rw[cx al] at ha
    have:=(jr (by lia) nsn).mp (ha.trans hm.symm)
    lia
   have fin:∀(u:V) (H3:Hp),(∀b o,H' b=some o->H3 b=some o)->R m H3 u->DPut H3 D (natV m) u (L2.upd H3 D (.dK (gvs (ns.take (i+1)) (us++[u]))))/\((∃v5,[some (V.ref L),some ve,some (.ref j),some (natV (fullN ch)),some (.ref D),some (natV m)]=[some (V.ref L),some ve,some (.ref j),some (natV (fullN ch)),some (.ref D),v5])/\(∀b o,H2 b=some o->b≠D->(L2.upd H3 D (.dK (gvs (ns.take (i+1)) (us++[u])))) b=some o)/\GotAt (L2.upd H3 D (.dK (gvs (ns.take (i+1)) (us++[u])))) D ch R (ns.take (i+1))):=λu H3 e3 ru=>by
    have hD3:=e3 _ _ hD'
    have up:∀b o,H3 b=some o->b≠D->(L2.upd H3 D (.dK (gvs (ns.take (i+1)) (us++[u])))) b=some o:=λb o h n=>by rw[j6 n]; exact h
    refine⟨?_,⟨_,rfl⟩,λb o h n=>up b o (e3 _ _ (k b o h n)) n,us++[u],j5,?_⟩
    ·have:=DPut.k (k:=Sum.inl ((m:Nat):Int)) (v:=u) hD3 kl
     rw[jEW _ (jBN mi),<- jPD au.len,<- tk] at this
     exact this
    ·rw[tk]
     refine All2.snoc ?_ ((ro m u).keep _ _ D _ hD3 ⟨_,j5⟩ (by rw[<- tk]; exact up) ru)
     rw[<- tk]
     exact au.imp λn u h=>(ro n u).keep _ _ D _ hD3 ⟨_,j5⟩ up ((ro n u).ext _ _ e3 h)
   refine⟨_,rfl,_,rfl,rfl,_,rfl,?_⟩
   have ef:decide (natV m=natV (fullN ch))=true↔m=fullN ch:=by
    rw[cb]
    exact⟨λh=>by have:=V.int.inj h; lia,λh=>by rw[h]⟩
   refine ite2 (λh=>?_) (λh=>?_)
   ·have h:=ef.mp h
    obtain⟨f1,f2⟩:=fin ve H' (λb o h=>h) (by rw[h]; exact(ro _ _).ext _ _ kH he)
    exact⟨_,rfl,_,rfl,_,rfl,D,_,rfl,f1,f2⟩
   ·have h:m≠fullN ch:=λz=>h (ef.mpr z)
    refine⟨rfl,_,rfl,_,rfl,L,ch,m,rfl,hL.ext kH,ok,hm2,h,λr4 H4 ⟨vs4,hr4,av4⟩ e4 n4=>?_⟩
    have hD4:=e4 _ _ hD'
    have vl4:vs4.length<=33:=by
     rw[av4.len]
     have hlow:=yV hm2 h
     refine bf (bh _ _) ?_
     rw[aC,aK hlow]
     exact ok.len _ _ (aK hlow)
    refine⟨r4,rfl,⟨_,SqL.of hr4⟩,jBC (xs:=vs4) (λσ=>∃v1 v2,σ=[v1,v2,some (.ref D),some (natV m)]) (λH' zs t=>All2 (λv c=>∃q u,v= .ref q/\H' q=some (.tup [.int c.1,u])/\R (m|||c.2) H4 u) zs ((chAt ch m).take t)) ⟨λH=>trivial,λH H' zs t tu hz=>hz.imp λv c ⟨q,u,a1,a2,a3⟩=>⟨q,u,a1,tu _ _ a2,a3⟩,λH zs t hz=>?_⟩ hr4 (by rw[aH]; lia) ⟨_,_,rfl⟩ ?_ ?_⟩
    ·rw[hz.len]
     exact ce _ _
    ·rintro t x σ' H5 zs hx ⟨v1,v2,rfl⟩ e5 hz5 S1 S2 yes no
     obtain⟨c,hc,qa,rfl,hq⟩:=av4.get' hx
     have hcm:=aE hc
     obtain⟨u1,u2⟩:=ok.up hm2 h hcm
     have ut:=mt.up m hmn h c hcm
     have up:(m|||c.2)∈ns.take i:=by
      obtain⟨a,ha⟩:=bw ut
      have al:a<i:=by
       refine bP λz=>?_
       have a1:=(ax.mp ha)
       have m1:=(ax.mp hm)
       rcases mF i a with y | y
       ·have:=cO.mp srt i a il a1.1 y
        rw[a1.2,m1.2] at this
        lia
       ·have:a=i:=by lia
        subst this
        rw[hm] at ha
        have:=bA ha
        lia
      exact aE (i:=a) (by rw[cx al]; exact ha)
     obtain⟨u,hu,ru⟩:=jEQ au (nsn.sublist (de _ _)) up
     have et:(chAt ch m).take (t+1)=(chAt ch m).take t++[c]:=by rw[bu,hc]; rfl
     have dg:DGet H5 D (.int (Builtin.bitOr (m:Int) (c.2:Int))) (some u):=by
      rw[jC5,<- hu]
      exact DGet.k (k:=Sum.inl (((m|||c.2:Nat):Nat):Int)) (e5 _ _ hD4)
     refine⟨qa,_,rfl,SqT.of (e5 _ _ hq),rfl,_,_,rfl,_,_,rfl,rfl,?_⟩
     dsimp only [yW]
     rw[am rfl]
     refine⟨_,rfl,_,rfl,_,rfl,_,rfl,_,_,rfl,rfl,D,u,rfl,dg,by show (2:Nat)<=_; decide,λr6 H6 d6 e6=>yes _ _ _ ⟨_,_,rfl⟩ e6 ?_⟩
     show All2 _ _ ((chAt ch m).take (t+1))
     rw[et]
     exact(hz5.imp λv c ⟨q,u,a1,a2,a3⟩=>⟨q,u,a1,e6 _ _ a2,a3⟩).snoc ⟨r6,u,rfl,d6,(ro _ _).ext _ _ e4 ru⟩
    ·rintro D7 H7 zs hD7 e7 n7 hz7
     rw[av4.len,bI] at hz7
     refine⟨zo.ext _ _ (λb o h=>e7 _ _ (e4 _ _ (kH b o h))) hzh,D7,zs,m,rfl,hD7,hm2,h,hz7.imp λv c ⟨q,u,a1,a2,a3⟩=>⟨q,u,a1,a2,(ro _ _).ext _ _ e7 a3⟩,λrr H8 r8 e8=>?_⟩
     obtain⟨f1,f2⟩:=fin rr H8 (λb o h=>e8 _ _ (e7 _ _ (e4 _ _ h))) r8
     exact⟨_,rfl,_,rfl,D,_,rfl,f1,f2⟩
  ·rintro σ H' ⟨⟨v5,rfl⟩,k,got⟩
   rw[ae,bI] at got
   exact⟨_,rfl,q D ns H' got srt mt (λb o h=>k _ _ (E2 _ _ h) λz=>by rw[z,nD] at h; cases h) nD⟩
end
end Eo
namespace L2
open PySem
def spEx {α:Type}(p:α->Prop)(sp:α->Sp):Sp:=λvs H Q E=>∃a,p a/\sp a vs H Q E
theorem FnOk.ex {α:Type}{p:α->Prop}{sp:α->Sp}{P:Program}{w:World}{K:W.Frag}{mg:Str->Option Value}{base:Heap}{CX:CXT}{k:Nat}{f:Addr}{fd:FuncData}{ps:List Str}(h:∀a,p a->FnOk P w K mg base CX k f fd ps (sp a)):FnOk P w K mg base CX k f fd ps (spEx p sp):=
 ⟨λvs H Q E ⟨a,pa,q⟩=>(h a pa).len vs H Q E q,λA outer s H args us vs Q E hr he hb hv ⟨a,pa,q⟩=>(h a pa).run A outer s H args us vs Q E hr he hb hv q⟩
theorem Callee.mono {P:Program}{w:World}{K:W.Frag}{mg:Str->Option Value}{base:Heap}{Z:Shared->Hp->Prop}{zh:Hp->Prop}{i k:Nat}{a:Addr}{sp:Sp}(C:Callee P w K mg base Z zh i a sp)(h:i<=k):Callee P w K mg base Z zh k a sp:=
 ⟨C.fn,λA outer s H us vs Q E hr=>C.run A outer s H us vs Q E (hr.mono h)⟩
theorem Callee.imp {P:Program}{w:World}{K:W.Frag}{mg:Str->Option Value}{base:Heap}{Z Z':Shared->Hp->Prop}{zh:Hp->Prop}{k:Nat}{a:Addr}{sp:Sp}(C:Callee P w K mg base Z zh k a sp)(h:∀s H,Z' s H->Z s H):Callee P w K mg base Z' zh k a sp:=
 ⟨C.fn,λA outer s H us vs Q E hr he hz=>C.run A outer s H us vs Q E hr he (h _ _ hz)⟩
theorem FnOk.never {P:Program}{w:World}{K:W.Frag}{mg:Str->Option Value}{base:Heap}{CX:CXT}{k:Nat}{f:Addr}{fd:FuncData}{ps:List Str} :FnOk P w K mg base CX k f fd ps (λ_ _ _ _=>False):=
 ⟨λ_ _ _ _ h=>h.elim,λ_ _ _ _ _ _ _ _ _ _ _ _ _ h=>h.elim⟩
theorem jTO {a:Arguments}{b:Expr}{sc:Scope}{pos:Pos}{es:List Expr}{env:Env} :starEach (.Lambda a b sc pos::es) env=(false,eval (.Lambda a b sc pos) env)::starEach es env:=rfl
end L2
namespace Eo
open PySem L2
theorem got0 {H:Hp}{r:Addr}{ch:Ch}{R:RepT}{ns:List Nat}(g:GotAt H r ch R ns)(nd:ns.Pairwise (· > ·))(m:MetOk ch ns):∃u,DGet H r (.int 0) (some u)/\R 0 H u:=by
 obtain⟨us,h1,h2⟩:=g.ex
 obtain⟨u,hu,ru⟩:=jEQ h2 (nd.imp λ{a b} h=>by lia) m.zero
 refine⟨u,?_,ru⟩
 have:=DGet.k (k:=Sum.inl (0:Int)) h1
 rw[show valV (gvs ns us) (Sum.inl (0:Int))=some u from hu] at this
 exact this
theorem jED {H H1:Hp}{l:Addr}(e:Ext H H1)(n:H1 l=none):H l=none:=by
 cases z:H l with
 | none=>rfl
 | some o=>rw[e _ _ z] at n; cases n
end Eo
namespace L2
open PySem PySem.Spec PyProof.Rows
end L2
namespace Eo
open PySem L2
def yA (pc:List Int×Int):Int:=pc.1.getD 0 0
def cntF (pcs:List (List Int×Int))(t:Int):Nat:=pcs.countP λpc=>decide (t<=yA pc)
def lead (pcs:List (List Int×Int))(t:Int)(i:Nat):Nat:=(pcs.take i).countP λpc=>decide (yA pc=t)
theorem jDZ (t:Int):∀pcs:List (List Int×Int),cntF pcs t=cntF pcs (t+1)+pcs.countP λpc=>decide (yA pc=t)
 | []=>rfl
 | p::r=>by
  have ih:=jDZ t r
  unfold cntF at ih ⊢
  rw[cZ,cZ,cZ,ih]
  by_cases h1:yA p=t
  ·have h2:t<=yA p:=by lia
   have h3:¬t+1<=yA p:=by lia
   have h4:¬t+1<=t:=by lia
   simp [h1,h4]
   try lia
  ·by_cases h2:t<=yA p
   ·have h3:t+1<=yA p:=by lia
    simp [h1,h2,h3]
    lia
   ·have h3:¬t+1<=yA p:=by lia
    simp [h1,h2,h3]
theorem jQO (pcs:List (List Int×Int))(t:Int):cntF pcs t<=pcs.length:=List.countP_le_length
theorem jP1 (pcs:List (List Int×Int))(t:Int):2 ^ cntF pcs (t+1)*(1+lead pcs t pcs.length)<=2 ^ cntF pcs t:=by
 unfold lead
 rw[bI,jDZ t pcs,mG]
 refine iC _ ?_
 have:=Nat.lt_two_pow_self (n:=pcs.countP λpc=>decide (yA pc=t))
 lia
theorem jMC {pcs:List (List Int×Int)}{t:Int}{i:Nat}{pc:List Int×Int}(h:pcs[i]?=some pc):lead pcs t (i+1)=lead pcs t i+if yA pc=t then 1 else 0:=by
 unfold lead
 rw[bu,h]
 show ((pcs.take i)++[pc]).countP _=_
 rw[i8,cZ,List.countP_nil]
 simp
def wJ (l:List (Int×List (List Int))):List (List Int):=l.flatMap λp=>p.2.map λx=>if p.1<0 then x else p.1::x
def wk (ch:Ch)(m:Nat):List (List Int):=gv ch [[]] wJ m
theorem jFP (a b:List (Int×List (List Int))):wJ (a++b)=wJ a++wJ b:=List.flatMap_append
theorem yN (ch:Ch):wk ch (fullN ch)=[[]]:=jSM
theorem yM {ch:Ch}{m:Nat}(o:ChOk ch)(h:m<2 ^ ch.length)(hn:m≠fullN ch):wk ch m=wJ ((chAt ch m).map λc=>(c.1,wk ch (m|||c.2))):=jSL o h hn
theorem jOY (w:Nat):lowN (2 ^ w - 1)=w:=by
 refine jUS ?_ λj hj=>?_
 ·rw[db,aV (by lia)]
 ·rw[db,aB hj]
theorem jQA {m c:Nat}(h:c.testBit (lowN m)=true):lowN m<lowN (m|||c):=by
 refine bP λz=>?_
 have n1:=jCD (m|||c)
 rw[bZ] at n1
 rcases mF (lowN (m|||c)) (lowN m) with y | y
 ·rw[jCE m _ y] at n1
  cases n1
 ·rw[show lowN (m|||c)=lowN m by lia,h,ga] at n1
  cases n1
theorem jAT {ch:Ch}(o:ChOk ch){P:Nat->Prop}(h0:P (fullN ch))(hs:∀m,m<2 ^ ch.length->m≠fullN ch->(∀c∈chAt ch m,P (m|||c.2))->P m):∀m,m<2 ^ ch.length->P m:=by
 intro m hm
 generalize hk:fullN ch - m=k
 induction k using strongRecOn generalizing m with
 | _ k ih=>
  by_cases hf:m=fullN ch
  ·rw[hf]
   exact h0
  ·have hlt:m<fullN ch:=by
    unfold fullN at hf ⊢
    lia
   refine hs m hm hf λc hc=>?_
   obtain⟨u1,u2⟩:=o.up hm hf hc
   exact ih (fullN ch - (m|||c.2)) (by lia) _ u2 rfl
theorem mem_wJ {l:List (Int×List (List Int))}{x:List Int} :x∈wJ l↔∃p∈l,∃y∈p.2,x=if p.1<0 then y else p.1::y:=by
 unfold wJ
 rw[List.mem_flatMap]
 refine exists_congr λp=>lH λ_=>?_
 rw[aW]
 exact exists_congr λy=>lH λ_=>eq_comm
theorem jKA (l:List Int):l.getD 0 0=l.headD 0:=by cases l <;> rfl
theorem jEG (pcs:List (List Int×Int))(t:Nat)(i:Nat)(hi:i<=pcs.length):(((upto pcs.length).take i).filter λk=>decide ((j7 pcs k).headD 0=(t:Int))).length=lead pcs t i:=by
 induction i with
 | zero=>rfl
 | succ i ih=>
  have hil:i<pcs.length:=by lia
  rw[jDA hil,bH,aF,ih (by lia),jMC (aK hil)]
  congr 1
  rw[dX,ff]
  have e:j7 pcs (i:Int)=pcs[i].1:=by
   unfold j7
   rw[br,aC,aK hil]
   rfl
  unfold yA
  rw[e,jKA]
  by_cases h:pcs[i].1.headD 0=(t:Int)
  ·rw[am (aB h),am h]
   rfl
  ·rw[aj (λz=>h (aU z)),aj h]
   rfl
theorem jPL (pcs:List (List Int×Int)){s t:Int}(h:s<=t):cntF pcs t<=cntF pcs s:=by
 unfold cntF
 refine List.countP_mono_left λx _ hx=>?_
 have:=aU hx
 exact aB (by lia)
theorem jDU {α β:Type}(f:α->List β)(B:Nat):∀(l:List α),(∀a∈l,(f a).length<=B)->(l.flatMap f).length<=l.length*B
 | [],_=>by simp
 | a::l,h=>by
  rw[List.flatMap_cons,aF,aP,Nat.succ_mul]
  have h1:=h a (ag ..)
  have h2:=jDU f B l λx hx=>h x (ah _ hx)
  lia
theorem jT7 {w:Int}{ms:List Int}{pcs:List (List Int×Int)}(g:Good 16 32 w ms pcs):∀m,m<2 ^ (chs w.toNat ms pcs).length->(wk (chs w.toNat ms pcs) m).length<=2 ^ cntF pcs (lowN m:Nat):=by
 have o:ChOk (chs w.toNat ms pcs):=yU g
 refine jAT o ?_ ?_
 ·rw[yN]
  exact Nat.one_le_two_pow
 ·intro m hm hf ih
  have hl:lowN m<w.toNat:=by
   have:=yV hm hf
   unfold chs at this
   rwa [kN] at this
  rw[yM o hm hf]
  unfold wJ
  refine bf (jDU _ (2 ^ cntF pcs ((lowN m:Nat)+1:Int)) _ λp hp=>?_) ?_
  ·obtain⟨c,hc,rfl⟩:=aW.mp hp
   rw[ae]
   have lo:=jQA (o.mem hm hf hc).1
   exact bf (ih c hc) (cq (by decide) (jPL pcs (by lia)))
  ·rw[ae,gF]
   refine bf (iC _ ?_) (jP1 pcs (lowN m:Nat))
   unfold chAt
   refine bf (bh _ _) ?_
   unfold chs
   rw[aC,kR hl]
   show (kZ ms pcs pcs.length (lowN m)).length<=_
   unfold kZ
   rw[aF,ae,jEG pcs _ _ (aq _)]
   split <;> simp only [aP,cK] <;> lia
def LsAt (H:Hp)(us:List V)(ws:List (List Int)):Prop:=All2 (λv x=>∃a,v=V.ref a/\H a=some (.tup (x.map V.int))) us ws
theorem LsAt.mono {H H':Hp}{us:List V}{ws:List (List Int)}(t:Tups H H')(h:LsAt H us ws):LsAt H' us ws:=All2.imp (λv x ⟨a,e,q⟩=>⟨a,e,t _ _ q⟩) h
def cvs (w:Int)(ms:List Int)(pcs:List (List Int×Int)):List (List Int):=(wk (chs w.toNat ms pcs) 0).map srt
theorem jB1 {w:Int}{ms:List Int}{pcs:List (List Int×Int)}{m:Nat}{c:Int×Nat}(hl:lowN m<w.toNat):c∈chAt (chs w.toNat ms pcs) m↔c.2&&&m=0/\((c=(-1,2 ^ lowN m)/\(lowN m:Int)∈ms)\/∃k:Int,c=(k,maskN (j7 pcs k))/\0<=k/\k<pcs.length/\(j7 pcs k).headD 0=(lowN m:Int)):=by
 unfold chAt
 rw[bF,cU,and_comm]
 refine lH λ_=>?_
 unfold chs
 rw[aC,kR hl]
 show c∈kZ ms pcs pcs.length (lowN m)↔_
 unfold kZ
 rw[aL]
 refine or_congr ?_ ?_
 ·by_cases h:(lowN m:Int)∈ms
  ·rw[am h,ak]
   exact⟨λz=>⟨z,h⟩,λz=>z.1⟩
  ·rw[aj h]
   exact⟨λz=>(by cases z),λz=>absurd z.2 h⟩
 ·rw[bR (by rw[jBO]; exact aq _),aW]
  constructor
  ·rintro ⟨k,hk,rfl⟩
   obtain⟨h1,h2⟩:=bF.mp hk
   have b:=(jAC pcs.length).bnd k h1
   exact⟨k,rfl,b.1,b.2,aU h2⟩
  ·rintro ⟨k,rfl,h1,h2,h3⟩
   refine⟨k,bF.mpr ⟨?_,aB h3⟩,rfl⟩
   unfold upto
   exact aW.mpr ⟨k.toNat,cG.mpr (by lia),by lia⟩
structure CovM (w:Int)(ms:List Int)(pcs:List (List Int×Int))(m:Nat)(x:List Int):Prop where
 nd:x.Nodup
 bnd:∀k∈x,0<=k/\k<pcs.length
 off:∀k∈x,∀t∈j7 pcs k,m.testBit t.toNat=false
 dis:∀k∈x,∀k'∈x,k≠k'->∀t∈j7 pcs k,t∉j7 pcs k'
 cov:∀t:Nat,t<w.toNat->m.testBit t=false->(t:Int)∉ms->∃k∈x,(t:Int)∈j7 pcs k
section
variable {w:Int}(g:Good 16 32 w ms pcs)
include g
theorem jAM {k:Int}(h0:0<=k)(h1:k<pcs.length):Lot w (j7 pcs k):=(g.at (k:=k.toNat) (by lia)).lot
theorem jCR {k:Int}(h0:0<=k)(h1:k<pcs.length)(t:Nat):(maskN (j7 pcs k)).testBit t=decide ((t:Int)∈j7 pcs k):=jBV _ t (jAM g h0 h1).ris λx hx=>((jAM g h0 h1).bnd x hx).1
theorem jQ7 {k:Int}(h0:0<=k)(h1:k<pcs.length){m:Nat} :maskN (j7 pcs k)&&&m=0↔∀t∈j7 pcs k,m.testBit t.toNat=false:=by
 have l:=jAM g h0 h1
 constructor
 ·intro h t ht
  have bt:=l.bnd t ht
  have q:=bS (λz=>z.testBit t.toNat) h
  simp only [iw,gb,jCR g h0 h1] at q
  rw[show ((t.toNat:Nat):Int)=t by lia,aB ht,Bool.true_and] at q
  exact q
 ·intro h
  apply io
  intro i
  rw[iw,gb,jCR g h0 h1]
  by_cases hi:(i:Int)∈j7 pcs k
  ·have:=h _ hi
   rw[br] at this
   rw[this,gG]
  ·rw[aV hi]
   rfl
theorem jAR {k:Int}(h0:0<=k)(h1:k<pcs.length):(j7 pcs k).headD 0∈j7 pcs k/\∀t∈j7 pcs k,(j7 pcs k).headD 0<=t:=by
 have l:=jAM g h0 h1
 refine⟨jJA l.ne,λt ht=>?_⟩
 have r:=l.ris
 cases z:j7 pcs k with
 | nil=>rw[z] at ht; cases ht
 | cons a q=>
  rw[z] at ht r
  show a<=t
  rcases ar.mp ht with y | y
  ·lia
  ·have:=(cH.mp r).1 t y
   lia
theorem jAS:∀m,m<2 ^ (chs w.toNat ms pcs).length->∀x∈wk (chs w.toNat ms pcs) m,CovM w ms pcs m x:=by
 have o:ChOk (chs w.toNat ms pcs):=yU g
 have el:(chs w.toNat ms pcs).length=w.toNat:=kN _ _ _ _
 refine jAT o ?_ ?_
 ·intro x hx
  rw[yN,ak] at hx
  subst hx
  refine⟨eS,λk hk=>(by cases hk),λk hk=>(by cases hk),λk hk=>(by cases hk),λt ht hb _=>?_⟩
  unfold fullN at hb
  rw[el,db,aB ht] at hb
  cases hb
 ·intro m hm hf ih x hx
  have hl:lowN m<w.toNat:=by have:=yV hm hf; rwa [el] at this
  rw[yM o hm hf] at hx
  obtain⟨p,hp,y,hy,rfl⟩:=mem_wJ.mp hx
  obtain⟨c,hc,rfl⟩:=aW.mp hp
  have I:=ih c hc y hy
  have offm:∀k∈y,∀t∈j7 pcs k,m.testBit t.toNat=false:=λk hk t ht=>by
   have:=I.off k hk t ht
   rw[bZ,fz] at this
   exact this.1
  obtain⟨hz,hcase⟩:=(jB1 hl).mp hc
  rcases hcase with ⟨rfl,hms⟩ | ⟨k,rfl,k0,k1,hd⟩
  ·dsimp only
   rw[am (show (-1:Int)<0 by decide)]
   refine⟨I.nd,I.bnd,offm,I.dis,λt ht hb hn=>?_⟩
   refine I.cov t ht ?_ hn
   rw[bZ,hb,mn,eQ,aV]
   intro z
   subst z
   exact hn hms
  ·dsimp only at I hz ⊢
   rw[aj (by lia)]
   have ky:∀t∈j7 pcs k,∀k'∈y,t∉j7 pcs k':=λt ht k' hk' ht'=>by
    have:=I.off k' hk' t ht'
    have bt:=(jAM g k0 k1).bnd t ht
    rw[bZ,jCR g k0 k1,show ((t.toNat:Nat):Int)=t by lia,aB ht,ga] at this
    cases this
   have hhd:=(jAR g k0 k1).1
   refine⟨bJ.mpr ⟨λz=>ky _ hhd k z hhd,I.nd⟩,λk' hk'=>?_,λk' hk' t ht=>?_,λk1' h1' k2' h2' ne t ht=>?_,λt ht hb hn=>?_⟩
   ·rcases ar.mp hk' with z | z
    ·rw[z]; exact⟨k0,k1⟩
    ·exact I.bnd k' z
   ·rcases ar.mp hk' with z | z
    ·rw[z] at ht
     exact(jQ7 g k0 k1).mp hz t ht
    ·exact offm k' z t ht
   ·rcases ar.mp h1' with z | z <;> rcases ar.mp h2' with u | u
    ·exact absurd (z.trans u.symm) ne
    ·rw[z] at ht
     exact ky t ht _ u
    ·rw[u]
     intro q
     exact ky t q _ z ht
    ·exact I.dis _ z _ u ne t ht
   ·by_cases hk:(t:Int)∈j7 pcs k
    ·exact⟨k,ag .., hk⟩
    ·obtain⟨k',h1,h2⟩:=I.cov t ht (by rw[bZ,hb,jCR g k0 k1,aV hk]; rfl) hn
     exact⟨k',ah _ h1,h2⟩
theorem jHG:∀m,m<2 ^ (chs w.toNat ms pcs).length->∀x,CovM w ms pcs m x->∃y∈wk (chs w.toNat ms pcs) m,∀k,k∈y↔k∈x:=by
 have o:ChOk (chs w.toNat ms pcs):=yU g
 have el:(chs w.toNat ms pcs).length=w.toNat:=kN _ _ _ _
 have w0:=g.w0
 refine jAT o ?_ ?_
 ·intro x C
  refine⟨[],by rw[yN]; exact ak.mpr rfl,λk=>⟨λz=>(by cases z),λhk=>?_⟩⟩
  exfalso
  have b:=C.bnd k hk
  have hh:=(jAR g b.1 b.2).1
  have hb:=(jAM g b.1 b.2).bnd _ hh
  have:=C.off k hk _ hh
  unfold fullN at this
  rw[el,db,aB (by lia)] at this
  cases this
 ·intro m hm hf ih x C
  have hl:lowN m<w.toNat:=by have:=yV hm hf; rwa [el] at this
  have hstep:=yM o hm hf
  by_cases hx:∃k∈x,(lowN m:Int)∈j7 pcs k
  ·obtain⟨k,hk,ht⟩:=hx
   have b:=C.bnd k hk
   have hd:(j7 pcs k).headD 0=(lowN m:Int):=by
    obtain⟨h1,h2⟩:=jAR g b.1 b.2
    have h3:=h2 _ ht
    have hb:=(jAM g b.1 b.2).bnd _ h1
    have h4:=C.off k hk _ h1
    rcases Int.lt_or_eq_of_le h3 with z | z
    ·have:=jCE m ((j7 pcs k).headD 0).toNat (by lia)
     rw[this] at h4
     cases h4
    ·exact z
   have fit:maskN (j7 pcs k)&&&m=0:=(jQ7 g b.1 b.2).mpr (C.off k hk)
   have hc:((k,maskN (j7 pcs k)):Int×Nat)∈chAt (chs w.toNat ms pcs) m:=(jB1 hl).mpr ⟨fit, .inr ⟨k,rfl,b.1,b.2,hd⟩⟩
   have memE:∀j,j∈x.erase k↔j≠k/\j∈x:=λj=>C.nd.mem_erase_iff
   obtain⟨y,hy,hye⟩:=ih _ hc (x.erase k) ⟨C.nd.erase k,λj hj=>C.bnd j ((memE j).mp hj).2,λj hj t ht'=>by
     obtain⟨n1,n2⟩:=(memE j).mp hj
     have bj:=C.bnd j n2
     have bt:=(jAM g bj.1 bj.2).bnd t ht'
     have:=C.dis j n2 k hk n1 t ht'
     rw[bZ,C.off j n2 t ht',jCR g b.1 b.2,show ((t.toNat:Nat):Int)=t by lia,aV this]
     rfl,λj1 h1 j2 h2=>C.dis j1 ((memE j1).mp h1).2 j2 ((memE j2).mp h2).2,λt ht' hb hn=>by
     rw[bZ,fz,jCR g b.1 b.2,eW] at hb
     obtain⟨j,hj,hjt⟩:=C.cov t ht' hb.1 hn
     exact⟨j,(memE j).mpr ⟨λz=>hb.2 (z ▸ hjt),hj⟩,hjt⟩⟩
   refine⟨k::y,?_,λj=>?_⟩
   ·rw[hstep,mem_wJ]
    exact⟨_,bQ hc,y,hy,by dsimp only; rw[aj (by lia)]⟩
   ·rw[ar,hye,memE]
    constructor
    ·rintro (z | z)
     ·rw[z]; exact hk
     ·exact z.2
    ·intro z
     by_cases hj:j=k
     ·exact .inl hj
     ·exact .inr ⟨hj,z⟩
  ·have hms:(lowN m:Int)∈ms:=bP λz=>hx (C.cov (lowN m) hl (jCD m) z)
   have fit:2 ^ lowN m&&&m=0:=by
    apply io
    intro i
    rw[iw,gb,eQ]
    by_cases hi:lowN m=i
    ·rw[<- hi,jCD,gG]
    ·rw[aV hi]
     rfl
   have hc:((-1,2 ^ lowN m):Int×Nat)∈chAt (chs w.toNat ms pcs) m:=(jB1 hl).mpr ⟨fit, .inl ⟨rfl,hms⟩⟩
   obtain⟨y,hy,hye⟩:=ih _ hc x ⟨C.nd,C.bnd,λj hj t ht'=>by
     have bj:=C.bnd j hj
     have bt:=(jAM g bj.1 bj.2).bnd t ht'
     rw[bZ,C.off j hj t ht',mn,eQ,aV]
     intro z
     refine hx ⟨j,hj,?_⟩
     rw[z,show ((t.toNat:Nat):Int)=t by lia]
     exact ht',C.dis,λt ht' hb hn=>by
     rw[bZ,fz] at hb
     exact C.cov t ht' hb.1 hn⟩
   refine⟨y,?_,hye⟩
   rw[hstep,mem_wJ]
   exact⟨_,bQ hc,y,hy,by dsimp only; rw[am (by decide)]⟩
theorem jO6:∀m,m<2 ^ (chs w.toNat ms pcs).length->(wk (chs w.toNat ms pcs) m).Pairwise λy z=>¬∀k,k∈y↔k∈z:=by
 have o:ChOk (chs w.toNat ms pcs):=yU g
 have el:(chs w.toNat ms pcs).length=w.toNat:=kN _ _ _ _
 refine jAT o ?_ ?_
 ·rw[yN]
  exact cj _ _
 ·intro m hm hf ih
  have hl:lowN m<w.toNat:=by have:=yV hm hf; rwa [el] at this
  rw[yM o hm hf]
  unfold wJ
  rw[lR]
  have at0:∀c∈chAt (chs w.toNat ms pcs) m,∀y∈wk (chs w.toNat ms pcs) (m|||c.2),∀k∈y,(lowN m:Int)∉j7 pcs k:=λc hc y hy k hk ht=>by
   have C:=jAS g _ (o.up hm hf hc).2 y hy
   have:=C.off k hk _ ht
   rw[br,bZ,(o.mem hm hf hc).1,ga] at this
   cases this
  constructor
  ·intro p hp
   obtain⟨c,hc,rfl⟩:=aW.mp hp
   rw[be]
   refine(dw.mp (ih c hc)).imp λ{y z} h=>?_
   obtain⟨hy,hz,h⟩:=h
   dsimp only
   obtain⟨_,hcase⟩:=(jB1 hl).mp hc
   rcases hcase with ⟨rfl,hms⟩ | ⟨k,rfl,k0,k1,hd⟩
   ·rw[am (show (-1:Int)<0 by decide),am (show (-1:Int)<0 by decide)]
    exact h
   ·rw[aj (by lia),aj (by lia)]
    intro q
    refine h λj=>?_
    have kt:(lowN m:Int)∈j7 pcs k:=by rw[<- hd]; exact(jAR g k0 k1).1
    have ny:k∉y:=λu=>at0 _ hc y hy k u kt
    have nz:k∉z:=λu=>at0 _ hc z hz k u kt
    have qj:=q j
    rw[ar,ar] at qj
    constructor
    ·intro u
     rcases qj.mp (.inr u) with v | v
     ·rw[v] at u; exact absurd u ny
     ·exact v
    ·intro u
     rcases qj.mpr (.inr u) with v | v
     ·rw[v] at u; exact absurd u nz
     ·exact v
  ·rw[be]
   have pw:(chAt (chs w.toNat ms pcs) m).Pairwise λa b=>a.1≠b.1:=by
    unfold chAt chs
    rw[aC,kR hl]
    show ((kZ ms pcs pcs.length (lowN m)).filter _).Pairwise _
    refine fB _ ?_
    unfold kZ
    rw[bO]
    refine⟨by split <;> simp,?_,λa ha b hb=>?_⟩
    ·rw[be]
     refine fB _ (List.Pairwise.sublist (de _ _) ?_)
     exact(jAC pcs.length).ris.imp λ{a b} h=>by
      show a≠b
      lia
    ·obtain⟨k,hk,rfl⟩:=aW.mp hb
     have bk:=(jAC pcs.length).bnd k (bU (bF.mp hk).1)
     split at ha
     ·rw[ak] at ha
      rw[ha]
      show (-1:Int)≠k
      lia
     ·cases ha
   refine(dw.mp pw).imp λ{c d} h=>?_
   obtain⟨hc,hd',ne⟩:=h
   intro x hx y hy q
   obtain⟨u,hu,rfl⟩:=aW.mp hx
   obtain⟨v,hv,rfl⟩:=aW.mp hy
   dsimp only at hu hv q
   obtain⟨_,h1⟩:=(jB1 hl).mp hc
   obtain⟨_,h2⟩:=(jB1 hl).mp hd'
   have one:∀(k:Int) (z:List Int),0<=k->k<pcs.length->(j7 pcs k).headD 0=(lowN m:Int)->(lowN m:Int)∈j7 pcs k:=λk z k0 k1 e=>by rw[<- e]; exact(jAR g k0 k1).1
   rcases h1 with ⟨rfl,_⟩ | ⟨k,rfl,k0,k1,hk⟩ <;> rcases h2 with ⟨rfl,_⟩ | ⟨j,rfl,j0,j1,hj⟩
   ·exact ne rfl
   ·rw[am (show (-1:Int)<0 by decide),aj (by lia)] at q
    exact at0 _ hc u hu j ((q j).mpr (ag ..)) (one j v j0 j1 hj)
   ·rw[aj (by lia),am (show (-1:Int)<0 by decide)] at q
    exact at0 _ hd' v hv k ((q k).mp (ag ..)) (one k v k0 k1 hk)
   ·rw[aj (by lia),aj (by lia)] at q
    rcases ar.mp ((q k).mp (ag ..)) with z | z
    ·exact ne z
    ·exact at0 _ hd' v hv k z (one k v k0 k1 hk)
end
structure IsCov (w:Int)(ms:List Int)(pcs:List (List Int×Int))(c:List Int):Prop where
 ris:Ris pcs.length c
 dis:∀k∈c,∀k'∈c,k≠k'->∀t∈j7 pcs k,t∉j7 pcs k'
 cov:∀t:Int,0<=t->t<w->t∉ms->∃k∈c,t∈j7 pcs k
section
variable {w:Int}(g:Good 16 32 w ms pcs)
include g
theorem jF3 {c:List Int} :c∈cvs w ms pcs↔IsCov w ms pcs c:=by
 have z0:0<2 ^ (chs w.toNat ms pcs).length:=dR _
 have w0:=g.w0
 unfold cvs
 rw[aW]
 constructor
 ·rintro ⟨x,hx,rfl⟩
  have C:=jAS g 0 z0 x hx
  have me:∀k,k∈srt x↔k∈x:=λk=>(jAD x).mem_iff
  refine⟨⟨?_,λk hk=>C.bnd k ((me k).mp hk)⟩,λk hk k' hk'=>C.dis k ((me k).mp hk) k' ((me k').mp hk'),λt t0 t1 hn=>?_⟩
  ·exact(gI (jQ0 x) ((jAD x).nodup_iff.mpr C.nd)).imp λ{a b} h=>by lia
  ·obtain⟨k,hk,hkt⟩:=C.cov t.toNat (by lia) (gb _) (by rw[show ((t.toNat:Nat):Int)=t by lia]; exact hn)
   exact⟨k,(me k).mpr hk,by rwa [show ((t.toNat:Nat):Int)=t by lia] at hkt⟩
 ·intro C
  obtain⟨y,hy,hye⟩:=jHG g 0 z0 c ⟨C.ris.ris.imp λ{a b} h=>by lia,C.ris.bnd,λk hk t ht=>gb _,C.dis,λt ht _ hn=>C.cov t (by lia) (by lia) hn⟩
  refine⟨y,hy,?_⟩
  have ny:=(jAS g 0 z0 y hy).nd
  have nc:c.Nodup:=C.ris.ris.imp λ{a b} h=>by lia
  have pm:c.Perm y:=(i9 nc ny).mpr λk=>(hye k).symm
  exact(jTM (C.ris.ris.imp λ{a b} h=>by lia) pm).symm
theorem jNB:(cvs w ms pcs).Nodup:=by
 have z0:0<2 ^ (chs w.toNat ms pcs).length:=dR _
 unfold cvs
 refine be.mpr ((jO6 g 0 z0).imp λ{y z} h e=>h λk=>?_)
 rw[<- (jAD y).mem_iff,e,(jAD z).mem_iff]
end
theorem jSZ (w:Int)(ms:List Int)(pcs:List (List Int×Int)):(cvs w ms pcs).length=(wk (chs w.toNat ms pcs) 0).length:=ae ..
noncomputable def lamOf (s:Stmt):Arguments×Expr×Scope×Pos:=match jC s with
 | [.Return (some (.Call _ [_,_, .Lambda a b sc p] _ _)) _]=>(a,b,sc,p)
 | _=>(kW s, .Constant .none 0 ⟨0,0,0,0⟩,jA s,⟨0,0,0,0⟩)
abbrev lamA:Arguments:=(lamOf qI).1
abbrev lamB:Expr:=(lamOf qI).2.1
abbrev lamS:Scope:=(lamOf qI).2.2.1
abbrev lamP:Pos:=(lamOf qI).2.2.2
noncomputable abbrev nLam:List Str:=["behind"]
theorem scLam:NScope nLam ["behind"] [] lamS:=⟨rfl,rfl,rfl,by decide+kernel,rfl,by decide+kernel,by decide+kernel,λx h=>by
  have hl:∀y∈lamS.names,y.2≠ .free:=by decide+kernel
  exact absurd rfl (hl _ (cB h)),by decide+kernel⟩
def RWay (ch:Ch):RepT:=λm _ v=>v=natV (wk ch m).length
theorem RWay.ok (ch:Ch):RepOk (RWay ch):=λ_ _=>⟨λ_ _ _ _ _ _ _ h=>h,λ_ _ _ h=>h⟩
theorem jTA (l:List (Int×List (List Int))):(wJ l).length=(l.map λp=>p.2.length).sum:=by
 unfold wJ
 rw[List.length_flatMap]
 congr 1
 refine bo λp _=>?_
 rw[ae]
abbrev qLam:Str:= "ways_of.<locals>.<lambda>"
def jP2 (T:Txt mg): { t:TE // JE (cxN P w K mg base nLam qLam lamS a (.ref c) cl A outer s H0) lamB t} :=⟨_,(jE (jE0 rfl) (gl_n (by decide+kernel)) T.sum (by decide+kernel) (j3 (yE (m:=[none,none]) (Nc:=["number","ways"]) rfl (yB (jv 0 rfl qF)) rfl (by decide+kernel) (by decide+kernel) (λy hy hf=>absurd hf (by revert y; decide+kernel)) (jL (N:=nLam) rfl rfl (by decide+kernel)) (λcl C fp s H=>jBZ (i:=0) (j:=1) rfl (show (["number","ways"]:List Str).Nodup by decide+kernel) rfl rfl (by decide+kernel) (by decide+kernel)) (λcl C fp s H=>yH) (λcl C fp s H=>(jv 1 rfl jW)) yI) j8 jP) jP)⟩
def zhW (a c:Addr):Hp->Prop:=λH=>H a=some (.ext (nlP qLam lamA lamB lamS [] a c))/\H c=some (.ext (ncP qLam c))
theorem zhW.ok (a c:Addr):HpOk (zhW a c):=⟨λH H' D kvs hD _ k h=>⟨k _ _ h.1 λz=>(by rw[<- z,h.1] at hD; cases hD),k _ _ h.2 λz=>(by rw[<- z,h.2] at hD; cases hD)⟩,λH H' e h=>⟨e _ _ h.1,e _ _ h.2⟩⟩
theorem jUN {ch:Ch}(o:ChOk ch)(T:Txt mg):Callee P w K mg base ZT (zhW a c) 1 a (jDH ch (RWay ch)):=by
 refine Callee.imp (jQJ (fv:=[]) scLam (λvs H Q E h=>?_) (λpm ctv us hl=>?_) λA outer s H vs Q E hr h=>?_) λs H _=>⟨⟨λx y c h=>(by cases h),λx c h=>(by cases h)⟩,rfl,λi x v h=>(by cases h)⟩
 ·obtain⟨_,_,_,rfl,_⟩:=h
  rfl
 ·match us,hl with
  | [_],_=>rfl
 ·obtain⟨l,us,m,rfl,hl,hm,hf,av,q⟩:=h
  refine⟨_,(jP2 T).2.h,?_⟩
  have vl:us.length<=33:=by
   rw[av.len]
   have hlow:=yV hm hf
   refine bf (bh _ _) ?_
   rw[aC,aK hlow]
   exact o.len _ _ (aK hlow)
  refine⟨_,rfl,l,rfl,⟨_,SqL.of hl⟩,jBC (xs:=us) (λσ=>∃v1 v2,σ=[v1,v2]) (mapZ (chAt ch m) λc=>natV (wk ch (m|||c.2)).length) (mapZ.ok _ _) hl (by rw[aH]; lia) ⟨_,_,rfl⟩ ?_ ?_⟩
  ·rintro j x σ' H' zs hx ⟨v1,v2,rfl⟩ e hz S1 S2 yes no
   obtain⟨c,hc,p,u,rfl,hp,hR⟩:=av.get' hx
   have hR:u=natV (wk ch (m|||c.2)).length:=hR
   subst hR
   refine⟨p,_,rfl,SqT.of (e _ _ hp),rfl,_,_,rfl,_,_,rfl,rfl,?_⟩
   dsimp only [yW]
   rw[am rfl]
   exact⟨_,rfl,yes _ _ _ ⟨_,_,rfl⟩ (Ext.refl _) (hz.yes hc)⟩
  ·rintro D H' zs hD e nD hz
   have hz:=hz.all (by rw[av.len]; exact aq _)
   have hz2:zs=((chAt ch m).map λc=>((wk ch (m|||c.2)).length:Int)).map V.int:=by rw[hz,bz]; rfl
   rw[hz2] at hD
   refine⟨D,_,rfl,SqL.of hD,q _ _ ?_ e⟩
   show V.int _=natV _
   rw[yM o hm hf,jTA,bz]
   congr 1
   generalize chAt ch m=cs
   induction cs with
   | nil=>rfl
   | cons a r ih=>
    rw[aX,jz,aX,jz,ih]
    push_cast
    rfl
noncomputable abbrev nWays:List Str:=["choices"]
theorem scWays:FnScope nWays ["choices"] (jA qI):= {}
abbrev TabW (H:Hp)(tb:Addr):Prop:=TabOk H tb lamP qLam
def jHM:Sp:=spEx (λx:Addr×Addr×Ch=>ChOk x.2.2) λx=>jIL x.1 (zhW x.1 x.2.1) x.2.2 (RWay x.2.2)
def jIJ (tb:Addr):Sp:=λvs H Q _=>∃(L:Addr) (ch:Ch),vs=[.ref L]/\ChAt H L ch/\ChOk ch/\TabW H tb/\∀(r:Addr) (ns:List Nat) (H':Hp),GotAt H' r ch (RWay ch) ns->ns.Pairwise (· > ·)->MetOk ch ns->ExtT tb H H'->TabW H' tb->H r=none->Q (.ref r) H'
def waysA (T:Txt mg)(CH:PySem.W.CodeHd base c0 tb)(BM:BltAt base mg)(CG:Can P w K mg base "gathered" 4 fG fdG ["choices","at_end","join"] jHM)(hr:Room 4 (XOf nWays "ways_of" qI P w K mg base f (.ref c0) A outer s H0 E).A): { t:TS // JSs (XOf nWays "ways_of" qI P w K mg base f (.ref c0) A outer s H0 E) (jC qI) t} :=
 have nd:=scWays.nd
 ⟨_,(jD (jV (CG.je hr gD (j3 (jv 0 rfl vL) (j3 je_int (j3 (jQF rfl CH BM (λy hy hf=>absurd hf (by revert y; decide+kernel)) rfl) j8 jTO) jG) j4) j4)))⟩
theorem jS2 {fd:FuncData}(F:FunC K "ways_of" "ways_of" qI f fd c0)(T:Txt mg)(CH:PySem.W.CodeHd base c0 tb)(BM:BltAt base mg)(CG:Can P w K mg base "gathered" 4 fG fdG ["choices","at_end","join"] jHM):FnOk P w K mg base CX0 5 f fd ["choices"] (jIJ tb):=by
 refine F.ok scWays (λvs H Q E h=>?_) (λA outer s H vs Q E hr h=>?_)
 ·obtain⟨_,_,rfl,_⟩:=h
  rfl
 ·obtain⟨L,ch,rfl,hL,o,tab,q⟩:=h
  refine⟨_,(waysA T CH BM CG hr).2.h,?_⟩
  refine⟨_,rfl,tab,λa c H1 k1 k2 k3 e1 na=>?_⟩
  have hL1:ChAt H1 L ch:=hL.keep (λb xs h=>e1.at tab h) λb xs h=>e1.at tab h
  refine⟨(a,c,ch),o,L,_,rfl,hL1,?_,⟨k1,k2⟩,λr ns H2 got srt mt e2 n2=>?_⟩
  ·show V.int 1=natV _
   rw[yN]
   rfl
  ·refine q r ns H2 got srt mt (λb o hb hn=>e2 _ _ (e1 b o hb hn)) (.inr ⟨c,e2 _ _ k3,e2 _ _ k2⟩) ?_
   cases z:H r with
   | none=>rfl
   | some o=>
    by_cases hr:r=tb
    ·rw[hr,k3] at n2
     cases n2
    ·rw[e1 _ _ z hr] at n2
     cases n2
noncomputable abbrev nMany:List Str:=["box"]
theorem scMany:FnScope nMany ["box"] (jA sMany):= {}
def jIK (tb:Addr):Sp:=λvs H Q _=>∃(b:Addr) (w:Int) (ms:List Int) (pcs:List (List Int×Int)),vs=[.ref b]/\BoxAt H b w ms pcs/\Good 16 32 w ms pcs/\TabW H tb/\∀H',ExtT tb H H'->TabW H' tb->Q (natV (wk (chs w.toNat ms pcs) 0).length) H'
def manyA (T:Txt mg)(CC:Can P w K mg base "choices_of" 2 fC fdC ["box"] jA9)(CW:Can P w K mg base "ways_of" 5 fW fdW ["choices"] (jIJ tb))(hr:Room 5 (XOf nMany "many" sMany P w K mg base f cdv A outer s H0 E).A): { t:TS // JSs (XOf nMany "many" sMany P w K mg base f cdv A outer s H0 E) (jC sMany) t} :=
 have nd:=scMany.nd
 ⟨_,(jD (jV (jDR (yZ hr) (CW.je hr gD (j3 (CC.je (hr.mono (by decide)) gD (j3 (jv 0 rfl vL) j8 j4) j4) j8 jH) jH) je_int jI)))⟩
theorem jS5 {fd:FuncData}(F:Fun K "many" "many" sMany f fd)(T:Txt mg)(CC:Can P w K mg base "choices_of" 2 fC fdC ["box"] jA9)(CW:Can P w K mg base "ways_of" 5 fW fdW ["choices"] (jIJ tb)):FnOk P w K mg base CX0 6 f fd ["box"] (jIK tb):=by
 refine F.ok scMany (λvs H Q E h=>?_) (λcdv A outer s H vs Q E hr h=>?_)
 ·obtain⟨_,_,_,_,rfl,_⟩:=h
  rfl
 ·obtain⟨b,wi,ms,pcs,rfl,hB,g,tab,q⟩:=h
  refine⟨_,(manyA T CC CW hr).2.h,?_⟩
  refine⟨_,rfl,b,wi,ms,pcs,rfl,hB,g,λL H1 hL1 e1=>?_⟩
  refine⟨L,_,rfl,hL1,yU g,tab.ext e1,λr ns H2 got srt mt e2 t2 n2=>?_⟩
  obtain⟨u,dg,ru⟩:=got0 got srt mt
  have ru:u=natV _:=ru
  subst ru
  exact⟨r,_,rfl,dg,q H2 ((ExtT.of e1).trans e2) t2⟩
def rkP (pcs:List (List Int×Int))(x:List Int)(t:Int):Int:=((x.filter λk=>decide (t∈j7 pcs k))++[-1]).headD 0
def rkL (w:Nat)(pcs:List (List Int×Int))(x:List Int):List Int:=(upto w).map (rkP pcs x)
section
variable {x y:List Int}{t k:Int}
theorem jQ4 (h:t∈j7 pcs k):rkP pcs (k::x) t=k:=by
 unfold rkP
 rw[dM (by simpa using h)]
 rfl
theorem rk_no (h:t∉j7 pcs k):rkP pcs (k::x) t=rkP pcs x t:=by
 unfold rkP
 rw[dN (by simpa using h)]
theorem jDJ (h:∀k∈x,t∉j7 pcs k):rkP pcs x t= -1:=by
 unfold rkP
 rw[List.filter_eq_nil_iff.mpr λk hk=>by simpa using h k hk]
 rfl
theorem rk_is (hk:k∈x)(ht:t∈j7 pcs k)(u:∀k'∈x,t∈j7 pcs k'->k'=k):rkP pcs x t=k:=by
 induction x with
 | nil=>cases hk
 | cons a r ih=>
  by_cases h:t∈j7 pcs a
  ·rw[jQ4 h]
   exact u a (ag ..) h
  ·rw[rk_no h]
   rcases ar.mp hk with z | z
   ·rw[z] at ht
    exact absurd ht h
   ·exact ih z λk' hk'=>u k' (ah _ hk')
theorem jR6 (h:∀k,k∈x↔k∈y)(d:∀k∈x,∀k'∈x,k≠k'->∀t∈j7 pcs k,t∉j7 pcs k'):rkP pcs x t=rkP pcs y t:=by
 by_cases e:∃k∈x,t∈j7 pcs k
 ·obtain⟨k,hk,ht⟩:=e
  have u:∀k'∈x,t∈j7 pcs k'->k'=k:=λk' hk' ht'=>bP λn=>d k' hk' k hk n t ht' ht
  rw[rk_is hk ht u,rk_is ((h k).mp hk) ht λk' hk'=>u k' ((h k').mpr hk')]
 ·have e1:∀k∈x,t∉j7 pcs k:=λk hk ht=>e ⟨k,hk,ht⟩
  rw[jDJ e1,jDJ λk hk=>e1 k ((h k).mpr hk)]
end
theorem jLI (w:Nat)(pcs:List (List Int×Int))(x:List Int):(rkL w pcs x).length=w:=by
 unfold rkL
 rw[ae,jBO]
theorem jR7 {w t:Nat}{pcs:List (List Int×Int)}{x:List Int}(h:t<w):(rkL w pcs x)[t]?=some (rkP pcs x (t:Int)):=by
 unfold rkL
 rw[aJ,jCX h]
 rfl
theorem jT2 {w:Int}{ms:List Int}{pcs:List (List Int×Int)}{m:Nat}(hl:lowN m<w.toNat):(chAt (chs w.toNat ms pcs) m).Pairwise λa b=>a.1<b.1:=by
 unfold chAt
 refine fB _ ?_
 unfold chs
 rw[aC,kR hl]
 show (kZ ms pcs pcs.length (lowN m)).Pairwise _
 unfold kZ
 have up:∀n:Nat,(((upto pcs.length).take n).filter λk=>decide ((j7 pcs k).headD 0=(lowN m:Int))).Pairwise (· < ·):=λn=>fB _ ((jAC pcs.length).ris.sublist (de _ _))
 refine bO.mpr ⟨?_,be.mpr (up _),?_⟩
 ·split
  ·exact cj _ _
  ·exact List.Pairwise.nil
 ·intro a ha b hb
  obtain⟨k,hk,rfl⟩:=aW.mp hb
  have:=(jAC pcs.length).bnd k (bU (bF.mp hk).1)
  split at ha
  ·rw[ak.mp ha]
   show (-1:Int)<k
   lia
  ·cases ha
section
variable {w:Int}(g:Good 16 32 w ms pcs)
include g
theorem wk_rk {m:Nat}(hm:m<2 ^ (chs w.toNat ms pcs).length)(hn:m≠fullN (chs w.toNat ms pcs)){c:Int×Nat}(hc:c∈chAt (chs w.toNat ms pcs) m){y:List Int}(hy:y∈wk (chs w.toNat ms pcs) (m|||c.2)):
  (∀t:Nat,c.2.testBit t=true->rkP pcs (if c.1<0 then y else c.1::y) t=c.1)/\(∀t:Nat,c.2.testBit t=false->rkP pcs (if c.1<0 then y else c.1::y) t=rkP pcs y t):=by
 have o:=yU (n:=pcs.length) g
 have hl:lowN m<w.toNat:=by
  have:=yV hm hn
  unfold chs at this
  rwa [kN] at this
 have u:=o.up hm hn hc
 have S:=jAS g _ u.2 y hy
 rcases ((jB1 hl).mp hc).2 with ⟨rfl,h2⟩ | ⟨k,rfl,k0,k1,h2⟩
 ·refine⟨λt ht=>?_,λt ht=>?_⟩
  ·rw[am (by show (-1:Int)<0; decide)]
   refine jDJ λk hk z=>?_
   have:=S.off k hk _ z
   rw[br,bZ,ht,ga] at this
   cases this
  ·rw[am (by show (-1:Int)<0; decide)]
 ·refine⟨λt ht=>?_,λt ht=>?_⟩
  ·rw[aj (by show ¬k<0; lia)]
   rw[show (k,maskN (j7 pcs k)).2=maskN (j7 pcs k) from rfl,jCR g k0 k1] at ht
   exact jQ4 (aU ht)
  ·rw[aj (by show ¬k<0; lia)]
   rw[show (k,maskN (j7 pcs k)).2=maskN (j7 pcs k) from rfl,jCR g k0 k1] at ht
   exact rk_no (dZ ht)
end
theorem jG9 {H:Hp}{vs:List V}{pcs:List (List Int×Int)}(h:PcsAt H vs pcs){k:Int}(h0:0<=k)(h1:k<pcs.length):∃a q,atI vs k=some (.ref a)/\H a=some (.tup [.ref q, .int (pcs.getD k.toNat ([],0)).2])/\H q=some (.tup ((j7 pcs k).map V.int)):=by
 obtain⟨v,hv,a,q,rfl,b1,b2⟩:=h.get (k:=k.toNat) (by lia)
 refine⟨a,q,?_,b1,b2⟩
 have e:((k.toNat:Nat):Int)=k:=by lia
 have:=jB2 hv
 rw[e] at this
 exact this
theorem jSE {w:Int}{ts:List Int}(h:ts.Pairwise (· < ·))(b:∀z∈ts,0<=z/\z<w)(hw:w<=16):ts.length<=16:=by
 have:=jAY ts 0 w h b
 lia
theorem jJS {w:Int}{ms:List Int}{pcs:List (List Int×Int)}(g:Good 16 32 w ms pcs){k:Int}(h0:0<=k)(h1:k<pcs.length):(j7 pcs k).length<=16:=by
 have:=g.at (k:=k.toNat) (by lia)
 exact jSE this.lot.ris this.lot.bnd g.w1
theorem jLH {w:Int}{ms:List Int}{pcs:List (List Int×Int)}(g:Good 16 32 w ms pcs){n:Nat}{x:List Int}(h:(wk (chs w.toNat ms pcs) 0)[n]?=some x):rkL w.toNat pcs (srt x)=rkL w.toNat pcs x:=by
 have S:=jAS g 0 (dR _) x (aE h)
 unfold rkL
 exact bo λt _=>(jR6 (λk=>(jAD x).mem_iff.symm) S.dis).symm
def heldBy (pcs:List (List Int×Int))(ks:List Int)(t:Int):Nat:=ks.countP λk=>decide (t∈j7 pcs k)
def okT (ms:List Int)(n:Nat)(t:Int):Bool:=decide (n<=1)&&(decide (n=1) || decide (t∈ms))
def covI (w:Int)(ms:List Int)(pcs:List (List Int×Int))(ks:List Int):Bool:=(upto w.toNat).all λt=>okT ms (heldBy pcs ks t) t
theorem jQW {l:List Int}{a b:Int}(ha:a∈l)(hb:b∈l)(ne:a≠b):2<=l.length:=by
 match l,ha,hb with
 | [x],ha,hb=>exact absurd ((ak.mp ha).trans (ak.mp hb).symm) ne
 | x::y::r,_,_=>rw[aP,aP]; lia
theorem jRZ {l:List Int}(nd:l.Nodup)(h:∀a∈l,∀b∈l,a=b):l.length<=1:=by
 match l,nd,h with
 | [],_,_=>exact bi _
 | [x],_,_=>exact aq _
 | x::y::r,nd,h=>
  have:=h x (ag ..) y (ah _ (ag ..))
  subst this
  exact absurd (ag ..) (bJ.mp nd).1
theorem jJH {w:Int}{ms:List Int}{pcs:List (List Int×Int)}(g:Good 16 32 w ms pcs){c:List Int}(r:Ris pcs.length c):covI w ms pcs c=true↔IsCov w ms pcs c:=by
 have cn:c.Nodup:=r.ris.imp λ{a b} h=>by lia
 have hl:∀t,heldBy pcs c t=(c.filter λk=>decide (t∈j7 pcs k)).length:=λt=>by
  unfold heldBy
  rw[ix]
 have mem:∀t k,k∈(c.filter λk=>decide (t∈j7 pcs k))↔k∈c/\t∈j7 pcs k:=λt k=>by rw[bF,cb]
 have w0:=g.w0
 unfold covI
 rw[cM]
 constructor
 ·intro h
  have h':∀t:Int,0<=t->t<w->heldBy pcs c t<=1/\(heldBy pcs c t=1\/t∈ms):=λt t0 t1=>by
   have:=h t (aE (by have:=jCX (n:=w.toNat) (i:=t.toNat) (by lia); rwa [show ((t.toNat:Nat):Int)=t by lia] at this))
   unfold okT at this
   simpa using this
  refine⟨r,λk hk k' hk' ne t ht ht'=>?_,λt t0 t1 hm=>?_⟩
  ·have kb:=(jAM g (r.bnd k hk).1 (r.bnd k hk).2).bnd t ht
   have:=(h' t kb.1 kb.2).1
   rw[hl] at this
   have:=jQW ((mem t k).mpr ⟨hk,ht⟩) ((mem t k').mpr ⟨hk',ht'⟩) ne
   lia
  ·have:=(h' t t0 t1).2.resolve_right hm
   rw[hl] at this
   obtain⟨k,hk⟩:=List.exists_mem_of_length_pos (l:=c.filter λk=>decide (t∈j7 pcs k)) (by lia)
   exact⟨k,(mem t k).mp hk⟩
 ·intro C t ht
  have tb:=(jAC w.toNat).bnd t ht
  have l1:heldBy pcs c t<=1:=by
   rw[hl]
   refine jRZ (cn.sublist iE) λa ha b hb=>bP λne=>?_
   have ha:=(mem t a).mp ha
   have hb:=(mem t b).mp hb
   exact C.dis a ha.1 b hb.1 ne t ha.2 hb.2
  unfold okT
  rw[aB l1,Bool.true_and]
  by_cases hm:t∈ms
  ·rw[aB hm,ga]
  ·obtain⟨k,hk,hkt⟩:=C.cov t tb.1 (by lia) hm
   have:=List.length_pos_of_mem ((mem t k).mpr ⟨hk,hkt⟩)
   rw[<- hl] at this
   rw[aB (show heldBy pcs c t=1 by lia),Bool.true_or]
theorem jT4 {α:Type}{l:List α}{F:α->Bool}{i:Nat}{x:α}(h:l[i]?=some x)(e:F x=false):l.all F=false:=by
 rw[gO]
 intro q
 rw[cM] at q
 have:=q x (aE h)
 rw[e] at this
 cases this
theorem jK9 (pcs:List (List Int×Int))(ks:List Int)(t:Int):(((ks.filter λk=>decide (t∈j7 pcs k)).map V.int).length)=heldBy pcs ks t:=by
 rw[ae]
 unfold heldBy
 rw[ix]
abbrev jF0:List Str:=["box","some","thing","holders"]
theorem scCovers:FnScope jF0 ["box","some"] (jA jAX):= {}
def jCZ:Sp:=λvs H Q _=>∃(b a:Addr) (w:Int) (ms:List Int) (pcs:List (List Int×Int)) (ks:List Int),vs=[.ref b, .ref a]/\BoxAt H b w ms pcs/\Good 16 32 w ms pcs/\H a=some (.tup (ks.map V.int))/\(∀k∈ks,0<=k/\k<pcs.length)/\ks.length<=100/\∀H',Ext H H'->Q (.bl (covI w ms pcs ks)) H'
def jT0 (T:Txt mg)(hr:Room 0 (XOf jF0 "_law_covers" jAX P w K mg base f cdv A outer s H0 E).A): { t:TS // JSs (XOf jF0 "_law_covers" jAX P w K mg base f cdv A outer s H0 E) (jC jAX) t} :=
 have nd:=scCovers.nd
 ⟨_,(jB (yT bX rfl (jAJ gD T.range (j3 (kJ yL (jv 0 rfl vC) (je_int) jI) j8 yF) yF) (jJ (i:=2) nd rfl loc_c) (jB (jQ (i:=3) nd rfl lL (jE jU gD T.len (by decide+kernel) (j3 (yE (m:=[none,some 2,some 0]) (Nc:=["k","thing","box"]) rfl (jGN (jv 1 rfl vL)) rfl (by decide+kernel) (by decide+kernel) (jT (psc:=jA jAX)) (jL (N:=jF0) rfl rfl (by decide+kernel)) (λcl C fp s H=>jJ (i:=0) (show (["k","thing","box"]:List Str).Nodup by decide+kernel) rfl qG) (λcl C fp s H=>jCG (jY jLT (jv 1 rfl yJ) (kJ jAK (kJ jAK (kJ jAK (jv 2 rfl yJ) (je_int) jI) (jv 0 rfl jW) jBI) (je_int) jI) jGF)) (λcl C fp s H=>(jv 0 rfl jW)) yI) j8 jP) jP) kB)
   (jD (yY (jt_w (jw_or (jY op_gt (jv 3 rfl vL) (je_int) (jX _)) (jJ4 (jt_w (jUY (jY qK (jv 3 rfl vL) (je_int) (jX _)) (jSI (jY jGC (jv 2 rfl vC) (kJ yL (jv 0 rfl vC) (je_int) jI) jGF))))))) (jD (jV (je_bl))) kU))) kO)
   (jD (jV (je_bl))))⟩
theorem jLV {fd:FuncData}(F:Fun K "_law_covers" "_law_covers" jAX f fd)(T:Txt mg):FnOk P w K mg base CX0 1 f fd ["box","some"] jCZ:=by
 refine F.ok scCovers (λvs H Q E h=>?_) (λcdv A outer s H vs Q E hr h=>?_)
 ·obtain⟨_,_,_,_,_,_,rfl,_⟩:=h
  rfl
 ·obtain⟨b,a,w,ms,pcs,ks,rfl,hB,g,ha,hbnd,hlen,q⟩:=h
  obtain⟨qm,qp,ps,b1,b2,b3,b4⟩:=hB.ex
  have w0:=g.w0
  have w1:=g.w1
  refine⟨_,(jT0 T hr).2.h,?_⟩
  refine⟨_,rfl,b,_,0,_,rfl,rfl,SqT.of b1,rfl,w,rfl,by lia,by lia,jC2 (λi σ H'=>(∃v2 v3,σ=[some (.ref b),some (.ref a),v2,v3])/\Ext H H'/\((upto w.toNat).take i).all (λt=>okT ms (heldBy pcs ks t) t)=true) ⟨⟨_,_,rfl⟩,Ext.refl _,rfl⟩ ?_ ?_⟩
  ·rintro i σ H2 hi ⟨⟨v2,v3,rfl⟩,e2,hp⟩
   have no:∀H',Ext H2 H'->okT ms (heldBy pcs ks i) i=false->Q (.bl false) H':=λH' e' z=>qb (q H' (e2.trans e')) (jT4 (jCX hi) z)
   refine⟨_,rfl,a,rfl,⟨_,SqT.of (e2 _ _ ha)⟩,jFE (xs:=ks.map V.int) (by rw[ae,aH]; lia) (λD j σ' H' zs=>(∃v,σ'=[v,some (.int (0+(i:Int))),some (.ref b)])/\zs=((ks.take j).filter (λk=>decide ((i:Int)∈j7 pcs k))).map V.int/\H'=upd H2 D (.lst zs)) ?_ ?_ ?_ ?_⟩
   ·intro D hD
    exact⟨⟨_,rfl⟩,rfl,rfl⟩
   ·rintro D j σ' H' zs hD ⟨_,rfl,rfl⟩
    refine⟨?_,j5,?_⟩
    ·rw[j6 (j9 (e2 _ _ ha) hD)]
     exact e2 _ _ ha
    ·rw[ae]
     exact bf (bh _ _) (by rw[bM]; lia)
   ·rintro D j σ' H' zs x hD hj ⟨⟨v,rfl⟩,rfl,rfl⟩
    have hj':j<ks.length:=by
     have:=(ax.mp hj).1
     rwa [ae] at this
    rw[getI hj'] at hj
    cases hj
    have hmem:ks.getD j 0∈ks:=by
     have:ks.getD j 0=ks[j]:=by simp [List.getD,hj']
     rw[this]
     exact dz hj'
    have hb:=hbnd _ hmem
    have eD:Ext H (upd H2 D (.lst (((ks.take j).filter (λk=>decide ((i:Int)∈j7 pcs k))).map V.int))):=e2.new hD _
    obtain⟨pa,pq,wt,c1,c2,c3⟩:=jOF (b4.mono λb xs h=>eD b _ h) hb.1 hb.2
    have htk:ks.take (j+1)=ks.take j++[ks.getD j 0]:=by
     rw[bu,aC]
     simp [hj']
    refine⟨_,rfl,_,rfl,b,_,2,_,rfl,rfl,SqT.of (eD _ _ b1),rfl,_,rfl,qp,_,_,_,rfl,rfl,SqT.of (eD _ _ b3),c1,pa,_,0,_,rfl,rfl,SqT.of c2,rfl,pq,_,rfl, .inr (SqT.of c3),rfl,jB4 _,_,rfl,?_⟩
    have ein:inV (.int (0+(i:Int))) ((j7 pcs (ks.getD j 0)).map V.int)=decide ((i:Int)∈j7 pcs (ks.getD j 0)):=by rw[jC0,iM]
    show if inV (.int (0+(i:Int))) ((j7 pcs (ks.getD j 0)).map V.int)=true then _ else _
    rw[ein]
    refine ite2 (λhy=>?_) (λhy=>?_)
    ·refine⟨_,rfl,j5,⟨_,rfl⟩,?_,jC8⟩
     rw[htk,bH,ba,dX,am hy]
     rfl
    ·refine⟨⟨_,rfl⟩,?_,?_⟩
     ·rw[htk,bH,ba,dX,aj hy]
      simp
     ·rfl
   ·rintro D σ' H' zs hD ⟨_,rfl,rfl⟩
    refine⟨D,_,rfl, .inl (SqL.of j5),?_⟩
    have e3:Ext H2 (upd H2 D (.lst (((ks.take (ks.map V.int).length).filter (λk=>decide ((i:Int)∈j7 pcs k))).map V.int))):=(Ext.refl _).new hD _
    generalize upd H2 D (.lst (((ks.take (ks.map V.int).length).filter (λk=>decide ((i:Int)∈j7 pcs k))).map V.int))=H3 at e3 ⊢
    have hcn:(((ks.take (ks.map V.int).length).filter (λk=>decide ((i:Int)∈j7 pcs k))).map V.int).length=heldBy pcs ks i:=by
     rw[show (ks.map V.int).length=ks.length from ae _,bI]
     exact jK9 pcs ks i
    rw[hcn]
    have E3:=e2.trans e3
    refine⟨_,rfl,_,_,rfl,rfl,_,rfl,ite2 (λh1=>?_) (λh1=>?_)⟩
    ·have h1:(1:Int)<((heldBy pcs ks i:Nat):Int):=aU h1
     refine iteT (no H3 e3 ?_)
     unfold okT
     rw[aV (show ¬heldBy pcs ks i<=1 by lia)]
     rfl
    ·have h1:¬(1:Int)<((heldBy pcs ks i:Nat):Int):=λh=>h1 (aB h)
     have nx:okT ms (heldBy pcs ks i) i=true->(∃v2' v3',([some (.ref b),some (.ref a),some (.int (0+(i:Int))),some (.int ((heldBy pcs ks i:Nat):Int))]:St)=[some (.ref b),some (.ref a),v2',v3'])/\Ext H H3/\((upto w.toNat).take (i+1)).all (λt=>okT ms (heldBy pcs ks t) t)=true:=λz=>by
      refine⟨⟨_,_,rfl⟩,E3,?_⟩
      rw[jDA hi,List.all_append,hp,gm,z]
      rfl
     refine⟨_,rfl,rfl,_,rfl,ite2 (λh2=>?_) (λh2=>?_)⟩
     ·have h2:=V.int.inj (aU h2)
      refine⟨_,rfl,_,rfl,b,_,1,_,rfl,rfl,SqT.of (E3 _ _ b1),rfl,qm,_,rfl, .inr (SqT.of (E3 _ _ b2)),rfl,jB4 _,_,rfl,?_⟩
      have ein:inV (.int (0+(i:Int))) (ms.map V.int)=decide ((i:Int)∈ms):=by rw[jC0,iM]
      show if (!inV (.int (0+(i:Int))) (ms.map V.int))=true then _ else _
      rw[ein]
      refine ite2 (λh3=>?_) (λh3=>?_)
      ·refine no H3 e3 ?_
       unfold okT
       rw[aV (show ¬heldBy pcs ks i=1 by lia)]
       have h3:decide ((i:Int)∈ms)=false:=by simpa using h3
       rw[h3]
       simp
      ·refine nx ?_
       unfold okT
       have h3:decide ((i:Int)∈ms)=true:=by simpa using h3
       rw[h3,aB (show heldBy pcs ks i<=1 by lia)]
       simp
     ·have h2:¬heldBy pcs ks i=0:=λh=>h2 (aB (by rw[h]; rfl))
      refine iteF (nx ?_)
      unfold okT
      rw[aB (show heldBy pcs ks i<=1 by lia),aB (show heldBy pcs ks i=1 by lia)]
      rfl
  ·rintro σ H2 ⟨⟨v2,v3,rfl⟩,e2,hp⟩
   refine qb (q H2 e2) ?_
   have:(upto w.toNat).take w.toNat=upto w.toNat:=by
    have:=bI (l:=upto w.toNat)
    rw[jBO] at this
    exact this
   rw[this] at hp
   exact hp
def RkLt (w:Nat)(pcs:List (List Int×Int))(y z:List Int):Prop:=∃t:Nat,t<w/\(∀s:Nat,s<t->rkP pcs y s=rkP pcs z s)/\rkP pcs y t<rkP pcs z t
theorem jUT {a b:List Int} :∀{t:Nat},t<a.length->t<b.length->(∀s:Nat,s<t->a.getD s 0=b.getD s 0)->a.getD t 0<b.getD t 0->HT.lexLt a b=true:=by
 induction a generalizing b with
 | nil=>intro t h; exact absurd h (dQ _)
 | cons x r ih=>
  intro t h1 h2 h3 h4
  cases b with
  | nil=>exact absurd h2 (dQ _)
  | cons y q=>
   unfold HT.lexLt
   cases t with
   | zero=>
    have h5:x<y:=h4
    have h6:x≠y:=by lia
    simp [h5,h6]
   | succ t=>
    have e:x=y:=h3 0 (by lia)
    have:=ih (b:=q) (t:=t) (by simpa using h1) (by simpa using h2) (λs hs=>h3 (s+1) (by lia)) h4
    simp [e,this]
theorem RkLt.lex {w:Nat}{pcs:List (List Int×Int)}{y z:List Int}(h:RkLt w pcs y z):HT.lexLt (rkL w pcs y) (rkL w pcs z)=true:=by
 obtain⟨t,h1,h2,h3⟩:=h
 have gd:∀(x:List Int) (s:Nat),s<w->(rkL w pcs x).getD s 0=rkP pcs x s:=λx s hs=>by
  rw[aC,jR7 hs]
  rfl
 refine jUT (t:=t) (by rw[jLI]; exact h1) (by rw[jLI]; exact h1) (λs hs=>?_) ?_
 ·rw[gd _ _ (by lia),gd _ _ (by lia)]
  exact h2 s hs
 ·rw[gd _ _ h1,gd _ _ h1]
  exact h3
section
variable {w:Int}(g:Good 16 32 w ms pcs)
include g
theorem jT6:∀m,m<2 ^ (chs w.toNat ms pcs).length->(wk (chs w.toNat ms pcs) m).Pairwise (RkLt w.toNat pcs):=by
 have o:ChOk (chs w.toNat ms pcs):=yU g
 refine jAT o ?_ ?_
 ·rw[yN]
  exact cj _ _
 ·intro m hm hn ih
  have hl:lowN m<w.toNat:=by
   have:=yV hm hn
   unfold chs at this
   rwa [kN] at this
  have step:=yM o hm hn
  have mem:∀c∈chAt (chs w.toNat ms pcs) m,∀y∈wk (chs w.toNat ms pcs) (m|||c.2),(if c.1<0 then y else c.1::y)∈wk (chs w.toNat ms pcs) m:=λc hc y hy=>by
   rw[step,mem_wJ]
   exact⟨_,aW.mpr ⟨c,hc,rfl⟩,y,hy,rfl⟩
  rw[step]
  unfold wJ
  rw[lR]
  refine⟨λa ha=>?_,?_⟩
  ·obtain⟨c,hc,rfl⟩:=aW.mp ha
   show (List.map (λx=>if c.1<0 then x else c.1::x) (wk (chs w.toNat ms pcs) (m|||c.2))).Pairwise _
   rw[be]
   have u:=o.up hm hn hc
   refine(dw.mp (ih c hc)).imp λ{y z} h=>?_
   obtain⟨hy,hz,t,h1,h2,h3⟩:=h
   obtain⟨y1,y2⟩:=wk_rk g hm hn hc hy
   obtain⟨z1,z2⟩:=wk_rk g hm hn hc hz
   have off:∀x∈wk (chs w.toNat ms pcs) (m|||c.2),∀s:Nat,c.2.testBit s=true->rkP pcs x s= -1:=λx hx s hs=>jDJ λk hk z=>by
    have:=(jAS g _ u.2 x hx).off k hk _ z
    rw[br,bZ,hs,ga] at this
    cases this
   have ct:c.2.testBit t=false:=by
    cases q:c.2.testBit t with
    | false=>rfl
    | true=>rw[off y hy t q,off z hz t q] at h3; exact absurd h3 (Int.lt_irrefl _)
   refine⟨t,h1,λs hs=>?_,by rw[y2 t ct,z2 t ct]; exact h3⟩
   cases q:c.2.testBit s with
   | true=>rw[y1 s q,z1 s q]
   | false=>rw[y2 s q,z2 s q]; exact h2 s hs
  ·rw[be]
   refine(dw.mp (jT2 (w:=w) (ms:=ms) (pcs:=pcs) hl)).imp λ{c d} h=>?_
   obtain⟨hc,hd,lt⟩:=h
   intro y hy z hz
   obtain⟨y',hy',rfl⟩:=aW.mp hy
   obtain⟨z',hz',rfl⟩:=aW.mp hz
   have off:∀x∈wk (chs w.toNat ms pcs) m,∀s:Nat,s<lowN m->rkP pcs x s= -1:=λx hx s hs=>jDJ λk hk z=>by
    have:=(jAS g _ hm x hx).off k hk _ z
    rw[br,jCE m s hs] at this
    cases this
   refine⟨lowN m,hl,λs hs=>?_,?_⟩
   ·rw[off _ (mem c hc y' hy') s hs,off _ (mem d hd z' hz') s hs]
   ·rw[(wk_rk g hm hn hc hy').1 _ (o.mem hm hn hc).1,(wk_rk g hm hn hd hz').1 _ (o.mem hm hn hd).1]
    exact lt
theorem jSY:(cvs w ms pcs).Pairwise λa b=>HT.lexLt (rkL w.toNat pcs a) (rkL w.toNat pcs b)=true:=by
 unfold cvs
 rw[be]
 refine(dw.mp (jT6 g 0 (dR _))).imp λ{y z} h=>?_
 obtain⟨hy,hz,h⟩:=h
 obtain⟨i,hi⟩:=bw hy
 obtain⟨j,hj⟩:=bw hz
 rw[jLH g hi,jLH g hj]
 exact h.lex
end
theorem jGB {α:Type}{f:α->List Int} :∀{l m:List α},l.Perm m->l.Pairwise (λa b=>HT.lexLt (f b) (f a)=false)->m.Pairwise (λa b=>HT.lexLt (f a) (f b)=true)->l=m
 | [],m,p,_,_=>p.nil_eq
 | a::l,[],p,_,_=>absurd p.length_eq (by simp)
 | a::l,b::m,p,h1,h2=>by
  obtain⟨a1,a2⟩:=cH.mp h1
  obtain⟨b1,b2⟩:=cH.mp h2
  have e:a=b:=by
   rcases ar.mp (p.mem_iff.mp (ag ..)) with z | z
   ·exact z
   ·rcases ar.mp (p.mem_iff.mpr (ag ..)) with y | y
    ·exact y.symm
    ·have:=b1 a z
     rw[a1 b y] at this
     cases this
  subst e
  rw[jGB (List.perm_cons a |>.mp p) a2 b2]
end Eo
namespace L2
mutual
def wid:Tr->Nat
 | .lst ts=>max ts.length (wids ts)
 | .tup ts=>max ts.length (wids ts)
 | _=>0
def wids:List Tr->Nat
 | []=>0
 | t::ts=>max (wid t) (wids ts)
end
theorem jQT {ts:List Tr}{t:Tr}(h:t∈ts):wid t<=wids ts:=by
 induction ts with
 | nil=>cases h
 | cons a r ih=>
  rw[wids]
  rcases ar.mp h with q | q
  ·subst q; lia
  ·have:=ih q; lia
end L2
namespace Eo
open PySem L2
abbrev jQ9:List Str:=["found"]
noncomputable abbrev nSame:List Str:=["found","due"]
theorem scWhole:FnScope jQ9 ["found"] (jA jDI):= {}
theorem scSame:FnScope nSame ["found","due"] (jA sSame):= {}
def jDF:Sp:=λvs H Q _=>∃i:Int,vs=[.int i]/\Q (.bl true) H
def jT8 {f:Addr}{cdv:Value}{A:Around}{outer:List Env}{s:Shared}{H:Hp}{E:XK}(T:Txt mg): { t:TS // JSs (XOf jQ9 "_law_whole" jDI P w K mg base f cdv A outer s H E) (jC jDI) t} :=
 have nd:=scWhole.nd
 ⟨_,(jD (jV ((jEI (jE jZ gD T.isinstance (by decide+kernel) (j3 (jv 0 rfl vL) (j3 (yR (v:= .ty "int") gD T.int (by decide+kernel) rfl) j8 j4) j4) j4) (jEH (jV3 (jE jZ gD T.isinstance (by decide+kernel) (j3 (jv 0 rfl vL) (j3 (yR (v:= .ty "bool") gD T.bool (by decide+kernel) rfl) j8 j4) j4) j4)))))))⟩
theorem jOM {f:Addr}{fd:FuncData}(F:Fun K "_law_whole" "_law_whole" jDI f fd)(T:Txt mg):FnOk P w K mg base CX0 1 f fd ["found"] jDF:=by
 refine F.ok scWhole (λvs H Q E h=>?_) (λcdv A outer s H vs Q E hr h=>?_)
 ·obtain⟨_,rfl,_⟩:=h
  rfl
 ·obtain⟨i,rfl,q⟩:=h
  refine⟨_,(jT8 T).2.h,?_⟩
  refine⟨_,rfl,_,_,_,true,rfl, .int i,rfl,true,rfl,?_⟩
  rw[am rfl]
  exact⟨_,rfl,_,_,_,false,rfl, .int i,rfl,false,rfl,q⟩
def sameA {k:Nat}{spS:Sp}{f fW fS:Addr}{fdW fdS:FuncData}{cdv:Value}{A:Around}{outer:List Env}{s:Shared}{H:Hp}{E:XK}(T:Txt mg)(CW:Can P w K mg base "_law_whole" 1 fW fdW ["found"] jDF)(CS:Can P w K mg base "_law_same" (k+1) fS fdS ["found","due"] spS)
  (hr:Room (k+1) (XOf nSame "_law_same" sSame P w K mg base f cdv A outer s H E).A): { t:TS // JSs (XOf nSame "_law_same" sSame P w K mg base f cdv A outer s H E) (jC sSame) t} :=
 have nd:=scSame.nd
 ⟨_,(jB (yY (jY jQ8 (jv 1 rfl vL) (jQE) (jX _)) (jD (jV (jBL jQ8 (jv 0 rfl vL) (jQE) (jX _)))) kU)
   (jB (yY (jBY (jE jZ gD T.isinstance (by decide+kernel) (j3 (jv 1 rfl vL) (j3 (yR (v:= .ty "bool") gD T.bool (by decide+kernel) rfl) j8 j4) j4) j4) jAV) (jD (jV ((jEI (jE jZ gD T.isinstance (by decide+kernel) (j3 (jv 0 rfl vL) (j3 (yR (v:= .ty "bool") gD T.bool (by decide+kernel) rfl) j8 j4) j4) j4) (jEH (jBL qK (jv 0 rfl vL) (jv 1 rfl vL) (jX _))))))) kU)
   (jB (yY (jBY (jE jZ gD T.isinstance (by decide+kernel) (j3 (jv 1 rfl vL) (j3 (yR (v:= .ty "int") gD T.int (by decide+kernel) rfl) j8 j4) j4) j4) jAV) (jD (jV ((jEI (CW.je (hr.mono (by lia)) gD (j3 (jv 0 rfl vL) j8 j4) j4) (jEH (jBL qK (jv 0 rfl vL) (jv 1 rfl vL) (jX _))))))) kU)
   (jB (yY (jBY (jE jZ gD T.isinstance (by decide+kernel) (j3 (jv 1 rfl vL) (j3 (yR (v:= .ty "str") gD T.str (by decide+kernel) rfl) j8 j4) j4) j4) jAV) (jD (jV ((jEI (jE jZ gD T.isinstance (by decide+kernel) (j3 (jv 0 rfl vL) (j3 (yR (v:= .ty "str") gD T.str (by decide+kernel) rfl) j8 j4) j4) j4) (jEH (jBL qK (jv 0 rfl vL) (jv 1 rfl vL) (jX _))))))) kU)
   (jB (yY (jt_w (jw_or (jY op_ne (jE jZ gD T.isinstance (by decide+kernel) (j3 (jv 1 rfl vL) (j3 (yR (v:= .ty "tuple") gD T.tuple (by decide+kernel) rfl) j8 j4) j4) j4) (jE jZ gD T.isinstance (by decide+kernel) (j3 (jv 0 rfl vL) (j3 (yR (v:= .ty "tuple") gD T.tuple (by decide+kernel) rfl) j8 j4) j4) j4) (jX _)) (jJ4 (jY op_ne (jE jZ gD T.isinstance (by decide+kernel) (j3 (jv 1 rfl vL) (j3 (yR (v:= .ty "list") gD T.list (by decide+kernel) rfl) j8 j4) j4) j4) (jE jZ gD T.isinstance (by decide+kernel) (j3 (jv 0 rfl vL) (j3 (yR (v:= .ty "list") gD T.list (by decide+kernel) rfl) j8 j4) j4) j4) (jX _))))) (jD (jV (je_bl))) kU)
   (jD (jV ((jEI (jBL qK (jE jU gD T.len (by decide+kernel) (j3 (jv 0 rfl vL) j8 j4) j4) (jE jU gD T.len (by decide+kernel) (j3 (jv 1 rfl vL) j8 j4) j4) (jX _)) (jEH (jE (jNT rfl) gD T.all (by decide+kernel) (j3 (yE (m:=[none,none]) (Nc:=["one","other"]) rfl (jV2 gD T.zip (j3 (jv 0 rfl vL) (j3 (jv 1 rfl vL) j8 j4) j4) j4) rfl (by decide+kernel) (by decide+kernel) (jT (psc:=jA sSame)) (jL (N:=nSame) rfl rfl (by decide+kernel)) (λcl C fp s H=>jBZ (i:=0) (j:=1) rfl (show (["one","other"]:List Str).Nodup by decide+kernel) rfl rfl (by decide+kernel) (by decide+kernel)) (λcl C fp s H=>yH) (λcl C fp s H=>(CS.je hr gl_b (j3 (jv 0 rfl jW) (j3 (jv 1 rfl jW) j8 j4) j4) j4)) kO) j8 jP) jP)))))))))))⟩
def spNo:Sp:=λ_ _ _ _=>False
theorem ok_no {k:Nat}{f:Addr}{fd:FuncData}{ps:List Str} :FnOk P w K mg base CX0 k f fd ps spNo:=⟨λ_ _ _ _ h=>h.elim,λ_ _ _ _ _ _ _ _ _ _ _ _ _ h=>h.elim⟩
def jDG (d:Nat):Sp:=λvs H Q _=>∃(x y:V) (t:Tr),vs=[x,y]/\TAt H t x/\TAt H t y/\dep t<=d/\wid t<=1000000/\∀H',Ext H H'->Q (.bl true) H'
def jQ1:Nat->Sp
 | 0=>spNo
 | d+1=>jDG d
theorem jPR (n:Nat):(replicate n true).all id=true:=by
 induction n with
 | zero=>rfl
 | succ n ih=>rw[di,gm,ih]; rfl
theorem jIP (d:Nat)(tp:Bool){H:Hp}{p q:Addr}{ts:List Tr}{vs ws:List V}{Q:VK}
  (hp:Sq tp K H p vs) (hq:Sq tp K H q ws) (ex:∀H',Ext H H'->Sq tp K H' p vs/\Sq tp K H' q ws) (h1:TsAt H ts vs) (h2:TsAt H ts ws) (hd:deps ts<d) (hw:ts.length<=1000000) (hws:wids ts<=1000000) (k:∀H',Ext H H'->Q (.bl true) H') {m:List (Option Nat)}{σ:St}
  (hm:m=[none,none]):
  CompW m (gTup K 2 (qA (kE 0) (qA (kE 1) gNil))) yW (tCall (jQ1 d) [] E0 (tCons (tVar 0) (tCons (tVar 1) tNil))) σ (λx H1=>∃(p:Addr) (bs:List Bool),[x]=[.ref p]/\SqL K H1 p (bs.map V.bl)/\Q (.bl (bs.all id)) H1) (Itz tp tp K p q) H:=by
 subst hm
 have l1:=h1.len
 have l2:=h2.len
 refine jPJ (xs:=vs) (ys:=ws) (by rw[aH]; lia) (λD i σ' H' zs=>(∃v1 v2,σ'=[v1,v2])/\zs=(replicate i true).map V.bl/\Ext H H'/\H' D=some (.lst zs)/\H D=none) ?_ ?_ ?_ ?_
 ·intro D hD
  exact⟨⟨_,_,rfl⟩,rfl,(Ext.refl H).new hD _,j5,hD⟩
 ·rintro D i σ' H' zs hD ⟨_,rfl,e,e2,_⟩
  obtain⟨q1,q2⟩:=ex H' e
  refine⟨q1,q2,e2,?_⟩
  rw[ae,gQ]
  exact aq _
 ·rintro D i σ' H' zs x y t hD hx hy ht ⟨⟨v1,v2,rfl⟩,rfl,e,e2,hn⟩
  obtain⟨u,hu,hxu⟩:=h1.get hx
  obtain⟨u',hu',hyu⟩:=h2.get hy
  rw[hu] at hu'
  cases hu'
  have tD:D≠t:=j9 e2 ht
  have hmem:=aE hu
  have e3:Ext H (upd H' t (.tup [x,y])):=e.new ht _
  refine⟨t,_,rfl,SqT.of j5,rfl,_,_,rfl,_,_,rfl,rfl,?_⟩
  dsimp only [kE,yW]
  rw[am rfl]
  cases d with
  | zero=>lia
  | succ d=>
   refine⟨_,rfl,_,rfl,x,y,u,rfl,hxu.ext e3,hyu.ext e3,by have:=jSW hmem; lia,by have:=jQT hmem; lia,λH4 e4=>⟨e4 _ _ (by rw[j6 tD]; exact e2),⟨_,_,rfl⟩,?_,(e3.trans e4).updNew hn _,j5,hn⟩⟩
   rw[List.replicate_succ',ba]
   rfl
 ·rintro D σ' H' zs hD ⟨_,rfl,e,e2,hn⟩
  refine⟨D,_,rfl,SqL.of e2,?_⟩
  rw[jPR]
  exact k H' e
theorem jG7 {f fW:Addr}{fd fdW:FuncData}(d:Nat)(F:Fun K "_law_same" "_law_same" sSame f fd)(T:Txt mg)(CW:Can P w K mg base "_law_whole" 1 fW fdW ["found"] jDF)(CS:Can P w K mg base "_law_same" (d+1) f fd ["found","due"] (jQ1 d)):
  FnOk P w K mg base CX0 (d+2) f fd ["found","due"] (jDG d):=by
 refine F.ok scSame (λvs H Q E h=>?_) (λcdv A outer s H vs Q E hr h=>?_)
 ·obtain⟨_,_,_,rfl,_⟩:=h
  rfl
 ·obtain⟨x,y,t,rfl,hx,hy,hd,hw,k⟩:=h
  refine⟨_,(sameA T CW CS hr).2.h,?_⟩
  have k0:=k H (Ext.refl H)
  cases t with
  | non=>
   cases (show x= .non from hx)
   cases (show y= .non from hy)
   exact⟨_,rfl,rfl,_,rfl,iteT ⟨_,rfl,rfl,k0⟩⟩
  | bl b=>
   cases (show x= .bl b from hx)
   cases (show y= .bl b from hy)
   refine⟨_,rfl,rfl,_,rfl,iteF ?_⟩
   refine⟨_,rfl,_,_,_,true,rfl, .bl b,rfl,true,rfl,iteT ?_⟩
   refine⟨_,rfl,_,_,_,true,rfl, .bl b,rfl,true,rfl,iteT ⟨_,rfl,_,rfl,rfl,?_⟩⟩
   show Q (.bl (decide (V.bl b=V.bl b))) H
   rw[aB rfl]
   exact k0
  | int i=>
   cases (show x= .int i from hx)
   cases (show y= .int i from hy)
   refine⟨_,rfl,rfl,_,rfl,iteF ?_⟩
   refine⟨_,rfl,_,_,_,false,rfl, .int i,rfl,false,rfl,iteF ?_⟩
   refine⟨_,rfl,_,_,_,true,rfl, .int i,rfl,true,rfl,iteT ?_⟩
   refine⟨_,rfl,_,rfl,true,rfl,iteT ⟨_,rfl,_,rfl,rfl,?_⟩⟩
   show Q (.bl (decide (V.int i=V.int i))) H
   rw[aB rfl]
   exact k0
  | str z=>
   cases (show x= .str z from hx)
   cases (show y= .str z from hy)
   refine⟨_,rfl,rfl,_,rfl,iteF ?_⟩
   refine⟨_,rfl,_,_,_,false,rfl, .str z,rfl,false,rfl,iteF ?_⟩
   refine⟨_,rfl,_,_,_,false,rfl, .str z,rfl,false,rfl,iteF ?_⟩
   refine⟨_,rfl,_,_,_,true,rfl, .str z,rfl,true,rfl,iteT ?_⟩
   refine⟨_,rfl,_,_,_,true,rfl, .str z,rfl,true,rfl,iteT ⟨_,rfl,_,rfl,rfl,?_⟩⟩
   show Q (.bl (decide (V.str z=V.str z))) H
   rw[aB rfl]
   exact k0
  | lst ts=>
   obtain⟨p,vs,rfl,hp,h1⟩:=hx
   obtain⟨q,ws,rfl,hq,h2⟩:=hy
   rw[dep] at hd
   rw[wid] at hw
   refine⟨_,rfl,rfl,_,rfl,iteF ?_⟩
   refine⟨_,rfl,_,_,_,false,rfl, .lst hq,rfl,false,rfl,iteF ?_⟩
   refine⟨_,rfl,_,_,_,false,rfl, .lst hq,rfl,false,rfl,iteF ?_⟩
   refine⟨_,rfl,_,_,_,false,rfl, .lst hq,rfl,false,rfl,iteF ?_⟩
   refine⟨_,rfl,_,_,_,false,rfl, .lst hq,rfl,_,rfl,_,_,_,false,rfl, .lst hp,rfl,rfl,_,rfl,iteF ?_⟩
   refine⟨_,rfl,_,_,_,true,rfl, .lst hq,rfl,_,rfl,_,_,_,true,rfl, .lst hp,rfl,rfl,_,rfl,iteF ?_⟩
   refine⟨_,rfl,p,_,rfl, .inl (SqL.of hp),_,rfl,q,_,rfl, .inl (SqL.of hq),rfl,_,rfl,?_⟩
   rw[show (vs.length:Int)=(ws.length:Int) by rw[h1.len,h2.len],aB rfl]
   refine iteT ⟨_,rfl,_,rfl,false,false,p,q,rfl,⟨_,SqL.of hp⟩,⟨_,SqL.of hq⟩,?_⟩
   exact jIP d false (SqL.of hp) (SqL.of hq) (λH' e=>⟨SqL.of (e _ _ hp),SqL.of (e _ _ hq)⟩) h1 h2 (by lia) (by lia) (by lia) k rfl
  | tup ts=>
   obtain⟨p,vs,rfl,hp,h1⟩:=hx
   obtain⟨q,ws,rfl,hq,h2⟩:=hy
   rw[dep] at hd
   rw[wid] at hw
   refine⟨_,rfl,rfl,_,rfl,iteF ?_⟩
   refine⟨_,rfl,_,_,_,false,rfl, .tup hq,rfl,false,rfl,iteF ?_⟩
   refine⟨_,rfl,_,_,_,false,rfl, .tup hq,rfl,false,rfl,iteF ?_⟩
   refine⟨_,rfl,_,_,_,false,rfl, .tup hq,rfl,false,rfl,iteF ?_⟩
   refine⟨_,rfl,_,_,_,true,rfl, .tup hq,rfl,_,rfl,_,_,_,true,rfl, .tup hp,rfl,rfl,_,rfl,iteF ?_⟩
   refine⟨_,rfl,_,_,_,false,rfl, .tup hq,rfl,_,rfl,_,_,_,false,rfl, .tup hp,rfl,rfl,_,rfl,iteF ?_⟩
   refine⟨_,rfl,p,_,rfl, .inr (SqT.of hp),_,rfl,q,_,rfl, .inr (SqT.of hq),rfl,_,rfl,?_⟩
   rw[show (vs.length:Int)=(ws.length:Int) by rw[h1.len,h2.len],aB rfl]
   refine iteT ⟨_,rfl,_,rfl,true,true,p,q,rfl,⟨_,SqT.of hp⟩,⟨_,SqT.of hq⟩,?_⟩
   exact jIP d true (SqT.of hp) (SqT.of hq) (λH' e=>⟨SqT.of (e _ _ hp),SqT.of (e _ _ hq)⟩) h1 h2 (by lia) (by lia) (by lia) k rfl
theorem jIY {f fW:Addr}{fd fdW:FuncData}(F:Fun K "_law_same" "_law_same" sSame f fd)(T:Txt mg)(CW:Can P w K mg base "_law_whole" 1 fW fdW ["found"] jDF)(hm:mg "_law_same" =some (.ref f))(kp:keepIn K (.ref f)=true)(hb:Binds K fd ["found","due"] []):
  ∀d:Nat,FnOk P w K mg base CX0 (d+2) f fd ["found","due"] (jDG d)
 | 0=>jG7 0 F T CW ⟨ok_no,hm,kp,hb⟩
 | d+1=>jG7 (d+1) F T CW ⟨jIY F T CW hm kp hb d,hm,kp,hb⟩
def fitB (pcs:List (List Int×Int))(c:List Int)(k:Int):Bool:=!(c.any λj=>(j7 pcs k).any λt=>decide (t∈j7 pcs j))
def evs (pcs:List (List Int×Int)):Nat->List (List Int)
 | 0=> [[]]
 | n+1=>evs pcs n++((evs pcs n).filter λc=>fitB pcs c (n:Int)).map λc=>c++[(n:Int)]
theorem jI7 (pcs:List (List Int×Int)):∀n,(evs pcs n).length<=2 ^ n
 | 0=>aq _
 | n+1=>by
  have:=jI7 pcs n
  unfold evs
  rw[aF,ae,gN]
  have:=bh (λc=>fitB pcs c (n:Int)) (evs pcs n)
  lia
theorem fitB_iff {pcs:List (List Int×Int)}{c:List Int}{k:Int} :fitB pcs c k=true↔∀j∈c,∀t∈j7 pcs k,t∉j7 pcs j:=by
 unfold fitB
 rw[gJ,List.any_eq_false]
 refine⟨λh j hj t ht z=>h j hj (fQ.mpr ⟨t,ht,aB z⟩),λh j hj z=>?_⟩
 obtain⟨t,ht,hz⟩:=fQ.mp z
 exact h j hj t ht (aU hz)
theorem mem_evs {pcs:List (List Int×Int)} :∀{n:Nat}{c:List Int},c∈evs pcs n↔Ris (n:Int) c/\∀k∈c,∀k'∈c,k≠k'->∀t∈j7 pcs k,t∉j7 pcs k'
 | 0,c=>by
  show c∈[[]]↔_
  rw[ak]
  constructor
  ·rintro rfl
   exact⟨⟨List.Pairwise.nil,λk hk=>by cases hk⟩,λk hk=>by cases hk⟩
  ·rintro ⟨r,_⟩
   cases c with
   | nil=>rfl
   | cons a l=>have:=r.bnd a (ag ..); lia
 | n+1,c=>by
  show c∈evs pcs n++_↔_
  rw[aL,mem_evs,aW]
  constructor
  ·rintro (⟨r,d⟩ | ⟨e,he,rfl⟩)
   ·exact⟨⟨r.ris,λk hk=>by have:=r.bnd k hk; lia⟩,d⟩
   ·obtain⟨h1,h2⟩:=bF.mp he
    obtain⟨r,d⟩:=mem_evs.mp h1
    have ft:=fitB_iff.mp h2
    refine⟨⟨bO.mpr ⟨r.ris,cj _ _,λa ha b hb=>?_⟩,λk hk=>?_⟩,λk hk k' hk' ne t ht ht'=>?_⟩
    ·rw[ak.mp hb]
     exact(r.bnd a ha).2
    ·rcases aL.mp hk with z | z
     ·have:=r.bnd k z; lia
     ·rw[ak.mp z]; lia
    ·rcases aL.mp hk with z | z <;> rcases aL.mp hk' with y | y
     ·exact d k z k' y ne t ht ht'
     ·rw[ak.mp y] at ht'
      exact ft k z t ht' ht
     ·rw[ak.mp z] at ht
      exact ft k' y t ht ht'
     ·exact ne ((ak.mp z).trans (ak.mp y).symm)
  ·rintro ⟨r,d⟩
   rcases lO c with rfl | ⟨e,l,rfl⟩
   ·exact .inl ⟨⟨List.Pairwise.nil,λk hk=>by cases hk⟩,λk hk=>by cases hk⟩
   ·rw[lQ] at r d ⊢
    obtain⟨p1,_,p3⟩:=bO.mp r.ris
    have lb:=r.bnd l (az _ (ak.mpr rfl))
    have el:∀k∈e,0<=k/\k<l:=λk hk=>⟨(r.bnd k (aQ _ hk)).1,p3 k hk l (ak.mpr rfl)⟩
    by_cases hl:l=(n:Int)
    ·subst hl
     refine .inr ⟨e,bF.mpr ⟨mem_evs.mpr ⟨⟨p1,el⟩,λk hk k' hk'=>d k (aQ _ hk) k' (aQ _ hk')⟩,fitB_iff.mpr λj hj t ht=>?_⟩,rfl⟩
     have:=el j hj
     exact d _ (az _ (ak.mpr rfl)) j (aQ _ hj) (by lia) t ht
    ·refine .inl ⟨⟨r.ris,λk hk=>?_⟩,d⟩
     rcases aL.mp hk with z | z
     ·have:=el k z; lia
     ·rw[ak.mp z]; lia
theorem jGS (pcs:List (List Int×Int)):∀n,(evs pcs n).Nodup
 | 0=>cj _ _
 | n+1=>by
  show (evs pcs n++_).Nodup
  have ih:=jGS pcs n
  refine bO.mpr ⟨ih,be.mpr ((ih.sublist iE).imp λ{a b} h e=>h (List.append_cancel_right e)),λa ha b hb e=>?_⟩
  obtain⟨c,hc,rfl⟩:=aW.mp hb
  subst e
  have:=(mem_evs.mp ha).1.bnd (n:Int) (az _ (ak.mpr rfl))
  lia
theorem jSS {w:Int}{ms:List Int}{pcs:List (List Int×Int)}(g:Good 16 32 w ms pcs):((evs pcs pcs.length).filter (covI w ms pcs)).Perm (cvs w ms pcs):=by
 refine(i9 ((jGS pcs _).sublist iE) (jNB g)).mpr λc=>?_
 rw[bF,mem_evs,jF3 g]
 constructor
 ·rintro ⟨⟨r,_⟩,h⟩
  exact(jJH g r).mp h
 ·intro C
  exact⟨⟨C.ris,C.dis⟩,(jJH g C.ris).mpr C⟩
abbrev jM1:List Str:=["box","some"]
theorem scLRank:FnScope jM1 ["box","some"] (jA jCP):= {}
def jBH:Sp:=λvs H Q _=>∃(b a:Addr) (w:Int) (ms:List Int) (pcs:List (List Int×Int)) (c:List Int),vs=[.ref b, .ref a]/\BoxAt H b w ms pcs/\Good 16 32 w ms pcs/\H a=some (.tup (c.map V.int))/\(∀k∈c,0<=k/\k<pcs.length)/\c.length<=100/\∀q H',H' q=some (.tup ((rkL w.toNat pcs c).map V.int))->Ext H H'->Q (.ref q) H'
def jUR (T:Txt mg): { t:TS // JSs (XOf jM1 "_law_rank" jCP P w K mg base f cdv A outer s H0 E) (jC jCP) t} :=
 have nd:=scLRank.nd
 ⟨_,(jD (jV (jAA jA1 gD T.tuple (by decide+kernel) (j3 (jJ9 (m:=[none,some 1,some 0]) (Nc:=["thing","some","box"]) rfl (jAJ gD T.range (j3 (kJ yL (jv 0 rfl vC) (je_int) jI) j8 yF) yF) rfl (by decide+kernel) (by decide+kernel) (jT (psc:=jA jCP)) (jL (N:=jM1) rfl rfl (by decide+kernel)) (λcl C fp s H=>jJ (i:=0) (show (["thing","some","box"]:List Str).Nodup by decide+kernel) rfl (jM7 (by decide+kernel))) (λcl C fp s H=>yH) (λcl C fp s H=>(kJ jK7 (kI jD1 (yE (m:=[none,some 0,some 2]) (Nc:=["k","thing","box"]) rfl (jGM (jv 1 rfl (jKU (by decide+kernel)))) rfl (by decide+kernel) (by decide+kernel) (jJD (by decide+kernel)) (jL (N:=["thing","some","box"]) rfl rfl (by decide+kernel)) (λcl C fp s H=>jJ (i:=0) (show (["k","thing","box"]:List Str).Nodup by decide+kernel) rfl qG) (λcl C fp s H=>jCG (jY jIV (jv 1 rfl yJ) (kJ jAQ (kJ jAQ (kJ jAQ (jv 2 rfl yJ) (je_int) jI) (jv 0 rfl jW) jBI) (je_int) jI) jGF)) (λcl C fp s H=>(jv 0 rfl jW)) yI) (yD (j3 (je_un jKV (je_int)) j8 se_un))) (je_int) jI)) kO) j8 jP) jP)))⟩
theorem jOP {fd:FuncData}(F:Fun K "_law_rank" "_law_rank" jCP f fd)(T:Txt mg):FnOk P w K mg base CX0 1 f fd ["box","some"] jBH:=by
 refine F.ok scLRank (λvs H Q E h=>?_) (λcdv A outer s H vs Q E hr h=>?_)
 ·obtain⟨_,_,_,_,_,_,rfl,_⟩:=h
  rfl
 ·obtain⟨b,a,wi,ms,pcs,c,rfl,hB,g,ha,kb,cl,q⟩:=h
  refine⟨_,(jUR T).2.h,?_⟩
  obtain⟨qm,qp,ps,b1,b2,b3,b4⟩:=id hB.ex
  have w0:=g.w0
  have w1:=g.w1
  refine⟨_,rfl,b,_,0,_,rfl,rfl,SqT.of b1,rfl,wi,rfl,by lia,by lia,jJJ (n:=wi.toNat) (λσ=>∃v,σ=[v,some (.ref a),some (.ref b)]) (mapZ (upto wi.toNat) λt=>V.int (rkP pcs c t)) (mapZ.ok _ _) (by rw[aH]; lia) ⟨_,rfl⟩ ?_ ?_⟩
  ·rintro j σ' H1 zs hj ⟨v,rfl⟩ e1 hz S1 S2 yes no
   have e0:(0+(j:Int))=(j:Int):=by lia
   dsimp only [kE,yW]
   rw[am rfl,e0]
   refine⟨_,rfl,a,rfl,⟨_,SqT.of (e1 _ _ ha)⟩,jD6 (xs:=c.map V.int) (λσ=>∃v,σ=[v,some (.int (j:Int)),some (.ref b)]) (outZ c (λk=>decide ((j:Int)∈j7 pcs k)) V.int) (outZ.ok _ _ _) (e1 _ _ ha) (by rw[ae,aH]; lia) ⟨_,rfl⟩ ?_ ?_⟩
   ·rintro i x σ' H2 ys hx ⟨v',rfl⟩ e2 hy S3 S4 yes' no'
    obtain⟨k,hk,rfl⟩:=int_at hx
    have kb':=kb k (aE hk)
    have E2:=e1.trans e2
    obtain⟨pa,pq,g1,g2,g3⟩:=jG9 b4 kb'.1 kb'.2
    refine⟨_,rfl,_,rfl,b,_,2,_,rfl,rfl,SqT.of (E2 _ _ b1),rfl,_,rfl,qp,_,k,_,rfl,rfl,SqT.of (E2 _ _ b3),g1,pa,_,0,_,rfl,rfl,SqT.of (E2 _ _ g2),rfl,pq,_,rfl, .inr (SqT.of (E2 _ _ g3)),rfl,jB4 _,_,rfl,?_⟩
    rw[jC0]
    refine ite2 (λh=>?_) (λh=>?_)
    ·exact⟨_,rfl,yes' _ _ _ ⟨_,rfl⟩ (Ext.refl _) (hy.yes hk h)⟩
    ·exact no' _ _ ⟨_,rfl⟩ (Ext.refl _) (hy.no hk (gO.mpr h))
   ·rintro D H2 ys h2 e2 n2 hy
    have hy:=hy.all (by rw[ae]; exact aq _)
    subst hy
    refine⟨1,rfl,by show (1:Nat)<=_; decide,λl H3 d3 e3 n3=>?_⟩
    refine⟨D,l,_,_,rfl,rfl,e3 _ _ h2,d3,?_,λl4 H4 d4 e4 n4=>?_⟩
    ·rw[ae,aH]
     have:=bh (λk=>decide ((j:Int)∈j7 pcs k)) c
     show _+1<=_
     lia
    refine⟨l4,_,0,V.int (rkP pcs c (j:Int)),rfl,rfl,SqL.of d4,?_,yes _ _ _ ⟨_,rfl⟩ ((e2.trans e3).trans e4) (hz.yes (jCX hj))⟩
    have:=jB2 (xs:=(c.filter λk=>decide ((j:Int)∈j7 pcs k)).map V.int++[V.int (-1)]) (j:=0) (v:=V.int (rkP pcs c (j:Int))) (by
     unfold rkP
     cases c.filter λk=>decide ((j:Int)∈j7 pcs k) <;> rfl)
    exact this
  ·rintro D H1 zs h1 e1 n1 hz
   have hz:=hz.all (by rw[jBO]; exact aq _)
   have hz2:zs=(rkL wi.toNat pcs c).map V.int:=by rw[hz]; unfold rkL; rw[bz]; rfl
   rw[hz2] at h1
   refine⟨D,_,rfl, .inl ⟨SqL.of h1,λq5 hq5=>?_⟩⟩
   exact q q5 _ j5 (e1.trans ((Ext.refl _).new hq5 _))
end Eo
namespace L2
open PySem PySem.Spec PyProof.Rows
theorem jP5 {P:Program}{w:World}{K:W.Frag}{mg:Str->Option Value}{base:Heap}{N:List Str}{qual:Str}{sc:Scope}{f:Addr}{cdv:Value}{A:Around}{outer:List Env}{s:Shared}{H:Hp}{E:XK}{x y:Str}{p1 p2 pos:Pos}{k i j:Nat}(hN:N.Nodup)(hi:N[i]?=some x)(hj:N[j]?=some y)
  (hx:Loc1 (cxOf CX0 P w K mg base N qual sc f cdv A outer s H E).nox x) (hy:Loc1 (cxOf CX0 P w K mg base N qual sc f cdv A outer s H E).nox y):
  JG (cxOf CX0 P w K mg base N qual sc f cdv A outer s H E).nox (.Tuple [.Name x p1, .Name y p2] k pos) (gTup K 2 (qA (kE i) (qA (kE j) gNil))):=
 jJ6 (X:=(cxOf CX0 P w K mg base N qual sc f cdv A outer s H E).nox) rfl (jA8 (jJ hN hi hx) (jA8 (jJ hN hj hy) jDQ jAO) jAO)
end L2
namespace Eo
open PySem L2
noncomputable def lamE (s:Stmt):Arguments×Expr×Scope×Pos:=match (jC s).getD 2 (.Pass ⟨0,0,0,0⟩) with
 | .Return (some (.Call _ _ [⟨_, .Lambda a b sc p,_⟩] _)) _=>(a,b,sc,p)
 | _=>(kW s, .Constant .none 0 ⟨0,0,0,0⟩,jA s,⟨0,0,0,0⟩)
abbrev evA:Arguments:=(lamE kQ).1
abbrev evB:Expr:=(lamE kQ).2.1
abbrev evSc:Scope:=(lamE kQ).2.2.1
abbrev evPo:Pos:=(lamE kQ).2.2.2
noncomputable abbrev nEvK:List Str:=["some","box"]
theorem scEvK:NScope nEvK ["some"] ["box"] evSc:=⟨rfl,rfl,rfl,by decide+kernel,rfl,by decide+kernel,by decide+kernel,λx h=>by
  have hl:∀y∈evSc.names,y.2= .free->y.1= "box" :=by decide+kernel
  rw[ak]
  exact hl _ (cB h) rfl,by decide+kernel⟩
abbrev qEvK:Str:= "_law_every.<locals>.<lambda>"
structure EvI where
 b:Addr
abbrev TabE (H:Hp)(tb:Addr):Prop:=TabOk H tb evPo qEvK
def zhEv (cl:List (Str×Addr))(a c:Addr):Hp->Prop:=λH=>H a=some (.ext (nlP qEvK evA evB evSc cl a c))/\H c=some (.ext (ncP qEvK c))
theorem zhEv.ext {cl:List (Str×Addr)}(a c:Addr)(H H':Hp)(e:Ext H H')(h:zhEv cl a c H):zhEv cl a c H':=⟨e _ _ h.1,e _ _ h.2⟩
noncomputable def lotV (H:Hp):V->List Int
 | .ref a=>match H a with
  | some (.tup xs)=>xs.map λv=>match v with
   | .int i=>i
   | _=>0
  | _=> []
 | _=> []
theorem jM5 {H:Hp}{a:Addr}{x:List Int}(h:H a=some (.tup (x.map V.int))):lotV H (.ref a)=x:=by
 dsimp only [lotV]
 rw[h]
 show (x.map V.int).map _=x
 rw[bz]
 exact fw _
theorem LsAt.back {H:Hp} :∀{us:List V}{ws:List (List Int)},LsAt H us ws->us.map (lotV H)=ws/\∀v∈us,∃a,v= .ref a/\H a=some (.tup ((lotV H v).map V.int))
 | [],[],_=>⟨rfl,λv hv=>by cases hv⟩
 | u::us,x::ws,h=>by
  obtain⟨⟨a,rfl,ha⟩,r⟩:=h
  obtain⟨r1,r2⟩:=LsAt.back r
  refine⟨by rw[aX,jM5 ha,r1],λv hv=>?_⟩
  rcases ar.mp hv with rfl | z
  ·exact⟨a,rfl,by rw[jM5 ha]; exact ha⟩
  ·exact r2 v z
theorem LsAt.of {H:Hp} :∀{us:List V},(∀v∈us,∃a,v= .ref a/\H a=some (.tup ((lotV H v).map V.int)))->LsAt H us (us.map (lotV H))
 | [],_=>trivial
 | u::us,h=>⟨h u (ag ..),LsAt.of λv hv=>h v (ah _ hv)⟩
def jVD (CR:Can P w K mg base "_law_rank" 1 fR fdR ["box","some"] jBH)(hr:Room 1 (cxN P w K mg base nEvK qEvK evSc a (.ref c) cl A outer s H0).A): { t:TE // JE (cxN P w K mg base nEvK qEvK evSc a (.ref c) cl A outer s H0) evB t} :=⟨_,(CR.je hr (gl_n (by decide+kernel)) (j3 (jv 1 rfl (jPS (by decide+kernel))) (j3 (jv 0 rfl qF) j8 j4) j4) j4)⟩
def spEvK (b:Addr):Sp:=λvs H Q E=>∃v,vs=[v]/\jBH [.ref b,v] H Q E
theorem jOR (i:EvI)(CR:Can P w K mg base "_law_rank" 1 fR fdR ["box","some"] jBH):Callee P w K mg base (λs H=>ClOk cl s H/\FvOk ["box"] [.ref i.b] cl s) (zhEv cl a c) 2 a (spEvK i.b):=by
 refine jQJ (fv:=[.ref i.b]) scEvK (λvs H Q E h=>?_) (λpm ctv us hl=>?_) λA outer s H vs Q E hr h=>?_
 ·obtain⟨_,rfl,_⟩:=h
  rfl
 ·match us,hl with
  | [_],_=>rfl
 ·obtain⟨v,rfl,h⟩:=h
  exact⟨_,(jVD CR hr).2.h,_,rfl,_,rfl,h⟩
abbrev jJ1:List Str:=["box","found","k","piece","more","some"]
theorem scEvery:FnScope jJ1 ["box"] (jA kQ):= {}
abbrev XEv (P:Program)(w:World)(K:W.Frag)(mg:Str->Option Value)(base:Heap)(f c0:Addr)(A:Around)(outer:List Env)(s:Shared)(H:Hp)(E:XK):Cx:=XOf jJ1 "_law_every" kQ P w K mg base f (.ref c0) A outer s H E
theorem fsEv:∀x∈(["box"]:List Str),evSc.names.lookup x=some .free:=by decide+kernel
theorem jV8:FsAt (XEv P w K mg base f c0 A outer s H0 E) ["box"] [0]:=⟨rfl,λk x h=>by
 match k,h with
 | 0,h=>
  cases h
  exact⟨0,rfl,rfl, .inl (show (jA kQ).names.lookup (("box" :String):Str)=some .cell by decide+kernel)⟩
 | k+1,h=>cases h⟩
def jES (tb:Addr):Sp:=λvs H Q _=>∃(b:Addr) (w:Int) (ms:List Int) (pcs:List (List Int×Int)),vs=[.ref b]/\BoxAt H b w ms pcs/\Good 16 32 w ms pcs/\pcs.length<=16/\TabE H tb/\∀l us H',H' l=some (.lst us)->LsAt H' us (cvs w ms pcs)->ExtT tb H H'->TabE H' tb->H l=none->Q (.ref l) H'
def jJF (T:Txt mg)(hr:Room 4 (XEv P w K mg base f c0 A outer s H0 E).A): { t:TS // JSs (XEv P w K mg base f c0 A outer s H0 E) (yS ((yS ((jC kQ).getD 1 (.Pass ⟨0,0,0,0⟩))).getD 1 (.Pass ⟨0,0,0,0⟩))) t} :=
 have nd:=scEvery.nd
 ⟨_,(jD (yY (jGL (jBY (jE (jGZ rfl) gD T.any (by decide+kernel) (j3 (jJ9 (m:=[none,some 3,some 0]) (Nc:=["j","piece","box"]) rfl (jGN (jv 5 rfl vL)) rfl (by decide+kernel) (by decide+kernel) (jT (psc:=jA kQ)) (jL (N:=jJ1) rfl rfl (by decide+kernel)) (λcl C fp s H=>jJ (i:=0) (show (["j","piece","box"]:List Str).Nodup by decide+kernel) rfl (jM7 (by decide+kernel))) (λcl C fp s H=>yH) (λcl C fp s H=>(jE (jGY rfl) (gl_bC (by decide+kernel)) T.any (by decide+kernel) (j3 (yE (m:=[none,some 2,some 0]) (Nc:=["one","box","j"]) rfl (jGM (kJ jMS (jv 1 rfl (jKU (by decide+kernel))) (je_int) jI)) rfl (by decide+kernel) (by decide+kernel) (jJD (by decide+kernel)) (jL (N:=["j","piece","box"]) rfl rfl (by decide+kernel)) (λcl C fp s H=>jJ (i:=0) (show (["one","box","j"]:List Str).Nodup by decide+kernel) rfl qG) (λcl C fp s H=>yH) (λcl C fp s H=>(jBL jIV (jv 0 rfl jW) (kJ jAQ (kJ jAQ (kJ jAQ (jv 1 rfl yJ) (je_int) jI) (jv 2 rfl yJ) jBI) (je_int) jI) jGF)) jQI) j8 jP) jP)) yI) j8 jP) jP) jAV)) (jD (jCH (je_bm cF eJ eL jAP (jv 4 rfl vL) (j3 (kI jRX (jv 5 rfl vL) (yC (j3 (jv 2 rfl vL) j8 j4))) j8 y0) y0) kB)) kU))⟩
def jST (T:Txt mg)(hr:Room 4 (XEv P w K mg base f c0 A outer s H0 E).A): { t:TS // JSs (XEv P w K mg base f c0 A outer s H0 E) (yS ((jC kQ).getD 1 (.Pass ⟨0,0,0,0⟩))) t} :=
 have nd:=scEvery.nd
 ⟨_,(jB (jQ (i:=4) nd rfl lL (yD j8) jFX) (jB (yT bX rfl (yB (jv 1 rfl vL)) (jJ (i:=5) nd rfl lL) (jJF T hr).2 yI) (jD (jQ (i:=1) nd rfl lL (kI jD1 (jv 1 rfl vL) (jv 4 rfl vL)) jDE))))⟩
def jVC (T:Txt mg)(CH:PySem.W.CodeHd base c0 tb)(BM:BltAt base mg)(CV:Can P w K mg base "_law_covers" 1 fV fdV ["box","some"] jCZ)(CR:Can P w K mg base "_law_rank" 1 fR fdR ["box","some"] jBH)(hr:Room 4 (XEv P w K mg base f c0 A outer s H0 E).A): { t:TS // JSs (XEv P w K mg base f c0 A outer s H0 E) (jC kQ) t} :=
 have nd:=scEvery.nd
 ⟨_,(jB (jQ (i:=1) nd rfl lL (yD (j3 (yC j8) j8 yQ)) jFX) (jB (yT bX rfl (jI3 gD T.enumerate (j3 (kJ yL (jv 0 rfl vC) (je_int) jI) j8 yF) yF) (jP5 (i:=2) (j:=3) nd rfl rfl lL loc_c) (jST T hr).2 kO) (jD (jV (jK6 (jFG jMF (G:=λ(i:EvI) σ=>jET σ [0] [.ref i.b]) (λi q c=>jOR i CR) (λi ad s σ H I q=>⟨I.clOk (jT (psc:=jA kQ)),I.fvOk (jT (psc:=jA kQ)) fsEv jV8 q⟩) zhEv.ext (hr.mono (by decide))) gD T.sorted (by decide+kernel) (j3 (yE (m:=[none,some 0]) (Nc:=["some","box"]) rfl (yB (jv 1 rfl vL)) rfl (by decide+kernel) (by decide+kernel) (jT (psc:=jA kQ)) (jL (N:=jJ1) rfl rfl (by decide+kernel)) (λcl C fp s H=>jJ (i:=0) (show (["some","box"]:List Str).Nodup by decide+kernel) rfl qG) (λcl C fp s H=>jCG (jBY (CV.je (hr.mono (by decide)) gl_b (j3 (jv 1 rfl yJ) (j3 (jv 0 rfl jW) j8 j4) j4) j4) jAV)) (λcl C fp s H=>(jv 0 rfl jW)) yI) j8 jP) (jI2 (jQF rfl CH BM (jT (psc:=jA kQ)) rfl) jMK) jP)))))⟩
theorem jGT (T:Txt mg)(hr:Room 4 (XEv P w K mg base f c0 A outer s H0 E).A){D:Ends}{H:Hp}{b F M pa pq qm qp ca:Addr}{ps ms':List V}{wi:Int}{pcs:List (List Int×Int)}{i:Nat}{c:List Int}(b1:H b=some (.tup [.int wi, .ref qm, .ref qp]))(b3:H qp=some (.tup ps))(b4:PcsAt H ps pcs)(hp:H pa=some (.tup [.ref pq, .int (pcs.getD i ([],0)).2]))(hq:H pq=some (.tup ((j7 pcs (i:Int)).map V.int)))(hc:H ca=some (.tup (c.map V.int)))(kb:∀k∈c,0<=k/\k<pcs.length)(cl:c.length<=100)(tl:(j7 pcs (i:Int)).length<=100)(hM:H M=some (.lst ms'))(ml:ms'.length<100000)
  (no:fitB pcs c (i:Int)=false->∀H',Ext H H'->D.nx [some (.ref b),some (.ref F),some (natV i),some (.ref pa),some (.ref M),some (.ref ca)] H')
  (yes:fitB pcs c (i:Int)=true->∀H' H'' t,Ext H H'->H' t=some (.tup ((c++[(i:Int)]).map V.int))->H''=L2.upd H' M (.lst (ms'++[.ref t]))->D.nx [some (.ref b),some (.ref F),some (natV i),some (.ref pa),some (.ref M),some (.ref ca)] H''):
  (jJF T hr).1 D [some (.ref b),some (.ref F),some (natV i),some (.ref pa),some (.ref M),some (.ref ca)] H:=by
 refine⟨_,rfl,ca,rfl,⟨_,SqT.of hc⟩,jD6 (xs:=c.map V.int) (λσ=>∃v,σ=[v,some (.ref pa),some (.ref b)]) (mapZ c λj=>V.bl ((j7 pcs (i:Int)).any λt=>decide (t∈j7 pcs j))) (mapZ.ok _ _) hc (by rw[ae,aH]; lia) ⟨_,rfl⟩ ?_ ?_⟩
 ·rintro j x σ' H1 zs hx ⟨v,rfl⟩ e1 hz S1 S2 y1 n1
  obtain⟨k,hk,rfl⟩:=int_at hx
  have kb':=kb k (aE hk)
  obtain⟨pa2,pq2,g1,g2,g3⟩:=jG9 b4 kb'.1 kb'.2
  dsimp only [kE,yW]
  rw[am rfl]
  refine⟨_,rfl,pa,_,0,_,rfl,rfl,SqT.of (e1 _ _ hp),rfl,pq,rfl,⟨_,SqT.of (e1 _ _ hq)⟩,jD6 (xs:=(j7 pcs (i:Int)).map V.int) (λσ=>∃v,σ=[v,some (.ref b),some (.int k)]) (mapZ (j7 pcs (i:Int)) λt=>V.bl (decide (t∈j7 pcs k))) (mapZ.ok _ _) (e1 _ _ hq) (by rw[ae,aH]; lia) ⟨_,rfl⟩ ?_ ?_⟩
  ·rintro l x σ' H2 ys hx ⟨v',rfl⟩ e2 hy S3 S4 y2 n2
   obtain⟨t,ht,rfl⟩:=int_at hx
   have E2:=e1.trans e2
   dsimp only [kE,yW]
   rw[am rfl]
   refine⟨_,rfl,_,rfl,b,_,2,_,rfl,rfl,SqT.of (E2 _ _ b1),rfl,_,rfl,qp,_,k,_,rfl,rfl,SqT.of (E2 _ _ b3),g1,pa2,_,0,_,rfl,rfl,SqT.of (E2 _ _ g2),rfl,pq2,_,rfl, .inr (SqT.of (E2 _ _ g3)),rfl,jB4 _,?_⟩
   rw[jC0]
   exact y2 _ _ _ ⟨_,rfl⟩ (Ext.refl _) (hy.yes ht)
  ·rintro D2 H2 ys h2 e2 n2 hy
   have hy:=hy.all (by rw[ae]; exact aq _)
   have hy2:ys=((j7 pcs (i:Int)).map λt=>decide (t∈j7 pcs k)).map V.bl:=by rw[hy,bz]; rfl
   rw[hy2] at h2
   refine⟨D2,_,rfl,SqL.of h2,?_⟩
   rw[any_map]
   exact y1 _ _ _ ⟨_,rfl⟩ e2 (hz.yes hk)
 ·rintro D2 H2 zs h2 e2 n2 hz
  have hz:=hz.all (by rw[ae]; exact aq _)
  have hz2:zs=(c.map λj=>(j7 pcs (i:Int)).any λt=>decide (t∈j7 pcs j)).map V.bl:=by rw[hz,bz]; rfl
  rw[hz2] at h2
  refine⟨D2,_,rfl,SqL.of h2,_,rfl,?_⟩
  rw[any_map]
  have ft:(!(c.any (id ∘ λj=>(j7 pcs (i:Int)).any λt=>decide (t∈j7 pcs j))))=fitB pcs c (i:Int):=rfl
  dsimp only
  rw[ft]
  refine ite2 (λh=>?_) (λh=>?_)
  ·refine⟨_,rfl, .inl ⟨rfl,_,SqL.of (e2 _ _ hM)⟩,_,rfl,_,rfl,by show (1:Nat)<=_; decide,λt1 H3 d3 e3=>?_⟩
   have E3:=e2.trans e3
   refine⟨ca,t1,_,_,rfl,rfl,E3 _ _ hc,d3,by rw[ae,aH]; show _+1<=_; lia,λt H4 d4 e4=>?_⟩
   have E4:=E3.trans e4
   refine⟨M,_,_,rfl,rfl,E4 _ _ hM,by rw[aH]; lia,yes h H4 _ t E4 ?_ rfl⟩
   rw[d4,ba]
   rfl
  ·exact no (gO.mpr h) H2 e2
theorem jOQ {fd:FuncData}(F:FunC K "_law_every" "_law_every" kQ f fd c0)(T:Txt mg)(CH:PySem.W.CodeHd base c0 tb)(BM:BltAt base mg)(CV:Can P w K mg base "_law_covers" 1 fV fdV ["box","some"] jCZ)(CR:Can P w K mg base "_law_rank" 1 fR fdR ["box","some"] jBH):FnOk P w K mg base CX0 5 f fd ["box"] (jES tb):=by
 refine F.ok scEvery (λvs H Q E h=>?_) (λA outer s H vs Q E hr h=>?_)
 ·obtain⟨_,_,_,_,rfl,_⟩:=h
  rfl
 ·obtain⟨b,wi,ms,pcs,rfl,hB,g,pl,tab,q⟩:=h
  refine⟨_,(jVC T CH BM CV CR hr).2.h,?_⟩
  obtain⟨qm,qp,ps,b1,b2,b3,b4⟩:=id hB.ex
  have psl:=b4.len
  refine⟨by show (0:Nat)<=_; decide,λt0 H1 d1 e1=>?_⟩
  refine⟨by show (1:Nat)<=_; decide,λF0 H2 d2 e2 n2=>?_⟩
  have E2:=e1.trans e2
  refine⟨_,rfl,b,_,2,_,rfl,rfl,SqT.of (E2 _ _ b1),rfl,true,qp,rfl,⟨_,SqT.of (E2 _ _ b3)⟩,jFB (tp:=true) (xs:=ps) (λi σ H'=>Ext H H'/\∃(F:Addr) (us:List V) (v2 v3 v4 v5:Option V),σ=[some (.ref b),some (.ref F),v2,v3,v4,v5]/\H' F=some (.lst us)/\LsAt H' us (evs pcs i)/\H F=none) ⟨E2,F0,_,_,_,_,_,rfl,d2,⟨⟨t0,rfl,e2 _ _ d1⟩,trivial⟩,jED e1 n2⟩ (λi σ H' ⟨e,_⟩=>SqT.of (e _ _ b3)) ?_ ?_⟩
  ·rintro i x t σ H3 hx ht ⟨e3,F,us,v2,v3,v4,v5,rfl,hF,hu,nF⟩
   obtain⟨pc,hpc,pa,pq,rfl,c1,c2⟩:=b4.at hx
   have hi:i<pcs.length:=(ax.mp hpc).1
   have et:j7 pcs (i:Int)=pc.1:=by
    unfold j7
    rw[br,aC,hpc]
    rfl
   have ew:(pcs.getD i ([],0)).2=pc.2:=by rw[aC,hpc]; rfl
   have tl:=jJS g (k:=(i:Int)) (by lia) (by lia)
   refine⟨t,_,rfl,SqT.of j5,rfl,_,_,rfl,_,_,rfl,rfl,?_⟩
   have k4:Ext H3 (L2.upd H3 t (.tup [.int (i:Int), .ref pa])):=(Ext.refl _).new ht _
   generalize L2.upd H3 t (.tup [.int (i:Int), .ref pa])=H4 at k4
   have E4:=e3.trans k4
   refine⟨by show (0:Nat)<=_; decide,λM H5 d5 e5 n5=>?_⟩
   have E5:=E4.trans e5
   have hF5:=e5 _ _ (k4 _ _ hF)
   have hu5:LsAt H5 us (evs pcs i):=hu.mono (k4.trans e5).tups
   have nM:H M=none:=jED E4 n5
   have MF:F≠M:=λz=>by rw[<- z,k4 _ _ hF] at n5; cases n5
   have ul:=All2.len hu
   have el:=jI7 pcs i
   have p16:2 ^ i<=2 ^ 16:=cq (by decide) (by lia)
   have p16':(2 ^ 16:Nat)=65536:=by decide
   have c1':H pa=some (.tup [.ref pq, .int (pcs.getD i ([],0)).2]):=by rw[ew]; exact c1
   have c2':H pq=some (.tup ((j7 pcs (i:Int)).map V.int)):=by rw[et]; exact c2
   refine⟨_,rfl,F,rfl,⟨_,SqL.of hF5⟩,jBA (xs:=us) (λj σ H'=>(∃v5,σ=[some (.ref b),some (.ref F),some (natV i),some (.ref pa),some (.ref M),v5])/\(∀b o,H5 b=some o->b≠M->H' b=some o)/\∃ms',H' M=some (.lst ms')/\LsAt H' ms' ((((evs pcs i).take j).filter λc=>fitB pcs c (i:Int)).map λc=>c++[(i:Int)])) ⟨⟨_,rfl⟩,λ_ _ h _=>h,[],d5,trivial⟩ (λj σ H' _ ⟨_,k,_⟩=>SqL.of (k _ _ hF5 MF)) ?_ ?_⟩
   ·rintro j x σ H6 hx' ⟨⟨v5,rfl⟩,k6,ms',hM6,hl6⟩
    obtain⟨c,hc,ca,rfl,hca⟩:=All2.get' hu5 hx'
    have kH:Ext H H6:=λa o h=>k6 _ _ (E5 _ _ h) λz=>by rw[z,nM] at h; cases h
    have caM:ca≠M:=λz=>by rw[z,d5] at hca; cases hca
    obtain⟨cr,_⟩:=mem_evs.mp (aE hc)
    have crl:=jAY c 0 _ cr.ris cr.bnd
    have mll:=All2.len hl6
    rw[ae] at mll
    have fl:=bh (λc=>fitB pcs c (i:Int)) ((evs pcs i).take j)
    rw[bM] at fl
    have tk:(evs pcs i).take (j+1)=(evs pcs i).take j++[c]:=by rw[bu,hc]; rfl
    refine jGT T hr (kH _ _ b1) (kH _ _ b3) (b4.mono λb xs h=>kH _ _ h) (kH _ _ c1') (kH _ _ c2') (k6 _ _ hca caM) (λk hk=>by have:=cr.bnd k hk; lia) (by lia) (by lia) hM6 (by lia) (λh H7 e7=>?_) λh H7 H8 t e7 ht h8=>?_
    ·refine⟨⟨_,rfl⟩,λa o z n=>e7 _ _ (k6 a o z n),ms',e7 _ _ hM6,?_⟩
     rw[tk,bH,dN (by rw[h]; exact aA),ff,bg]
     exact hl6.mono e7.tups
    ·subst h8
     have hM7:=e7 _ _ hM6
     have tu:Tups H7 (L2.upd H7 M (.lst (ms'++[.ref t]))):=Tups.upd hM7 _
     refine⟨⟨_,rfl⟩,λa o z n=>by rw[j6 n]; exact e7 _ _ (k6 a o z n),_,j5,?_⟩
     rw[tk,bH,dM (p:=λc=>fitB pcs c (i:Int)) h,ff,ba]
     exact All2.snoc ((hl6.mono e7.tups).mono tu) ⟨t,rfl,tu _ _ ht⟩
   ·rintro σ H6 ⟨⟨v5,rfl⟩,k6,ms',hM6,hl6⟩
    rw[ul,bI] at hl6
    have kH:Ext H H6:=λa o h=>k6 _ _ (E5 _ _ h) λz=>by rw[z,nM] at h; cases h
    have tu:Tups H5 H6:=λa xs h=>k6 _ _ h λz=>by rw[z,d5] at h; cases h
    have mll:=All2.len hl6
    rw[ae] at mll
    have fl:=bh (λc=>fitB pcs c (i:Int)) (evs pcs i)
    refine⟨_,rfl,_,rfl,F,M,us,ms',rfl,rfl,k6 _ _ hF5 MF,hM6,by rw[aH]; lia,λF2 H7 d7 e7 n7=>?_⟩
    exact⟨kH.trans e7,F2,_,_,_,_,_,rfl,d7,LsAt.mono e7.tups (show LsAt H6 (us++ms') (evs pcs (i+1)) from All2.append (hu5.mono tu) hl6),jED kH n7⟩
  ·rintro σ H3 ⟨e3,F,us,v2,v3,v4,v5,rfl,hF,hu,nF⟩
   rw[psl] at hu
   have ul:=All2.len hu
   have el:=jI7 pcs pcs.length
   have p16:2 ^ pcs.length<=2 ^ 16:=cq (by decide) pl
   have p16':(2 ^ 16:Nat)=65536:=by decide
   refine⟨_,rfl,F,rfl,⟨_,SqL.of hF⟩,jBC (xs:=us) (λσ=>∃v,σ=[v,some (.ref b)]) (λH' zs t=>LsAt H' zs (((evs pcs pcs.length).take t).filter (covI wi ms pcs))) ⟨λH=>trivial,λH H' zs t tu hz=>hz.mono tu,λH zs t hz=>?_⟩ hF (by rw[aH]; lia) ⟨_,rfl⟩ ?_ ?_⟩
   ·rw[All2.len hz]
    exact bf (bh _ _) (ce _ _)
   ·rintro j x σ' H4 zs hx ⟨v,rfl⟩ e4 hz S1 S2 yes no
    obtain⟨c,hc,ca,rfl,hca⟩:=All2.get' hu hx
    obtain⟨cr,_⟩:=mem_evs.mp (aE hc)
    have crl:=jAY c 0 _ cr.ris cr.bnd
    have E4:=e3.trans e4
    have tk:(evs pcs pcs.length).take (j+1)=(evs pcs pcs.length).take j++[c]:=by rw[bu,hc]; rfl
    refine⟨_,rfl,_,rfl,b,ca,wi,ms,pcs,c,rfl,hB.mono E4.tups,g,e4 _ _ hca,cr.bnd,by lia,λH5 e5=>⟨_,rfl,?_⟩⟩
    refine ite2 (λh=>?_) (λh=>?_)
    ·refine⟨_,rfl,yes _ _ _ ⟨_,rfl⟩ e5 ?_⟩
     show LsAt _ _ _
     rw[tk,bH,dM h,ff]
     exact All2.snoc (hz.mono e5.tups) ⟨ca,rfl,e5 _ _ (e4 _ _ hca)⟩
    ·refine no _ _ ⟨_,rfl⟩ e5 ?_
     show LsAt _ _ _
     rw[tk,bH,dN h,ff,bg]
     exact hz.mono e5.tups
   ·rintro D H4 zs h4 e4 n4 hz
    rw[ul,bI] at hz
    have E4:=e3.trans e4
    refine⟨tab.ext E4,λq1 c1 H5 k1 k2 k3 e5 n5=>?_⟩
    have tab4:=tab.ext E4
    have T5:Tups H4 H5:=λb xs h=>e5.at tab4 h
    have h5:H5 D=some (.lst zs):=e5.at tab4 h4
    have hz5:=hz.mono T5
    obtain⟨bk1,bk2⟩:=LsAt.back hz5
    refine⟨D,zs,q1,c1,λv=>rkL wi.toNat pcs (lotV H5 v),⟨b⟩,rfl,rfl,rfl,SqL.of h5,⟨k1,k2⟩,λv hv=>let ⟨a,e,_⟩:=bk2 v hv; ⟨a,e⟩,λv hv H6 Q6 e6 k6=>?_,λl us' H6 nl pm pw e6 d6=>?_⟩
    ·obtain⟨a,rfl,ha⟩:=bk2 v hv
     have hm:lotV H5 (.ref a)∈(evs pcs pcs.length).filter (covI wi ms pcs):=by rw[<- bk1]; exact bQ hv
     obtain⟨cr,_⟩:=mem_evs.mp (bF.mp hm).1
     have crl:=jAY _ 0 _ cr.ris cr.bnd
     exact⟨_,rfl,b,a,wi,ms,pcs,_,rfl,((hB.mono E4.tups).mono T5).mono e6.tups,g,e6 _ _ ha,cr.bnd,by lia,λr H7 d7 e7=>k6 _ _ ⟨r,rfl,d7⟩ e7⟩
    ·have pw':(us'.map (lotV H5)).Pairwise λa b=>HT.lexLt (rkL wi.toNat pcs b) (rkL wi.toNat pcs a)=false:=be.mpr pw
     have pm':(us'.map (lotV H5)).Perm (cvs wi ms pcs):=by
      refine List.Perm.trans ?_ (jSS g)
      rw[<- bk1]
      exact pm.map _
     have fin:=jGB (f:=rkL wi.toNat pcs) pm' pw' (jSY g)
     have ls:LsAt H6 us' (cvs wi ms pcs):=by
      rw[<- fin]
      exact(LsAt.of λv hv=>bk2 v (pm.mem_iff.mp hv)).mono e6.tups
     have X5:ExtT tb H H5:=(ExtT.of E4).trans e5
     have nl':H l=none:=by
      cases z:H l with
      | none=>rfl
      | some o=>
       by_cases y:l=tb
       ·rw[y,k3] at nl
        cases nl
       ·rw[X5 _ _ z y] at nl
        cases nl
     exact q l us' H6 d6 ls (X5.trans (ExtT.of e6)) (.inr ⟨c1,e6 _ _ k3,e6 _ _ k2⟩) nl'
theorem jVH {w:Int}{ms:List Int}{pcs:List (List Int×Int)}{m:Nat}{c:Int×Nat}(hm:m<2 ^ (chs w.toNat ms pcs).length)(hf:m≠fullN (chs w.toNat ms pcs))(hc:c∈chAt (chs w.toNat ms pcs) m):c.1<pcs.length:=by
 have hl:lowN m<w.toNat:=by
  have:=yV hm hf
  unfold chs at this
  rwa [kN] at this
 obtain⟨h1,_⟩:=bF.mp hc
 unfold chs at h1
 rw[aC,kR hl] at h1
 have h1:c∈kZ ms pcs pcs.length (lowN m):=h1
 unfold kZ at h1
 rcases aL.mp h1 with z | z
 ·split at z
  ·rw[ak] at z
   rw[z]
   show (-1:Int)<_
   lia
  ·cases z
 ·obtain⟨k,hk,rfl⟩:=aW.mp z
  exact((jAC pcs.length).bnd k (bU (bF.mp hk).1)).2
abbrev wfS (c:Int)(x:List Int):List Int:=if c<0 then x else c::x
def szN:List (List Int)->Nat
 | []=>0
 | x::r=>max (x.length+1) (szN r)
def cntS (ws:List (List Int))(s:Nat):Nat:=ws.countP λx=>x.length==s
def szL (ws:List (List Int)):List Nat:=(List.range (szN ws)).map (cntS ws)
theorem jL6:∀a b:List (List Int),szN (a++b)=max (szN a) (szN b)
 | [],b=>by show szN b=max 0 (szN b); lia
 | x::r,b=>by show max _ (szN (r++b))=max (max _ (szN r)) _; rw[jL6 r b]; lia
theorem jPM (a b:List (List Int))(s:Nat):cntS (a++b) s=cntS a s+cntS b s:=i8 ..
theorem jJL:∀{ws:List (List Int)}{s:Nat},szN ws<=s->cntS ws s=0
 | [],_,_=>rfl
 | x::r,s,h=>by
  have h:max (x.length+1) (szN r)<=s:=h
  unfold cntS
  rw[List.countP_cons_of_neg (by simp; lia)]
  exact jJL (by lia)
theorem jDC (ws:List (List Int)):(szL ws).length=szN ws:=by
 unfold szL
 rw[ae,bW]
theorem jR1 (ws:List (List Int))(s:Nat):(szL ws).getD s 0=cntS ws s:=by
 unfold szL
 rw[aC,aJ]
 by_cases h:s<szN ws
 ·rw[dj h]; rfl
 ·rw[cc (by rw[bW]; lia),jJL (by lia)]; rfl
theorem szN_zero {ws:List (List Int)} :szN ws=0↔ws=[]:=by
 cases ws with
 | nil=>exact⟨λ_=>rfl,λ_=>rfl⟩
 | cons x r=>exact⟨λh=>by have h:max (x.length+1) (szN r)=0:=h; lia,λh=>(by cases h)⟩
theorem jPW {c:Int}(hc:¬c<0):∀{W:List (List Int)},W≠ []->szN (W.map (wfS c))=szN W+1
 | [],h=>absurd rfl h
 | [x],_=>by
  show max ((if c<0 then x else c::x).length+1) 0=max (x.length+1) 0+1
  rw[aj hc,aP]
  lia
 | x::y::r,_=>by
  have ih:=jPW hc (W:=y::r) (by simp)
  show max ((if c<0 then x else c::x).length+1) (szN ((y::r).map (wfS c)))=max (x.length+1) (szN (y::r))+1
  rw[ih,aj hc,aP]
  lia
theorem jNE {c:Int}(hc:¬c<0)(W:List (List Int))(s:Nat):cntS (W.map (wfS c)) (s+1)=cntS W s/\cntS (W.map (wfS c)) 0=0:=by
 unfold cntS
 rw[gu,gu]
 constructor
 ·refine fj λx _=>?_
  show (((if c<0 then x else c::x).length==s+1)=true)↔_
  rw[aj hc,aP]
  simp
 ·refine List.countP_eq_zero.mpr λx _=>?_
  show ¬(((if c<0 then x else c::x).length==0)=true)
  rw[aj hc,aP]
  simp
theorem jTI {c:Int}{W:List (List Int)}(ne:W≠ []):szL (W.map (wfS c))=if c<0 then szL W else 0::szL W:=by
 by_cases hc:c<0
 ·rw[am hc]
  have e:W.map (wfS c)=W:=(bo λx _=>am hc).trans (fw _)
  rw[e]
 ·rw[aj hc]
  unfold szL
  rw[jPW hc ne,lv,aX,bz,(jNE hc W 0).2]
  congr 1
  exact bo λs _=>(jNE hc W s).1
def sumG (Ls:List (List Nat))(s:Nat):Nat:=(Ls.map λl=>l.getD s 0).sum
def lenG:List (List Nat)->Nat
 | []=>0
 | l::r=>max l.length (lenG r)
theorem jT9 (cs:List (Int×List (List Int))):szL (wJ cs)=(List.range (lenG ((cs.filter λp=>decide (0<(szL p.2).length)).map λp=>szL (p.2.map (wfS p.1))))).map (sumG ((cs.filter λp=>decide (0<(szL p.2).length)).map λp=>szL (p.2.map (wfS p.1)))):=by
 have key:∀cs:List (Int×List (List Int)),szN (wJ cs)=lenG ((cs.filter λp=>decide (0<(szL p.2).length)).map λp=>szL (p.2.map (wfS p.1)))/\∀s,cntS (wJ cs) s=sumG ((cs.filter λp=>decide (0<(szL p.2).length)).map λp=>szL (p.2.map (wfS p.1))) s:=λcs=>by
  induction cs with
  | nil=>exact⟨rfl,λ_=>rfl⟩
  | cons p cs ih=>
   have e:wJ (p::cs)=p.2.map (wfS p.1)++wJ cs:=List.flatMap_cons
   rw[e]
   by_cases h:0<(szL p.2).length
   ·rw[dM (by exact aB h),aX]
    refine⟨?_,λs=>?_⟩
    ·rw[jL6,ih.1]
     show _=max (szL (p.2.map (wfS p.1))).length _
     rw[jDC]
    ·rw[jPM,ih.2 s]
     show _=(szL (p.2.map (wfS p.1))).getD s 0+_
     rw[jR1]
     rfl
   ·have e0:p.2=[]:=szN_zero.mp (by rw[<- jDC]; lia)
    rw[dN (by simpa using h),e0]
    exact ih
 obtain⟨k1,k2⟩:=key cs
 conv=>lhs; unfold szL
 rw[k1]
 exact bo λs _=>k2 s
theorem jPX {B:Nat} :∀{ws:List (List Int)},(∀x∈ws,x.length+1<=B)->szN ws<=B
 | [],_=>bi _
 | x::r,h=>by
  show max _ (szN r)<=B
  have:=h x (ag ..)
  have:=jPX λy hy=>h y (ah x hy)
  lia
theorem jO5 {ch:Ch}(o:ChOk ch):∀m,m<2 ^ ch.length->∀x∈wk ch m,x.length+lowN m<=ch.length:=by
 refine jAT o ?_ ?_
 ·intro x hx
  rw[yN,ak] at hx
  rw[hx]
  show 0+lowN (2 ^ ch.length - 1)<=_
  rw[jOY]
  lia
 ·intro m hm hn ih x hx
  rw[yM o hm hn] at hx
  obtain⟨p,hp,hx2⟩:=List.mem_flatMap.mp hx
  obtain⟨c,hc,rfl⟩:=aW.mp hp
  obtain⟨y,hy,rfl⟩:=aW.mp hx2
  have h1:=ih c hc y hy
  have hl:lowN m<lowN (m|||c.2):=by
   have hc2:=hc
   unfold chAt at hc2
   obtain⟨g1,_⟩:=bF.mp hc2
   rw[aC] at g1
   cases hg:ch[lowN m]? with
   | none=>rw[hg] at g1; cases g1
   | some cs=>
    rw[hg] at g1
    have b1:=(o.it _ _ hg c g1).1
    refine bP λz=>?_
    have n:=jCD (m|||c.2)
    rw[bZ,fz] at n
    rcases Nat.lt_or_eq_of_le (la.mp z) with y | y
    ·rw[jCE m _ y] at n
     cases n.1
    ·rw[y,b1] at n
     cases n.2
  split
  ·lia
  ·rw[aP]; lia
theorem jFW {ch:Ch}(o:ChOk ch){m:Nat}(hm:m<2 ^ ch.length):(szL (wk ch m)).length<=17:=by
 rw[jDC]
 refine jPX λx hx=>?_
 have:=jO5 o m hm x hx
 have:=o.w
 lia
end Eo
namespace L2
open PySem
open PySem PySem.Spec PyProof.Rows
def rIxL0 (K:W.Frag):V->V->Hp->VK->Prop:=λx y H Q=>∃(p:Addr) (xs:List V) (j:Nat) (z:V),x= .ref p/\y= .int (j:Int)/\SqL K H p xs/\xs[j]?=some z/\Q z H
theorem jPE {X:Cx} :PGet X (rIxL0 X.K):=by
 intro ad s σ H x y v u Q I rx ry h
 obtain⟨p,xs,j,z,rfl,rfl,hq,he,q⟩:=h
 cases rx
 obtain⟨t,rfl⟩:=ry
 obtain⟨its,r,pl,hz⟩:=I.list hq
 obtain⟨w,ew,rw'⟩:=r.get he
 have hl:=r.length
 have hn:=jEF
 have hj:=(ax.mp he).1
 exact wpAny_getItem_list pl.isList (by lia) (by lia) (by rw[br]; simpa using ew) ⟨z,H,I,rw',q⟩
theorem jSJ {X:Cx}{o i e:Expr}{to ti te:TE}{tip:TIp}{op:Operator}{tpos pos:Pos}(ho:JE X o to)(hi:JE X i ti)(he:JE X e te)(hp:PIp X op tip)
  (ha:∀ov iv new,augStore i ov iv new=(do holding [new,ov,iv] (setItem ov iv new); release [new,ov,iv] []; pure .next):=by intros; rfl):JS X (.AugAssign (.Subscript o i tpos) op e pos) (tAugS to ti te (rIxL0 X.K) tip rSetL):=⟨jRG ho.h hi.h jPE he.h hp jIO ha⟩
end L2
namespace Eo
open PySem L2
theorem jMB {Ls:List (List Nat)}{l:List Nat}(h:l∈Ls):l.length<=lenG Ls:=by
 induction Ls with
 | nil=>cases h
 | cons a r ih=>
  show _<=max a.length (lenG r)
  rcases ar.mp h with z | z
  ·rw[z]; lia
  ·have:=ih z; lia
theorem jP0 {Ls:List (List Nat)}{M:Int}(h:M∈Ls.map λl=>((l.length:Nat):Int))(hm:∀a∈Ls.map λl=>((l.length:Nat):Int),a<=M):M=(lenG Ls:Int):=by
 induction Ls generalizing M with
 | nil=>cases h
 | cons a r ih=>
  show M=((max a.length (lenG r):Nat):Int)
  have ha:((a.length:Nat):Int)<=M:=hm _ (ag ..)
  have hr:∀x∈r,((x.length:Nat):Int)<=M:=λx hx=>hm _ (ah _ (bQ (f:=λl:List Nat=>((l.length:Nat):Int)) hx))
  have rl:(lenG r:Int)<=M:=by
   clear ih h
   induction r with
   | nil=>show ((0:Nat):Int)<=M; lia
   | cons b r ih2=>
    show ((max b.length (lenG r):Nat):Int)<=M
    have:=hr b (ag ..)
    have:=ih2 (λx hx=>hm x (by
     rcases ar.mp hx with z | z
     ·exact ar.mpr (.inl z)
     ·exact ah _ (ah _ z))) λx hx=>hr x (ah _ hx)
    lia
  rcases ar.mp h with z | z
  ·have z:M=((a.length:Nat):Int):=z
   lia
  ·obtain⟨x,hx,e⟩:=aW.mp z
   have e:((x.length:Nat):Int)=M:=e
   have:=jMB hx
   lia
def LsC (D:Addr)(H:Hp)(us:List V)(Ls:List (List Nat)):Prop:=All2 (λu L=>∃a,u=V.ref a/\a≠D/\H a=some (.lst (L.map natV))) us Ls
theorem LsC.mono {D:Addr}{H H':Hp}{us:List V}{Ls:List (List Nat)}(h:LsC D H us Ls)(k:∀a xs,H a=some (.lst xs)->a≠D->H' a=some (.lst xs)):LsC D H' us Ls:=All2.imp (λ_ _ ⟨a,e,n,q⟩=>⟨a,e,n,k _ _ q n⟩) h
def FrH (H00:Hp):Hp->Prop:=λH=>∀b,H b=none->H00 b=none
theorem FrH.ok (H00:Hp):HpOk (FrH H00):=⟨λH H' D kvs hD hD' k h b hb=>h b (by
 cases z:H b with
 | none=>rfl
 | some o=>
  by_cases e:b=D
  ·obtain⟨kvs',y⟩:=hD'
   rw[e,y] at hb
   cases hb
  ·rw[k b o z e] at hb
   cases hb),λH H' x h b hb=>h b (by
 cases z:H b with
 | none=>rfl
 | some o=>rw[x b o z] at hb; cases hb)⟩
def RSz (H00:Hp)(ch:Ch):RepT:=λm H v=>∃a,v= .ref a/\H00 a=none/\H a=some (.lst ((szL (wk ch m)).map natV))
theorem RSz.ok (H00:Hp)(ch:Ch):RepOk (RSz H00 ch):=λm v=>⟨λH H' D kvs hD _ k ⟨a,e,n,h⟩=>⟨a,e,n,k _ _ h λz=>by rw[z,hD] at h; cases h⟩,λH H' x ⟨a,e,n,h⟩=>⟨a,e,n,x _ _ h⟩⟩
theorem jPA {n j:Nat}(h:j<n):ixN n (j:Int)=some j:=by
 unfold ixN
 simp
 lia
section
variable {fJ:Addr}{fdJ:FuncData}
noncomputable abbrev nSzT:List Str:=["behind","lists","together","counts","size","count"]
theorem scSzT:FnScope nSzT ["behind"] (jA sSzT):= {}
def szInA (T:Txt mg): { t:TS // JSs (XOf nSzT "sizes_together" sSzT P w K mg base f cdv A outer s H0 E) (yS ((jC sSzT).getD 2 (.Pass ⟨0,0,0,0⟩))) t} :=
 have nd:=scSzT.nd
 ⟨_,(jD (yT bX rfl (jI3 gD T.enumerate (j3 (jv 3 rfl vL) j8 j4) j4) (jF7 (i:=4) (j:=5) nd rfl rfl (by decide+kernel) (by decide+kernel)) (jD (jSJ (jv 2 rfl vL) (jv 4 rfl vL) (jv 5 rfl vL) jV5)) kO))⟩
def szTA (T:Txt mg): { t:TS // JSs (XOf nSzT "sizes_together" sSzT P w K mg base f cdv A outer s H0 E) (jC sSzT) t} :=
 have nd:=scSzT.nd
 ⟨_,(jB (jI1 (i:=1) nd rfl lL ⟨by rfl⟩ (m:=[none,none]) (Nc:=["number","counts"]) rfl (yB (jv 0 rfl vL)) rfl (by decide+kernel) (by decide+kernel) (jT (psc:=jA sSzT)) (jL (N:=nSzT) rfl rfl (by decide+kernel)) (λcl C fp s H=>jBZ (i:=0) (j:=1) rfl (show (["number","counts"]:List Str).Nodup by decide+kernel) rfl rfl (by decide+kernel) (by decide+kernel)) (λcl C fp s H=>jCG (jY op_gt (jE jEN gl_b T.len (by decide+kernel) (j3 (jv 1 rfl jW) j8 j4) j4) (je_int) (jX _))) (λcl C fp s H=>(jMO (jY op_ge (jv 0 rfl jW) (je_int) (jX _)) (kI jD1 (yD (j3 (je_int) j8 jG)) (jv 1 rfl jW)) (jv 1 rfl jW))) yI) (jB (jQ (i:=2) nd rfl lL (kI jUE (yD (j3 (je_int) j8 jG)) (jGO (jNQ rfl) gD T.max (by decide+kernel) (j3 (yE (m:=[none]) (Nc:=["counts"]) rfl (yB (jv 1 rfl vL)) rfl (by decide+kernel) (by decide+kernel) (jT (psc:=jA sSzT)) (jL (N:=nSzT) rfl rfl (by decide+kernel)) (λcl C fp s H=>jJ (i:=0) (show (["counts"]:List Str).Nodup by decide+kernel) rfl qG) (λcl C fp s H=>yH) (λcl C fp s H=>(jE jEN gl_b T.len (by decide+kernel) (j3 (jv 0 rfl jW) j8 j4) j4)) yI) j8 jP) (jI2 je_int jMK) jP)) jDE) (jB (yT bX rfl (yB (jv 1 rfl vL)) (jJ (i:=3) nd rfl lL) (szInA T).2 yI) (jD (jV (jv 2 rfl vL))))))⟩
theorem jL7 (T:Txt mg){D:Ends}{H:Hp}{t a:Addr}{M:Nat}{L:List Nat}{f0:Nat->Nat}{v0 v1 v4 v5:Option V}(ht:H t=some (.lst (((List.range M).map f0).map natV)))(ha:H a=some (.lst (L.map natV)))(at':a≠t)(lM:L.length<=M)
  (nx:∀H' v4 v5,H' t=some (.lst (((List.range M).map λs=>f0 s+L.getD s 0).map natV))->(∀c o,H c=some o->c≠t->H' c=some o)->D.nx [v0,v1,some (.ref t),some (.ref a),v4,v5] H'):
  (szInA (f:=f) (cdv:=cdv) (A:=A) (outer:=outer) (s:=s) (H0:=H0) (E:=E) (P:=P) (w:=w) (K:=K) (base:=base) T).1 D [v0,v1,some (.ref t),some (.ref a),v4,v5] H:=by
 refine⟨_,rfl,false,a,rfl,⟨_,SqL.of ha⟩,jFB (tp:=false) (xs:=L.map natV) (λi σ H'=>(∃v4 v5,σ=[v0,v1,some (.ref t),some (.ref a),v4,v5])/\(∀c o,H c=some o->c≠t->H' c=some o)/\H' t=some (.lst (((List.range M).map λs=>f0 s+if s<i then L.getD s 0 else 0).map natV))) ⟨⟨_,_,rfl⟩,λ_ _ h _=>h,?_⟩ (λi σ H' ⟨_,k,_⟩=>SqL.of (k _ _ ha at')) ?_ ?_⟩
 ·rw[ht]
  have e:((List.range M).map f0)=(List.range M).map λs=>f0 s+if s<0 then L.getD s 0 else 0:=bo λs _=>by rw[aj (dQ _),eZ]
  rw[e]
 ·rintro i x Tp σ H1 hx hT ⟨⟨v4,v5,rfl⟩,k1,t1⟩
  have il:i<L.length:=by have:=(ax.mp hx).1; rwa [ae] at this
  have ex:x=natV (L.getD i 0):=by
   rw[aJ,aK il] at hx
   rw[aC,aK il]
   exact(bA hx).symm
  subst ex
  have tT:t≠Tp:=λz=>by rw[z,hT] at t1; cases t1
  have k2:∀c o,H1 c=some o->(L2.upd H1 Tp (.tup [.int (i:Int),natV (L.getD i 0)])) c=some o:=λc o h=>by rw[j6 (λz=>by rw[z,hT] at h; cases h)]; exact h
  have gi:((((List.range M).map λs=>f0 s+if s<i then L.getD s 0 else 0).map natV))[i]?=some (natV (f0 i)):=by
   rw[aJ,aJ,dj (by lia)]
   show some (natV (f0 i+if i<i then L.getD i 0 else 0))=_
   rw[aj (b8 _),eZ]
  refine⟨Tp,_,rfl,SqT.of j5,rfl,_,_,rfl,_,_,rfl,rfl,?_⟩
  refine⟨_,rfl,_,rfl,t,_,i,_,rfl,rfl,SqL.of (k2 _ _ t1),gi,_,rfl,_,_,rfl,rfl,t,_,_,i,rfl,rfl,k2 _ _ t1,?_,⟨_,_,rfl⟩,λc o h n=>by rw[j6 n]; exact k2 _ _ (k1 _ _ h n),?_⟩
  ·have:=jPA (n:=((((List.range M).map λs=>f0 s+if s<i then L.getD s 0 else 0).map natV)).length) (j:=i) (by rw[ae,ae,bW]; lia)
   exact this
  ·rw[j5]
   congr 2
   refine jk λj=>?_
   rw[jq,ae,ae,bW]
   by_cases hj:i=j
   ·subst hj
    rw[am rfl,am (by lia),aJ,aJ,dj (by lia)]
    show some (V.int (((f0 i:Nat):Int)+((L.getD i 0:Nat):Int)))=some (natV (f0 i+if i<i+1 then L.getD i 0 else 0))
    rw[am (fO _)]
    unfold natV
    rw[iy]
   ·rw[aj hj,aJ,aJ,aJ,aJ]
    by_cases hM:j<M
    ·rw[dj hM]
     show some (natV (f0 j+if j<i then _ else _))=some (natV (f0 j+if j<i+1 then _ else _))
     by_cases h:j<i
     ·rw[am h,am (by lia)]
     ·rw[aj h,aj (by lia)]
    ·rw[cc (by rw[bW]; lia)]
     rfl
 ·rintro σ H1 ⟨⟨v4,v5,rfl⟩,k1,t1⟩
  rw[ae] at t1
  refine nx H1 _ _ ?_ k1
  rw[t1]
  congr 3
  refine bo λs _=>?_
  by_cases h:s<L.length
  ·rw[am h]
  ·rw[aj h,aC,cc (by lia)]
   rfl
theorem jUI {fd:FuncData}{ch:Ch}{H00:Hp}(o:ChOk ch)(F:Fun K "sizes_together" "sizes_together" sSzT f fd)(T:Txt mg):FnOk P w K mg base CX0 1 f fd ["behind"] (λvs H Q E=>FrH H00 H/\jDH ch (RSz H00 ch) vs H Q E):=by
 refine F.ok scSzT (λvs H Q E h=>?_) (λcdv A outer s H vs Q E hr h=>?_)
 ·obtain⟨_,_,_,_,rfl,_⟩:=h
  rfl
 ·obtain⟨fr,l,us,m,rfl,hl,hm,hn,al,q⟩:=h
  refine⟨_,(szTA T).2.h,?_⟩
  have ul:=All2.len al
  have c33:(chAt ch m).length<=33:=by
   unfold chAt
   refine bf (bh _ _) ?_
   rw[aC]
   cases hg:ch[lowN m]? with
   | none=>exact bi _
   | some cs=>exact o.len _ _ hg
  have mb:∀c∈chAt ch m,m|||c.2<2 ^ ch.length:=λc hc=>by
   unfold chAt at hc
   obtain⟨g1,_⟩:=bF.mp hc
   rw[aC] at g1
   cases hg:ch[lowN m]? with
   | none=>rw[hg] at g1; cases g1
   | some cs=>
    rw[hg] at g1
    exact Nat.or_lt_two_pow hm (o.it _ _ hg c g1).2.1
  let cs:=(chAt ch m).map λc=>(c.1,wk ch (m|||c.2))
  let pk:Int×List (List Int)->Bool:=λp=>decide (0<(szL p.2).length)
  let fl:Int×List (List Int)->List Nat:=λp=>szL (p.2.map (wfS p.1))
  have csl:cs.length=us.length:=by rw[ul]; exact ae ..
  refine⟨_,rfl,l,rfl,⟨_,SqL.of hl⟩,jGV (by rw[aH]; lia) (λD i σ' H' zs=>(∃v v',σ'=[v,v'])/\Ext H H'/\H' D=some (.lst zs)/\H D=none/\LsC D H' zs (((cs.take i).filter pk).map fl)) (λD hD=>⟨⟨_,_,rfl⟩,(Ext.refl _).new hD _,j5,hD,trivial⟩) (λD i σ' H' zs hD ⟨_,e,d,_,a⟩=>⟨e _ _ hl,d,by
   rw[All2.len a,ae]
   exact bf (bh _ _) (ce _ _)⟩) ?_ ?_⟩
  ·rintro D i σ' H1 zs x hD hx ⟨⟨v,v',rfl⟩,e1,d1,n1,a1⟩
   obtain⟨c,hc,pq,u,rfl,hq,a,rfl,na,ha⟩:=All2.get' al hx
   have hci:cs[i]?=some (c.1,wk ch (m|||c.2)):=by
    show ((chAt ch m).map _)[i]?=_
    rw[aJ,hc]
    rfl
   have tk:cs.take (i+1)=cs.take i++[(c.1,wk ch (m|||c.2))]:=by rw[bu,hci]; rfl
   have aD:a≠D:=λz=>by rw[z,hD] at ha; cases ha
   refine⟨pq,_,rfl,SqT.of (e1 _ _ hq),rfl,_,_,rfl,_,_,rfl,rfl,?_⟩
   have a1':=e1 _ _ ha
   have sl:=jFW o (mb c (aE hc))
   refine⟨_,rfl,a,_,rfl, .inl (SqL.of a1'),_,_,rfl,rfl,_,rfl,ite2 (λh=>?_) (λh=>?_)⟩
   ·have h:(0:Int)<((((szL (wk ch (m|||c.2))).map natV).length:Nat):Int):=aU h
    rw[ae] at h
    have pkc:pk (c.1,wk ch (m|||c.2))=true:=aB (by show 0<(szL (wk ch (m|||c.2))).length; lia)
    have ne:wk ch (m|||c.2)≠ []:=λz=>by
     rw[jDC,szN_zero.mpr z] at h
     lia
    have ft:((cs.take (i+1)).filter pk).map fl=((cs.take i).filter pk).map fl++[szL ((wk ch (m|||c.2)).map (wfS c.1))]:=by
     rw[tk,bH,ba,dM pkc]
     rfl
    rw[ft,jTI ne]
    have fin:∀(H2:Hp) (b:Addr) (L:List Nat),Ext H1 H2->b≠D->H2 b=some (.lst (L.map natV))->H2 D=some (.lst zs)/\(∃v0 v1,[some (V.int c.1),some (V.ref a)]=[v0,v1])/\Ext H (L2.upd H2 D (.lst (zs++[V.ref b])))/\(L2.upd H2 D (.lst (zs++[V.ref b]))) D=some (.lst (zs++[V.ref b]))/\H D=none/\LsC D (L2.upd H2 D (.lst (zs++[V.ref b]))) (zs++[V.ref b]) (((cs.take i).filter pk).map fl++[L]):=λH2 b L e2 bD hb=>by
     refine⟨e2 _ _ d1,⟨_,_,rfl⟩,(e1.trans e2).updNew hD _,j5,hD,All2.snoc (LsC.mono a1 λx xs hx nx=>by rw[j6 nx]; exact e2 _ _ hx) ⟨b,rfl,bD,by rw[j6 bD]; exact hb⟩⟩
    refine⟨_,rfl,_,_,rfl,rfl,_,rfl,ite2 (λh2=>?_) (λh2=>?_)⟩
    ·have h2:(0:Int)<=c.1:=aU h2
     rw[aj (by lia)]
     refine⟨by show (1:Nat)<=_; decide,λl2 H2 d2 e2 n2=>⟨_,rfl,l2,a,_,_,rfl,rfl,d2,e2 _ _ a1',by rw[aH,ae]; show 1+_<=_; lia,λb3 H3 d3 e3 n3=>?_⟩⟩
     exact fin H3 b3 _ (e2.trans e3) (λz=>by rw[z,e2 _ _ d1] at n3; cases n3) d3
    ·have h2:¬(0:Int)<=c.1:=λz=>h2 (aB z)
     rw[am (by lia)]
     exact⟨_,rfl,fin H1 a _ (Ext.refl _) aD a1'⟩
   ·have h:¬0<(szL (wk ch (m|||c.2))).length:=λz=>h (aB (by show (0:Int)<((((szL (wk ch (m|||c.2))).map natV).length:Nat):Int); rw[ae]; lia))
    have pkc:¬pk (c.1,wk ch (m|||c.2))=true:=λz=>h (aU z)
    refine⟨⟨_,_,rfl⟩,e1,d1,n1,?_⟩
    rw[tk,bH,dN pkc]
    show LsC D H1 zs (((cs.take i).filter pk++[]).map fl)
    rw[bg]
    exact a1
  ·rintro D σ' H1 zs hD ⟨_,e1,d1,n1,a1⟩
   have tcs:cs.take us.length=cs:=by rw[<- csl,bI]
   rw[tcs] at a1
   have res:szL (wk ch m)=(List.range (lenG ((cs.filter pk).map fl))).map (sumG ((cs.filter pk).map fl)):=by
    rw[yM o hm hn]
    exact jT9 cs
   have zl:=All2.len a1
   have z33:zs.length<=33:=by
    rw[zl,ae]
    refine bf (bh _ _) ?_
    rw[csl,ul]
    exact c33
   have M17:lenG ((cs.filter pk).map fl)<=17:=by
    have h:=jFW o hm
    rw[res,ae,bW] at h
    exact h
   generalize hLs:(cs.filter pk).map fl=Ls at a1 res zl M17
   refine⟨by show (1:Nat)<=_; decide,λl2 H2 d2 e2 n2=>?_⟩
   have d12:=e2 _ _ d1
   refine⟨_,rfl,D,rfl,⟨_,SqL.of d12⟩,jBC (λσ=>∃v,σ=[v]) (mapZ Ls λL=>natV L.length) (mapZ.ok _ _) d12 (by rw[aH]; lia) ⟨_,rfl⟩ ?_ ?_⟩
   ·rintro j x σ2 H3 zs3 hx ⟨v,rfl⟩ e3 hz S1 S2 yes no
    obtain⟨L,hL,a,rfl,aD,ha⟩:=All2.get' a1 hx
    dsimp only [kE,yW]
    rw[am rfl]
    refine⟨_,rfl,a,_,rfl, .inl (SqL.of (e3 _ _ (e2 _ _ ha))),?_⟩
    rw[ae]
    exact yes _ _ _ ⟨_,rfl⟩ (Ext.refl _) (mapZ.yes hz hL)
   ·intro Mx H3 zs3 d3 e3 n3 hz
    have hz:=hz.all (by rw[zl]; exact aq _)
    have hz2:zs3=(Ls.map λL=>((L.length:Nat):Int)).map V.int:=by rw[hz,bz]; rfl
    rw[hz2] at d3
    refine⟨Mx,Ls.map λL=>((L.length:Nat):Int),0,(lenG Ls:Int),rfl,rfl,SqL.of d3,λe=>?_,λm' a b=>jP0 a b,?_⟩
    ·rw[List.map_eq_nil_iff.mp e]
     rfl
    ·have E3:=(e1.trans e2).trans e3
     refine⟨l2,_,_,rfl,rfl,e3 _ _ d2,by lia,by lia,by show 1*_<=_; rw[aH,br]; lia,λt4 h4=>?_⟩
     have rp:(replicate ((lenG Ls:Nat):Int).toNat [V.int 0]).flatten=((List.range (lenG Ls)).map λ_=>0).map natV:=by
      rw[br]
      clear res M17
      generalize lenG Ls=M
      induction M with
      | zero=>rfl
      | succ M ih=>
       rw[di,fi,ih,lv,aX,aX]
       show natV 0::_=natV 0::_
       rw[bz,bz,bz]
       rfl
     rw[rp]
     have e4:Ext H3 (L2.upd H3 t4 (.lst (((List.range (lenG Ls)).map λ_=>0).map natV))):=(Ext.refl _).new h4 _
     have d4:(L2.upd H3 t4 (.lst (((List.range (lenG Ls)).map λ_=>0).map natV))) t4=some (.lst (((List.range (lenG Ls)).map λ_=>0).map natV)):=j5
     generalize L2.upd H3 t4 (.lst (((List.range (lenG Ls)).map λ_=>0).map natV))=H4 at e4 d4
     have N4:H t4=none:=jED E3 h4
     have D4:=e4 _ _ (e3 _ _ d12)
     have tD:D≠t4:=λz=>by rw[<- z,e3 _ _ d12] at h4; cases h4
     have a4:All2 (λu L=>∃a,u=V.ref a/\a≠t4/\H4 a=some (.lst (L.map natV))) zs Ls:=All2.imp (λu L ⟨a,e,_,ha⟩=>⟨a,e,(λz=>by rw[<- z,e3 _ _ (e2 _ _ ha)] at h4; cases h4),e4 _ _ (e3 _ _ (e2 _ _ ha))⟩) a1
     refine⟨_,rfl,D,rfl,⟨_,SqL.of D4⟩,jBA (xs:=zs) (λi σ H'=>(∃v3 v4 v5,σ=[some (.ref l),some (.ref D),some (.ref t4),v3,v4,v5])/\(∀c o,H4 c=some o->c≠t4->H' c=some o)/\H' t4=some (.lst (((List.range (lenG Ls)).map (sumG (Ls.take i))).map natV))) ⟨⟨_,_,_,rfl⟩,λ_ _ h _=>h,d4⟩ (λi σ H' _ ⟨_,k,_⟩=>SqL.of (k _ _ D4 tD)) ?_ ?_⟩
     ·rintro i x σ H5 hx ⟨⟨v3,v4,v5,rfl⟩,k5,t5⟩
      obtain⟨L,hL,a,rfl,at4,ha⟩:=All2.get' a4 hx
      refine jL7 T t5 (k5 _ _ ha at4) at4 (jMB (aE hL)) λH6 v4 v5 t6 k6=>⟨⟨_,_,_,rfl⟩,λc o h n=>k6 _ _ (k5 _ _ h n) n,?_⟩
      rw[t6]
      have e:((List.range (lenG Ls)).map λs=>sumG (Ls.take i) s+L.getD s 0)=(List.range (lenG Ls)).map (sumG (Ls.take (i+1))):=bo λs _=>by
       unfold sumG
       rw[bu,hL,ba,lC]
       show _=_+(L.getD s 0+0)
       rw[eZ]
      rw[e]
     ·rintro σ H5 ⟨⟨v3,v4,v5,rfl⟩,k5,t5⟩
      rw[zl,bI,<- res] at t5
      exact⟨_,rfl,q _ H5 ⟨t4,rfl,fr t4 N4,t5⟩ λc o h=>k5 _ _ (e4 _ _ (E3 _ _ h)) λz=>by rw[z,N4] at h; cases h⟩
abbrev jM0:List Str:=["box"]
theorem scSizes:FnScope jM0 ["box"] (jA jCO):= {}
def jLA (fJ:Addr):Sp:=spEx (λx:Hp×Ch=>ChOk x.2) λx=>jIL fJ (FrH x.1) x.2 (RSz x.1 x.2)
def jHL:Sp:=λvs H Q _=>∃(b:Addr) (w:Int) (ms:List Int) (pcs:List (List Int×Int)),vs=[.ref b]/\BoxAt H b w ms pcs/\Good 16 32 w ms pcs/\∀l H',H' l=some (.lst ((szL (wk (chs w.toNat ms pcs) 0)).map natV))->Ext H H'->H l=none->Q (.ref l) H'
def jTN (T:Txt mg)(CC:Can P w K mg base "choices_of" 2 fC fdC ["box"] jA9)(CG:Can P w K mg base "gathered" 4 fG fdG ["choices","at_end","join"] (jLA fJ))(MJ:mg "sizes_together" =some (.ref fJ))(hr:Room 4 (XOf jM0 "sizes" jCO P w K mg base f cdv A outer s H0 E).A): { t:TS // JSs (XOf jM0 "sizes" jCO P w K mg base f cdv A outer s H0 E) (jC jCO) t} :=
 have nd:=scSizes.nd
 have _h:=T
 ⟨_,(jD (jV (jDR (yZ hr) (CG.je hr gD (j3 (CC.je (hr.mono (by decide)) gD (j3 (jv 0 rfl vL) j8 j4) j4) (j3 (yD (j3 je_int j8 jG)) (j3 (jMP (v:= .ref fJ) gD MJ rfl) j8 j4) jLF) jH) jH) je_int jI)))⟩
theorem jOO {fd:FuncData}(F:Fun K "sizes" "sizes" jCO f fd)(T:Txt mg)(CC:Can P w K mg base "choices_of" 2 fC fdC ["box"] jA9)(CG:Can P w K mg base "gathered" 4 fG fdG ["choices","at_end","join"] (jLA fJ))(MJ:mg "sizes_together" =some (.ref fJ)):FnOk P w K mg base CX0 5 f fd ["box"] jHL:=by
 refine F.ok scSizes (λvs H Q E h=>?_) (λcdv A outer s H vs Q E hr h=>?_)
 ·obtain⟨_,_,_,_,rfl,_⟩:=h
  rfl
 ·obtain⟨b,wi,ms,pcs,rfl,hB,g,q⟩:=h
  refine⟨_,(jTN T CC CG MJ hr).2.h,?_⟩
  have o:ChOk (chs wi.toNat ms pcs):=yU g
  refine⟨_,rfl,b,wi,ms,pcs,rfl,hB,g,λL H1 hL1 e1=>⟨by show (1:Nat)<=_; decide,λt H2 d2 e2 n2=>?_⟩⟩
  have E2:=e1.trans e2
  have ef:szL (wk (chs wi.toNat ms pcs) (fullN (chs wi.toNat ms pcs)))=[1]:=by rw[yN]; rfl
  refine⟨(H,chs wi.toNat ms pcs),o,L, .ref t,rfl,hL1.ext e2,⟨t,rfl,jED e1 n2,by rw[ef]; exact d2⟩,λc hc=>jED E2 hc,λr ns H3 got srt mt e3 n3=>?_⟩
  obtain⟨u,dg,a,rfl,na,ha⟩:=got0 got srt mt
  exact⟨r,_,rfl,dg,q a H3 ha (E2.trans e3) na⟩
end
def lk:List (Int×Nat)->Int->Nat
 | [],_=>0
 | w::r,v=>(if w.1=v then w.2 else 0)+lk r v
def tot (l:List (Int×Nat)):Nat:=(l.map (·.2)).sum
def bump:List (Int×Nat)->Int->Nat->List (Int×Nat)
 | [],v,k=> [(v,k)]
 | w::r,v,k=>if w.1=v then (w.1,w.2+k)::r else w::bump r v k
def kvI (l:List (Int×Nat)):List (Key×V):=l.map λw=>((Sum.inl w.1:Key),natV w.2)
structure WOk (l:List (Int×Nat)):Prop where
 nd:(l.map (·.1)).Nodup
 pos:∀w∈l,0<w.2
theorem jHZ:∀(l:List (Int×Nat)) (v:Int) (k:Nat) (u:Int),lk (bump l v k) u=lk l u+if v=u then k else 0
 | [],v,k,u=>by show (if v=u then k else 0)+0=0+_; lia
 | w::r,v,k,u=>by
  unfold bump
  by_cases h:w.1=v
  ·rw[am h]
   show (if w.1=u then w.2+k else 0)+lk r u=(if w.1=u then w.2 else 0)+lk r u+_
   by_cases h2:w.1=u
   ·rw[am h2,am h2,am (by lia)]; lia
   ·rw[aj h2,aj h2,aj (by lia)]; lia
  ·rw[aj h]
   show _+lk (bump r v k) u=_
   rw[jHZ r v k u]
   show _=(if w.1=u then w.2 else 0)+lk r u+_
   lia
theorem jER:∀(l:List (Int×Nat)) (v:Int) (k:Nat),tot (bump l v k)=tot l+k
 | [],v,k=>by show k+0=0+k; lia
 | w::r,v,k=>by
  unfold bump
  by_cases h:w.1=v
  ·rw[am h]
   show w.2+k+tot r=w.2+tot r+k
   lia
  ·rw[aj h]
   show w.2+tot (bump r v k)=w.2+tot r+k
   rw[jER r v k]; lia
theorem jDP:∀{l:List (Int×Nat)}{v:Int},v∉l.map (·.1)->lk l v=0
 | [],_,_=>rfl
 | w::r,v,h=>by
  show (if w.1=v then w.2 else 0)+lk r v=0
  rw[aj λz=>h (by rw[<- z]; exact ag ..),jDP λz=>h (ah _ z)]
theorem jFJ:∀{l:List (Int×Nat)}{v:Int}{k:Nat},v∉l.map (·.1)->bump l v k=l++[(v,k)]
 | [],_,_,_=>rfl
 | w::r,v,k,h=>by
  unfold bump
  rw[aj λz=>h (by rw[<- z]; exact ag ..),jFJ λz=>h (ah _ z)]
  rfl
theorem jH0:∀{l:List (Int×Nat)}{v:Int}{k:Nat},v∈l.map (·.1)->(bump l v k).map (·.1)=l.map (·.1)
 | [],_,_,h=>by cases h
 | w::r,v,k,h=>by
  unfold bump
  by_cases z:w.1=v
  ·rw[am z]; rfl
  ·rw[aj z,aX,aX,jH0]
   rcases ar.mp h with y | y
   ·exact absurd y.symm z
   ·exact y
theorem WOk.bump {l:List (Int×Nat)}{v:Int}{k:Nat}(o:WOk l)(hk:0<k):WOk (bump l v k):=by
 constructor
 ·by_cases h:v∈l.map (·.1)
  ·rw[jH0 h]; exact o.nd
  ·rw[jFJ h,ba]
   exact jLZ o.nd h
 ·intro w hw
  have key:∀{l:List (Int×Nat)},(∀w∈l,0<w.2)->∀w∈Eo.bump l v k,0<w.2:=λ{l} =>by
   induction l with
   | nil=>
    intro _ w hw
    rw[ak.mp hw]
    exact hk
   | cons x r ih=>
    intro hp w hw
    unfold Eo.bump at hw
    split at hw
    ·rcases ar.mp hw with y | y
     ·rw[y]; show 0<x.2+k; lia
     ·exact hp w (ah _ y)
    ·rcases ar.mp hw with y | y
     ·rw[y]; exact hp x (ag ..)
     ·exact ih (λz hz=>hp z (ah _ hz)) w y
  exact key o.pos w hw
theorem WOk.len {l:List (Int×Nat)}(o:WOk l):l.length<=tot l:=by
 have key:∀{l:List (Int×Nat)},(∀w∈l,0<w.2)->l.length<=tot l:=λ{l} =>by
  induction l with
  | nil=>exact λ_=>aq _
  | cons w r ih=>
   intro h
   have:=h w (ag ..)
   have:=ih λx hx=>h x (ah _ hx)
   show r.length+1<=w.2+tot r
   lia
 exact key o.pos
theorem jD9 {v:Int} :∀{l:List (Int×Nat)},(l.map (·.1)).Nodup->valV (kvI l) (.inl v)=if v∈l.map (·.1) then some (natV (lk l v)) else none
 | [],_=>rfl
 | w::r,nd=>by
  obtain⟨n1,n2⟩:=bJ.mp nd
  show valV (((Sum.inl w.1:Key),natV w.2)::kvI r) _=_
  rw[aX]
  by_cases h:w.1=v
  ·subst h
   rw[jB7 rfl,am (ag ..)]
   show _=some (natV ((if w.1=w.1 then w.2 else 0)+lk r w.1))
   rw[am rfl,jDP n1,eZ]
  ·rw[jAU (λz=>h (gy z)),jD9 n2]
   have e:lk (w::r) v=lk r v:=by
    show (if w.1=v then w.2 else 0)+lk r v=_
    rw[aj h,fc]
   by_cases h2:v∈r.map (·.1)
   ·rw[am h2,am (ah _ h2),e]
   ·rw[aj h2,aj λz=>(ar.mp z).elim (λz=>h z.symm) h2]
theorem jF8 {l:List (Int×Nat)}{v:Int}(nd:(l.map (·.1)).Nodup):(valV (kvI l) (.inl v)).getD (.int 0)=natV (lk l v):=by
 rw[jD9 nd]
 by_cases h:v∈l.map (·.1)
 ·rw[am h]; rfl
 ·rw[aj h,jDP h]; rfl
theorem jHQ {l:List (Int×Nat)}{v:Int}{k:Nat}(nd:(l.map (·.1)).Nodup):putK (kvI l) (.inl v) (natV (lk l v+k))=kvI (bump l v k):=by
 by_cases h:v∈l.map (·.1)
 ·have hany:((kvI l).any λkv=>decide (kv.1=(Sum.inl v:Key)))=true:=by
   rw[jCW,jD9 nd,am h]
   rfl
  unfold putK
  rw[am hany]
  clear hany
  induction l with
  | nil=>cases h
  | cons w r ih=>
   obtain⟨n1,n2⟩:=bJ.mp nd
   show (if (Sum.inl w.1:Key)=Sum.inl v then ((Sum.inl w.1:Key),natV (lk (w::r) v+k)) else (Sum.inl w.1,natV w.2))::(kvI r).map (λkv=>if kv.1=Sum.inl v then (kv.1,natV (lk (w::r) v+k)) else kv)=kvI (bump (w::r) v k)
   unfold bump
   by_cases z:w.1=v
   ·rw[am (by rw[z]),am z]
    have e:lk (w::r) v=w.2:=by
     show (if w.1=v then w.2 else 0)+lk r v=_
     rw[am z,jDP (by rw[<- z]; exact n1),eZ]
    rw[e]
    show _::_=((Sum.inl w.1:Key),natV (w.2+k))::kvI r
    congr 1
    refine(bo λkv hkv=>?_).trans (fw _)
    obtain⟨x,hx,rfl⟩:=aW.mp hkv
    show (if (Sum.inl x.1:Key)=Sum.inl v then _ else _)=_
    rw[aj λy=>n1 (by show w.1∈_; rw[z,<- gy y]; exact bQ hx)]
    rfl
   ·rw[aj λy=>z (gy y),aj z]
    have e:lk (w::r) v=lk r v:=by
     show (if w.1=v then w.2 else 0)+lk r v=_
     rw[aj z,fc]
    rw[e]
    show _::_=((Sum.inl w.1:Key),natV w.2)::kvI (bump r v k)
    congr 1
    refine ih n2 ?_
    rcases ar.mp h with y | y
    ·exact absurd y.symm z
    ·exact y
 ·rw[jEW _ (by rw[jD9 nd,aj h]),jFJ h,jDP h,fc]
  unfold kvI
  rw[ba]
  rfl
end Eo
section
namespace L2
open PySem PySem.Spec PyProof.Rows
theorem Callee.imp2 {P:Program}{w:World}{K:W.Frag}{mg:Str->Option Value}{base:Heap}{Z:Shared->Hp->Prop}{zh zh':Hp->Prop}{k:Nat}{a:Addr}{sp sp':Sp}(C:Callee P w K mg base Z zh k a sp)(h1:∀H,zh' H->zh H)(h2:∀vs H Q E,zh' H->sp' vs H Q E->sp vs H Q E):Callee P w K mg base Z zh' k a sp':=
 ⟨λA outer s H e z=>C.fn A outer s H e (h1 H z),λA outer s H us vs Q E hr he hz zh r q=>C.run A outer s H us vs Q E hr he hz (h1 H zh) r (h2 _ _ _ _ zh q)⟩
section
variable {X:Cx}
def jTC (i j:Int):TE:=λ_ H Q=>∀p H',H' p=some (.dK [(Sum.inl i, .int j)])->Ext H H'->H p=none->Q (.ref p) H'
theorem jP6 {i j:Int}{k1 k2:Nat}{p1 p2 pos:Pos} :JE X (.Dict [some (.Constant (.int i) k1 p1)] [.Constant (.int j) k2 p2] pos) (jTC i j):=
 ⟨λad s σ H Q I h=>jLQ (jIS je_int.h je_int.h jLN) rfl rfl (by intro z; cases z) (by show 1<=15; decide) ad s σ H Q I λp hp=>⟨j5,[(.inl i, .int j)],rfl,by show 1<=15; decide,h p _ j5 (((Ext.refl H).new hp _).updNew hp _) hp⟩⟩
end
end L2
namespace Eo
open PySem L2
def wgt (pcs:List (List Int×Int))(k:Int):Int:=(pcs.getD k.toNat ([],0)).2
def wt (pcs:List (List Int×Int))(x:List Int):Int:=(x.map (wgt pcs)).sum
theorem jBG (pcs:List (List Int×Int))(c:Int)(x:List Int):wt pcs (c::x)=wgt pcs c+wt pcs x:=by
 unfold wt
 rw[aX,jz]
def cW (pcs:List (List Int×Int))(ws:List (List Int))(v:Int):Nat:=ws.countP λx=>wt pcs x==v
def chW (pcs:List (List Int×Int))(c:Int):Int:=if c<0 then 0 else wgt pcs c
theorem cW_wf (pcs:List (List Int×Int))(c:Int)(W:List (List Int))(v:Int):cW pcs (W.map (wfS c)) v=cW pcs W (v - chW pcs c):=by
 unfold cW
 rw[gu]
 refine fj λx _=>?_
 show ((wt pcs (if c<0 then x else c::x)==v)=true)↔((wt pcs x==v - chW pcs c)=true)
 unfold chW
 rw[cU,cU]
 by_cases h:c<0
 ·rw[am h,am h]; lia
 ·rw[aj h,aj h,jBG]; lia
def bmps:List (Int×Nat)->List (Int×Nat)->Int->List (Int×Nat)
 | l,[],_=>l
 | l,w::r,d=>bmps (bump l (w.1+d) w.2) r d
theorem jH4 (d:Int):∀(r l:List (Int×Nat)) (w:Int×Nat),bmps l (r++[w]) d=bump (bmps l r d) (w.1+d) w.2
 | [],_,_=>rfl
 | x::r,l,w=>jH4 d r _ w
theorem jIE {d:Int} :∀{r l:List (Int×Nat)},WOk l->(∀w∈r,0<w.2)->WOk (bmps l r d)
 | [],_,o,_=>o
 | w::r,l,o,h=>by
  show WOk (bmps (bump l (w.1+d) w.2) r d)
  exact jIE (o.bump (h w (ag ..))) λx hx=>h x (ah _ hx)
theorem jFK (d:Int):∀(r l:List (Int×Nat)),tot (bmps l r d)=tot l+tot r
 | [],l=>rfl
 | w::r,l=>by
  show tot (bmps (bump l (w.1+d) w.2) r d)=tot l+(w.2+tot r)
  rw[jFK d r,jER]; lia
theorem jNW (d:Int):∀(r l:List (Int×Nat)) (v:Int),lk (bmps l r d) v=lk l v+lk r (v - d)
 | [],l,v=>rfl
 | w::r,l,v=>by
  show lk (bmps (bump l (w.1+d) w.2) r d) v=lk l v+((if w.1=v - d then w.2 else 0)+lk r (v - d))
  rw[jNW d r,jHZ]
  by_cases h:w.1=v - d
  ·rw[am h,am (by lia)]; lia
  ·rw[aj h,aj (by lia)]; lia
structure WtD (pcs:List (List Int×Int))(ws:List (List Int))(l:List (Int×Nat)):Prop where
 ok:WOk l
 tt:tot l=ws.length
 lk:∀v,lk l v=cW pcs ws v
theorem WtD.step {pcs:List (List Int×Int)}{ws W:List (List Int)}{l r:List (Int×Nat)}{c:Int}(a:WtD pcs ws l)(b:WtD pcs W r):WtD pcs (ws++W.map (wfS c)) (bmps l r (chW pcs c)):=
 ⟨jIE a.ok b.ok.pos,by rw[jFK,a.tt,b.tt,aF,ae],λv=>by
  rw[jNW,a.lk,b.lk,<- cW_wf]
  exact(i8 ..).symm⟩
def RWt (pcs:List (List Int×Int))(ch:Ch):RepT:=λm H v=>∃a ob l,v= .ref a/\H a=some (.frz ob (.dK (kvI l)))/\WtD pcs (wk ch m) l
theorem RWt.ok (pcs:List (List Int×Int))(ch:Ch):RepOk (RWt pcs ch):=λm v=>⟨λH H' D kvs hD _ k ⟨a,ob,l,e,h,d⟩=>⟨a,ob,l,e,k _ _ h (λz=>by rw[z,hD] at h; cases h),d⟩,λH H' x ⟨a,ob,l,e,h,d⟩=>⟨a,ob,l,e,x _ _ h,d⟩⟩
structure WI where
 a:Addr
 c:Addr
 b:Addr
 w:Int
 ms:List Int
 pcs:List (List Int×Int)
 g:Good 16 32 w ms pcs
 bd:∀m,m<2 ^ (chs w.toNat ms pcs).length->(wk (chs w.toNat ms pcs) m).length<=1000000
abbrev WI.ch (i:WI):Ch:=chs i.w.toNat i.ms i.pcs
abbrev sWB:Stmt:=(jC sWts).getD 1 (.Pass ⟨0,0,0,0⟩)
abbrev pWB:Pos:=match sWB with
 | .FunctionDef _ _ _ _ _ _ _ _ _ p=>p
 | _=>⟨0,0,0,0⟩
abbrev qWB:Str:= "weights.<locals>.weights_together"
noncomputable abbrev nWB:List Str:=["behind","box","together","number","counts","more","weight","count"]
theorem scWB:NScope nWB ["behind"] ["box"] (jA sWB):=⟨rfl,rfl,rfl,by decide+kernel,rfl,by decide+kernel,by decide+kernel,λx h=>by
  have hl:∀y∈(jA sWB).names,y.2= .free->y.1= "box" :=by decide+kernel
  rw[ak]
  exact hl _ (cB h) rfl,by decide+kernel⟩
def spWB:List V->Sp:=λfv vs H Q E=>∃i:WI,fv=[.ref i.b]/\BoxAt H i.b i.w i.ms i.pcs/\jDH i.ch (RWt i.pcs i.ch) vs H Q E
section
variable {cd:Value}
def wbInA (T:Txt mg)(hr:Room 0 (cxN P w K mg base nWB qWB (jA sWB) f cd cl A outer s H0).A): { t:TS // JSs (cxN P w K mg base nWB qWB (jA sWB) f cd cl A outer s H0) (yS ((yS ((jC sWB).getD 1 (.Pass ⟨0,0,0,0⟩))).getD 1 (.Pass ⟨0,0,0,0⟩))) t} :=
 have nd:=scWB.nd
 have _h:=T
 ⟨_,(jD (jCI (yZ hr) (jv 2 rfl qF) (kI kP (jv 6 rfl qF) (jv 5 rfl qF)) (kI kP (jD5 (yZ hr) (jv 2 rfl qF) (kI kP (jv 6 rfl qF) (jv 5 rfl qF)) je_int y0 jG) (jv 7 rfl qF)) jDE))⟩
def jKO (T:Txt mg)(hr:Room 0 (cxN P w K mg base nWB qWB (jA sWB) f cd cl A outer s H0).A): { t:TS // JSs (cxN P w K mg base nWB qWB (jA sWB) f cd cl A outer s H0) (yS ((jC sWB).getD 1 (.Pass ⟨0,0,0,0⟩))) t} :=
 have nd:=scWB.nd
 ⟨_,(jB (jQ (i:=5) nd rfl (loc_n (by decide+kernel)) (jMO (jY op_ge (jv 3 rfl qF) (je_int) (jX _)) (kJ yL (kJ yL (kJ yL (jv 1 rfl (jPS (by decide+kernel))) (je_int) jI) (jv 3 rfl qF) jBI) (je_int) jI) (je_int)) jTK) (jD (yT bX rfl (jP4 (jv 4 rfl qF)) (jJ5 (i:=6) (j:=7) nd rfl rfl (by decide+kernel) (by decide+kernel)) (wbInA T hr).2 kO)))⟩
def wbehA (T:Txt mg)(hr:Room 0 (cxN P w K mg base nWB qWB (jA sWB) f cd cl A outer s H0).A): { t:TS // JSs (cxN P w K mg base nWB qWB (jA sWB) f cd cl A outer s H0) (jC sWB) t} :=
 have nd:=scWB.nd
 ⟨_,(jB (jQ (i:=2) nd rfl (loc_n (by decide+kernel)) (jD4) jDD) (jB (yT bX rfl (yB (jv 0 rfl qF)) (jJ5 (i:=3) (j:=4) nd rfl rfl (by decide+kernel) (by decide+kernel)) (jKO T hr).2 yI) (jD (jV (jQG (jv 2 rfl qF))))))⟩
theorem wb_in (T:Txt mg)(hr:Room 0 (cxN P w K mg base nWB qWB (jA sWB) f cd cl A outer s H0).A){D:Ends}{H:Hp}{t:Addr}{l:List (Int×Nat)}{u d:Int}{k:Nat}{v0 v1 v3 v4:Option V}(ht:H t=some (.dK (kvI l)))(o:WOk l)(ll:l.length<=2000000)
  (nx:D.nx [v0,v1,some (.ref t),v3,v4,some (.int d),some (.int u),some (natV k)] (L2.upd H t (.dK (kvI (bump l (u+d) k))))):
  (wbInA T hr).1 D [v0,v1,some (.ref t),v3,v4,some (.int d),some (.int u),some (natV k)] H:=by
 have kl:(kvI l).length<=2000000:=by unfold kvI; rw[ae]; exact ll
 refine⟨_,rfl,t,rfl, .inl ⟨_, .inl ht⟩,_,rfl,_,rfl,_,_,rfl,rfl,_,DGet.k (k:=Sum.inl (u+d)) ht,?_⟩
 rw[jF8 o.nd]
 refine⟨_,rfl,_,_,rfl,rfl,?_⟩
 refine⟨_,rfl,_,rfl,_,rfl,_,_,rfl,rfl,t,_,rfl,DPut.k (k:=Sum.inl (u+d)) ht (by rw[aH]; lia),?_⟩
 have e:putK (kvI l) (Sum.inl (u+d)) (.int (((lk l (u+d):Nat):Int)+((k:Nat):Int)))=kvI (bump l (u+d) k):=by
  rw[<- jHQ o.nd]
  unfold natV
  rw[iy]
 rw[e]
 exact nx
theorem jSH {l:List (Int×Nat)}{i:Nat}{k:Key}{y:V}(h:(kvI l)[i]?=some (k,y)):∃w,l[i]?=some w/\k=Sum.inl w.1/\y=natV w.2:=by
 unfold kvI at h
 rw[aJ] at h
 cases hw:l[i]? with
 | none=>rw[hw] at h; cases h
 | some w=>
  rw[hw] at h
  cases h
  exact⟨w,rfl,rfl,rfl⟩
theorem jQV (T:Txt mg)(hr:Room 0 (cxN P w K mg base nWB qWB (jA sWB) f cd cl A outer s H0).A){D:Ends}{H:Hp}{b t a:Addr}{ob:Obj}{l r:List (Int×Nat)}{c:Int}{wi:Int}{ms:List Int}{pcs:List (List Int×Int)}{v0 v5 v6 v7:Option V}(hB:BoxAt H b wi ms pcs)(ht:H t=some (.dK (kvI l)))(ha:H a=some (.frz ob (.dK (kvI r))))(o:WOk l)(or:WOk r)(ll:tot l+tot r<=2000000)(c0: -1<=c)(c1:c<pcs.length)
  (nx:∀H' v5 v6 v7,H' t=some (.dK (kvI (bmps l r (chW pcs c))))->(∀x u,H x=some u->x≠t->H' x=some u)->D.nx [v0,some (.ref b),some (.ref t),some (.int c),some (.ref a),v5,v6,v7] H'):
  (jKO T hr).1 D [v0,some (.ref b),some (.ref t),some (.int c),some (.ref a),v5,v6,v7] H:=by
 obtain⟨qm,qp,ps,b1,b2,b3,b4⟩:=id hB.ex
 have at':a≠t:=λz=>by rw[z,ht] at ha; cases ha
 have rl:=or.len
 have main:∀(d:Int),d=chW pcs c->tFor (jMZ (tVar 4)) (gTup K 2 (qA (kE 6) (qA (kE 7) gNil))) (wbInA T hr).1 D [v0,some (.ref b),some (.ref t),some (.int c),some (.ref a),some (.int d),v6,v7] H:=λd hd=>by
  refine⟨_,rfl,a,kvI r,rfl, .inr ⟨ob,ha⟩,λob' hob=>?_⟩
  have e:ob=ob':=hob ob ha
  subst e
  have eH:L2.upd H a (.frz ob (.dK (kvI r)))=H:=by
   funext x
   by_cases z:x=a
   ·rw[z,j5,ha]
   ·rw[j6 z]
  rw[eH]
  refine jN4 (λi σ H'=>(∃v6 v7,σ=[v0,some (.ref b),some (.ref t),some (.int c),some (.ref a),some (.int d),v6,v7])/\(∀x u,H x=some u->x≠t->H' x=some u)/\H' t=some (.dK (kvI (bmps l (r.take i) d)))) ⟨⟨_,_,rfl⟩,λ_ _ h _=>h,ht⟩ (λi σ H' ⟨_,k,_⟩=>k _ _ ha at') ?_ ?_
  ·rintro i k y Tp σ H1 hk hT ⟨⟨v6,v7,rfl⟩,k1,t1⟩
   obtain⟨w,hw,rfl,rfl⟩:=jSH hk
   have e5:∀x u,H1 x=some u->(L2.upd H1 Tp (.tup [kV (Sum.inl w.1),natV w.2])) x=some u:=λx u h=>by rw[j6 (λz=>by rw[z,hT] at h; cases h)]; exact h
   refine⟨Tp,_,rfl,SqT.of j5,rfl,_,_,rfl,_,_,rfl,rfl,?_⟩
   have okk:=jIE (d:=d) (r:=r.take i) o λx hx=>or.pos x (bU hx)
   have bl:=okk.len
   rw[jFK] at bl
   have tl:tot (r.take i)<=tot r:=by
    have:tot r=tot (r.take i)+tot (r.drop i):=by
     unfold tot
     rw[<- lC,<- ba,bx]
    lia
   refine wb_in T hr (e5 _ _ t1) okk (by lia) ⟨⟨_,_,rfl⟩,λx u h n=>by rw[j6 n]; exact e5 _ _ (k1 _ _ h n),?_⟩
   rw[j5,bu,hw]
   show some (HO.dK (kvI (bump (bmps l (r.take i) d) (w.1+d) w.2)))=some (HO.dK (kvI (bmps l (r.take i++[w]) d)))
   rw[jH4]
  ·rintro σ H1 ⟨⟨v6,v7,rfl⟩,k1,t1⟩
   have el:(kvI r).length=r.length:=ae ..
   rw[el,bI] at t1
   exact nx H1 _ _ _ (by rw[<- hd]; exact t1) k1
 refine⟨_,rfl,_,_,rfl,rfl,_,rfl,ite2 (λh=>?_) (λh=>?_)⟩
 ·have h:(0:Int)<=c:=aU h
  obtain⟨pv,hpv,pa,pw,rfl,ha1,ha2⟩:=b4.get (k:=c.toNat) (by lia)
  have at1:atI ps c=some (.ref pa):=by
   have:=jB2 hpv
   rwa [show ((c.toNat:Nat):Int)=c by lia] at this
  refine⟨_,rfl,b,_,2,_,rfl,rfl,SqT.of b1,rfl,_,rfl,qp,_,c,_,rfl,rfl,SqT.of b3,at1,pa,_,1,_,rfl,rfl,SqT.of ha1,rfl,?_⟩
  exact main _ (by unfold chW; rw[aj (by lia)]; rfl)
 ·have h:¬(0:Int)<=c:=λz=>h (aB z)
  exact main 0 (by unfold chW; rw[am (by lia)])
def preT (ch:Ch)(m i:Nat):List (List Int):=wJ (((chAt ch m).take i).map λc=>(c.1,wk ch (m|||c.2)))
theorem jLM {ch:Ch}{m i:Nat}{c:Int×Nat}(h:(chAt ch m)[i]?=some c):preT ch m (i+1)=preT ch m i++(wk ch (m|||c.2)).map (wfS c.1):=by
 unfold preT
 rw[bu,h,ba,jFP]
 congr 1
 unfold wJ
 exact List.flatMap_singleton _ _
theorem jOE {ch:Ch}{m:Nat}(o:ChOk ch)(h:m<2 ^ ch.length)(hn:m≠fullN ch):preT ch m (chAt ch m).length=wk ch m:=by
 unfold preT
 rw[bI,yM o h hn]
theorem jRH {ch:Ch}{m i:Nat}(o:ChOk ch)(h:m<2 ^ ch.length)(hn:m≠fullN ch):(preT ch m i).length<=(wk ch m).length:=by
 rw[yM o h hn]
 have e:(chAt ch m).map (λc=>(c.1,wk ch (m|||c.2)))=((chAt ch m).take i).map (λc=>(c.1,wk ch (m|||c.2)))++((chAt ch m).drop i).map (λc=>(c.1,wk ch (m|||c.2))):=by
  rw[<- ba,bx]
 rw[e,jFP,aF]
 exact eV _ _
theorem jS1 (T:Txt mg):FnN P w K mg base 1 "weights_together" qWB (kW sWB) (jC sWB) (jA sWB) ["behind"] ["box"] spWB:=by
 refine jVA scWB (λfv vs H Q E h=>?_) (λcl doc pm c ctv us hl=>?_) λA outer s H a c cl vs fv Q E hr h=>?_
 ·obtain⟨i,rfl,_,_,_,_,rfl,_⟩:=h
  rfl
 ·match us,hl with
  | [_],_=>rfl
 ·obtain⟨⟨_,_,b,w,ms,pcs,g,bd⟩,rfl,hB,l,us,m,rfl,hl,hm,hf,av,q⟩:=h
  refine⟨_,(wbehA T hr).2.h,?_⟩
  have o:ChOk (chs w.toNat ms pcs):=yU g
  have ul:=All2.len av
  intro t ht
  have e1:Ext H (L2.upd H t (.dK [])):=(Ext.refl _).new ht _
  have d1:(L2.upd H t (.dK [])) t=some (.dK []):=j5
  generalize L2.upd H t (.dK [])=H1 at e1 d1
  refine⟨_,rfl,l,rfl,⟨_,SqL.of (e1 _ _ hl)⟩,jBA (xs:=us) (λi σ H'=>Ext H H'/\(∃v3 v4 v5 v6 v7,σ=[some (.ref l),some (.ref b),some (.ref t),v3,v4,v5,v6,v7])/\∃ll,H' t=some (.dK (kvI ll))/\WtD pcs (preT (chs w.toNat ms pcs) m i) ll) ⟨e1,⟨_,_,_,_,_,rfl⟩,[],d1,⟨⟨eS,λ_ h=>by cases h⟩,rfl,λ_=>rfl⟩⟩ (λi σ H' _ ⟨e,_⟩=>SqL.of (e _ _ hl)) ?_ ?_⟩
  ·rintro i x σ H' hx ⟨e,⟨v3,v4,v5,v6,v7,rfl⟩,ll,ht',wd⟩
   obtain⟨c,hc,p,u,rfl,hp,a,ob,r,rfl,ha,wr⟩:=All2.get' av hx
   have cm:=aE hc
   obtain⟨m1,m2,m3,m4,m5⟩:=o.mem hm hf cm
   have mup:=(o.up hm hf cm).2
   have hlt:=jVH hm hf cm
   have b1:=bd m hm
   have b2:=bd _ mup
   have b3:=jRH (i:=i) o hm hf
   have wr:WtD pcs (wk (chs w.toNat ms pcs) (m|||c.2)) r:=wr
   have hlt:c.1<pcs.length:=hlt
   refine⟨p,_,rfl,SqT.of (e _ _ hp),rfl,_,_,rfl,_,_,rfl,rfl,?_⟩
   refine jQV T hr (hB.mono e.tups) ht' (e _ _ ha) wd.ok wr.ok (by rw[wd.tt,wr.tt]; lia) (by lia) (by lia) λH2 v5 v6 v7 t2 k2=>⟨(λx u h=>k2 _ _ (e _ _ h) λz=>by rw[z,ht] at h; cases h),⟨_,_,_,_,_,rfl⟩,_,t2,?_⟩
   rw[jLM hc]
   exact wd.step wr
  ·rintro σ H' ⟨e,⟨v3,v4,v5,v6,v7,rfl⟩,ll,ht',wd⟩
   rw[ul,jOE o hm hf] at wd
   refine⟨_,rfl,t,_,rfl,ht',λob=>q _ _ ⟨t,ob,ll,rfl,j5,wd⟩ (e.updNew ht _)⟩
def zhWt (cl:List (Str×Addr))(i:WI):Hp->Prop:=λH=>(H i.a=some (.ext (nfP "weights_together" qWB (kW sWB) (jC sWB) (jA sWB) cl i.a i.c))/\H i.c=some (.ext (ncP qWB i.c)))/\BoxAt H i.b i.w i.ms i.pcs
theorem zhWt.ok (cl:List (Str×Addr))(i:WI):HpOk (zhWt cl i):=⟨λH H' D kvs hD _ k h=>⟨⟨k _ _ h.1.1 λz=>(by rw[<- z,h.1.1] at hD; cases hD),k _ _ h.1.2 λz=>(by rw[<- z,h.1.2] at hD; cases hD)⟩,h.2.mono λb xs hb=>k _ _ hb λz=>(by rw[z,hD] at hb; cases hb)⟩,λH H' e h=>⟨⟨e _ _ h.1.1,e _ _ h.1.2⟩,h.2.mono e.tups⟩⟩
theorem jHT (T:Txt mg)(cl:List (Str×Addr))(i:WI):Callee P w K mg base (ZC cl ["box"] [.ref i.b]) (zhWt cl i) 1 i.a (jDH i.ch (RWt i.pcs i.ch)):=
 Callee.imp2 (Callee.ofN (jS1 T)) (λH h=>h.1) λvs H Q E zh q=>⟨i,rfl,zh.2,q⟩
end
structure TT where
 a:Addr
 p:Pos
 q:Str
def ads (L:List TT):List Addr:=L.map TT.a
structure TbS (L:List TT)(H:Hp):Prop where
 nd:(ads L).Nodup
 ok:∀t∈L,TabOk H t.a t.p t.q
def ExS (S:List Addr)(H H':Hp):Prop:=∀b o,H b=some o->b∉S->H' b=some o
section
variable {S S':List Addr}{L:List TT}{H'':Hp}
theorem ExS.of (e:Ext H H'):ExS S H H':=λb o h _=>e b o h
theorem ExS.refl:ExS S H H:=λ_ _ h _=>h
theorem ExS.trans (a:ExS S H H')(b:ExS S H' H''):ExS S H H'':=λc o h n=>b c o (a c o h n) n
theorem ExS.ofT {T:Addr}(e:ExtT T H H')(h:T∈S):ExS S H H':=λb o z n=>e b o z λy=>n (y ▸ h)
theorem TbS.ext (t:TbS L H)(e:Ext H H'):TbS L H':=⟨t.nd,λx hx=>(t.ok x hx).ext e⟩
theorem TbS.off (t:TbS L H){b:Addr}{o:HO}(h:H b=some o)(ho:∀ps,o≠ .tbl ps:=by intro _ z; cases z):b∉ads L:=λz=>by
 obtain⟨x,hx,e⟩:=aW.mp z
 exact(t.ok x hx).ne h ho e.symm
theorem TbS.at (t:TbS L H)(e:ExS (ads L) H H'){b:Addr}{o:HO}(h:H b=some o)(ho:∀ps,o≠ .tbl ps:=by intro _ z; cases z):H' b=some o:=e b o h (t.off h ho)
theorem TbS.tups (t:TbS L H)(e:ExS (ads L) H H'):Tups H H':=λb xs h=>t.at e h
theorem TbS.sq {K:W.Frag}{a:Addr}{xs:List V}(t:TbS L H)(e:ExS (ads L) H H')(h:SqL K H a xs):SqL K H' a xs:=by
 rcases h with h | h
 ·rcases h with h | ⟨o,h⟩
  ·exact .inl (.inl (t.at e h))
  ·exact .inl (.inr ⟨o,t.at e h⟩)
 ·exact .inr h
theorem TbS.set (t:TbS L H)(hs:∀s∈S,s∈ads L)(e:ExS S H H')(k:∀x∈L,x.a∈S->TabOk H' x.a x.p x.q):TbS L H':=⟨t.nd,λx hx=>by
 by_cases z:x.a∈S
 ·exact k x hx z
 ·rcases t.ok x hx with h | ⟨c,h,h2⟩
  ·exact .inl (e _ _ h z)
  ·exact .inr ⟨c,e _ _ h z,e _ _ h2 λy=>t.off h2 (by intro _ z; cases z) (hs c y)⟩⟩
theorem TbS.setT (t:TbS L H){x:TT}(hx:x∈L)(e:ExtT x.a H H')(k:TabOk H' x.a x.p x.q):TbS L H':=t.set (S:=[x.a]) (λs hs=>by rw[ak.mp hs]; exact bQ hx) (ExS.ofT e (ak.mpr rfl)) λy hy hm=>by
 have e1:=ak.mp hm
 have:y=x:=by
  have nd:=t.nd
  obtain⟨i,hi⟩:=bw hy
  obtain⟨j,hj⟩:=bw hx
  have hi':(ads L)[i]?=some x.a:=by unfold ads; rw[aJ,hi,<- e1]; rfl
  have hj':(ads L)[j]?=some x.a:=by unfold ads; rw[aJ,hj]; rfl
  have li:i<(ads L).length:=(ax.mp hi').1
  have ij:=(jr li nd).mp (hi'.trans hj'.symm)
  rw[ij,hj] at hi
  exact(bA hi).symm
 rw[this]
 exact k
theorem TbS.lst (t:TbS L H){p:Addr}{xs:List V}{o:HO}(hp:H p=some (.lst xs)):TbS L (L2.upd H p o):=by
 have ne:∀c o,H c=some o->(∀xs,o≠ .lst xs)->c≠p:=λc o h n z=>by
  rw[z,hp] at h
  cases h
  exact n _ rfl
 refine⟨t.nd,λx hx=>?_⟩
 rcases t.ok x hx with h | ⟨c,h,h2⟩
 ·exact .inl (by rw[j6 (ne _ _ h (by intro _ z; cases z))]; exact h)
 ·exact .inr ⟨c,by rw[j6 (ne _ _ h (by intro _ z; cases z))]; exact h,by rw[j6 (ne _ _ h2 (by intro _ z; cases z))]; exact h2⟩
end
def tWt (tb:Addr):TT:=⟨tb,lamP,qLam⟩
def tWB (tb:Addr):TT:=⟨tb,pWB,qWB⟩
theorem jSF {l k:List (Int×Nat)}(h:l.Perm k)(v:Int):lk l v=lk k v:=by
 induction h with
 | nil=>rfl
 | cons x _ ih=>show _+_=_+_; rw[ih]
 | swap x y r=>
  show (if y.1=v then y.2 else 0)+((if x.1=v then x.2 else 0)+lk r v)=(if x.1=v then x.2 else 0)+((if y.1=v then y.2 else 0)+lk r v)
  lia
 | trans _ _ h1 h2=>exact h1.trans h2
structure WTold (pcs:List (List Int×Int))(ws:List (List Int))(l:List (Int×Nat)):Prop where
 ris:l.Pairwise λx y=>x.1<y.1
 pos:∀w∈l,0<w.2
 lk:∀v,lk l v=cW pcs ws v
def PrsA (H:Hp)(us:List V)(l:List (Int×Nat)):Prop:=All2 (λu w=>∃a,u=V.ref a/\H a=some (.tup [.int w.1,natV w.2])) us l
theorem jQX {pcs:List (List Int×Int)}{ws:List (List Int)}{l:List (Int×Nat)}{zs:List (Int×Int)}(d:WtD pcs ws l)(pm:zs.Perm (l.map λw=>(w.1,((w.2:Nat):Int))))(pw:zs.Pairwise λx y=>HT.lexLt (prW y) (prW x)=false):WTold pcs ws (zs.map λw=>(w.1,w.2.toNat))/\(zs.map λw=>(w.1,w.2.toNat)).Perm l/\∀z∈zs,((z.2.toNat:Nat):Int)=z.2:=by
 have p1:(zs.map λw=>(w.1,w.2.toNat)).Perm l:=by
  have:=pm.map λw:Int×Int=>(w.1,w.2.toNat)
  rw[bz] at this
  exact this.trans (gt ((bo λw _=>by show (w.1,((w.2:Nat):Int).toNat)=w; rw[br]).trans (fw _)))
 refine⟨⟨?_,λw hw=>d.ok.pos w (p1.mem_iff.mp hw),λv=>(jSF p1 v).trans (d.lk v)⟩,p1,λz hz=>?_⟩
 ·rw[be]
  have nd:(zs.map (·.1)).Nodup:=by
   have:=pm.map (·.1)
   rw[bz] at this
   exact this.nodup_iff.mpr d.ok.nd
  refine(gI pw (be.mp nd)).imp λ{x y} ⟨u,v⟩=>?_
  show x.1<y.1
  unfold prW at u
  rw[HT.lexLt_cons] at u
  split at u
  ·rename_i h; exact absurd h.symm v
  ·have:=dZ u
   lia
 ·obtain⟨w,_,rfl⟩:=aW.mp (pm.mem_iff.mp hz)
  show ((((w.2:Nat):Int).toNat:Nat):Int)=_
  rw[br]
section
variable {u1:Tok}
noncomputable abbrev nWts:List Str:=["box","weights_together"]
theorem scWts:FnScope nWts ["box"] (jA sWts):= {}
def jL9 (cl:List (Str×Addr))(i:WI):Sp:=jIL i.a (zhWt cl i) i.ch (RWt i.pcs i.ch)
theorem fsWB:∀x∈(["box"]:List Str),(jA sWB).names.lookup x=some .free:=by decide+kernel
theorem jV7:FsAt (XOf nWts "weights" sWts P w K mg base f (.ref c0) A outer s H0 E) ["box"] [0]:=⟨rfl,λk x h=>by
 match k,h with
 | 0,h=>
  cases h
  exact⟨0,rfl,rfl, .inl (show (jA sWts).names.lookup (("box" :String):Str)=some .cell by decide+kernel)⟩
 | k+1,h=>cases h⟩
def spWts (L:List TT)(tb1 tb2:Addr):Sp:=λvs H Q _=>∃(b:Addr) (w:Int) (ms:List Int) (pcs:List (List Int×Int)),vs=[.ref b]/\BoxAt H b w ms pcs/\Good 16 32 w ms pcs/\(∀m,m<2 ^ (chs w.toNat ms pcs).length->(wk (chs w.toNat ms pcs) m).length<=1000000)/\(wk (chs w.toNat ms pcs) 0).length<=1000/\TbS L H/\tWt tb1∈L/\tWB tb2∈L/\
 ∀r us l H',H' r=some (.lst us)->PrsA H' us l->WTold pcs (wk (chs w.toNat ms pcs) 0) l->l.length<=1000->ExS (ads L) H H'->TbS L H'->H r=none->Q (.ref r) H'
def wtsA (T:Txt mg)(CH:PySem.W.CodeHd base c0 tb2)(BM:BltAt base mg)(M1:mg "MOST_WEIGHED" =some (.int 1000 u1))(CC:Can P w K mg base "choices_of" 2 fC fdC ["box"] jA9)(CM:Can P w K mg base "many" 6 fM fdM ["box"] (jIK tb1))(FG:∀cl i,FnZ P w K mg base CX0 (ZC cl ["box"] [.ref i.b]) 4 fG fdG ["choices","at_end","join"] (jL9 cl i))(MG:mg "gathered" =some (.ref fG))(KG:keepIn K (.ref fG)=true)(BG:Binds K fdG ["choices","at_end","join"] [])(hr:Room 6 (XOf nWts "weights" sWts P w K mg base f (.ref c0) A outer s H0 E).A): { t:TS // JSs (XOf nWts "weights" sWts P w K mg base f (.ref c0) A outer s H0 E) (jC sWts) t} :=
 have nd:=scWts.nd
 ⟨_,(jB (yY (jY op_gt (CM.je hr gD (j3 (jv 0 rfl vC) j8 j4) j4) (jMP (v:= .int 1000) gD M1 ⟨_,rfl⟩) (jX _)) (jD (jUZ)) kU) (jB (jV0 (j:=1) nd rfl lL rfl CH BM (jT (psc:=jA sWts)) rfl rfl) (jD (jV (jE (jGW rfl hr.units101) gD T.sorted (by decide+kernel) (j3 (jMN (jDR (yZ hr) (jP8 (G:=λ(i:WI) σ=>jET σ [0] [.ref i.b]) (FG _) (hr.mono (by decide)) gD MG KG BG (λi ad s σ H I q=>⟨I.clOk (jT (psc:=jA sWts)),I.fvOk (jT (psc:=jA sWts)) fsWB jV7 q⟩) (j3 (CC.je (hr.mono (by decide)) gD (j3 (jv 0 rfl vC) j8 j4) j4) (j3 (jQG jP6) (j3 (jv 1 rfl vL) j8 j4) jR5) jH) jH) je_int jI)) j8 jH) jH)))))⟩
set_option maxHeartbeats 4000000 in
theorem jUH {fd:FuncData}{LT:List TT}(F:FunC K "weights" "weights" sWts f fd c0)(T:Txt mg)(CH:PySem.W.CodeHd base c0 tb2)(BM:BltAt base mg)(M1:mg "MOST_WEIGHED" =some (.int 1000 u1))(CC:Can P w K mg base "choices_of" 2 fC fdC ["box"] jA9)(CM:Can P w K mg base "many" 6 fM fdM ["box"] (jIK tb1))(FG:∀cl i,FnZ P w K mg base CX0 (ZC cl ["box"] [.ref i.b]) 4 fG fdG ["choices","at_end","join"] (jL9 cl i))(MG:mg "gathered" =some (.ref fG))(KG:keepIn K (.ref fG)=true)(BG:Binds K fdG ["choices","at_end","join"] []):FnOk P w K mg base CX0 7 f fd ["box"] (spWts LT tb1 tb2):=by
 refine F.ok scWts (λvs H Q E h=>?_) (λA outer s H vs Q E hr h=>?_)
 ·obtain⟨_,_,_,_,rfl,_⟩:=h
  rfl
 ·obtain⟨b,wi,ms,pcs,rfl,hB,g,bd,l1000,tab,i1,i2,q⟩:=h
  refine⟨_,(wtsA T CH BM M1 CC CM FG MG KG BG hr).2.h,?_⟩
  refine⟨_,rfl,b,wi,ms,pcs,rfl,hB,g,tab.ok _ i1,λH1 e1 t1=>?_⟩
  have T1:=tab.setT i1 e1 t1
  have X1:ExS (ads LT) H H1:=ExS.ofT e1 (bQ i1)
  have hB1:=hB.mono (tab.tups X1)
  refine⟨_,_,rfl,rfl,_,rfl,iteN (by show decide ((1000:Int)<((wk (chs wi.toNat ms pcs) 0).length:Int))=false; exact aV (by lia)) ?_⟩
  refine⟨T1.ok _ i2,λa c H2 k1 k2 k3 e2 na=>?_⟩
  have T2:TbS LT H2:=T1.setT i2 e2 (.inr ⟨c,k3,k2⟩)
  have X2:ExS (ads LT) H1 H2:=ExS.ofT e2 (bQ i2)
  have hB2:=hB1.mono (T1.tups X2)
  refine⟨_,rfl,b,wi,ms,pcs,rfl,hB2,g,λL H3 hL3 e3=>?_⟩
  intro d0 H4 d4 e4 n4
  refine⟨d0,_,rfl,d4,λob=>?_⟩
  have o:ChOk (chs wi.toNat ms pcs):=yU g
  have e5:Ext H3 (L2.upd H4 d0 (.frz ob (.dK [(Sum.inl 0, .int 1)]))):=e4.updNew n4 _
  have d5:(L2.upd H4 d0 (.frz ob (.dK [(Sum.inl 0, .int 1)]))) d0=some (.frz ob (.dK [(Sum.inl 0, .int 1)])):=j5
  generalize L2.upd H4 d0 (.frz ob (.dK [(Sum.inl 0, .int 1)]))=H5 at e5 d5
  have E25:=e3.trans e5
  refine⟨_,rfl,⟨a,c,b,wi,ms,pcs,g,bd⟩,rfl,L, .ref d0,rfl,hL3.ext e5,?_,⟨⟨E25 _ _ k1,E25 _ _ k2⟩,hB2.mono E25.tups⟩,λr ns H6 got srt' mt e6 n6=>?_⟩
  ·show RWt pcs (chs wi.toNat ms pcs) (fullN (chs wi.toNat ms pcs)) H5 (.ref d0)
   refine⟨d0,ob,[(0,1)],rfl,d5,?_⟩
   rw[yN]
   refine⟨⟨bJ.mpr ⟨bC,eS⟩,λw hw=>by rw[ak.mp hw]; decide⟩,rfl,λv=>?_⟩
   show (if (0:Int)=v then 1 else 0)+0=List.countP (λx=>wt pcs x==v) [[]]
   rw[lS]
   show _=if ((0:Int)==v)=true then 1 else 0
   by_cases h:(0:Int)=v
   ·rw[am h,am (cU.mpr h)]
   ·rw[aj h,aj λz=>h (cU.mp z)]
  obtain⟨u,dg,a',ob',l,rfl,ha',wd⟩:=got0 got srt' mt
  have wd:WtD pcs (wk (chs wi.toNat ms pcs) 0) l:=wd
  refine⟨r,_,rfl,dg,?_⟩
  refine⟨a',kvI l,rfl, .inr ⟨ob',ha'⟩,λvp hvp=>?_⟩
  have e7:Ext H6 (L2.upd H6 vp (ViewI vp a')):=(Ext.refl _).new hvp _
  have d7:(L2.upd H6 vp (ViewI vp a')) vp=some (ViewI vp a'):=j5
  generalize L2.upd H6 vp (ViewI vp a')=H7 at e7 d7
  refine⟨vp,a',kvI l,l.map λw=>(w.1,((w.2:Nat):Int)),rfl,d7, .inr ⟨ob',e7 _ _ ha'⟩,by rw[bz]; rfl,λr8 us zs H8 d8 al pm pw e8 n8=>?_⟩
  obtain⟨told,p1,zz⟩:=jQX wd pm pw
  have E28:=((E25.trans e6).trans e7).trans e8
  have T8:=T2.ext E28
  have X8:=(X1.trans X2).trans (ExS.of E28)
  refine q r8 us _ H8 d8 ?_ told ?_ X8 T8 ?_
  ·unfold PrsA
   clear d8 pm pw p1 told
   induction us generalizing zs with
   | nil=>cases zs with
    | nil=>trivial
    | cons _ _=>exact al.elim
   | cons v us ih=>cases zs with
    | nil=>exact al.elim
    | cons z zs=>
     obtain⟨⟨a9,e9,h9⟩,al2⟩:=al
     refine⟨⟨a9,e9,?_⟩,ih zs al2 λx hx=>zz x (ah _ hx)⟩
     show H8 a9=some (.tup [.int z.1, .int ((z.2.toNat:Nat):Int)])
     rw[zz z (ag ..)]
     exact h9
  ·rw[p1.length_eq]
   have:=wd.ok.len
   rw[wd.tt] at this
   lia
  ·cases z:H r8 with
   | none=>rfl
   | some ob9=>
    by_cases zt:r8∈ads LT
    ·obtain⟨x,hx,ex⟩:=aW.mp zt
     rcases T2.ok x hx with h | ⟨c9,h,_⟩
     ·rw[ex] at h
      rw[((E25.trans e6).trans e7) _ _ h] at n8
      cases n8
     ·rw[ex] at h
      rw[((E25.trans e6).trans e7) _ _ h] at n8
      cases n8
    ·rw[((E25.trans e6).trans e7) _ _ ((X1.trans X2) _ _ z zt)] at n8
     cases n8
end
def pB (c:Nat->Nat):Nat->Nat->Nat
 | _,0=>1
 | t,k+1=>(1+c t)*pB c (t+1) k
def sB (c:Nat->Nat):Nat->Nat->Nat
 | _,0=>0
 | t,k+1=>c t+sB c (t+1) k
theorem pB_up (c:Nat->Nat):∀(j t k:Nat),pB c (t+j) k<=pB c t (k+j)
 | 0,_,_=>aq _
 | j+1,t,k=>by
  have h:=pB_up c j (t+1) k
  rw[show t+1+j=t+(j+1) by lia] at h
  show _<=(1+c t)*pB c (t+1) (k+j)
  exact bf h (Nat.le_mul_of_pos_left _ (by lia))
theorem jFT:∀c:Nat,3*2 ^ c*(1+c)<=4*3 ^ c
 | 0=>by decide
 | 1=>by decide
 | c+2=>by
  have h:=jFT (c+1)
  rw[gN 2,gN 3]
  generalize 2 ^ (c+1)=a at h ⊢
  generalize 3 ^ (c+1)=b at h ⊢
  have e:3*(a*2)*(1+(c+2))<=3*(3*a*(1+(c+1))):=by
   have:2*(1+(c+2))<=3*(1+(c+1)):=by lia
   calc 3*(a*2)*(1+(c+2))=3*a*(2*(1+(c+2))):=by rw[<- ka,ka]
    _<=3*a*(3*(1+(c+1))):=iC _ this
    _=3*(3*a*(1+(c+1))):=by rw[jt]
  lia
theorem pB_le (c:Nat->Nat):∀(k t:Nat),3 ^ k*2 ^ sB c t k*pB c t k<=4 ^ k*3 ^ sB c t k
 | 0,_=>aq _
 | k+1,t=>by
  have h:=Nat.mul_le_mul (jFT (c t)) (pB_le c k (t+1))
  show 3 ^ (k+1)*2 ^ (c t+sB c (t+1) k)*((1+c t)*pB c (t+1) k)<=4 ^ (k+1)*3 ^ (c t+sB c (t+1) k)
  rw[mG 2 (c t),mG 3 (c t),gN (n:=3) (m:=k),gN (n:=4) (m:=k)]
  generalize 2 ^ c t=a1 at h ⊢
  generalize 3 ^ c t=a2 at h ⊢
  generalize 2 ^ sB c (t+1) k=a3 at h ⊢
  generalize 3 ^ sB c (t+1) k=a4 at h ⊢
  generalize 1+c t=a5 at h ⊢
  generalize 3 ^ k=a6 at h ⊢
  generalize 4 ^ k=a7 at h ⊢
  generalize pB c (t+1) k=a8 at h ⊢
  have e1:a6*3*(a1*a3)*(a5*a8)=3*a1*a5*(a6*a3*a8):=by
   simp only [ka,jt,gF]
  have e2:a7*4*(a2*a4)=4*a2*(a7*a4):=by
   simp only [ka,jt,gF]
  rw[e1,e2]
  exact h
theorem jQ3 (pcs:List (List Int×Int)):∀(k t:Nat),sB (λj=>lead pcs (j:Int) pcs.length) t k+cntF pcs ((t+k:Nat):Int)=cntF pcs (t:Int)
 | 0,t=>fc _
 | k+1,t=>by
  have h:=jQ3 pcs k (t+1)
  have c:=jDZ (t:Int) pcs
  show lead pcs (t:Int) pcs.length+sB _ (t+1) k+_=_
  have hl:lead pcs (t:Int) pcs.length=pcs.countP λpc=>decide (yA pc=(t:Int)):=by unfold lead; rw[bI]
  rw[hl,c]
  rw[show t+(k+1)=t+1+k by lia]
  have e:((t+1:Nat):Int)=(t:Int)+1:=by lia
  rw[e] at h
  lia
theorem wk_pB {w:Int}{ms:List Int}{pcs:List (List Int×Int)}(g:Good 16 32 w ms pcs):∀m,m<2 ^ (chs w.toNat ms pcs).length->(wk (chs w.toNat ms pcs) m).length<=pB (λj=>lead pcs (j:Int) pcs.length) (lowN m) (w.toNat - lowN m):=by
 have o:ChOk (chs w.toNat ms pcs):=yU g
 have one:∀(c:Nat->Nat) (k t:Nat),1<=pB c t k:=λc k=>by
  induction k with
  | zero=>intro t; exact aq _
  | succ k ih=>intro t; exact Nat.mul_le_mul (show 1<=1+c t by lia) (ih (t+1))
 have clen:(chs w.toNat ms pcs).length=w.toNat:=by unfold chs; rw[kN]
 refine jAT o ?_ ?_
 ·rw[yN]
  exact one _ _ _
 ·intro m hm hf ih
  have hl:lowN m<w.toNat:=by
   have:=yV hm hf
   rwa [clen] at this
  rw[yM o hm hf]
  unfold wJ
  have ek:w.toNat - lowN m=(w.toNat - (lowN m+1))+1:=by lia
  rw[ek]
  refine bf (jDU _ (pB (λj=>lead pcs (j:Int) pcs.length) (lowN m+1) (w.toNat - (lowN m+1))) _ λp hp=>?_) ?_
  ·obtain⟨c,hc,rfl⟩:=aW.mp hp
   rw[ae]
   have lo:=jQA (o.mem hm hf hc).1
   refine bf (ih c hc) ?_
   by_cases hw:lowN (m|||c.2)<=w.toNat
   ·have:=pB_up (λj=>lead pcs (j:Int) pcs.length) (lowN (m|||c.2) - (lowN m+1)) (lowN m+1) (w.toNat - lowN (m|||c.2))
    rw[show lowN m+1+(lowN (m|||c.2) - (lowN m+1))=lowN (m|||c.2) by lia,show w.toNat - lowN (m|||c.2)+(lowN (m|||c.2) - (lowN m+1))=w.toNat - (lowN m+1) by lia] at this
    exact this
   ·rw[show w.toNat - lowN (m|||c.2)=0 by lia]
    exact one _ _ _
  ·rw[ae]
   show _<=(1+lead pcs (lowN m:Int) pcs.length)*_
   refine Nat.mul_le_mul_right _ ?_
   unfold chAt
   refine bf (bh _ _) ?_
   unfold chs
   rw[aC,kR hl]
   show (kZ ms pcs pcs.length (lowN m)).length<=_
   unfold kZ
   rw[aF,ae,jEG pcs _ _ (aq _)]
   split <;> simp only [aP,cK] <;> lia
theorem jVB:∀k,k<8->∀S,S<11->4 ^ k*3 ^ S<=1000*(3 ^ k*2 ^ S):=by decide
theorem jKN {w:Int}{ms:List Int}{pcs:List (List Int×Int)}(g:Good 16 32 w ms pcs)(h7:w<=7)(h10:pcs.length<=10):(wk (chs w.toNat ms pcs) 0).length<=1000:=by
 have h:=wk_pB g 0 (dR _)
 have l0:lowN 0=0:=jBW rfl
 rw[l0,mE] at h
 have b:=pB_le (λj=>lead pcs (j:Int) pcs.length) w.toNat 0
 have s:=jQ3 pcs w.toNat 0
 have c:=jQO pcs ((0:Nat):Int)
 have f:=jVB w.toNat (by lia) (sB (λj=>lead pcs (j:Int) pcs.length) 0 w.toNat) (by lia)
 have p:0<3 ^ w.toNat*2 ^ sB (λj=>lead pcs (j:Int) pcs.length) 0 w.toNat:=Nat.mul_pos (Nat.pow_pos (by decide)) (Nat.pow_pos (by decide))
 have q:=bf b f
 rw[gF 1000] at q
 exact bf h (Nat.le_of_mul_le_mul_left q p)
theorem jHF {w:Int}{ms:List Int}{pcs:List (List Int×Int)}(g:Good 16 32 w ms pcs)(h10:pcs.length<=10):∀m,m<2 ^ (chs w.toNat ms pcs).length->(wk (chs w.toNat ms pcs) m).length<=1000000:=λm hm=>by
 have h:=jT7 g m hm
 have c:=jQO pcs ((lowN m:Nat):Int)
 have:2 ^ cntF pcs ((lowN m:Nat):Int)<=2 ^ 10:=cq (by decide) (by lia)
 have e:2 ^ 10<=1000000:=by decide
 lia
def cf (f:List Int->Int)(acc:List (Int×Nat))(ws:List (List Int)):List (Int×Nat):=ws.foldl (λl x=>bump l (f x) 1) acc
theorem jNH (f:List Int->Int)(acc:List (Int×Nat))(ws:List (List Int))(x:List Int):cf f acc (ws++[x])=bump (cf f acc ws) (f x) 1:=by
 unfold cf
 rw[List.foldl_append]
 rfl
theorem cf_ok (f:List Int->Int):∀(ws:List (List Int)) (acc:List (Int×Nat)),WOk acc->WOk (cf f acc ws)
 | [],_,h=>h
 | x::ws,acc,h=>cf_ok f ws (bump acc (f x) 1) (h.bump (by decide))
theorem cf_lk (f:List Int->Int):∀(ws:List (List Int)) (acc:List (Int×Nat)) (v:Int),lk (cf f acc ws) v=lk acc v+ws.countP λx=>f x==v
 | [],_,_=>rfl
 | x::ws,acc,v=>by
  show lk (cf f (bump acc (f x) 1) ws) v=_
  rw[cf_lk f ws,jHZ,cZ]
  by_cases h:f x=v
  ·rw[am h,am (cU.mpr h)]; lia
  ·rw[aj h,aj λz=>h (cU.mp z)]; lia
theorem jNG (f:List Int->Int):∀(ws:List (List Int)) (acc:List (Int×Nat)),tot (cf f acc ws)=tot acc+ws.length
 | [],_=>rfl
 | x::ws,acc=>by
  show tot (cf f (bump acc (f x) 1) ws)=_
  rw[jNG f ws,jER,aP]
  lia
theorem lk_in:∀{l:List (Int×Nat)}{v:Int},(∀w∈l,0<w.2)->v∈l.map (·.1)->0<lk l v
 | [],_,_,h=>by cases h
 | w::l,v,p,h=>by
  show 0<(if w.1=v then w.2 else 0)+lk l v
  rw[aX] at h
  rcases ar.mp h with z | z
  ·rw[am z.symm]
   have:=p w (ag ..)
   lia
  ·have:=lk_in (λx hx=>p x (ah _ hx)) z
   lia
theorem jME {l:List (Int×Nat)}{v:Int}(o:WOk l):v∈l.map (·.1)↔0<lk l v:=by
 refine⟨lk_in o.pos,λh=>bP λn=>?_⟩
 rw[jDP n] at h
 lia
theorem wok0:WOk []:=⟨eS,λ_ h=>by cases h⟩
abbrev lenF (x:List Int):Int:=((x.length:Nat):Int)
theorem jPY:∀{ws:List (List Int)}{x:List Int},x∈ws->x.length+1<=szN ws
 | y::ws,x,h=>by
  show _<=max (y.length+1) (szN ws)
  rcases ar.mp h with z | z
  ·rw[z]; lia
  ·have:=jPY z
   lia
theorem jFV:∀(ws:List (List Int)),ws=[]\/∃x∈ws,x.length+1=szN ws
 | []=> .inl rfl
 | y::ws=>by
  refine .inr ?_
  show ∃x∈y::ws,x.length+1=max (y.length+1) (szN ws)
  rcases jFV ws with z | ⟨x,hx,e⟩
  ·subst z
   exact⟨y,ag .., by show _=max _ 0; lia⟩
  ·by_cases h:y.length+1<=szN ws
   ·exact⟨x,ah _ hx,by lia⟩
   ·exact⟨y,ag .., by lia⟩
theorem jSC {ws:List (List Int)}{M:Int}(h:M∈(cf lenF [] ws).map (·.1)++[-1])(hm:∀a∈(cf lenF [] ws).map (·.1)++[-1],a<=M):M=(szN ws:Int) - 1:=by
 have o:=cf_ok lenF ws [] wok0
 have ki:∀v:Int,v∈(cf lenF [] ws).map (·.1)↔∃x∈ws,lenF x=v:=λv=>by
  rw[jME o,cf_lk]
  show 0<0+_↔_
  rw[fc,List.countP_pos_iff]
  constructor
  ·rintro ⟨x,hx,e⟩; exact⟨x,hx,cU.mp e⟩
  ·rintro ⟨x,hx,e⟩; exact⟨x,hx,cU.mpr e⟩
 have h1:=hm (-1) (az _ (ak.mpr rfl))
 rcases aL.mp h with z | z
 ·obtain⟨x,hx,e⟩:=(ki M).mp z
  have a:=jPY hx
  rcases jFV ws with y | ⟨y,hy,ey⟩
  ·rw[y] at hx; cases hx
  ·have b:=hm (lenF y) (aQ _ ((ki _).mpr ⟨y,hy,rfl⟩))
   unfold lenF at e b
   lia
 ·have e:=ak.mp z
  rcases jFV ws with y | ⟨y,hy,ey⟩
  ·rw[y,e]; rfl
  ·have b:=hm (lenF y) (aQ _ ((ki _).mpr ⟨y,hy,rfl⟩))
   unfold lenF at b
   lia
theorem jVI (ws:List (List Int)):(List.range (szN ws)).map (λn:Nat=>lk (cf lenF [] ws) (n:Int))=szL ws:=by
 unfold szL
 refine bo λn _=>?_
 rw[cf_lk]
 show 0+_=cntS ws n
 rw[fc]
 unfold cntS
 refine fj λx _=>?_
 rw[cU,cU]
 unfold lenF
 lia
theorem jHJ {f:List Int->List Int}(h:∀x,(f x).length=x.length):∀ws:List (List Int),szN (ws.map f)=szN ws
 | []=>rfl
 | x::ws=>by show max ((f x).length+1) (szN (ws.map f))=max _ _; rw[h,jHJ h ws]
theorem jR0 {f:List Int->List Int}(h:∀x,(f x).length=x.length)(ws:List (List Int)):szL (ws.map f)=szL ws:=by
 unfold szL
 rw[jHJ h]
 refine bo λn _=>?_
 unfold cntS
 rw[gu]
 refine fj λx _=>?_
 show ((f x).length==n)=true↔_
 rw[h]
theorem jQR {pcs:List (List Int×Int)}{x y:List Int}(h:x.Perm y):wt pcs x=wt pcs y:=by
 induction h with
 | nil=>rfl
 | cons a _ ih=>rw[jBG,jBG,ih]
 | swap a b r=>rw[jBG,jBG,jBG,jBG]; lia
 | trans _ _ h1 h2=>exact h1.trans h2
theorem jVJ (pcs:List (List Int×Int))(ws:List (List Int))(v:Int):cW pcs (ws.map srt) v=cW pcs ws v:=by
 unfold cW
 rw[gu]
 refine fj λx _=>?_
 show (wt pcs (srt x)==v)=true↔_
 rw[jQR (jAD x)]
theorem jEE:∀{l:List (Int×Nat)}{v:Int},(∀w∈l,v<w.1)->lk l v=0
 | [],_,_=>rfl
 | w::l,v,h=>by
  show (if w.1=v then w.2 else 0)+lk l v=0
  have:=h w (ag ..)
  rw[aj (by lia),jEE λx hx=>h x (ah _ hx)]
theorem jIG:∀{l k:List (Int×Nat)},(l.Pairwise λx y=>x.1<y.1)->(k.Pairwise λx y=>x.1<y.1)->(∀w∈l,0<w.2)->(∀w∈k,0<w.2)->(∀v,lk l v=lk k v)->l=k
 | [],[],_,_,_,_,_=>rfl
 | [],b::k,_,_,_,p,h=>by
  have:=h b.1
  have e:lk (b::k) b.1=(if b.1=b.1 then b.2 else 0)+lk k b.1:=rfl
  rw[e,am rfl] at this
  have:=p b (ag ..)
  have z:lk [] b.1=0:=rfl
  lia
 | a::l,[],_,_,p,_,h=>by
  have:=h a.1
  have e:lk (a::l) a.1=(if a.1=a.1 then a.2 else 0)+lk l a.1:=rfl
  rw[e,am rfl] at this
  have:=p a (ag ..)
  have z:lk [] a.1=0:=rfl
  lia
 | a::l,b::k,r1,r2,p1,p2,h=>by
  obtain⟨a1,s1⟩:=cH.mp r1
  obtain⟨b1,s2⟩:=cH.mp r2
  have ea:∀v,lk (a::l) v=(if a.1=v then a.2 else 0)+lk l v:=λ_=>rfl
  have eb:∀v,lk (b::k) v=(if b.1=v then b.2 else 0)+lk k v:=λ_=>rfl
  have pa:=p1 a (ag ..)
  have pb:=p2 b (ag ..)
  have ha:=h a.1
  have hb:=h b.1
  rw[ea,eb,am rfl,jEE a1] at ha
  rw[ea,eb,am rfl,jEE b1] at hb
  have e1:a.1=b.1:=by
   rcases Int.lt_trichotomy a.1 b.1 with z | z | z
   ·rw[aj (by lia),jEE λw hw=>Int.lt_trans z (b1 w hw)] at ha
    lia
   ·exact z
   ·rw[aj (by lia),jEE λw hw=>Int.lt_trans z (a1 w hw)] at hb
    lia
  rw[am e1.symm,e1,jEE b1] at ha
  have e2:a=b:=Prod.ext e1 (by lia)
  subst e2
  rw[jIG s1 s2 (λw hw=>p1 w (ah _ hw)) (λw hw=>p2 w (ah _ hw)) λv=>by have:=h v; rw[ea,eb] at this; lia]
theorem WTold.uniq {pcs:List (List Int×Int)}{ws:List (List Int)}{l k:List (Int×Nat)}(a:WTold pcs ws l)(b:WTold pcs ws k):l=k:=jIG a.ris b.ris a.pos b.pos λv=>(a.lk v).trans (b.lk v).symm
theorem jQY {pcs:List (List Int×Int)}{ws:List (List Int)}{ns:List Int}(up:ns.Pairwise (· <= ·))(pm:ns.Perm ((cf (wt pcs) [] (ws.map srt)).map (·.1))):WTold pcs ws (ns.map λn=>(n,lk (cf (wt pcs) [] (ws.map srt)) n)):=by
 have o:=cf_ok (wt pcs) (ws.map srt) [] wok0
 have nd:ns.Nodup:=pm.nodup_iff.mpr o.nd
 refine⟨?_,λw hw=>?_,λv=>?_⟩
 ·rw[be]
  refine(gI up nd).imp λ{x y} ⟨u,v⟩=>?_
  show x<y
  have v:x≠y:=v
  lia
 ·obtain⟨n,hn,rfl⟩:=aW.mp hw
  exact(jME o).mp (pm.mem_iff.mp hn)
 ·have c:lk (cf (wt pcs) [] (ws.map srt)) v=cW pcs ws v:=by
   rw[cf_lk,<- jVJ]
   show 0+_=_
   rw[fc]
   rfl
  rw[<- c]
  have one:∀(ns:List Int),ns.Nodup->∀g:Int->Nat,lk (ns.map λn=>(n,g n)) v=if v∈ns then g v else 0:=λns=>by
   induction ns with
   | nil=>intro _ g; rfl
   | cons a r ih=>
    intro nd g
    obtain⟨n1,n2⟩:=bJ.mp nd
    show (if a=v then g a else 0)+lk (r.map λn=>(n,g n)) v=_
    rw[ih n2 g]
    by_cases h:a=v
    ·subst h
     rw[am rfl,aj n1,am (ag ..)]
     rfl
    ·rw[aj h,fc]
     by_cases m:v∈r
     ·rw[am m,am (ah _ m)]
     ·rw[aj m,aj λz=>by
       rcases ar.mp z with y | y
       ·exact h y.symm
       ·exact m y]
  rw[one ns nd]
  split
  ·rfl
  ·rename_i h
   exact(jDP λz=>h (pm.mem_iff.mpr z)).symm
section
variable {fE:Addr}{fdE:FuncData}
abbrev jBT:List Str:=["box","sizes_here","weights_here","some","weight","row"]
theorem scSumUp:FnScope jBT ["box"] (jA yK):= {}
def suInA (T:Txt mg)(hr:Room 5 (XOf jBT "_law_sum_up" yK P w K mg base f cdv A outer s H0 E).A): { t:TS // JSs (XOf jBT "_law_sum_up" yK P w K mg base f cdv A outer s H0 E) (yS ((jC yK).getD 2 (.Pass ⟨0,0,0,0⟩))) t} :=
 have nd:=scSumUp.nd
 ⟨_,(jB (jQ (i:=4) nd rfl lL (jE (jE0 rfl) gD T.sum (by decide+kernel) (j3 (yE (m:=[none,some 0]) (Nc:=["k","box"]) rfl (jGN (jv 3 rfl vL)) rfl (by decide+kernel) (by decide+kernel) (jT (psc:=jA yK)) (jL (N:=jBT) rfl rfl (by decide+kernel)) (λcl C fp s H=>jJ (i:=0) (show (["k","box"]:List Str).Nodup by decide+kernel) rfl qG) (λcl C fp s H=>yH) (λcl C fp s H=>(kJ jAK (kJ jAK (kJ jAK (jv 1 rfl yJ) (je_int) jI) (jv 0 rfl jW) jBI) (je_int) jI)) yI) j8 jP) jP) kB) (jB (jCI (yZ hr) (jv 1 rfl vC) (jE jU gD T.len (by decide+kernel) (j3 (jv 3 rfl vL) j8 j4) j4) (kI kP (jD5 (yZ hr) (jv 1 rfl vC) (jE jU gD T.len (by decide+kernel) (j3 (jv 3 rfl vL) j8 j4) j4) je_int jH jG) je_int) jDE) (jD (jCI (yZ hr) (jv 2 rfl vC) (jv 4 rfl vL) (kI kP (jD5 (yZ hr) (jv 2 rfl vC) (jv 4 rfl vL) je_int j4 jG) je_int) jDE))))⟩
def jTL (T:Txt mg)(CE:Can P w K mg base "_law_every" 5 fE fdE ["box"] (jES tb))(hr:Room 5 (XOf jBT "_law_sum_up" yK P w K mg base f cdv A outer s H0 E).A): { t:TS // JSs (XOf jBT "_law_sum_up" yK P w K mg base f cdv A outer s H0 E) (jC yK) t} :=
 have nd:=scSumUp.nd
 ⟨_,(jB (jQ (i:=1) nd rfl loc_c (jD4) jDD) (jB (jQ (i:=2) nd rfl loc_c (jD4) jDD) (jB (yT bX rfl (yB (CE.je hr gD (j3 (jv 0 rfl vC) j8 j4) j4)) (jJ (i:=3) nd rfl lL) (suInA T hr).2 kO) (jB (jI1 (i:=5) nd rfl lL ⟨by rfl⟩ (m:=[none,some 1]) (Nc:=["size","sizes_here"]) rfl (jAJ gD T.range (j3 (kI kP (jE (jNP rfl) gD T.max (by decide+kernel) (j3 (kI jD1 (jAA (jKE rfl) gD T.list (by decide+kernel) (j3 (jv 1 rfl vC) j8 j4) j4) (yD (j3 (je_un jKV (je_int)) j8 se_un))) j8 y0) y0) (je_int)) j8 y0) y0) rfl (by decide+kernel) (by decide+kernel) (jT (psc:=jA yK)) (jL (N:=jBT) rfl rfl (by decide+kernel)) (λcl C fp s H=>jJ (i:=0) (show (["size","sizes_here"]:List Str).Nodup by decide+kernel) rfl qG) (λcl C fp s H=>yH) (λcl C fp s H=>(jD5 (yZ hr) (jv 1 rfl yJ) (jv 0 rfl jW) je_int j4 jG)) kO) (jD (jV (yD (j3 (jv 5 rfl vL) (j3 (yE (m:=[none,some 2]) (Nc:=["weight","weights_here"]) rfl (yB (jE (jFI rfl) gD T.sorted (by decide+kernel) (j3 (jv 2 rfl vC) j8 j4) j4)) rfl (by decide+kernel) (by decide+kernel) (jT (psc:=jA yK)) (jL (N:=jBT) rfl rfl (by decide+kernel)) (λcl C fp s H=>jJ (i:=0) (show (["weight","weights_here"]:List Str).Nodup by decide+kernel) rfl qG) (λcl C fp s H=>yH) (λcl C fp s H=>(yC (j3 (jv 0 rfl jW) (j3 (jDR (yZ hr) (jv 1 rfl yJ) (jv 0 rfl jW) jBI) j8 yF) j4))) kO) j8 jP) j4))))))))⟩
theorem jL8 (T:Txt mg)(hr:Room 5 (XOf jBT "_law_sum_up" yK P w K mg base f cdv A outer s H0 E).A){D:Ends}{H:Hp}{b p t a:Addr}{l1 l2:List (Int×Nat)}{wi:Int}{ms:List Int}{pcs:List (List Int×Int)}{ks:List Int}{v4 v5:Option V}(hB:BoxAt H b wi ms pcs)(ha:H a=some (.tup (ks.map V.int)))(hk:∀k∈ks,0<=k/\k<pcs.length)(hl:ks.length<=100)(hp:H p=some (.dK (kvI l1)))(ht:H t=some (.dK (kvI l2)))(pt:p≠t)(o1:WOk l1)(o2:WOk l2)(n1:l1.length<=2000000)(n2:l2.length<=2000000)
  (nx:∀H' v4,H' p=some (.dK (kvI (bump l1 (lenF ks) 1)))->H' t=some (.dK (kvI (bump l2 (wt pcs ks) 1)))->(∀x u,H x=some u->x≠p->x≠t->H' x=some u)->D.nx [some (.ref b),some (.ref p),some (.ref t),some (.ref a),v4,v5] H'):
  (suInA T hr).1 D [some (.ref b),some (.ref p),some (.ref t),some (.ref a),v4,v5] H:=by
 obtain⟨qm,qp,ps,b1,b2,b3,b4⟩:=id hB.ex
 have kl1:(kvI l1).length<=2000000:=by unfold kvI; rw[ae]; exact n1
 have kl2:(kvI l2).length<=2000000:=by unfold kvI; rw[ae]; exact n2
 refine⟨_,rfl,a,rfl,⟨_,SqT.of ha⟩,jD6 (xs:=ks.map V.int) (λσ=>∃v,σ=[v,some (.ref b)]) (mapZ ks λk=>V.int (wgt pcs k)) (mapZ.ok _ _) ha (by rw[ae,aH]; lia) ⟨_,rfl⟩ ?_ ?_⟩
 ·rintro j x σ' H' zs hx ⟨v,rfl⟩ e hz S1 S2 yes no
  obtain⟨k,hk',rfl⟩:=int_at hx
  have kb:=hk k (aE hk')
  obtain⟨pv,hpv,pa,pw,rfl,ha1,ha2⟩:=b4.get (k:=k.toNat) (by lia)
  have at1:atI ps k=some (.ref pa):=by
   have:=jB2 hpv
   rwa [show ((k.toNat:Nat):Int)=k by lia] at this
  dsimp only [kE,yW]
  rw[am rfl]
  exact⟨_,rfl,b,_,2,_,rfl,rfl,SqT.of (e _ _ b1),rfl,_,rfl,qp,_,k,_,rfl,rfl,SqT.of (e _ _ b3),at1,pa,_,1,_,rfl,rfl,SqT.of (e _ _ ha1),rfl,yes _ _ _ ⟨_,rfl⟩ (Ext.refl _) (hz.yes hk')⟩
 ·rintro D' H' zs hD e nD hz
  have hz:=hz.all (by rw[ae]; exact aq _)
  have hz2:zs=(ks.map (wgt pcs)).map V.int:=by rw[hz,bz]; rfl
  rw[hz2] at hD
  refine⟨D',_,rfl,SqL.of hD,?_⟩
  have lenE:((ks.map V.int).length:Int)=lenF ks:=by rw[ae]
  refine⟨_,rfl,p,rfl, .inl ⟨_, .inl (e _ _ hp)⟩,_,rfl,a,_,rfl, .inr (SqT.of (e _ _ ha)),?_⟩
  rw[lenE]
  refine⟨_,DGet.k (k:=Sum.inl (lenF ks)) (e _ _ hp),?_⟩
  rw[jF8 o1.nd]
  refine⟨_,_,rfl,rfl,?_⟩
  refine⟨_,rfl,_,rfl,a,_,rfl, .inr (SqT.of (e _ _ ha)),?_⟩
  rw[lenE]
  refine⟨p,_,rfl,DPut.k (k:=Sum.inl (lenF ks)) (e _ _ hp) (by rw[aH]; lia),?_⟩
  have e1:putK (kvI l1) (Sum.inl (lenF ks)) (.int (((lk l1 (lenF ks):Nat):Int)+1))=kvI (bump l1 (lenF ks) 1):=by
   rw[<- jHQ o1.nd]
   unfold natV
   rw[iy]
   rfl
  rw[e1]
  have d2:(L2.upd H' p (.dK (kvI (bump l1 (lenF ks) 1)))) t=some (.dK (kvI l2)):=by rw[j6 (dq pt)]; exact e _ _ ht
  refine⟨_,rfl,t,rfl, .inl ⟨_, .inl d2⟩,_,rfl,_,DGet.k (k:=Sum.inl (wt pcs ks)) d2,?_⟩
  rw[jF8 o2.nd]
  refine⟨_,_,rfl,rfl,?_⟩
  refine⟨_,rfl,_,rfl,t,_,rfl,DPut.k (k:=Sum.inl (wt pcs ks)) d2 (by rw[aH]; lia),?_⟩
  have e2:putK (kvI l2) (Sum.inl (wt pcs ks)) (.int (((lk l2 (wt pcs ks):Nat):Int)+1))=kvI (bump l2 (wt pcs ks) 1):=by
   rw[<- jHQ o2.nd]
   unfold natV
   rw[iy]
   rfl
  rw[e2]
  exact nx _ _ (by rw[j6 pt,j5]) j5 λx u hx xp xt=>by rw[j6 xt,j6 xp]; exact e _ _ hx
def prsZ (l:List (Int×Nat)):Hp->List V->Nat->Prop:=λH zs j=>PrsA H zs (l.take j)
theorem prsZ.ok (l:List (Int×Nat)):ZOk (prsZ l):=⟨λ_=>trivial,λH H' zs j k h=>All2.imp (λ_ _ ⟨a,e,q⟩=>⟨a,e,k _ _ q⟩) h,λH zs j h=>by
 rw[All2.len h]
 exact ce _ _⟩
def jHK (tb:Addr):Sp:=λvs H Q _=>∃(b:Addr) (w:Int) (ms:List Int) (pcs:List (List Int×Int)),vs=[.ref b]/\BoxAt H b w ms pcs/\Good 16 32 w ms pcs/\w<=7/\pcs.length<=10/\TabE H tb/\∀r a c us l H',H' r=some (.lst [.ref a, .ref c])->H' a=some (.lst ((szL (wk (chs w.toNat ms pcs) 0)).map natV))->H' c=some (.lst us)->PrsA H' us l->WTold pcs (wk (chs w.toNat ms pcs) 0) l->l.length<=1000->ExtT tb H H'->TabE H' tb->Q (.ref r) H'
theorem jON {fd:FuncData}(F:Fun K "_law_sum_up" "_law_sum_up" yK f fd)(T:Txt mg)(CE:Can P w K mg base "_law_every" 5 fE fdE ["box"] (jES tb)):FnOk P w K mg base CX0 6 f fd ["box"] (jHK tb):=by
 refine F.ok scSumUp (λvs H Q E h=>?_) (λcdv A outer s H vs Q E hr h=>?_)
 ·obtain⟨_,_,_,_,rfl,_⟩:=h
  rfl
 ·obtain⟨b,wi,ms,pcs,rfl,hB,g,w7,p10,tab,q⟩:=h
  refine⟨_,(jTL T CE hr).2.h,?_⟩
  have few:=jKN g w7 p10
  intro p hp
  have e1:Ext H (L2.upd H p (.dK [])):=(Ext.refl _).new hp _
  have d1:(L2.upd H p (.dK [])) p=some (.dK (kvI [])):=j5
  generalize L2.upd H p (.dK [])=H1 at e1 d1
  intro t ht
  have pt:p≠t:=λz=>by rw[z,ht] at d1; cases d1
  have e2:Ext H1 (L2.upd H1 t (.dK [])):=(Ext.refl _).new ht _
  have d2:(L2.upd H1 t (.dK [])) t=some (.dK (kvI [])):=j5
  generalize L2.upd H1 t (.dK [])=H2 at e2 d2
  have E2:=e1.trans e2
  refine⟨_,rfl,b,wi,ms,pcs,rfl,hB.mono E2.tups,g,by lia,tab.ext E2,λl us H3 hl hu e3 t3 nl=>?_⟩
  have ul:=All2.len hu
  have cl:=jSZ wi ms pcs
  have hB3:BoxAt H3 b wi ms pcs:=(hB.mono E2.tups).mono λx xs hx=>e3.at (tab.ext E2) hx
  have p3:H3 p=some (.dK (kvI [])):=e3.at (tab.ext E2) (e2 _ _ d1)
  have t3':H3 t=some (.dK (kvI [])):=e3.at (tab.ext E2) d2
  have lp:l≠p:=λz=>by rw[z,e2 _ _ d1] at nl; cases nl
  have lt:l≠t:=λz=>by rw[z,d2] at nl; cases nl
  have tabK:∀H',(∀x u,H3 x=some u->x≠p->x≠t->H' x=some u)->TabE H' tb:=λH' k=>by
   rcases t3 with z | ⟨c,z1,z2⟩
   ·exact .inl (k _ _ z (λy=>by rw[y,p3] at z; cases z) (λy=>by rw[y,t3'] at z; cases z))
   ·exact .inr ⟨c,k _ _ z1 (λy=>by rw[y,p3] at z1; cases z1) (λy=>by rw[y,t3'] at z1; cases z1),k _ _ z2 (λy=>by rw[y,p3] at z2; cases z2) (λy=>by rw[y,t3'] at z2; cases z2)⟩
  have extK:∀H',(∀x u,H3 x=some u->x≠p->x≠t->H' x=some u)->ExtT tb H H':=λH' k x o hx nx=>k _ _ (e3 _ _ (E2 _ _ hx) nx) (λy=>by rw[y,hp] at hx; cases hx) (λy=>by rw[y] at hx; rw[e1 _ _ hx] at ht; cases ht)
  refine⟨l,rfl,⟨_,SqL.of hl⟩,jBA (xs:=us) (λi σ H'=>(∃v3 v4 v5,σ=[some (.ref b),some (.ref p),some (.ref t),v3,v4,v5])/\(∀x u,H3 x=some u->x≠p->x≠t->H' x=some u)/\H' p=some (.dK (kvI (cf lenF [] ((cvs wi ms pcs).take i))))/\H' t=some (.dK (kvI (cf (wt pcs) [] ((cvs wi ms pcs).take i))))) ⟨⟨_,_,_,rfl⟩,λ_ _ h _ _=>h,p3,t3'⟩ (λi σ H' _ ⟨_,k,_⟩=>SqL.of (k _ _ hl lp lt)) ?_ ?_⟩
  ·rintro i x σ H4 hx ⟨⟨v3,v4,v5,rfl⟩,k4,p4,t4⟩
   obtain⟨c,hc,a,rfl,ha⟩:=All2.get' hu hx
   have C:IsCov wi ms pcs c:=(jF3 g).mp (aE hc)
   have cln:=jAY c 0 _ C.ris.ris C.ris.bnd
   have il:=(ax.mp hc).1
   have len1:=(cf_ok lenF ((cvs wi ms pcs).take i) [] wok0).len
   have len2:=(cf_ok (wt pcs) ((cvs wi ms pcs).take i) [] wok0).len
   rw[jNG] at len1 len2
   have z0:tot ([]:List (Int×Nat))=0:=rfl
   have tk:=ce i (cvs wi ms pcs)
   have tk2:((cvs wi ms pcs).take i).length<=i:=ce _ _
   have dk:∀{y:Addr}{xs:List V},H3 y=some (.tup xs)->H4 y=some (.tup xs):=λ{y xs} h=>k4 _ _ h (λz=>by rw[z,p3] at h; cases h) (λz=>by rw[z,t3'] at h; cases h)
   refine jL8 T hr (hB3.mono λy xs h=>dk h) (dk ha) (λk hk=>⟨C.ris.bnd k hk |>.1,(C.ris.bnd k hk).2⟩) (by lia) p4 t4 pt (cf_ok lenF _ [] wok0) (cf_ok (wt pcs) _ [] wok0) (by lia) (by lia) λH5 v4 p5 t5 k5=>⟨⟨_,_,_,rfl⟩,λx u hx n1 n2=>k5 _ _ (k4 _ _ hx n1 n2) n1 n2,?_,?_⟩
   ·rw[bu,hc]
    show _=some (HO.dK (kvI (cf lenF [] ((cvs wi ms pcs).take i++[c]))))
    rw[jNH]
    exact p5
   ·rw[bu,hc]
    show _=some (HO.dK (kvI (cf (wt pcs) [] ((cvs wi ms pcs).take i++[c]))))
    rw[jNH]
    exact t5
  ·rintro σ H4 ⟨⟨v3,v4,v5,rfl⟩,k4,p4,t4⟩
   rw[ul,bI] at p4 t4
   have o1:=cf_ok lenF (cvs wi ms pcs) [] wok0
   have o2:=cf_ok (wt pcs) (cvs wi ms pcs) [] wok0
   have len1:=o1.len
   have len2:=o2.len
   rw[jNG] at len1 len2
   have z0:tot ([]:List (Int×Nat))=0:=rfl
   have kk:∀l:List (Int×Nat),(kvI l).map (·.1)=(l.map (·.1)).map Sum.inl:=λl=>by unfold kvI; rw[bz,bz]; rfl
   have cm:cvs wi ms pcs=(wk (chs wi.toNat ms pcs) 0).map srt:=rfl
   refine⟨_,rfl,p,_,_,rfl,p4,kk _,by rw[ae,aH]; lia,λl1 n1=>?_⟩
   have e5:Ext H4 (L2.upd H4 l1 (.lst (((cf lenF [] (cvs wi ms pcs)).map (·.1)).map V.int))):=(Ext.refl _).new n1 _
   have d5:(L2.upd H4 l1 (.lst (((cf lenF [] (cvs wi ms pcs)).map (·.1)).map V.int))) l1=some (.lst (((cf lenF [] (cvs wi ms pcs)).map (·.1)).map V.int)):=j5
   generalize L2.upd H4 l1 (.lst (((cf lenF [] (cvs wi ms pcs)).map (·.1)).map V.int))=H5 at e5 d5
   refine⟨_,rfl,by rw[aH]; show 1<=_; decide,λl2 H6 d6 e6 n6=>?_⟩
   refine⟨l1,l2,_,_,rfl,rfl,e6 _ _ d5,d6,by rw[ae,ae,aH]; show _+1<=_; lia,λl3 H7 d7 e7 n7=>?_⟩
   refine⟨l3,(cf lenF [] (cvs wi ms pcs)).map (·.1)++[-1],(szN (cvs wi ms pcs):Int) - 1,rfl,SqL.of (by rw[ba]; exact d7),by rw[aF]; show 0<_+1; lia,λm hm hM=>jSC hm hM,?_⟩
   refine⟨_,_,rfl,rfl,?_⟩
   have szl:szN (cvs wi ms pcs)<=100:=by
    rcases jFV (cvs wi ms pcs) with z | ⟨x,hx,ex⟩
    ·rw[z]; decide
    ·have C:IsCov wi ms pcs x:=(jF3 g).mp hx
     have:=jAY x 0 _ C.ris.ris C.ris.bnd
     lia
   refine⟨_,rfl,by lia,by lia,?_⟩
   have e47:=(e5.trans e6).trans e7
   have jn:((szN (cvs wi ms pcs):Int) - 1+1).toNat=szN (cvs wi ms pcs):=by lia
   rw[jn]
   refine jJJ (λσ=>∃v,σ=[v,some (.ref p)]) (mapZ (List.range (szN (cvs wi ms pcs))) λn=>natV (lk (cf lenF [] (cvs wi ms pcs)) ((n:Nat):Int))) (mapZ.ok _ _) (by rw[aH]; lia) ⟨_,rfl⟩ ?_ ?_
   ·rintro j σ' H8 zs hj ⟨v,rfl⟩ e8 hz S1 S2 yes no
    dsimp only [kE,yW]
    rw[am rfl]
    refine⟨_,rfl,p,rfl, .inl ⟨_, .inl (e8 _ _ (e47 _ _ p4))⟩,_,rfl,_,DGet.k (k:=Sum.inl (0+(j:Int))) (e8 _ _ (e47 _ _ p4)),?_⟩
    rw[jF8 o1.nd,iM]
    exact yes _ _ _ ⟨_,rfl⟩ (Ext.refl _) (hz.yes (x:=j) (by rw[dj hj]))
   ·rintro D H8 zs hD e8 nD hz
    have hz:=hz.all (by rw[bW]; exact aq _)
    have hz2:zs=(szL (wk (chs wi.toNat ms pcs) 0)).map natV:=by
     rw[hz,<- jR0 (f:=srt) (λx=>(jAD x).length_eq),<- cm,<- jVI,bz]
     rfl
    rw[hz2] at hD
    have E8:=e47.trans e8
    refine⟨_,rfl,_,rfl,t,_,_,rfl,E8 _ _ t4,kk _,by rw[ae,aH]; lia,λl9 ns n9 up pm=>?_⟩
    have e9:Ext H8 (L2.upd H8 l9 (.lst (ns.map V.int))):=(Ext.refl _).new n9 _
    have d9:(L2.upd H8 l9 (.lst (ns.map V.int))) l9=some (.lst (ns.map V.int)):=j5
    generalize L2.upd H8 l9 (.lst (ns.map V.int))=H9 at e9 d9
    have nl9:=pm.length_eq
    rw[ae] at nl9
    have t9:H9 t=some (.dK (kvI (cf (wt pcs) [] (cvs wi ms pcs)))):=e9 _ _ (E8 _ _ t4)
    refine⟨l9,rfl,⟨_,SqL.of d9⟩,jBC (xs:=ns.map V.int) (λσ=>∃v,σ=[v,some (.ref t)]) (prsZ (ns.map λn=>(n,lk (cf (wt pcs) [] (cvs wi ms pcs)) n))) (prsZ.ok _) d9 (by rw[ae,aH]; lia) ⟨_,rfl⟩ ?_ ?_⟩
    ·rintro j x σ' H10 zs hx ⟨v,rfl⟩ e10 hz S1 S2 yes no
     obtain⟨n,hn,rfl⟩:=int_at hx
     have key:=pm.mem_iff.mp (aE hn)
     have hv:=jD9 (v:=n) o2.nd
     rw[am key] at hv
     dsimp only [kE,yW]
     rw[am rfl]
     refine⟨_,rfl,_,rfl,_,rfl,t,_,rfl,hv ▸ DGet.k (k:=Sum.inl n) (e10 _ _ t9),by rw[aH]; show 2<=_; decide,λr H11 d11 e11=>?_⟩
     refine yes _ _ _ ⟨_,rfl⟩ e11 ?_
     show PrsA H11 (zs++[.ref r]) ((ns.map λn=>(n,lk (cf (wt pcs) [] (cvs wi ms pcs)) n)).take (j+1))
     rw[bu,aJ,hn]
     exact All2.snoc (All2.imp (λ_ _ ⟨a,e,q⟩=>⟨a,e,e11 _ _ q⟩) hz) ⟨r,rfl,d11⟩
    ·rintro D2 H10 zs2 hD2 e10 nD2 hz9
     have hz9:PrsA H10 zs2 ((ns.map λn=>(n,lk (cf (wt pcs) [] (cvs wi ms pcs)) n)).take (ns.map V.int).length):=hz9
     rw[bR (by rw[ae,ae]; exact aq _)] at hz9
     refine⟨by rw[aH]; show 2<=_; decide,λr H11 d11 e11 n11=>?_⟩
     have E11:=((E8.trans e9).trans e10).trans e11
     have K11:∀x u,H3 x=some u->x≠p->x≠t->H11 x=some u:=λx u hx n1 n2=>E11 _ _ (k4 _ _ hx n1 n2)
     exact q r D D2 zs2 _ H11 d11 (e11 _ _ (e10 _ _ (e9 _ _ hD))) (e11 _ _ hD2) (All2.imp (λ_ _ ⟨a,e,q⟩=>⟨a,e,e11 _ _ q⟩) hz9) (jQY up pm) (by rw[ae]; lia) (extK _ K11) (tabK _ K11)
end
abbrev zT (L:List Nat):Tr:= .lst ((L.map λn:Nat=>(n:Int)).map Tr.int)
abbrev wT (l:List (Int×Nat)):Tr:= .lst (l.map λw=> .tup [.int w.1, .int (w.2:Int)])
theorem jFO:∀l:List Int,wids (l.map Tr.int)=0
 | []=>rfl
 | a::l=>by rw[aX,wids,jFO l]; rfl
theorem zT_at {H:Hp}{z:Addr}{L:List Nat}(h:H z=some (.lst (L.map natV))):TAt H (zT L) (.ref z):=⟨z,_,rfl,h,by
 have e:L.map natV=(L.map λn:Nat=>(n:Int)).map V.int:=by rw[bz]; rfl
 rw[e]
 exact jQH _⟩
theorem jKL (L:List Nat):dep (zT L)<=4:=by
 rw[dep,jGU]
 decide
theorem jKK {L:List Nat}(h:L.length<=1000000):wid (zT L)<=1000000:=by
 rw[wid,ae,ae,jFO]
 lia
theorem prs_T {H:Hp} :∀{us:List V}{l:List (Int×Nat)},PrsA H us l->TsAt H (l.map λw=>Tr.tup [.int w.1, .int (w.2:Int)]) us
 | [],[],_=>rfl
 | u::us,w::l,h=>⟨u,us,rfl,by
   obtain⟨a,rfl,ha⟩:=h.1
   exact⟨a,_,rfl,ha,_,_,rfl,rfl,_,_,rfl,rfl,rfl⟩,prs_T h.2⟩
theorem wT_at {H:Hp}{y:Addr}{us:List V}{l:List (Int×Nat)}(h:H y=some (.lst us))(p:PrsA H us l):TAt H (wT l) (.ref y):=⟨y,_,rfl,h,prs_T p⟩
theorem jKS:∀l:List (Int×Nat),deps (l.map λw=>Tr.tup [.int w.1, .int (w.2:Int)])<=1
 | []=>by decide
 | w::l=>by
  rw[aX,deps]
  have:=jKS l
  have e:dep (Tr.tup [.int w.1, .int (w.2:Int)])=1:=by simp [dep,deps]
  lia
theorem jKT (l:List (Int×Nat)):dep (wT l)<=4:=by
 rw[dep]
 have:=jKS l
 lia
theorem jKQ:∀l:List (Int×Nat),wids (l.map λw=>Tr.tup [.int w.1, .int (w.2:Int)])<=2
 | []=>by decide
 | w::l=>by
  rw[aX,wids]
  have:=jKQ l
  have e:wid (Tr.tup [.int w.1, .int (w.2:Int)])=2:=by simp [wid,wids]
  lia
theorem jKR {l:List (Int×Nat)}(h:l.length<=1000):wid (wT l)<=1000000:=by
 rw[wid,ae]
 have:=jKQ l
 lia
theorem jTH {w:Int}{ms:List Int}{pcs:List (List Int×Int)}(g:Good 16 32 w ms pcs):(szL (wk (chs w.toNat ms pcs) 0)).length<=100:=by
 rw[jDC,<- jHJ (f:=srt) (λx=>(jAD x).length_eq)]
 show szN (cvs w ms pcs)<=100
 have gl:=g.pl
 rcases jFV (cvs w ms pcs) with z | ⟨x,hx,ex⟩
 ·rw[z]; decide
 ·have C:IsCov w ms pcs x:=(jF3 g).mp hx
  have:=jAY x 0 _ C.ris.ris C.ris.bnd
  lia
abbrev tEv (tb:Addr):TT:=⟨tb,evPo,qEvK⟩
abbrev LL (tb1 tb2 tb3:Addr):List TT:=[tWt tb1,tEv tb2,tWB tb3]
section
variable {fP fX fZ fS tb3:Addr}{fdP fdX fdZ fdS:FuncData}
noncomputable abbrev nLaw:List Str:=["script","k","box","row","heavy","found","some"]
theorem scLaw:FnScope nLaw ["script"] (jA sLaw):= {}
abbrev XLaw (P:Program)(w:World)(K:W.Frag)(mg:Str->Option Value)(base:Heap)(f:Addr)(cdv:Value)(A:Around)(outer:List Env)(s:Shared)(H:Hp)(E:XK):Cx:=XOf nLaw "law" sLaw P w K mg base f cdv A outer s H E
structure LW (P:Program)(w:World)(K:W.Frag)(mg:Str->Option Value)(base:Heap)(fC fP fX fU fZ fW fS tb1 tb2 tb3:Addr)(fdC fdP fdX fdU fdZ fdW fdS:FuncData):Prop where
 T:Txt mg
 CC:Can P w K mg base "_law_cell_at" 1 fC fdC ["script","k"] (jLB K)
 CP:Can P w K mg base "_law_pot" 1 fP fdP ["cell"] spPot
 CX:Can P w K mg base "_law_box" 3 fX fdX ["pot","most_things","most_pieces"] spBox
 CU:Can P w K mg base "_law_sum_up" 6 fU fdU ["box"] (jHK tb2)
 CZ:Can P w K mg base "sizes" 5 fZ fdZ ["box"] jHL
 CW:Can P w K mg base "weights" 7 fW fdW ["box"] (spWts (LL tb1 tb2 tb3) tb1 tb3)
 CS:Can P w K mg base "_law_same" 6 fS fdS ["found","due"] (jDG 4)
section
variable (t:TbS (LL tb1 tb2 tb3) H)
include t
theorem LL.ee:TabE H tb2:=t.ok (tEv tb2) (ah _ (ag ..))
theorem LL.toE (e:ExtT tb2 H H')(k:TabE H' tb2):TbS (LL tb1 tb2 tb3) H'/\ExS (ads (LL tb1 tb2 tb3)) H H':=⟨t.setT (x:=tEv tb2) (ah _ (ag ..)) e k,ExS.ofT e (ah _ (ag ..))⟩
end
theorem LL.i1:tWt tb1∈LL tb1 tb2 tb3:=ag ..
theorem LL.i3:tWB tb3∈LL tb1 tb2 tb3:=ah _ (ah _ (ag ..))
section
variable (G:LW P w K mg base fC fP fX fU fZ fW fS tb1 tb2 tb3 fdC fdP fdX fdU fdZ fdW fdS)(hr:Room 7 (XLaw P w K mg base f cdv A outer s H0 E).A)
def turnA: { t:TS // JSs (XLaw P w K mg base f cdv A outer s H0 E) (yS ((jC sLaw).getD 0 (.Pass ⟨0,0,0,0⟩))) t} :=
 have nd:=scLaw.nd
 ⟨_,(jB (jQ (i:=2) nd rfl lL (G.CX.je (hr.mono (by decide)) gD (j3 (G.CP.je (hr.mono (by decide)) gD (j3 (G.CC.je (hr.mono (by decide)) gD (j3 (jv 0 rfl vL) (j3 (jv 1 rfl vL) j8 j4) j4) j4) j8 jH) jH) (j3 (je_int) (j3 (je_int) j8 jG) jG) jH) jH) kB)
   (jB (jV1 (G.CU.je (hr.mono (by decide)) gD (j3 (jv 2 rfl vL) j8 j4) j4) (jML (i:=3) (j:=4) nd rfl rfl (by decide+kernel) (by decide+kernel)))
   (jB (jQ (i:=5) nd rfl lL (G.CZ.je (hr.mono (by decide)) gD (j3 (jv 2 rfl vL) j8 j4) j4) kB)
   (jB (jQ (i:=6) nd rfl lL (G.CW.je hr gD (j3 (jv 2 rfl vL) j8 j4) j4) kB)
   (jB (yY (jt_w (jw_or (jGL (jBY (G.CS.je (hr.mono (by decide)) gD (j3 (jv 5 rfl vL) (j3 (jv 3 rfl vL) j8 j4) j4) j4) jAV)) (jJ4 (jGL (jBY (G.CS.je (hr.mono (by decide)) gD (j3 (jv 6 rfl vL) (j3 (jv 4 rfl vL) j8 j4) j4) j4) jAV))))) (jD (jV (je_bl))) kU)
   (jB (jCH (je_bm cF eJ eL jAP (jv 5 rfl vL) (j3 (je_int) j8 jG) jG) kB)
   (jB (jCH (jMR cF PySem.F.slot_list_clear PySem.F.type_list_clear jOU (jv 6 rfl vL)) kB)
   (jD (yY (jt_w (jw_or (jGL (jBY (G.CS.je (hr.mono (by decide)) gD (j3 (G.CZ.je (hr.mono (by decide)) gD (j3 (jv 2 rfl vL) j8 j4) j4) (j3 (jv 3 rfl vL) j8 j4) jH) jH) jAV)) (jJ4 (jGL (jBY (G.CS.je (hr.mono (by decide)) gD (j3 (G.CW.je hr gD (j3 (jv 2 rfl vL) j8 j4) j4) (j3 (jv 4 rfl vL) j8 j4) jH) jH) jAV))))) (jD (jV (je_bl))) kU)))))))))⟩
def lawA: { t:TS // JSs (XLaw P w K mg base f cdv A outer s H0 E) (jC sLaw) t} :=
 have nd:=scLaw.nd
 ⟨_,(jB (yT bX rfl (jAJ gD G.T.range (j3 (jE (jNR rfl) gD G.T.max (by decide+kernel) (j3 (je_int) (j3 (jE (jNO rfl) gD G.T.min (by decide+kernel) (j3 (jE jU gD G.T.len (by decide+kernel) (j3 (jv 0 rfl vL) j8 j4) j4) (j3 (je_int) j8 jG) jH) jH) j8 jH) jG) jG) j8 jH) jH) (jJ (i:=1) nd rfl lL) (turnA G hr).2 kO) (jD (jV ((jEI (G.CS.je (hr.mono (by decide)) gD (j3 (G.CZ.je (hr.mono (by decide)) gD (j3 (yC (j3 (je_int) (j3 (yC j8) (j3 (yC j8) j8 yQ) yQ) jG)) j8 yQ) yQ) (j3 (yD (j3 (je_int) j8 jG)) j8 jLF) jH) jH) (jEH (G.CS.je (hr.mono (by decide)) gD (j3 (G.CW.je hr gD (j3 (yC (j3 (je_int) (j3 (yC j8) (j3 (yC j8) j8 yQ) yQ) jG)) j8 yQ) yQ) (j3 (yD (j3 (yC (j3 (je_int) (j3 (je_int) j8 jG) jG)) j8 yQ)) j8 jLF) jH) jH)))))))⟩
theorem jV6 {w:Int}{ms:List Int}{pcs:List (List Int×Int)}(g:Good 7 10 w ms pcs):Good 16 32 w ms pcs:=g.wide (by decide) (by decide)
theorem jKW {D:Ends}{H:Hp}{a:Addr}{ns:List Int}{k:Int}{v2 v3 v4 v5 v6:Option V}(hS:SqL K H a (ns.map V.int))(k0:0<=k)(tab:TbS (LL tb1 tb2 tb3) H)
  (nx:∀H' v2 v3 v4 v5 v6,TbS (LL tb1 tb2 tb3) H'->ExS (ads (LL tb1 tb2 tb3)) H H'->D.nx [some (.ref a),some (.int k),v2,v3,v4,v5,v6] H'):
  (turnA G hr).1 D [some (.ref a),some (.int k),v2,v3,v4,v5,v6] H:=by
 refine⟨_,rfl,_,rfl,a,ns,k,rfl,hS,k0,λc=>⟨c,rfl,λp N hp hN=>?_⟩⟩
 refine⟨p,N,7,10,rfl,j5,hN,by decide,by decide,by decide,by decide,λb N' wi ms pcs H1 c1 c2 hB1 g7 c5=>?_⟩
 have e1:Ext H H1:=c5.ext hp
 have g:=jV6 g7
 have pl:=g7.pl
 have w7:=g7.w1
 have T1:=tab.ext e1
 have X1:ExS (ads (LL tb1 tb2 tb3)) H H1:=ExS.of e1
 refine⟨_,rfl,b,wi,ms,pcs,rfl,hB1,g,by lia,by lia,LL.ee T1,λr ra rc us l H2 dr da dc pu told ll e2 t2=>?_⟩
 obtain⟨T2,Y2⟩:=LL.toE T1 e2 t2
 have X2:=X1.trans Y2
 have hB2:=hB1.mono (T1.tups Y2)
 refine⟨r,_,rfl,SqL.of dr,rfl,_,_,rfl,_,_,rfl,rfl,?_⟩
 refine⟨_,rfl,b,wi,ms,pcs,rfl,hB2,g,λz H3 d3 e3 n3=>?_⟩
 have T3:=T2.ext e3
 refine⟨_,rfl,b,wi,ms,pcs,rfl,hB2.mono e3.tups,g,jHF g (by lia),jKN g (by lia) (by lia),T3,LL.i1,LL.i3,λy us' l' H4 d4 pu' told' ll' Y4 T4 n4=>?_⟩
 obtain rfl:=told.uniq told'
 have Z4:ExS (ads (LL tb1 tb2 tb3)) H2 H4:=(ExS.of e3).trans Y4
 have szb:=jTH g
 refine⟨_,rfl,_,rfl,_,_,zT _,rfl,zT_at (T3.at Y4 d3),zT_at (T2.at Z4 da),jKL _,jKK (by lia),λH5 e5=>⟨_,rfl,iteF ?_⟩⟩
 have Z5:=Z4.trans (ExS.of e5)
 have T5:=T4.ext e5
 have pu5:PrsA H5 us l:=All2.imp (λ_ _ ⟨a,e,q⟩=>⟨a,e,T2.at Z5 q⟩) pu
 have pu5':PrsA H5 us' l:=All2.imp (λ_ _ ⟨a,e,q⟩=>⟨a,e,e5 _ _ q⟩) pu'
 refine⟨_,rfl,_,rfl,_,_,wT l,rfl,wT_at (e5 _ _ d4) pu5',wT_at (T2.at Z5 dc) pu5,jKT _,jKR ll,λH6 e6=>⟨_,rfl,iteF ?_⟩⟩
 have Z6:=Z5.trans (ExS.of e6)
 have T6:=T5.ext e6
 have z6:=(e6 _ _ (e5 _ _ (T3.at Y4 d3)))
 have y6:=e6 _ _ (e5 _ _ d4)
 have zy:z≠y:=λe=>by rw[<- e,d3] at n4; cases n4
 have rz:ra≠z:=λe=>by rw[<- e,da] at n3; cases n3
 have cz:rc≠z:=λe=>by rw[<- e,dc] at n3; cases n3
 have ry:ra≠y:=λe=>by rw[<- e,e3 _ _ da] at n4; cases n4
 have cy:rc≠y:=λe=>by rw[<- e,e3 _ _ dc] at n4; cases n4
 refine⟨_,rfl, .inl ⟨rfl,_,SqL.of z6⟩,z,_,_,rfl,rfl,z6,by rw[ae,aH]; lia,?_⟩
 have T7:=T6.lst (o:= .lst ((szL (wk (chs wi.toNat ms pcs) 0)).map natV++[.int 1])) z6
 have k7:∀x u,H6 x=some u->x≠z->(L2.upd H6 z (.lst ((szL (wk (chs wi.toNat ms pcs) 0)).map natV++[.int 1]))) x=some u:=λx u h n=>by rw[j6 n]; exact h
 generalize L2.upd H6 z (.lst ((szL (wk (chs wi.toNat ms pcs) 0)).map natV++[.int 1]))=H7 at T7 k7
 have y7:=k7 _ _ y6 (dq zy)
 refine⟨_,rfl, .inl ⟨rfl,_,SqL.of y7⟩,y,_,rfl,rfl,y7,?_⟩
 have T8:=T7.lst (o:= .lst []) y7
 have k8:∀x u,H7 x=some u->x≠y->(L2.upd H7 y (.lst [])) x=some u:=λx u h n=>by rw[j6 n]; exact h
 generalize L2.upd H7 y (.lst [])=H8 at T8 k8
 have X6:=X2.trans Z6
 have nz:H z=none\/z∈ads (LL tb1 tb2 tb3):=by
  cases q:H z with
  | none=>exact .inl rfl
  | some o=>
   by_cases m:z∈ads (LL tb1 tb2 tb3)
   ·exact .inr m
   ·rw[X2 _ _ q m] at n3; cases n3
 have K8:∀x u,H6 x=some u->x≠z->x≠y->H8 x=some u:=λx u h n1 n2=>k8 _ _ (k7 _ _ h n1) n2
 have X8:ExS (ads (LL tb1 tb2 tb3)) H H8:=λx o h n=>K8 _ _ (X6 _ _ h n) (λe=>by rw[<- e,X2 _ _ h n] at n3; cases n3) (λe=>by rw[<- e,e3 _ _ (X2 _ _ h n)] at n4; cases n4)
 have t8:∀x xs,H2 x=some (.tup xs)->H8 x=some (.tup xs):=λx xs h=>K8 _ _ (T2.at Z6 h) (λe=>by rw[<- e,h] at n3; cases n3) (λe=>by rw[<- e,e3 _ _ h] at n4; cases n4)
 have da8:H8 ra=some (.lst ((szL (wk (chs wi.toNat ms pcs) 0)).map natV)):=K8 _ _ (T2.at Z6 da) rz ry
 have dc8:H8 rc=some (.lst us):=K8 _ _ (T2.at Z6 dc) cz cy
 have pu8:PrsA H8 us l:=All2.imp (λ_ _ ⟨a,e,q⟩=>⟨a,e,t8 _ _ q⟩) pu
 have hB8:BoxAt H8 b wi ms pcs:=hB2.mono t8
 refine⟨_,rfl,b,wi,ms,pcs,rfl,hB8,g,λz2 H9 d9 e9 n9=>?_⟩
 refine⟨_,rfl,_,_,zT _,rfl,zT_at d9,zT_at (e9 _ _ da8),jKL _,jKK (by lia),λHA eA=>⟨_,rfl,iteF ?_⟩⟩
 have EA:=e9.trans eA
 have TA:=T8.ext EA
 refine⟨_,rfl,b,wi,ms,pcs,rfl,hB8.mono EA.tups,g,jHF g (by lia),jKN g (by lia) (by lia),TA,LL.i1,LL.i3,λy2 us2 l2 HB dB puB toldB llB YB TB nB=>?_⟩
 obtain rfl:=told.uniq toldB
 have ZB:ExS (ads (LL tb1 tb2 tb3)) H8 HB:=(ExS.of EA).trans YB
 refine⟨_,rfl,_,_,wT l,rfl,wT_at dB puB,wT_at (T8.at ZB dc8) (All2.imp (λ_ _ ⟨a,e,q⟩=>⟨a,e,T8.at ZB q⟩) pu8),jKT _,jKR ll,λHC eC=>⟨_,rfl,iteF ?_⟩⟩
 exact nx HC _ _ _ _ _ (TB.ext eC) ((X8.trans ZB).trans (ExS.of eC))
end
def spLaw (K:W.Frag)(tb1 tb2 tb3:Addr):Sp:=λvs H Q _=>∃(a:Addr) (ns:List Int),vs=[.ref a]/\SqL K H a (ns.map V.int)/\ns.length<=63/\TabW H tb1/\TabE H tb2/\TabOk H tb3 pWB qWB/\tb1≠tb2/\tb1≠tb3/\tb2≠tb3/\∀H',Q (.bl true) H'
theorem good0:Good 16 32 0 [] []:=⟨by decide,by decide,Ris.nil 0,by decide,λpc h=>by cases h⟩
theorem wk0:wk (chs (0:Int).toNat [] []) 0=[[]]:=yN (chs (0:Int).toNat [] [])
theorem jUM {fd:FuncData}(F:Fun K "law" "law" sLaw f fd)(G:LW P w K mg base fC fP fX fU fZ fW fS tb1 tb2 tb3 fdC fdP fdX fdU fdZ fdW fdS):FnOk P w K mg base CX0 8 f fd ["script"] (spLaw K tb1 tb2 tb3):=by
 refine F.ok scLaw (λvs H Q E h=>?_) (λcdv A outer s H vs Q E hr h=>?_)
 ·obtain⟨_,_,rfl,_⟩:=h
  rfl
 ·obtain⟨a,ns,rfl,hS,hlen,tw,te,tq,n12,n13,n23,k⟩:=h
  have tab:TbS (LL tb1 tb2 tb3) H:=⟨by
   unfold ads LL
   simp only [aX,iF,bJ,ar,bC,dG]
   exact⟨λz=>z.elim n12 n13,n23,λh=>h,eS⟩,λt ht=>by
   simp only [ar,bC,dG] at ht
   rcases ht with rfl | rfl | rfl
   ·exact tw
   ·exact te
   ·exact tq⟩
  refine⟨_,(lawA G hr).2.h,?_⟩
  have hl:∃m:Int,(if (if (10:Int)<((ns.map V.int).length:Int) then (10:Int) else ((ns.map V.int).length:Int))>1 then (if (10:Int)<((ns.map V.int).length:Int) then (10:Int) else ((ns.map V.int).length:Int)) else 1)=m/\0<=m/\m<=10:=⟨_,rfl,by split <;> lia,by split <;> (try split) <;> lia⟩
  obtain⟨m,hm,m0,m6⟩:=hl
  refine⟨_,rfl,a,_,rfl, .inl hS,_,_,rfl,_,_,rfl,m,by rw[<- hm],by lia,by lia,jC2 (lo:=0) (n:=m.toNat) (λi σ H'=>TbS (LL tb1 tb2 tb3) H'/\ExS (ads (LL tb1 tb2 tb3)) H H'/\∃v1 v2 v3 v4 v5 v6,σ=[some (.ref a),v1,v2,v3,v4,v5,v6]) ⟨tab,ExS.refl,_,_,_,_,_,_,rfl⟩ ?_ ?_⟩
  ·rintro i σ H1 hi ⟨T1,X1,v1,v2,v3,v4,v5,v6,rfl⟩
   exact jKW G hr (tab.sq X1 hS) (by lia) T1 λH2 v2 v3 v4 v5 v6 T2 X2=>⟨T2,X1.trans X2,_,_,_,_,_,_,rfl⟩
  ·rintro σ H1 ⟨T1,X1,v1,v2,v3,v4,v5,v6,rfl⟩
   refine⟨by show (0:Nat)<=_; decide,λq1 H2 d2 e2=>?_⟩
   refine⟨by show (0:Nat)<=_; decide,λq2 H3 d3 e3=>?_⟩
   refine⟨by show (3:Nat)<=_; decide,λq3 H4 d4 e4=>?_⟩
   have E4:=(e2.trans e3).trans e4
   refine⟨q3,0,[],[],rfl,⟨q1,q2,[],d4,e4 _ _ (e3 _ _ d2),e4 _ _ d3,trivial⟩,good0,λz H5 d5 e5 n5=>?_⟩
   rw[wk0] at d5
   refine⟨by show (1:Nat)<=_; decide,λq6 H6 d6 e6 n6=>?_⟩
   refine⟨_,_,zT [1],rfl,zT_at (e6 _ _ d5),zT_at d6,jKL _,jKK (by decide),λH7 e7=>⟨_,rfl,iteT ?_⟩⟩
   have T7:=T1.ext (((E4.trans e5).trans e6).trans e7)
   refine⟨by show (0:Nat)<=_; decide,λq1 H8 d8 e8=>?_⟩
   refine⟨by show (0:Nat)<=_; decide,λq2 H9 d9 e9=>?_⟩
   refine⟨by show (3:Nat)<=_; decide,λq3 HA dA eA=>?_⟩
   have EA:=(e8.trans e9).trans eA
   refine⟨q3,0,[],[],rfl,⟨q1,q2,[],dA,eA _ _ (e9 _ _ d8),eA _ _ d9,trivial⟩,good0,jHF good0 (by decide),by rw[wk0]; decide,T7.ext EA,LL.i1,LL.i3,λy us l HB dB pB told lB YB TB nB=>?_⟩
   rw[wk0] at told
   have t1:WTold [] [[]] [(0,1)]:=⟨cj _ _,λw hw=>by rw[ak.mp hw]; decide,λv=>by
    show (if (0:Int)=v then 1 else 0)+0=List.countP (λx=>wt [] x==v) [[]]
    rw[lS]
    show _=if ((0:Int)==v)=true then 1 else 0
    by_cases h:(0:Int)=v
    ·rw[am h,am (cU.mpr h)]
    ·rw[aj h,aj λz=>h (cU.mp z)]⟩
   obtain rfl:=t1.uniq told
   refine⟨by show (2:Nat)<=_; decide,λq8 HC dC eC=>?_⟩
   refine⟨by show (1:Nat)<=_; decide,λq9 HD dD eD nD=>?_⟩
   exact⟨_,_,wT [(0,1)],rfl,wT_at (eD _ _ (eC _ _ dB)) (All2.imp (λ_ _ ⟨a,e,q⟩=>⟨a,e,eD _ _ (eC _ _ q)⟩) pB),wT_at dD ⟨⟨q8,rfl,eD _ _ dC⟩,trivial⟩,jKT _,jKR (by decide),λHE eE=>k HE⟩
end
theorem lenU1 {P:List Value->Prop} :∀{us:List Value},us.length=1->(∀a,P [a])->P us
 | [a],_,h=>h a
theorem lenU2 {P:List Value->Prop} :∀{us:List Value},us.length=2->(∀a b,P [a,b])->P us
 | [a,b],_,h=>h a b
theorem lenU3 {P:List Value->Prop} :∀{us:List Value},us.length=3->(∀a b c,P [a,b,c])->P us
 | [a,b,c],_,h=>h a b c
abbrev zN (K:W.Frag)(x:Str):=PySem.W.nsIn K mainGlobals x
abbrev zr (f:Addr):Option (Option Value):=some (some (.ref f))
abbrev zl (x:Str)(st:Stmt)(oc:Value)(od:Option Addr)(kV dc pm:Value)(an:Option Addr)(cd ct:Value)(sl:Array (Option Value)):Option Obj:=some ⟨oc,od, .func (PySem.W.fnOf x x (kW st) (jC st) (jA st) .none kV dc pm an cd ct),sl⟩
abbrev zc:=PySem.W.codeIn
abbrev zk (K:W.Frag)(f:Addr):=keepIn K (.ref f)
theorem zb1 {K:W.Frag}{x q p1:Str}{st:Stmt}{f:Addr}{fd:FuncData}(F:Fun K x q st f fd)(h:∀(kV doc pm:Value) (an:Option Addr) (cdv ct u1:Value),bindArgs (PySem.W.fnOf x q (kW st) (jC st) (jA st) .none kV doc pm an cdv ct) ⟨[u1],[]⟩=pure [(p1,u1)]:=by intros; rfl):Binds K fd [p1] []:=F.binds λkV doc pm an cdv ct us hl=>lenU1 (P:=λus=>bindArgs _ ⟨us,[]⟩=pure (List.zip _ us)) hl λu1=>h kV doc pm an cdv ct u1
theorem zb2 {K:W.Frag}{x q p1 p2:Str}{st:Stmt}{f:Addr}{fd:FuncData}(F:Fun K x q st f fd)(h:∀(kV doc pm:Value) (an:Option Addr) (cdv ct u1 u2:Value),bindArgs (PySem.W.fnOf x q (kW st) (jC st) (jA st) .none kV doc pm an cdv ct) ⟨[u1,u2],[]⟩=pure [(p1,u1),(p2,u2)]:=by intros; rfl):Binds K fd [p1,p2] []:=F.binds λkV doc pm an cdv ct us hl=>lenU2 (P:=λus=>bindArgs _ ⟨us,[]⟩=pure (List.zip _ us)) hl λu1 u2=>h kV doc pm an cdv ct u1 u2
theorem zb3 {K:W.Frag}{x q p1 p2 p3:Str}{st:Stmt}{f:Addr}{fd:FuncData}(F:Fun K x q st f fd)(h:∀(kV doc pm:Value) (an:Option Addr) (cdv ct u1 u2 u3:Value),bindArgs (PySem.W.fnOf x q (kW st) (jC st) (jA st) .none kV doc pm an cdv ct) ⟨[u1,u2,u3],[]⟩=pure [(p1,u1),(p2,u2),(p3,u3)]:=by intros; rfl):Binds K fd [p1,p2,p3] []:=F.binds λkV doc pm an cdv ct us hl=>lenU3 (P:=λus=>bindArgs _ ⟨us,[]⟩=pure (List.zip _ us)) hl λu1 u2 u3=>h kV doc pm an cdv ct u1 u2 u3
set_option autoImplicit true
set_option relaxedAutoImplicit true
set_option maxHeartbeats 8000000 in
theorem all_mk {l:PySem.W.OpenLaw}{w:World}{K:W.Frag}{h:Heap}{mg:Str->Option Value}{fa f1 f2 f3 f4 f5 f6 f7 f8 f9 f10 f11 f12 f13 f14 f15 f16 f17 f18 f19 f20 f21 f22 f23:Addr}(X:K.In h)(G:h.Ns mainGlobals mg)(hfa:mg "law" =some (.ref fa))
  {u1:Tok}
  (a1:zN K "mask_of" =zr f1) (l1:K.lookup f1=zl "mask_of" sMask oc1 od1 kV1 dc1 pm1 an1 cd1 ct1 sl1) (c1:zc K cd1 "mask_of" =true) (k1:zk K f1=true)
  (a2:zN K "choices_of" =zr f2) (l2:K.lookup f2=zl "choices_of" kY oc2 od2 kV2 dc2 pm2 an2 cd2 ct2 sl2) (c2:zc K cd2 "choices_of" =true) (k2:zk K f2=true)
  (a3:zN K "full_mask" =zr f3) (l3:K.lookup f3=zl "full_mask" sFull oc3 od3 kV3 dc3 pm3 an3 cd3 ct3 sl3) (c3:zc K cd3 "full_mask" =true) (k3:zk K f3=true)
  (a4:zN K "choices_at" =zr f4) (l4:K.lookup f4=zl "choices_at" sAt oc4 od4 kV4 dc4 pm4 an4 cd4 ct4 sl4) (c4:zc K cd4 "choices_at" =true) (k4:zk K f4=true)
  (a5:zN K "masks_met" =zr f5) (l5:K.lookup f5=zl "masks_met" sMet oc5 od5 kV5 dc5 pm5 an5 cd5 ct5 sl5) (c5:zc K cd5 "masks_met" =true) (k5:zk K f5=true)
  (a6:zN K "gathered" =zr f6) (l6:K.lookup f6=zl "gathered" qJ oc6 od6 kV6 dc6 pm6 an6 cd6 ct6 sl6) (c6:zc K cd6 "gathered" =true) (k6:zk K f6=true)
  (a7:zN K "ways_of" =zr f7) (l7:K.lookup f7=zl "ways_of" qI oc7 od7 kV7 dc7 pm7 an7 cd7 ct7 sl7) (c7:zc K cd7 "ways_of" =true) (k7:zk K f7=true)
  (a8:zN K "many" =zr f8) (l8:K.lookup f8=zl "many" sMany oc8 od8 kV8 dc8 pm8 an8 cd8 ct8 sl8) (c8:zc K cd8 "many" =true) (k8:zk K f8=true)
  (a9:zN K "sizes_together" =zr f9) (l9:K.lookup f9=zl "sizes_together" sSzT oc9 od9 kV9 dc9 pm9 an9 cd9 ct9 sl9) (c9:zc K cd9 "sizes_together" =true) (k9:zk K f9=true)
  (a10:zN K "sizes" =zr f10) (l10:K.lookup f10=zl "sizes" jCO oc10 od10 kV10 dc10 pm10 an10 cd10 ct10 sl10) (c10:zc K cd10 "sizes" =true) (k10:zk K f10=true)
  (a11:zN K "weights" =zr f11) (l11:K.lookup f11=zl "weights" sWts oc11 od11 kV11 dc11 pm11 an11 cd11 ct11 sl11) (c11:zc K cd11 "weights" =true) (k11:zk K f11=true)
  (a12:zN K "_law_cell_at" =zr f12) (l12:K.lookup f12=zl "_law_cell_at" sCell oc12 od12 kV12 dc12 pm12 an12 cd12 ct12 sl12) (c12:zc K cd12 "_law_cell_at" =true) (k12:zk K f12=true)
  (a13:zN K "_law_pot" =zr f13) (l13:K.lookup f13=zl "_law_pot" sPot oc13 od13 kV13 dc13 pm13 an13 cd13 ct13 sl13) (c13:zc K cd13 "_law_pot" =true) (k13:zk K f13=true)
  (a14:zN K "_law_take" =zr f14) (l14:K.lookup f14=zl "_law_take" sTake oc14 od14 kV14 dc14 pm14 an14 cd14 ct14 sl14) (c14:zc K cd14 "_law_take" =true) (k14:zk K f14=true)
  (a15:zN K "_law_lot" =zr f15) (l15:K.lookup f15=zl "_law_lot" sLot oc15 od15 kV15 dc15 pm15 an15 cd15 ct15 sl15) (c15:zc K cd15 "_law_lot" =true) (k15:zk K f15=true)
  (a16:zN K "_law_box" =zr f16) (l16:K.lookup f16=zl "_law_box" sBox oc16 od16 kV16 dc16 pm16 an16 cd16 ct16 sl16) (c16:zc K cd16 "_law_box" =true) (k16:zk K f16=true)
  (a17:zN K "_law_whole" =zr f17) (l17:K.lookup f17=zl "_law_whole" jDI oc17 od17 kV17 dc17 pm17 an17 cd17 ct17 sl17) (c17:zc K cd17 "_law_whole" =true) (k17:zk K f17=true)
  (a18:zN K "_law_same" =zr f18) (l18:K.lookup f18=zl "_law_same" sSame oc18 od18 kV18 dc18 pm18 an18 cd18 ct18 sl18) (c18:zc K cd18 "_law_same" =true) (k18:zk K f18=true)
  (a19:zN K "_law_covers" =zr f19) (l19:K.lookup f19=zl "_law_covers" jAX oc19 od19 kV19 dc19 pm19 an19 cd19 ct19 sl19) (c19:zc K cd19 "_law_covers" =true) (k19:zk K f19=true)
  (a20:zN K "_law_rank" =zr f20) (l20:K.lookup f20=zl "_law_rank" jCP oc20 od20 kV20 dc20 pm20 an20 cd20 ct20 sl20) (c20:zc K cd20 "_law_rank" =true) (k20:zk K f20=true)
  (a21:zN K "_law_every" =zr f21) (l21:K.lookup f21=zl "_law_every" kQ oc21 od21 kV21 dc21 pm21 an21 cd21 ct21 sl21) (c21:zc K cd21 "_law_every" =true) (k21:zk K f21=true)
  (a22:zN K "_law_sum_up" =zr f22) (l22:K.lookup f22=zl "_law_sum_up" yK oc22 od22 kV22 dc22 pm22 an22 cd22 ct22 sl22) (c22:zc K cd22 "_law_sum_up" =true) (k22:zk K f22=true)
  (a23:zN K "law" =zr f23) (l23:K.lookup f23=zl "law" sLaw oc23 od23 kV23 dc23 pm23 an23 cd23 ct23 sl23) (c23:zc K cd23 "law" =true) (k23:zk K f23=true)
  (g1:zN K "MOST_WEIGHED" =some (some (.int 1000 u1))) (z1:zN K "len" =some none) (z2:zN K "range" =some none) (z3:zN K "tuple" =some none) (z4:zN K "sorted" =some none) (z5:zN K "set" =some none) (z6:zN K "list" =some none) (z7:zN K "int" =some none) (z8:zN K "isinstance" =some none) (z9:zN K "bool" =some none) (z10:zN K "str" =some none) (z11:zN K "all" =some none) (z12:zN K "zip" =some none) (z13:zN K "max" =some none) (z14:zN K "min" =some none) (z15:zN K "any" =some none) (z16:zN K "abs" =some none) (z17:zN K "sum" =some none) (z18:zN K "enumerate" =some none) (z19:zN K "dict" =some none) {tb1 cc1:Addr}(cde1:cd7= .ref cc1) (hcd1:codeHdIn K cc1 tb1=true) {tb2 cc2:Addr}(cde2:cd21= .ref cc2) (hcd2:codeHdIn K cc2 tb2=true) {tb3 cc3:Addr}(cde3:cd11= .ref cc3) (hcd3:codeHdIn K cc3 tb3=true) {bmA:Addr}(xb1:zN K "__builtins__" =zr bmA) (xb2:K.lookup bmA=some ⟨.type "module",some builtinsNs, .plain,#[]⟩) (xb3:bmA≠builtinsNs) (xb4:bmA≠mainGlobals):
  ∃fd:FuncData,(∀(s:Shared) (v:Value),BindsTo s fd ⟨[v],[]⟩ [("script",v)])/\∀base:Heap,K.In base->base.Ns mainGlobals mg->FnOk l.prog w K mg base CX0 8 fa fd ["script"] (spLaw K tb1 tb2 tb3):=by
 have e:=hfa.symm.trans (hG X G a23)
 cases e
 have T:Txt mg:=⟨bq X G z1,bq X G z2,bq X G z3,bq X G z4,bq X G z5,bq X G z6,bq X G z7,bq X G z8,bq X G z9,bq X G z10,bq X G z11,bq X G z12,bq X G z13,bq X G z14,bq X G z15,bq X G z16,bq X G z17,bq X G z18,bq X G z19⟩
 have F1:=kL (st:=sMask) l1 c1 k1
 have F2:=kL (st:=kY) l2 c2 k2
 have F3:=kL (st:=sFull) l3 c3 k3
 have F4:=kL (st:=sAt) l4 c4 k4
 have F5:=kL (st:=sMet) l5 c5 k5
 have F6:=kL (st:=qJ) l6 c6 k6
 have F7:=kL (st:=qI) l7 c7 k7
 have b7:Binds K _ ["choices"] []:=zb1 F7
 have F8:=kL (st:=sMany) l8 c8 k8
 have F9:=kL (st:=sSzT) l9 c9 k9
 have F10:=kL (st:=jCO) l10 c10 k10
 have F11:=kL (st:=sWts) l11 c11 k11
 have b11:Binds K _ ["box"] []:=zb1 F11
 have F12:=kL (st:=sCell) l12 c12 k12
 have F13:=kL (st:=sPot) l13 c13 k13
 have F14:=kL (st:=sTake) l14 c14 k14
 have F15:=kL (st:=sLot) l15 c15 k15
 have F16:=kL (st:=sBox) l16 c16 k16
 have F17:=kL (st:=jDI) l17 c17 k17
 have F18:=kL (st:=sSame) l18 c18 k18
 have F19:=kL (st:=jAX) l19 c19 k19
 have F20:=kL (st:=jCP) l20 c20 k20
 have F21:=kL (st:=kQ) l21 c21 k21
 have b21:Binds K _ ["box"] []:=zb1 F21
 have F22:=kL (st:=yK) l22 c22 k22
 have F23:=kL (st:=sLaw) l23 c23 k23
 refine⟨PySem.W.fnOf "law" "law" (kW sLaw) (jC sLaw) (jA sLaw) .none kV23 dc23 pm23 an23 cd23 ct23,λs v=> .of_eq rfl,λbase KB _=>?_⟩
 have M:=λ{x:Str}{f:Addr}(a:PySem.W.nsIn K mainGlobals x=some (some (.ref f)))=>hG X G a
 have M':=λ{x:Str}{v:Value}(a:PySem.W.nsIn K mainGlobals x=some (some v))=>hG X G a
 have CD1:PySem.W.CodeHd base cc1 tb1:=gf KB hcd1
 have FC1:FunC K "ways_of" "ways_of" qI f7 _ cc1:=⟨_,_,_,_,_,_,_,_,rfl,cde1 ▸ l7,cde1 ▸ c7⟩
 have CD2:PySem.W.CodeHd base cc2 tb2:=gf KB hcd2
 have FC2:FunC K "_law_every" "_law_every" kQ f21 _ cc2:=⟨_,_,_,_,_,_,_,_,rfl,cde2 ▸ l21,cde2 ▸ c21⟩
 have CD3:PySem.W.CodeHd base cc3 tb3:=gf KB hcd3
 have FC3:FunC K "weights" "weights" sWts f11 _ cc3:=⟨_,_,_,_,_,_,_,_,rfl,cde3 ▸ l11,cde3 ▸ c11⟩
 have BM:BltAt base mg:=⟨bmA,_,hG X G xb1,xb3,xb4,KB _ _ xb2,rfl,rfl,rfl⟩
 have C1:Can l.prog w K mg base "mask_of" 1 f1 _ ["lot"] jG0:=⟨jS4 F1 T,M a1,k1,(zb1 F1)⟩
 have C2:Can l.prog w K mg base "choices_of" 2 f2 _ ["box"] jA9:=⟨jJX F2 T C1,M a2,k2,(zb1 F2)⟩
 have C3:Can l.prog w K mg base "full_mask" 1 f3 _ ["choices"] jE7:=⟨jS6 F3 T,M a3,k3,(zb1 F3)⟩
 have C4:Can l.prog w K mg base "choices_at" 1 f4 _ ["choices","mask"] spAt:=⟨ok_at F4 T,M a4,k4,(zb2 F4)⟩
 have C5:Can l.prog w K mg base "masks_met" 2 f5 _ ["choices"] spMet:=⟨jUK F5 T C3 C4,M a5,k5,(zb1 F5)⟩
 have C6:Can l.prog w K mg base "gathered" 4 f6 _ ["choices","at_end","join"] jHM:=⟨FnOk.ex λx o=>(jHU F6 T C3 C5 C4 ((jUN o T).mono (by decide)) ZT.st (zhW.ok _ _) (RWay.ok _) o).ok,M a6,k6,(zb3 F6)⟩
 have C7:Can l.prog w K mg base "ways_of" 5 f7 _ ["choices"] (jIJ tb1):=⟨jS2 FC1 T CD1 BM C6,M a7,k7,b7⟩
 have C8:Can l.prog w K mg base "many" 6 f8 _ ["box"] (jIK tb1):=⟨jS5 F8 T C2 C7,M a8,k8,(zb1 F8)⟩
 have C9:Can l.prog w K mg base "sizes_together" 4 f9 _ ["behind"] (λ_ _ _ _=>False):=⟨FnOk.never,M a9,k9,(zb1 F9)⟩
 have C10:Can l.prog w K mg base "sizes" 5 f10 _ ["box"] jHL:=⟨jOO F10 T C2 ⟨FnOk.ex λx o=>(jHU F6 T C3 C5 C4 ((Callee.imp2 (Callee.of F9 (jUI (H00:=x.1) o F9 T) (zb1 F9)) (λ_ _=>trivial) (λ_ _ _ _ z q=>⟨z,q⟩)).mono (by decide)) ZT.st (FrH.ok _) (RSz.ok _ _) o).ok,M a6,k6,(zb3 F6)⟩ (M a9),M a10,k10,(zb1 F10)⟩
 have C11:Can l.prog w K mg base "weights" 7 f11 _ ["box"] (spWts (LL tb1 tb2 tb3) tb1 tb3):=⟨jUH FC3 T CD3 BM (M' g1) C2 C8 (λcl i=>jHU F6 T C3 C5 C4 ((jHT T cl i).mono (by decide)) (ZC.st _ _ _) (zhWt.ok cl i) (RWt.ok _ _) (yU i.g)) (M a6) k6 (zb3 F6),M a11,k11,b11⟩
 have C12:Can l.prog w K mg base "_law_cell_at" 1 f12 _ ["script","k"] (jLB K):=⟨jS7 F12 T,M a12,k12,(zb2 F12)⟩
 have C13:Can l.prog w K mg base "_law_pot" 1 f13 _ ["cell"] spPot:=⟨jUJ F13 T,M a13,k13,(zb1 F13)⟩
 have C14:Can l.prog w K mg base "_law_take" 1 f14 _ ["pot","wide"] yP:=⟨jS3 F14,M a14,k14,(zb2 F14)⟩
 have C15:Can l.prog w K mg base "_law_lot" 2 f15 _ ["pot","wide"] qH:=⟨jUL F15 T C14,M a15,k15,(zb2 F15)⟩
 have C16:Can l.prog w K mg base "_law_box" 3 f16 _ ["pot","most_things","most_pieces"] spBox:=⟨jUO F16 T C14 C15,M a16,k16,(zb3 F16)⟩
 have C17:Can l.prog w K mg base "_law_whole" 1 f17 _ ["found"] jDF:=⟨jOM F17 T,M a17,k17,(zb1 F17)⟩
 have C18:Can l.prog w K mg base "_law_same" 6 f18 _ ["found","due"] (jDG 4):=⟨jIY F18 T C17 (M a18) k18 (zb2 F18) 4,M a18,k18,(zb2 F18)⟩
 have C19:Can l.prog w K mg base "_law_covers" 1 f19 _ ["box","some"] jCZ:=⟨jLV F19 T,M a19,k19,(zb2 F19)⟩
 have C20:Can l.prog w K mg base "_law_rank" 1 f20 _ ["box","some"] jBH:=⟨jOP F20 T,M a20,k20,(zb2 F20)⟩
 have C21:Can l.prog w K mg base "_law_every" 5 f21 _ ["box"] (jES tb2):=⟨jOQ FC2 T CD2 BM C19 C20,M a21,k21,b21⟩
 have C22:Can l.prog w K mg base "_law_sum_up" 6 f22 _ ["box"] (jHK tb2):=⟨jON F22 T C21,M a22,k22,(zb1 F22)⟩
 exact jUM F23 ⟨T,C12,C13,C16,C22,C10,C11,C18⟩
theorem walk {l:PySem.W.OpenLaw}{q:Program}{loose:List Str}{XP:(Str->Option Value)->Heap->Prop}{YP:World->Heap->Prop}{d:DefRec}{K:Params->W.Frag}(hn:l.most=some 63)(hdf:d.params.defaults=[]){tb1 tb2 tb3:Addr}{cc1 cc2 cc3:Addr}
  (hY:∀(w:World) (h:Heap),YP w h->(K w.params).In h/\∀T∈[tb1,tb2,tb3],h.get? T=some (tabObj #[])) (hcd:∀w:World,codeHdIn (K w.params) cc1 tb1=true/\codeHdIn (K w.params) cc2 tb2=true/\codeHdIn (K w.params) cc3 tb3=true) (hKT:∀w:World,∀T∈[tb1,tb2,tb3],(K w.params).lookup T=none) (hnd:([tb1,tb2,tb3]:List Addr).Nodup)
  (F:∀(w:World) (mg:Str->Option Value) (fa:Addr) (h:Heap),(K w.params).In h->h.Ns mainGlobals mg->mg d.name=some (.ref fa)->
   ∃fd:FuncData,(∀(s:Shared) (u:Value),BindsTo s fd ⟨[u],[]⟩ [("script",u)])/\∀base:Heap,(K w.params).In base->base.Ns mainGlobals mg->FnOk l.prog w (K w.params) mg base CX0 8 fa fd ["script"] (spLaw (K w.params) tb1 tb2 tb3)):
  PySem.W.WalkO q loose XP YP l.row.toRowW d [] (λf vs=>PySem.call f vs):=
 L2.walk_ofTs (cts:=[(cc1,tb1),(cc2,tb2),(cc3,tb3)]) (n:=63) (k:=8) (x:= "script") (CX:=λ_=>CX0) (sp:=λw=>spLaw (K w.params) tb1 tb2 tb3) hn (by decide) hdf ⟨rfl,by decide,by decide⟩ hY (λw p hp=>by
  obtain⟨_h0,_h1,_h2⟩:=hcd w
  simp only [ar,bC,dG] at hp
  rcases hp with rfl | rfl | rfl <;> assumption) hKT F (λ_ H a ns hl hT hS=>⟨a,ns,rfl,hS,hl, .inl (hT _ ag), .inl (hT _ (ah _ ag)), .inl (hT _ (ah _ (ah _ ag))),(by rintro rfl; simp at hnd),(by rintro rfl; simp at hnd),(by rintro rfl; simp at hnd),λ_=>rfl⟩) λ_ _ _ _ _ z=>z
end Eo
open PySem PySem.W PyProof.Rows
set_option maxRecDepth 100000 in
set_option maxHeartbeats 0 in
theorem PySem.Challenge.cw_eachonce_k21_sizes_and_weights_told_holds : PySem.Challenge.rw_eachonce_k21_sizes_and_weights_told.Holds := by
 w_on
 refine holds_law (by decide+kernel) λsaid=>?_
 refine holds_open (q:=Eo.vw) (loose:=[]) (Xt:=λs=>xlAt Eo.vw [] s&&recOk (RowW.records (OpenRow.toRowW PySem.Challenge.rw_eachonce_k21_sizes_and_weights_told.row)) s) (XP:=XL Eo.vw []) (Yf:=Hook.obs Eo.kH) (Ya:=Hook.val Eo.kH) (YP:=Hook.says Eo.kH) (N:=2900) Eo.left (Hook.of Eo.kH) (Hook.keeps Eo.kH) (λs e=>xl_of s (im.mp e).1) XL.keeps (by rfl) (by rfl) (by rfl) (λs e=>recFacts_of (im.mp e).2) rfl said (by decide+kernel) ⟨rfl,rfl,rfl,rfl,rfl,by decide+kernel⟩ ?hw ?hc
 case hw=>w_witness2
 refine Eo.walk (l:=PySem.Challenge.rw_eachonce_k21_sizes_and_weights_told) (K:=Eo.kK) rfl rfl (tb1:=75) (cc1:=79) (tb2:=161) (cc2:=163) (tb3:=101) (cc3:=105) (λw h Y=>⟨PySem.W.km_in_of Y,PySem.W.km_tabs_of Y⟩) (λw=>⟨by kernel_rfl,by kernel_rfl,by kernel_rfl⟩) (λw T hm=>by
   simp only [ar,bC,dG] at hm
   rcases hm with rfl | rfl | rfl <;> kernel_rfl) (by decide) ?F
 case F=>
  intro w mg fa h KX G hmg
  k_fill
  refine' Eo.all_mk KX G hmg _ _ _ _ _ _ _ _ _ _ _ _ _ _ _ _ _ _ _ _ _ _ _ _ _ _ _ _ _ _ _ _ _ _ _ _ _ _ _ _ _ _ _ _ _ _ _ _ _ _ _ _ _ _ _ _ _ _ _ _ _ _ _ _ _ _ _ _ _ _ _ _ _ _ _ _ _ _ _ _ _ _ _ _ _ _ _ _ _ _ _ _ _ _ _ _ _ _ _ _ _ _ _ _ _ _ _ _ _ _ _ _ (tb1:=75) rfl (by kernel_rfl) (tb2:=161) rfl (by kernel_rfl) (tb3:=101) rfl (by kernel_rfl) (bmA:=4) (by kernel_rfl) (by kernel_rfl) (by decide) (by decide)
  all_goals ((try delta Eo.zN); (try delta Eo.zr); (try delta Eo.zl); (try delta Eo.zc); (try delta Eo.zk); try k_is)
end
