import PyProof.Rows.All
import KE.KDictList
import KE.KDictOf
import KE.KFromBytes
import KE.KIsAll
import KE.KLam
import KE.KNestM
import KE.KRevIter
import KE.KSortTup
import PySem.Challenge.RW_eachonce_k26_count_papers_looked_at
noncomputable section
set_option Elab.async false
set_option linter.all false
set_option maxRecDepth 100000
def aa:=@PySem.wpAny_bind
def ab:=@PySem.Heap.get?_push_of_some
def ae:=@PySem.wpAny_pure
def af:=@List.length_map
def ag:=@Bool.false_ne_true
def ah:=@List.getElem?_eq_some_iff
def ai:=@if_neg
def aj:=@Nat.le_refl
def ak:=@List.size_toArray
def am:=@if_pos
def ao:=@PySem.Heap.get?_push_size
def aq:=@PySem.Heap.lt_size
def ar:=@decide_eq_true
def au:=@List.mem_append_right
def aw:=@Array.length_toList
def ax:=@List.mem_cons_self
def ay:=@List.mem_cons_of_mem
def az:=@List.mem_of_getElem?
def aA:=@PyProof.Rows.wpS_bind
def aB:=@List.getD_eq_getElem?_getD
def aC:=@PyProof.Rows.wpS_pure
def aE:=@of_decide_eq_true
def aF:=@List.mem_cons
def aG:=@List.getElem?_eq_getElem
def aH:=@PySem.sizeLine_eq
def aI:=@decide_eq_false
def aJ:=@List.length_append
def aK:=@List.mem_append
def aM:=@Nat.lt_of_lt_of_le
def aN:=@List.mem_singleton
def aO:=@Nat.ne_of_lt
def aP:=@List.length_cons
def aQ:=@List.mem_append_left
def aR:=@List.map_append
def aS:=@Nat.zero_le
def aU:=@PyProof.Rows.slot_tuple_getitem
def aV:=@List.all_eq_true
def aW:=@List.getElem?_map
def aX:=@List.append_assoc
def aY:=@List.length_take
def aZ:=@PySem.W.mg_none_of
def be:=@List.mem_range
def bf:=@PySem.Heap.get?_update_other
def bg:=@List.map_cons
def bh:=@PySem.wpAny_callSpecial?_slot
def bj:=@PySem.wpAny_newObj_type
def bo:=@PySem.wpAny_call_entry
def bq:=@PySem.wpAny_setField_rec
def br:=@Array.toList_append
def bu:=@Int.toNat_natCast
def bv:=@PySem.wpAny_setState_of
def bw:=@List.getElem?_of_mem
def bx:=@List.getElem?_append_right
def bz:=@decide_eq_true_iff
def bA:=@List.not_mem_nil
def bB:=@List.take_append_drop
def bC:=@PySem.wpAny_field
def bD:=@PySem.wpAny_holding
def bE:=@Bool.and_eq_true
def bF:=@List.lookup_cons
def bG:=@Option.some.inj
def bH:=@Bool.eq_iff_iff
def bI:=@List.append_nil
def bJ:=@Classical.byContradiction
def bK:=@Nat.lt_succ_of_lt
def bL:=@List.take_of_length_le
def bM:=@Nat.le_trans
def bN:=@List.take_add_one
def bO:=@Array.getElem?_toList
def bP:=@List.length_filter_le
def bQ:=@congrArg
def bR:=@PySem.Heap.size_push
def bS:=@List.getElem?_append_left
def bU:=@List.mem_filter
def bV:=@Bool.and_false
def bW:=@List.mem_map
def bX:=@PyProof.Rows.wpS_forRange
def bY:=@PySem.Heap.get?_update_self
def bZ:=@PySem.codeAny_builtin
def b8:=@Array.perm_iff_toList_perm
def b9:=@List.length_range
def cc:=@List.mem_of_mem_drop
def ce:=@PySem.Around.under_plainId
def cg:=@List.mem_of_mem_take
def ci:=@List.filter_append
def cj:=@Bool.false_eq_true
def ck:=@PySem.PassesOwn.never
def cn:=@List.getElem?_take_of_lt
def cq:=@PySem.mem_of_lookup
def cr:=@List.getElem_of_mem
def cw:=@PySem.wpAny_mono
def cx:=@PySem.wpAny_rule
def cy:=@List.getElem?_eq_none
def cz:=@List.length_eq_zero_iff
def cA:=@List.pairwise_append
def cB:=@PySem.W.kia_one
def cC:=@PySem.wpAny_loadPart'
def cD:=@List.length_drop
def cE:=@PySem.Around.in1_units
def cF:=@List.take_length
def cG:=@Int.le_of_lt
def cH:=@List.pairwise_iff_getElem
def cI:=@List.filterMap_cons
def cJ:=@Nat.lt_irrefl
def cK:=@Nat.ne_of_gt
def cL:=@Nat.not_lt_zero
def cM:=@PySem.wpAny_askSetting
def cN:=@Nat.add_sub_cancel_left
def cO:=@PyProof.Rows.callWith_type1
def cP:=@PySem.wpAny_attempt
def cQ:=@Nat.le_of_lt
def cR:=@PySem.wpAny_truthy_bool
def cS:=@Bool.false_and
def cU:=@PySem.wpAny_pyIter_list
def cV:=@PySem.wpAny_seqItems
def cW:=@Int.le_trans
def cX:=@Nat.mod_two_eq_zero_or_one
def cY:=@List.mem_map_of_mem
def cZ:=@List.getLast?_eq_getElem?
def db:=@List.Perm.append_left
def de:=@List.getElem_mem
def df:=@List.any_eq_true
def dh:=@Ne.symm
def dq:=@PySem.wpAny_typeOf
def dr:=@Bool.not_true
def dv:=@or_false
def dw:=@PyProof.Rows.wpS_mono
def dy:=@Int.le_refl
def dz:=@Array.toList_reverse
def dB:=@Bool.and_eq_true_iff
def dE:=@List.nodup_cons
def dF:=@List.length_nil
def dG:=@beq_eq_false_iff_ne
def dH:=@List.map_map
def dI:=@Nat.le_add_right
def dJ:=@List.zip_cons_cons
def dM:=@Array.getElem?_eq_some_iff
def dN:=@List.perm_append_comm
def dO:=@List.extract_eq_take_drop
def dP:=@PySem.wpAny_passesOwn
def dQ:=@List.reverse_cons
def dS:=@Array.toList_push
def dU:=@Array.toArray_toList
def dW:=@Nat.eq_of_testBit_eq
def dX:=@Nat.pow_le_pow_right
def dY:=@Bool.eq_false_iff
def dZ:=@List.pairwise_map
def d0:=@PyProof.Rows.listUpdate_at
def ed:=@PySem.Heap.SameBut.update
def ef:=@List.length_take_le
def eg:=@List.Nodup.length_le_of_subset
def eh:=@PySem.F.plain_list_iadd
def ev:=@List.pairwise_singleton
def eB:=@PySem.F.plainAttrs_list
def eE:=@PySem.codeAny_mono
def eF:=@PySem.SeqAt.EqAt.int_int
def eG:=@List.pairwise_cons
def eJ:=@PyProof.Rows.wpS_modify
def eM:=@Nat.testBit_lt_two_pow
def eQ:=@List.of_mem_zip
def eS:=@if_false
def eU:=@List.find?_cons
def eV:=@List.range_succ
def eW:=@List.all_cons
def eX:=@PySem.plainId_quiet
def eY:=@PySem.wpAny_newList
def eZ:=@PySem.F.slot_set_iter
def fb:=@List.take_sublist
def fc:=@PySem.sizeLine_eq
def fe:=@PyProof.Rows.slicePart_none
def ff:=@Array.toList_extract
def fg:=@List.take_zero
def fh:=@Array.toList_setIfInBounds
def fi:=@List.exists_cons_of_ne_nil
def fj:=@PySem.wpAny_isInstance
def fm:=@Nat.testBit_zero
def fo:=@PySem.Calls.call_function_entry
def fq:=@Array.getElem?_eq_getElem
def fw:=@List.getLastD_eq_getLast?
def fz:=@PyProof.Rows.entry_tuple_getitem
def fB:=@List.length_reverse
def fE:=@List.reverse_append
def fH:=@PySem.Paired.length
def fJ:=@Option.isSome_iff_exists
def fO:=@PySem.F.args_tuple_add_2
def fQ:=@PySem.F.slot_list_append
def fV:=@PySem.F.type_list_append
def fY:=@PyProof.Rows.get?_update_seq
def fZ:=@Option.map_some
def ga:=@PySem.wpAny_load
def gb:=@Int.natCast_nonneg
def gc:=@PySem.wpAny_Call_Name_kw
def gd:=@PyProof.Rows.args_tuple_getitem
def ge:=@PySem.Heap.IsSliceOf.new
def gf:=@PySem.tupleKind_room_in1
def gh:=@List.getElem?_drop
def gj:=@of_decide_eq_false
def gl:=@PySem.F.entry_tuple_add
def gm:=@decide_eq_false_iff_not
def gn:=@List.filter_cons_of_pos
def gq:=@PySem.F.slot_tuple_add
def gu:=@if_true
def gw:=@PySem.wpAny_sequenceKey
def gx:=@Nat.lt_trans
def gy:=@PySem.wpAny_storeSet_of
def gz:=@PySem.wpAny_runValue
def gA:=@PyProof.Rows.listItems_at
def gB:=@Nat.testBit_or
def gC:=@Option.isSome_map
def gE:=@Nat.add_zero
def gF:=@List.Perm.append_right
def gG:=@List.mapM_toArray
def gH:=@List.pairwise_lt_range
def gI:=@List.length_replicate
def gJ:=@PySem.F.slot_tuple_lt
def gL:=@List.length_singleton
def gM:=@PySem.builtinLookup_eq_fast
def gN:=@List.filterMap_append
def gO:=@PySem.wpAny_forIn_list
def gP:=@Nat.lt_succ_self
def gQ:=@List.countP_cons
def gR:=@List.filter_cons
def gS:=@Nat.zero_testBit
def gU:=@List.any_cons
def gW:=@PySem.W.mg_of
def gX:=@PyProof.Rows.wpS_get
def gY:=@Bool.true_and
def gZ:=@Array.mem_toList_iff
def g0:=@Nat.le_succ
def g4:=@PySem.wpAny_updateSeq_pair
def g5:=@List.eq_nil_of_length_eq_zero
def g7:=@Array.getElem_toList
def g8:=@PySem.wpAny_execs_nil
def g9:=@List.forIn_cons
def hG:=@PySem.wpAny_updateSeq
def hV:=@PyProof.Rows.entry_list_sort
def hW:=@Nat.testBit_and
def h9:=@Nat.two_pow_pos
def ic:=@Nat.testBit_two_pow
def ie:=@List.length_pos_iff
def ig:=@List.getElem?_range
def ij:=@PySem.F.entry_proto_collect
def ik:=@PySem.F.plain_proto_collect
def im:=@List.all_map
def io:=@Nat.testBit_two_pow_sub_one
def iq:=@PySem.Calls.Name_function_global
def ir:=@Int.fdiv_eq_ediv_of_nonneg
def iu:=@PySem.Code.quiet_builtin
def iw:=@PySem.Walks.list
def ix:=@PySem.isSubtype_stop
def iy:=@PyProof.Rows.slot_list_sort
def iA:=@PyProof.Rows.size_push'
def iB:=@PySem.wpAny_newTuple
def iC:=@List.drop_drop
def iE:=@PyProof.Rows.wpS_lift
def iF:=@Int.emod_lt_of_pos
def iG:=@Array.forIn_toList
def iH:=@PySem.F.plain_extend_loop
def iI:=@PySem.Value.isInt_shape
def iJ:=@List.drop_sublist
def iK:=@Option.some.injEq
def iM:=@PySem.Heap.SameBut.refl
def iN:=@PySem.wpAny_pyIter_slot
def iP:=@List.ext_getElem?
def iQ:=@PySem.wpAny_letGo
def iR:=@List.nodup_append
def iS:=@Bool.not_eq_true'
def iT:=@PyProof.Rows.seqEpoch_at
def iU:=@bne_self_eq_false
def iV:=@decide_eq_true_eq
def iW:=@PySem.wpAny_standAt
def iX:=@PyProof.Rows.tupleItemsOf_
def iY:=@PySem.evalPart_none
def iZ:=@PySem.wpAny_onRaise
def i4:=@Bool.and_true
def i5:=@List.getElem?_replicate
def i6:=@PySem.F.args_tuple_lt_2
def i7:=@PySem.noFill_tuple_add
def i8:=@List.cons_append
def i9:=@PySem.putSet_of
def ja:=@PySem.F.entry_list_iadd
def jc:=@List.zipIdx_cons
def jd:=@PySem.Heap.size_update
def jf:=@List.filter_cons_of_neg
def jg:=@List.getElem?_set_self
def jh:=@PySem.W.cellsFrom_some
def jk:=@PySem.F.entry_tuple_lt
def jm:=@List.map_nil
def jn:=@PyProof.Rows.Subscript_
def jo:=@Nat.add_comm
def jp:=@List.drop_eq_nil_of_le
def jq:=@beq_iff_eq
def jr:=@Nat.zero_add
def js:=@List.find?_cons_of_pos
def jt:=@List.find?_cons_of_neg
def ju:=@PySem.codeAny_of_tree
def jw:=@PySem.typeLookup_type
def jx:=@PySem.wpAny_specialOf
def jy:=@List.Perm.of_eq
def jz:=@Array.Perm.refl
def ka:=@Int.emod_nonneg
def kc:=@Bool.or_eq_true
def ke:=@List.filter_nil
def kf:=@List.set_append_right
def kg:=@List.getElem?_set_ne
def kh:=@PySem.wpAny_of_eq
def ki:=@List.nodup_nil
def kj:=@PySem.isSubtype_type
def km:=@List.forIn_nil
def ko:=@Nat.pow_lt_pow_right
def kq:=@List.drop_zero
def ku:=@List.reverse_reverse
def kx:=@Array.size_map
def kz:=@PySem.W.codeHd_of_K
def lg:=@List.map_take
def lh:=@Array.append_assoc
def lj:=@List.mem_filterMap
def lu:=@PySem.wpAny_call
def lv:=@Nat.lt_of_le_of_lt
def lw:=@Nat.mod_lt
def lx:=@not_or
def ly:=@List.filterMap_nil
def lA:=@List.filter_filter
def lB:=@getElem?_pos
def lC:=@Nat.sub_self
def lE:=@Sum.inl.inj
open PySem.W (codeHdIn envX findIn instObj keepIn kitOne kitx_dict kitx_list kla_obj lookIn methodObj mg_of mroIn plainGet tabObj)
open List (any_map)
open Nat (strongRecOn)
open Option (getD_none)
namespace L2
open PySem PySem.Spec PyProof.Rows
def q0 (s:Stmt):Arguments:=match s with
 | .FunctionDef _ a _ _ _ _ _ _ _ _=>a
 | _=> { posonlyargs:=[],args:=[],vararg:=none,kwonlyargs:=[],kw_defaults:=[],kwarg:=none,defaults:=[]}
def jE (s:Stmt):List Stmt:=match s with
 | .FunctionDef _ _ b _ _ _ _ _ _ _=>b
 | _=> []
def jB (s:Stmt):Scope:=match s with
 | .FunctionDef _ _ _ _ _ _ sc _ _ _=>sc
 | _=> { kind:= .function,names:=[],isGenerator:=false,isCoroutine:=false}
end L2
namespace Eo
open PySem L2
noncomputable def top (i:Nat):Stmt:=PySem.Challenge.pw_eachonce_k26_count_papers_looked_at.main.body.getD i (.Pass ⟨0,0,0,0⟩)
abbrev jBQ:Stmt:=top 1
abbrev jAN:Stmt:=top 2
abbrev jD2:Stmt:=top 3
abbrev sMask:Stmt:=top 4
abbrev yL:Stmt:=top 6
abbrev sFull:Stmt:=top 7
abbrev sAt:Stmt:=top 8
abbrev jD1:Stmt:=top 10
abbrev sRNum:Stmt:=top 11
abbrev yK:Stmt:=top 12
abbrev sCell:Stmt:=top 14
abbrev sPot:Stmt:=top 15
abbrev sTake:Stmt:=top 16
abbrev sLot:Stmt:=top 17
abbrev sBox:Stmt:=top 18
abbrev jDR:Stmt:=top 19
abbrev sSame:Stmt:=top 20
abbrev yP:Stmt:=top 21
abbrev sUpto:Stmt:=top 22
abbrev sLotR:Stmt:=top 23
abbrev qV:Stmt:=top 24
abbrev yW:Stmt:=top 25
abbrev qR:Stmt:=top 26
abbrev sLaw:Stmt:=top 27
noncomputable def kC (x:Str)(t:Nat)(l n:Int)(a:Nat)(X Y:Value)(z:Nat)(u:Int)(v:Nat):Obj:=⟨.type "code",none, .fields #[.str x t, .str x (t+1), .str "/claim/cut.py" (t+2), .int l 0, .int n 0, .int 0 0, .int 0 0, .int 3 0, .ref a, .bool true, .int 181 0, .ref (a+1), .none,X,Y, .ref z, .int u 0, .int l 0, .str "/claim/cut.py" v],#[]⟩
noncomputable def kF (x:Str)(s:Stmt)(m:Str)(t c:Nat):Obj:=⟨.type "function",none, .func (PySem.W.fnOf x x (q0 s) (jE s) (jB s) .none .none .none (.str m t) none (.ref c) .none),#[]⟩
noncomputable def kM (P:Params):Obj:=
 let e (x:Str) (t:Nat) (v:Value):DictEntry:=⟨PyData.keyHash P x, .str x t,v⟩
 ⟨.type "dict",none, .dict #[e "__name__" 165 (.str "law_eachonce_k26_count_papers_looked_at" 265),e "__doc__" 166 (.none),e "__package__" 167 (.none),e "__loader__" 168 (.builtin "__main__.__loader__#opaque"),e "__spec__" 169 (.none),e "__annotations__" 170 (.ref 6),e "__builtins__" 171 (.ref 4),e "__file__" 173 (.str "/claim/cut.py" 172),e "__cached__" 174 (.none),e "is_whole" 195 (.ref 21),e "is_rising" 201 (.ref 26),e "is_lot" 209 (.ref 33),e "mask_of" 215 (.ref 38),e "choices_of" 223 (.ref 43),e "full_mask" 230 (.ref 50),e "choices_at" 236 (.ref 55),e "is_row" 246 (.ref 62),e "right_number" 258 (.ref 69),e "counted" 264 (.ref 74),e "_law_cell_at" 274 (.ref 81),e "_law_pot" 284 (.ref 88),e "_law_take" 293 (.ref 95),e "_law_lot" 299 (.ref 100),e "_law_box" 305 (.ref 105),e "_law_whole" 312 (.ref 112),e "_law_same" 318 (.ref 117),e "_law_cases" 324 (.ref 122),e "_law_upto" 333 (.ref 129),e "_law_lot_right" 339 (.ref 134),e "_law_counted_due" 345 (.ref 139),e "_law_rows" 351 (.ref 144),e "_law_bent" 368 (.ref 151),e "law" 381 (.ref 158)] 33,#[]⟩
noncomputable def kK (P:Params):W.Frag:=(nat_lit 3,kM P)::(nat_lit 4,⟨.type "module",some 0, .plain,#[]⟩)::(nat_lit 20,kC "is_whole" 189 2 1 15 (.ref 17) (.ref 18) 19 193 194)::(nat_lit 21,kF "is_whole" jBQ "eachonce.kinds" 187 20)::(nat_lit 25,kC "is_rising" 196 4 1 22 (.none) (.none) 24 199 200)::(nat_lit 26,kF "is_rising" jAN "eachonce.kinds" 187 25)::(nat_lit 32,kC "is_lot" 202 10 2 27 (.ref 29) (.ref 30) 31 207 208)::(nat_lit 33,kF "is_lot" jD2 "eachonce.kinds" 187 32)::(nat_lit 37,kC "mask_of" 210 14 1 34 (.none) (.none) 36 213 214)::(nat_lit 38,kF "mask_of" sMask "eachonce.kinds" 187 37)::(nat_lit 42,kC "choices_of" 218 17 1 39 (.none) (.none) 41 221 222)::(nat_lit 43,kF "choices_of" yL "eachonce.coverings" 216 42)::(nat_lit 49,kC "full_mask" 224 22 1 44 (.ref 46) (.ref 47) 48 228 229)::(nat_lit 50,kF "full_mask" sFull "eachonce.coverings" 216 49)::(nat_lit 54,kC "choices_at" 231 24 2 51 (.none) (.none) 53 234 235)::(nat_lit 55,kF "choices_at" sAt "eachonce.coverings" 216 54)::(nat_lit 61,kC "is_row" 239 28 2 56 (.ref 58) (.ref 59) 60 244 245)::(nat_lit 62,kF "is_row" jD1 "eachonce.countpapers" 237 61)::(nat_lit 68,kC "right_number" 247 32 3 63 (.ref 65) (.ref 66) 67 256 257)::(nat_lit 69,kF "right_number" sRNum "eachonce.countpapers" 237 68)::(nat_lit 73,kC "counted" 259 41 2 70 (.none) (.none) 72 262 263)::(nat_lit 74,kF "counted" yK "eachonce.countpapers" 237 73)::(nat_lit 80,kC "_law_cell_at" 267 53 2 75 (.ref 77) (.ref 78) 79 272 273)::(nat_lit 81,kF "_law_cell_at" sCell "law_eachonce_k26_count_papers_looked_at" 265 80)::(nat_lit 87,kC "_law_pot" 275 57 1 82 (.ref 84) (.ref 85) 86 282 283)::(nat_lit 88,kF "_law_pot" sPot "law_eachonce_k26_count_papers_looked_at" 265 87)::(nat_lit 94,kC "_law_take" 285 66 2 89 (.ref 91) (.ref 92) 93 291 292)::(nat_lit 95,kF "_law_take" sTake "law_eachonce_k26_count_papers_looked_at" 265 94)::(nat_lit 99,kC "_law_lot" 294 70 2 96 (.none) (.none) 98 297 298)::(nat_lit 100,kF "_law_lot" sLot "law_eachonce_k26_count_papers_looked_at" 265 99)::(nat_lit 104,kC "_law_box" 300 79 3 101 (.none) (.none) 103 303 304)::(nat_lit 105,kF "_law_box" sBox "law_eachonce_k26_count_papers_looked_at" 265 104)::(nat_lit 111,kC "_law_whole" 306 97 1 106 (.ref 108) (.ref 109) 110 310 311)::(nat_lit 112,kF "_law_whole" jDR "law_eachonce_k26_count_papers_looked_at" 265 111)::(nat_lit 116,kC "_law_same" 313 99 2 113 (.none) (.none) 115 316 317)::(nat_lit 117,kF "_law_same" sSame "law_eachonce_k26_count_papers_looked_at" 265 116)::(nat_lit 121,kC "_law_cases" 319 111 2 118 (.none) (.none) 120 322 323)::(nat_lit 122,kF "_law_cases" yP "law_eachonce_k26_count_papers_looked_at" 265 121)::(nat_lit 128,kC "_law_upto" 325 120 3 123 (.ref 125) (.ref 126) 127 331 332)::(nat_lit 129,kF "_law_upto" sUpto "law_eachonce_k26_count_papers_looked_at" 265 128)::(nat_lit 133,kC "_law_lot_right" 334 122 2 130 (.none) (.none) 132 337 338)::(nat_lit 134,kF "_law_lot_right" sLotR "law_eachonce_k26_count_papers_looked_at" 265 133)::(nat_lit 138,kC "_law_counted_due" 340 126 2 135 (.none) (.none) 137 343 344)::(nat_lit 139,kF "_law_counted_due" qV "law_eachonce_k26_count_papers_looked_at" 265 138)::(nat_lit 143,kC "_law_rows" 346 145 2 140 (.none) (.none) 142 349 350)::(nat_lit 144,kF "_law_rows" yW "law_eachonce_k26_count_papers_looked_at" 265 143)::(nat_lit 150,kC "_law_bent" 352 162 3 145 (.ref 147) (.ref 148) 149 366 367)::(nat_lit 151,kF "_law_bent" qR "law_eachonce_k26_count_papers_looked_at" 265 150)::(nat_lit 157,kC "law" 369 188 1 152 (.ref 154) (.ref 155) 156 379 380)::(nat_lit 158,kF "law" sLaw "law_eachonce_k26_count_papers_looked_at" 265 157)::[]
noncomputable def kA:List Addr:=[3,4,20,21,25,26,32,33,37,38,42,43,49,50,54,55,61,62,68,69,73,74,80,81,87,88,94,95,99,100,104,105,111,112,116,117,121,122,128,129,133,134,138,139,143,144,150,151,157,158]
noncomputable def vw:Program:= { PySem.Challenge.pw_eachonce_k26_count_papers_looked_at with main:= { PySem.Challenge.pw_eachonce_k26_count_papers_looked_at.main with body:=[top 1,top 2,top 3,top 4,top 6,top 7,top 8,top 10,top 11,top 12,top 14,top 15,top 16,top 17,top 18,top 19,top 20,top 21,top 22,top 23,top 24,top 25,top 26,top 27]}}
theorem kA_eq:∀P,kA=(kK P).map (·.1):=λ_=>by kernel_rfl
noncomputable abbrev kH:PySem.W.Hook:=PySem.W.kmHook kK kA kA_eq [141]
set_option maxHeartbeats 0 in
theorem left:PySem.W.LeftO PySem.Challenge.rw_eachonce_k26_count_papers_looked_at.prog vw [] (λs=>PySem.W.xlAt vw [] s&&PySem.W.recOk (PySem.W.RowW.records (PySem.W.OpenRow.toRowW PySem.Challenge.rw_eachonce_k26_count_papers_looked_at.row)) s) (PySem.W.Hook.obs kH) (PySem.W.Hook.val kH) 3100:=λw=>by kernel_rfl
end Eo
section
namespace L2
open PySem PySem.Spec PyProof.Rows
abbrev Key:=Sum Int Str
def keyIs:Key->Value->Bool
 | .inl k,v=>Value.isInt k v
 | .inr x,v=>Value.isStrOf x v
def keyH (w:World):Key->Int
 | .inl k=>hashInt k
 | .inr x=>hashStr w x
theorem jA3:∀{k:Key}{v:Value},keyIs k v=true->(∃i t,k=Sum.inl i/\v=Value.int i t)\/(∃x t,k=Sum.inr x/\v=Value.str x t)
 | .inl i,v,h=>by
  obtain⟨t,e⟩:=iI (k:=i) (v:=v) h
  exact .inl ⟨i,t,rfl,e⟩
 | .inr x,v,h=>by
  obtain⟨t,e⟩:=Value.isStrOf_shape (x:=x) (v:=v) h
  exact .inr ⟨x,t,rfl,e⟩
theorem jLS (i:Int)(t:Tok):keyIs (.inl i) (.int i t)=true:=by simp [keyIs,Value.isInt]
theorem jLR (x:Str)(t:Tok):keyIs (.inr x) (.str x t)=true:=by simp [keyIs,Value.isStrOf]
theorem jTO (a b:Int):decide ((Sum.inl a:Key)=Sum.inl b)=(a==b):=by
 by_cases e:a=b
 ·subst e; simp
 ·have h:¬(Sum.inl a:Key)=Sum.inl b:=λq=>e (lE q)
  rw[aI h]
  exact(dG.mpr e).symm
theorem jTL (a b:Str):decide ((Sum.inr a:Key)=Sum.inr b)=decide (a=b):=by
 by_cases e:a=b
 ·subst e; simp
 ·have h:¬(Sum.inr a:Key)=Sum.inr b:=λq=>e (Sum.inr.inj q)
  rw[aI h,aI e]
theorem jTN (a:Int)(b:Str):decide ((Sum.inl a:Key)=Sum.inr b)=false:=aI (λq=>nomatch q)
theorem jTM (a:Str)(b:Int):decide ((Sum.inr a:Key)=Sum.inl b)=false:=aI (λq=>nomatch q)
def yU (prog:Program)(w:World):PySem.KeyKind prog w Key where
 is:=keyIs
 hash:=keyH w
 inj:=λv a b ha hb=>by
  rcases jA3 ha with ⟨i,t,rfl,rfl⟩ | ⟨x,t,rfl,rfl⟩
  ·rcases jA3 hb with ⟨j,u,rfl,e⟩ | ⟨y,u,rfl,e⟩
   ·injection e with e1 _; rw[e1]
   ·exact nomatch e
  ·rcases jA3 hb with ⟨j,u,rfl,e⟩ | ⟨y,u,rfl,e⟩
   ·exact nomatch e
   ·injection e with e1 _; rw[e1]
 byValue:=λk v h=>by
  rcases jA3 h with ⟨i,t,rfl,rfl⟩ | ⟨x,t,rfl,rfl⟩ <;> rfl
 pyHash:=λhv h=>by
  rcases jA3 hv with ⟨i,t,rfl,rfl⟩ | ⟨x,t,rfl,rfl⟩
  ·exact wpAny_pyHash_int h
  ·exact wpAny_pyHash_str h
 eqBool:=λhu hv h=>by
  rcases jA3 hu with ⟨i,t,rfl,rfl⟩ | ⟨x,t,rfl,rfl⟩
  ·rcases jA3 hv with ⟨j,u,rfl,rfl⟩ | ⟨y,u,rfl,rfl⟩
   ·rw[jTO] at h; exact wpAny_eqBool_int h
   ·rw[jTN] at h; exact SeqAt.EqAt.int_str i t y u _ _ _ _ h
  ·rcases jA3 hv with ⟨j,u,rfl,rfl⟩ | ⟨y,u,rfl,rfl⟩
   ·rw[jTM] at h; exact SeqAt.EqAt.str_int x t j u _ _ _ _ h
   ·rw[jTL] at h; exact wpAny_eqBool_str h
 «strs»:=λk x t v h=>by
  rcases jA3 h with ⟨i,u,rfl,e⟩ | ⟨y,u,rfl,e⟩
  ·exact nomatch e
  ·injection e with e1 _
   subst e1
   cases v <;> rfl
theorem jHJ (prog:Program)(w:World)(i:Int)(t:Tok):(yU prog w).is (.inl i) (.int i t)=true:=jLS i t
theorem jHI (prog:Program)(w:World)(x:Str)(t:Tok):(yU prog w).is (.inr x) (.str x t)=true:=jLR x t
inductive V where
 | non | bl (b:Bool) | int (i:Int) | str (x:Str) | byt (b:Array UInt8) | flt (b:UInt64) | ref (a:Addr) | ty (n:String)
 deriving DecidableEq
def RelV:V->Value->Prop
 | .non,u=>u=Value.none
 | .bl b,u=>u=Value.bool b
 | .int i,u=>∃t,u=Value.int i t
 | .str x,u=>∃t,u=Value.str x t
 | .byt b,u=>∃t,u=Value.bytes b t
 | .flt b,u=>∃t,u=Value.float b t
 | .ref a,u=>u=Value.ref a
 | .ty n,u=>u=Value.type n
abbrev Vals:List V->List Value->Prop:=Paired RelV
theorem Vals.length {xs:List V}{us:List Value}(r:Vals xs us):xs.length=us.length:=fH r
theorem Vals.get:∀{xs:List V}{us:List Value}{i:Nat}{x:V},Vals xs us->xs[i]?=some x->∃u,us[i]?=some u/\RelV x u
 | _,_,_,_, .nil,e=>by simp at e
 | _,_,0,_, .cons r _,e=>by simp at e; subst e; exact⟨_,rfl,r⟩
 | _,_,i+1,x, .cons _ t,e=>by
  obtain⟨u,h1,h2⟩:=Vals.get (i:=i) (x:=x) t (by simpa using e)
  exact⟨u,by simpa using h1,h2⟩
theorem Vals.set {x:V}{u:Value}(r:RelV x u):∀{xs:List V}{us:List Value}(i:Nat),Vals xs us->Vals (xs.set i x) (us.set i u)
 | _,_,_, .nil=> .nil
 | _,_,0, .cons _ t=> .cons r t
 | _,_,i+1, .cons q t=> .cons q (Vals.set r i t)
theorem Vals.append:∀{xs ys:List V}{us ws:List Value},Vals xs us->Vals ys ws->Vals (xs++ys) (us++ws)
 | _,_,_,_, .nil,s=>s
 | _,_,_,_, .cons r t,s=> .cons r (Vals.append t s)
theorem Vals.take:∀{xs:List V}{us:List Value}(n:Nat),Vals xs us->Vals (xs.take n) (us.take n)
 | _,_,0,_=> .nil
 | _,_,_+1, .nil=> .nil
 | _,_,n+1, .cons r t=> .cons r (Vals.take n t)
theorem Vals.drop:∀{xs:List V}{us:List Value}(n:Nat),Vals xs us->Vals (xs.drop n) (us.drop n)
 | _,_,0,r=>r
 | _,_,_+1, .nil=> .nil
 | _,_,n+1, .cons _ t=>Vals.drop n t
def RelO:Option V->Option Value->Prop
 | some v,some u=>RelV v u
 | none,none=>True
 | _,_=>False
def KV {κ:Type} :List (κ×V)->List (κ×Value)->Prop:=Paired λ(p:κ×V) (q:κ×Value)=>p.1=q.1/\RelV p.2 q.2
noncomputable def kV:Key->V
 | .inl i=> .int i
 | .inr x=> .str x
def TupO (h:Heap)(a:Addr)(items:Array Value):Prop:=∃n,h.get? a=some { cls:= .type "tuple",data:= .seq items n}
theorem TupO.isTup {h:Heap}{a:Addr}{items:Array Value}(x:TupO h a items):IsTup h a items:=let ⟨n,e⟩:=x; ⟨_,e,rfl,n,rfl⟩
theorem TupO.new (h:Heap)(items:Array Value):TupO (h.push { cls:= .type "tuple",data:= .seq items}) h.objs.size items:=⟨0,ao _ rfl⟩
inductive HO where
  | lst (xs:List V)
  | tup (xs:List V)
  | dK (lI:List (Key×V)) | dT (lI:List (List Key×V))
  | set (S:Int->Bool) (n:Nat)
  | ins (C dx:Addr) (fs:List (Str×V))
  | own (x:Addr)
  | xd (fs:List (Str×V))
  | met (f x:Addr)
  | rng (lo hi:Int)
  | frz (o:Obj) (u:HO)
  | tbl (ps:Array Value)
  | ext (φ:Heap->Prop)
abbrev Hp:=Addr->Option HO
def upd (H:Hp)(a:Addr)(o:HO):Hp:=λb=>if b=a then some o else H b
theorem j6 {H:Hp}{a:Addr}{o:HO} :upd H a o a=some o:=by unfold upd; rw[am rfl]
theorem j7 {H:Hp}{a b:Addr}{o:HO}(h:b≠a):upd H a o b=H b:=by unfold upd; rw[ai h]
theorem ne_of {H:Hp}{a b:Addr}{o u:HO}(h:H a=some o)(h':H b=some u)(d:o≠u):a≠b:=by
 intro e; subst e; rw[h] at h'; exact d (bG h')
theorem jA {H:Hp}{a b:Addr}{o:HO}(h:H a=some o)(h':H b=none):a≠b:=by
 intro e; subst e; rw[h] at h'; cases h'
section
variable (P:Program)(w:World)
def ObjOk (H:Hp)(h:Heap)(a:Addr):HO->Prop
 | .lst xs=>xs.length<=sizeLine/\∃(its:List Value) (n:Nat),Vals xs its/\h.get? a=some { cls:= .type "list",data:= .seq its.toArray n}
 | .tup xs=>xs.length<=sizeLine/\∃its:List Value,Vals xs its/\TupO h a its.toArray
 | .dK lI=>lI.length<=sizeLine/\(a==sysModules)=false/\∃vs,KV lI vs/\h.DictOf (yU P w) a vs
 | .dT lI=>lI.length<=sizeLine/\(a==sysModules)=false/\∃xs:List (List Key×Addr×Value),
   Paired (λ(p:List Key×V) (q:List Key×Addr×Value)=>p.1=q.1/\H q.2.1=some (.tup (p.1.map kV))/\RelV p.2 q.2.2) lI xs/\
   ∃o es ep,h.get? a=some o/\o.ExactDict/\o.data= .dict es ep/\es.toList=xs.map (entryOfKey (tupleKind (yU P w)))/\(xs.map (·.1)).Nodup
 | .set S n=>h.SetOf (intKind P w) a S n
 | .ins C dx fs=>H dx=some (.own a)/\fs.length<=1000/\dx≠a/\h.get? a=some (instObj C dx)/\
   ∃mA,h.Ns1 dx mA/\(∀f,RelO (fs.lookup f) (mA f))/\PySem.Within mA (fs.map (·.1))
 | .own _=>∃o,h.get? a=some o
 | .xd fs=>∃mA,h.Ns1 a mA/\∀f,RelO (fs.lookup f) (mA f)
 | .rng lo hi=>∃t u v,h.get? a=some { cls:= .type "range",data:= .fields #[.int lo t, .int hi u, .int 1 v]}
 | .frz o u=>h.get? a=some o/\ObjOk H h a u
 | .tbl ps=>h.get? a=some { cls:= .none,data:= .fields ps}
 | .met f x=>h.get? a=some (methodObj (.ref f) (.ref x))
 | .ext φ=>φ h/\(∃o,h.get? a=some o)/\∀h1 h2:Heap,φ h1->(∀o,h1.get? a=some o->h2.get? a=some o)->φ h2
def HOk (H:Hp)(h:Heap):Prop:=∀a o,H a=some o->ObjOk P w H h a o
end
variable {P:Program}{w:World}{H H':Hp}{h h':Heap}{a:Addr}
section
variable {o:HO}
theorem ObjOk.lt (x:ObjOk P w H h a o):a<h.objs.size:=by
 cases o with
 | lst xs=>obtain⟨_,_,_,_,e⟩:=x; exact aq e
 | tup xs=>obtain⟨_,_,_,_,e⟩:=x; exact aq e
 | dK lI=>obtain⟨_,_,_,_,o,_,_,e,_⟩:=x; exact aq e
 | dT lI=>obtain⟨_,_,_,_,o,_,_,e,_⟩:=x; exact aq e
 | set S n=>obtain⟨o,_,_,_,e,_⟩:=x; exact aq e
 | ins C dx fs=>obtain⟨_,_,_,e,_⟩:=x; exact aq e
 | own y=>obtain⟨_,e⟩:=x; exact aq e
 | xd fs=>obtain⟨_,⟨_,_,_,e,_⟩,_⟩:=x; exact aq e
 | rng lo hi=>obtain⟨_,_,_,e⟩:=x; exact aq e
 | frz ob u=>obtain⟨e,_⟩:=x; exact aq e
 | tbl ps=>exact aq (show h.get? a=some _ from x)
 | met f y=>exact aq (show h.get? a=some _ from x)
 | ext φ=>obtain⟨_,⟨_,e⟩,_⟩:=x; exact aq e
theorem Paired.mapP {α β:Type}{F G:α->β->Prop} :∀{l₁:List α}{l₂:List β},Paired F l₁ l₂->(∀a b,F a b->G a b)->Paired G l₁ l₂
 | _,_, .nil,_=> .nil
 | _,_, .cons r t,f=> .cons (f _ _ r) (Paired.mapP t f)
theorem ObjOk.stay (x:ObjOk P w H h a o)(k:∀b u,(b=a\/H b=some (.own a))->h.get? b=some u->h'.get? b=some u)
  (ho:∀b,H b=some (.own a)->H' b=some (.own a)) (ht:∀b xs,H b=some (.tup xs)->H' b=some (.tup xs)):ObjOk P w H' h' a o:=by
 induction o with
 | lst xs=>obtain⟨z,its,n,r,e⟩:=x; exact⟨z,its,n,r,k _ _ (.inl rfl) e⟩
 | tup xs=>obtain⟨z,its,r,n,e⟩:=x; exact⟨z,its,r,n,k _ _ (.inl rfl) e⟩
 | dK lI=>obtain⟨z,y,vs,r,ob,es,ep,e,c⟩:=x; exact⟨z,y,vs,r,ob,es,ep,k _ _ (.inl rfl) e,c⟩
 | dT lI=>
  obtain⟨z,y,xs,r,ob,es,ep,e,c⟩:=x
  exact⟨z,y,xs,Paired.mapP r λp q z=>⟨z.1,ht _ _ z.2.1,z.2.2⟩,ob,es,ep,k _ _ (.inl rfl) e,c⟩
 | set S n=>obtain⟨ob,es,ep,t,e,c⟩:=x; exact⟨ob,es,ep,t,k _ _ (.inl rfl) e,c⟩
 | ins C dx fs=>
  obtain⟨d,z,ne,e,mA,⟨od,es,ep,e2,c⟩,r⟩:=x
  exact⟨ho _ d,z,ne,k _ _ (.inl rfl) e,mA,⟨od,es,ep,k _ _ (.inr d) e2,c⟩,r⟩
 | own y=>obtain⟨ob,e⟩:=x; exact⟨ob,k _ _ (.inl rfl) e⟩
 | xd fs=>obtain⟨mA,⟨od,es,ep,e,c⟩,r⟩:=x; exact⟨mA,⟨od,es,ep,k _ _ (.inl rfl) e,c⟩,r⟩
 | rng lo hi=>obtain⟨t,u,v,e⟩:=x; exact⟨t,u,v,k _ _ (.inl rfl) e⟩
 | frz ob u ih=>obtain⟨e,q⟩:=x; exact⟨k _ _ (.inl rfl) e,ih q⟩
 | tbl ps=>
  have e:h.get? a=some { cls:= .none,data:= .fields ps} :=x
  show h'.get? a=some { cls:= .none,data:= .fields ps}
  exact k a _ (.inl rfl) e
 | met f y=>
  have e:h.get? a=some (methodObj (.ref f) (.ref y)):=x
  show h'.get? a=some (methodObj (.ref f) (.ref y))
  exact k a _ (.inl rfl) e
 | ext φ=>obtain⟨p,⟨o,e⟩,st⟩:=x; exact⟨st _ _ p λo q=>k _ _ (.inl rfl) q,⟨o,k _ _ (.inl rfl) e⟩,st⟩
theorem HOk.lt (x:HOk P w H h)(e:H a=some o):a<h.objs.size:=(x a o e).lt
theorem HOk.fresh (x:HOk P w H h)(e:h.objs.size<=a):H a=none:=by
 cases q:H a with
 | none=>rfl
 | some u=>exact absurd (aM (x.lt q) e) (cJ _)
theorem HOk.kept (x:HOk P w H h)(k:∀b u,h.get? b=some u->h'.get? b=some u):HOk P w H h':=λa o e=>
 (x a o e).stay (λb u _ q=>k b u q) (λ_ q=>q) λ_ _ q=>q
theorem HOk.laid (x:HOk P w H h)(k:∀b u,h.get? b=some u->h'.get? b=some u)(hp:h.objs.size<=a)(new:ObjOk P w (upd H a o) h' a o):HOk P w (upd H a o) h':=λb u e=>by
 have hn:=x.fresh hp
 by_cases hb:b=a
 ·subst hb; rw[j6] at e; cases e; exact new
 ·rw[j7 hb] at e
  exact(x b u e).stay (λc v _ q=>k c v q) (λc q=>by rw[j7 (jA q hn)]; exact q) λc xs q=>by rw[j7 (jA q hn)]; exact q
end
def Rd (H:Hp)(a:Addr)(u:HO):Prop:=H a=some u\/∃o,H a=some (.frz o u)
theorem Rd.ok {P:Program}{w:World}{H:Hp}{h:Heap}{a:Addr}{u:HO}(r:Rd H a u)(x:HOk P w H h):ObjOk P w H h a u:=by
 rcases r with r | ⟨o,r⟩
 ·exact x a u r
 ·obtain⟨_,q⟩:=x a _ r
  exact q
def Mut:Option HO->Prop
 | some (.lst _)=>True
 | some (.dK _)=>True
 | some (.dT _)=>True
 | some (.set _ _)=>True
 | some (.ins _ _ _)=>True
 | some (.ext _)=>True
 | _=>False
variable {x:Addr}
section
variable {e:Addr}{o':HO}
theorem HOk.write (ok:HOk P w H h)(mu:Mut (H x))(he:e=x\/H e=some (.own x))(k:∀b u,b≠e->h.get? b=some u->h'.get? b=some u)(heo:∃u,h'.get? e=some u)
  (new:ObjOk P w (upd H x o') h' x o'):HOk P w (upd H x o') h':=λb u q=>by
 have nown:∀c y,H c=some (.own y)->c≠x:=λc y r z=>by subst z; rw[r] at mu; exact mu
 have ntup:∀c xs,H c=some (.tup xs)->c≠x:=λc xs r z=>by subst z; rw[r] at mu; exact mu
 by_cases hb:b=x
 ·subst hb; rw[j6] at q; cases q; exact new
 ·rw[j7 hb] at q
  by_cases hbe:b=e
  ·have q':H b=some (.own x):=by
    rcases he with z | z
    ·exact absurd (hbe.trans z) hb
    ·rw[hbe]; exact z
   rw[q] at q'; cases q'
   obtain⟨v,hv⟩:=heo
   exact⟨v,by rw[hbe]; exact hv⟩
  ·refine(ok b u q).stay (λc v hc r=>k c v ?_ r) (λc r=>by rw[j7 (nown c b r)]; exact r) λc xs r=>by rw[j7 (ntup c xs r)]; exact r
   rcases hc with rfl | hc
   ·exact hbe
   ·rintro rfl
    rcases he with z | z
    ·exact nown c b hc z
    ·rw[hc] at z; cases z; exact hb rfl
end
structure Un (fs ex:List Addr)(H H':Hp)(h h':Heap):Prop where
 keep:∀b o,h.get? b=some o->H b=none->b∉fs->b∉ex->h'.get? b=some o
 slot:∀b o,h.get? b=some o->H b=none->b∈fs->b∉ex->∃sl,h'.get? b=some { o with slots:=sl}
 free:∀b o,h.get? b=some o->H b=none->b∉ex->H' b=none
 there:∀b o,h.get? b=some o->b∉ex->∃o',h'.get? b=some o'
 tups:∀b xs,H b=some (.tup xs)->H' b=some (.tup xs)
 frzs:∀b o u,H b=some (.frz o u)->H' b=some (.frz o u)
 tbls:∀b ps,H b=some (.tbl ps)->∃more,H' b=some (.tbl (ps++more))
section
variable {fs fs' ex ex':List Addr}{H1 H2:Hp}{h1 h2:Heap}{e:Addr}{o:HO}
theorem Un.any (u:Un fs ex H H1 h h1){b:Addr}{ob:Obj}(q:h.get? b=some ob)(n:H b=none)(hx:b∉ex):∃sl,h1.get? b=some { ob with slots:=sl} :=by
 by_cases hb:b∈fs
 ·exact u.slot b ob q n hb hx
 ·exact⟨ob.slots,u.keep b ob q n hb hx⟩
theorem Un.trans (a:Un fs ex H H1 h h1)(b:Un fs ex H1 H2 h1 h2):Un fs ex H H2 h h2 where
 keep:=λc ob q n hc hx=>b.keep c ob (a.keep c ob q n hc hx) (a.free c ob q n hx) hc hx
 slot:=λc ob q n hc hx=>by
  obtain⟨sl,e1⟩:=a.slot c ob q n hc hx
  obtain⟨sl',e2⟩:=b.slot c _ e1 (a.free c ob q n hx) hc hx
  exact⟨sl',e2⟩
 free:=λc ob q n hx=>by
  obtain⟨o',e1⟩:=a.there c ob q hx
  exact b.free c o' e1 (a.free c ob q n hx) hx
 there:=λc ob q hx=>by
  obtain⟨o',e1⟩:=a.there c ob q hx
  exact b.there c o' e1 hx
 tups:=λc xs q=>b.tups c xs (a.tups c xs q)
 frzs:=λc ob xs q=>b.frzs c ob xs (a.frzs c ob xs q)
 tbls:=λc ps q=>by
  obtain⟨m1,e1⟩:=a.tbls c ps q
  obtain⟨m2,e2⟩:=b.tbls c _ e1
  exact⟨m1++m2,by rw[e2,lh]⟩
theorem Un.kept (k:∀b u,h.get? b=some u->h'.get? b=some u):Un fs ex H H h h':=
 ⟨λb ob q _ _ _=>k b ob q,λb ob q _ _ _=>⟨ob.slots,k b ob q⟩,λ_ _ _ n _=>n,λb ob q _=>⟨ob,k b ob q⟩,λ_ _ q=>q,λ_ _ _ q=>q,λ_ ps q=>⟨#[],by rw[q]; simp⟩⟩
theorem Un.refl:Un fs ex H H h h:=Un.kept λ_ _ q=>q
theorem Un.laid (k:∀b u,h.get? b=some u->h'.get? b=some u)(hp:h.objs.size<=a)(hn:H a=none):Un fs ex H (upd H a o) h h' where
 keep:=λb u q _ _ _=>k b u q
 slot:=λb u q _ _ _=>⟨u.slots,k b u q⟩
 free:=λb u q n _=>by rw[j7 (aO (aM (aq q) hp))]; exact n
 there:=λb u q _=>⟨u,k b u q⟩
 tups:=λb xs q=>by rw[j7 (jA q hn)]; exact q
 frzs:=λb u xs q=>by rw[j7 (jA q hn)]; exact q
 tbls:=λb ps q=>⟨#[],by rw[j7 (jA q hn),q]; simp⟩
theorem Un.write (mu:Mut (H x))(he:e=x\/H e=some (.own x))(k:∀b u,b≠e->h.get? b=some u->h'.get? b=some u)(heo:∃u,h'.get? e=some u):Un fs ex H (upd H x o) h h':=by
 have hx:∀b,H b=none->b≠x:=λb n z=>by subst z; rw[n] at mu; exact mu
 have hb:∀b,H b=none->b≠e:=λb n z=>by
  subst z
  rcases he with r | r
  ·exact hx b n r
  ·rw[n] at r; cases r
 have hm:∀b u,H b=some u->¬Mut (some u)->b≠x:=λb u q nm z=>by subst z; rw[q] at mu; exact nm mu
 refine⟨λb u q n _ _=>k b u (hb b n) q,λb u q n _ _=>⟨u.slots,k b u (hb b n) q⟩,λb u q n _=>by rw[j7 (hx b n)]; exact n,λb u q _=>?_,
  λb xs q=>by rw[j7 (hm b _ q λz=>z)]; exact q,λb u xs q=>by rw[j7 (hm b _ q λz=>z)]; exact q,λb ps q=>⟨#[],by rw[j7 (hm b _ q λz=>z),q]; simp⟩⟩
 by_cases hbe:b=e
 ·subst hbe; exact heo
 ·exact⟨u,k b u hbe q⟩
end
def trk (h:Heap)(H:Hp):List Addr:=(List.range h.objs.size).filter λa=>(H a).isSome
def hidT (h:Heap)(H:Hp):Heap:=PySem.W.hideAll h (trk h H)
theorem jM4 (h:Heap)(H:Hp):(hidT h H).objs.size=h.objs.size:=PySem.W.hideAll_size _ _
theorem jOC {h:Heap}{H:Hp}{b:Addr}{o:Obj}(e:h.get? b=some o)(n:H b=none):(hidT h H).get? b=some o:=
 PySem.W.hideAll_get _ e λhm=>by
  have q:(H b).isSome=true:=(bU.mp hm).2
  rw[n] at q; simp at q
theorem jRI {h:Heap}{H:Hp}{b:Addr}{o:Obj}(e:(hidT h H).get? b=some o):h.get? b=some o/\H b=none:=by
 have e':h.get? b=some o:=PySem.W.of_hideAll (trk h H) e
 refine⟨e',?_⟩
 cases q:H b with
 | none=>rfl
 | some x=>
  have hm:b∈trk h H:=bU.mpr ⟨be.mpr (aq e'),by simp [q]⟩
  have z:(hidT h H).get? b=none:=PySem.W.hideAll_none (trk h H) hm
  rw[z] at e; cases e
structure Mod (K:W.Frag)(mg:Str->Option Value)(lG:Heap):Prop where
 kin:K.In lG
 glob:lG.Ns mainGlobals mg
 blt:∃mb,lG.Ns builtinsNs mb/\∀x:Str,x≠ "__name__" ->mb x=bootBuiltins x
 nolimit:lG.NoLimit
structure Cx where
 prog:Program
 w:World
 K:W.Frag
 mg:Str->Option Value
 lG:Heap
 A:Around
 N:List Str
 s₀:Shared
 H₀:Hp
 env:Env
 outer:List Env
 stack:List Env
 ex:List Addr
 fn:Str->Bool
 calm:Bool
 pn:List (Addr×Obj)
 xe:Value->Shared->Prop
def frs (l:List Env):List Addr:=l.filterMap (·.frame)
abbrev Cx.fs (X:Cx):List Addr:=frs X.outer
def Vis (sc:Scope)(x:Str):Prop:=sc.names.lookup x=some .local\/sc.names.lookup x=some .cell\/sc.names.lookup x=some .free
def Loc (sc:Scope)(x:Str):Prop:=sc.names.lookup x=some .local\/sc.names.lookup x=some .cell
def Look (env:Env)(h:Heap)(m:Str->Option Value)(x:Str)(u:Value):Prop:=
 (env.kindOf x=some .local/\m x=some u)\/((env.kindOf x=some .cell\/env.kindOf x=some .free)/\∃c,env.cells.lookup x=some c/\h.IsCell c (some u))
structure Cx.Ok (X:Cx):Prop where
 mod:Mod X.K X.mg X.lG
 kind:X.env.scope.kind= .function
 glob:X.env.globals=mainGlobals
 blt:X.env.builtins=builtinsNs
 above:X.s₀.heap.objs.size<=X.env.locals
 inj:∀x y c,X.env.cells.lookup x=some c->X.env.cells.lookup y=some c->x=y
 has:∀x,(X.env.kindOf x=some .cell\/X.env.kindOf x=some .free)->∃c,X.env.cells.lookup x=some c
 cab:∀x c,X.fn x=true->X.env.cells.lookup x=some c->X.s₀.heap.objs.size<=c
 hd:X.calm=true->X.A.handled=none
 frames:X.A.frames=some X.stack
 stk:X.stack=X.outer\/(X.stack=X.env::X.outer/\X.env.frame=some X.env.locals)
 exf:∀b∈X.ex,b≠X.env.locals/\∀x c,X.env.cells.lookup x=some c->c≠b
 bs:∀b o,X.lG.get? b=some o->X.s₀.heap.get? b=some o/\X.H₀ b=none
 bsz:X.lG.objs.size<=X.s₀.heap.objs.size
 noex:∀b o,X.lG.get? b=some o->b∉X.ex
 exfs:∀b∈X.ex,b∉X.fs
 funs:X.s₀.heap.FunFrames X.lG X.outer
 frf:∀b∈X.fs,X.H₀ b=none
structure Inv (X:Cx)(lF:List (Addr×Obj))(σ:List (Option V))(H:Hp)(s:Shared):Prop where
 ok:X.Ok
 os:s.os=X.s₀.os
 bare:AllBare s.gens
 lG:Un X.fs X.ex X.H₀ H X.s₀.heap s.heap
 loc:∃m,s.heap.Ns X.env.locals m/\∀(i:Nat) (x:Str) (v:V),X.N[i]?=some x->σ[i]?=some (some v)->Vis X.env.scope x->∃u,RelV v u/\Look X.env s.heap m x u
 cell:∀x c,X.env.cells.lookup x=some c->∃v,s.heap.IsCell c v
 free:H X.env.locals=none
 freeC:∀x c,X.env.cells.lookup x=some c->H c=none
 pin:∀p∈X.pn++lF,s.heap.get? p.1=some p.2/\H p.1=none/\p.1≠X.env.locals/\p.1∉X.fs/\∀v,p.2.data≠ .cell v
 hok:HOk X.prog X.w H s.heap
 len:σ.length=X.N.length
variable {X:Cx}{lF:List (Addr×Obj)}{s:Shared}
section
variable {σ:List (Option V)}
theorem Cx.Ok.nofr (ok:X.Ok){b:Addr}{o:Obj}(e:X.lG.get? b=some o):b∉X.fs:=λhb=>by
 have:=(ok.funs.mem hb).1
 rw[e] at this; cases this
theorem Inv.bs (I:Inv X lF σ H s):∀b o,X.lG.get? b=some o->s.heap.get? b=some o/\H b=none:=λb o e=>
 ⟨I.lG.keep b o (I.ok.bs b o e).1 (I.ok.bs b o e).2 (I.ok.nofr e) (I.ok.noex b o e),I.lG.free b o (I.ok.bs b o e).1 (I.ok.bs b o e).2 (I.ok.noex b o e)⟩
theorem Inv.bk (I:Inv X lF σ H s):∀b o,X.lG.get? b=some o->s.heap.get? b=some o:=λb o e=>(I.bs b o e).1
theorem Inv.mod (I:Inv X lF σ H s):Mod X.K X.mg X.lG:=I.ok.mod
theorem Inv.kIn (I:Inv X lF σ H s):X.K.In s.heap:=I.ok.mod.kin.keeps I.bk
theorem Inv.lt (I:Inv X lF σ H s):X.env.locals<s.heap.objs.size:=let ⟨_,hn,_⟩:=I.loc; hn.lt
theorem Inv.sz (I:Inv X lF σ H s):X.s₀.heap.objs.size<=s.heap.objs.size:=bM I.ok.above (cQ I.lt)
theorem Inv.nofs (I:Inv X lF σ H s){a:Addr}(h:s.heap.objs.size<=a):a∉X.fs:=λhb=>by
 obtain⟨_,o,ho,_⟩:=I.ok.funs.mem hb
 exact absurd (aM (aq ho) (bM I.sz h)) (cJ _)
theorem Inv.cne (I:Inv X lF σ H s):∀x c,X.env.cells.lookup x=some c->c≠X.env.locals:=λx c e z=>by
 obtain⟨v,o,ho,hd⟩:=I.cell x c e
 obtain⟨m,⟨o',es,ep,ho',hd',_⟩,_⟩:=I.loc
 rw[z,ho'] at ho; cases ho; rw[hd'] at hd; cases hd
theorem Inv.funs (I:Inv X lF σ H s):s.heap.FunFrames X.lG X.outer:=by
 have all:∀(l:List Env),(∀b∈frs l,b∈X.fs)->X.s₀.heap.FunFrames X.lG l->s.heap.FunFrames X.lG l:=by
  intro l
  induction l with
  | nil=>intro _ _; trivial
  | cons env r ih=>
   intro hs hl
   obtain⟨hk,⟨L,o,hf,hn,ho,hd⟩,hr⟩:=hl
   have hL:L∈X.fs:=hs L (by unfold frs; rw[cI,hf]; exact ax)
   obtain⟨sl,e⟩:=I.lG.slot L o ho (I.ok.frf L hL) hL λz=>I.ok.exfs L z hL
   exact⟨hk,⟨L,_,hf,hn,e,hd⟩,ih (λb hb=>hs b (by unfold frs; rw[cI,hf]; exact ay _ hb)) hr⟩
 exact all X.outer (λ_ hb=>hb) I.ok.funs
theorem Inv.stack (I:Inv X lF σ H s):s.heap.FunFrames X.lG X.stack:=by
 rcases I.ok.stk with e | ⟨e,hf⟩
 ·rw[e]; exact I.funs
 ·rw[e]
  obtain⟨m,hn,_⟩:=I.loc
  refine .cons (by rw[I.ok.kind]; decide) hf hn ?_ I.funs
  exact Heap.get?_none_of_le (bM I.ok.bsz I.ok.above)
theorem Inv.stkSub (I:Inv X lF σ H s):∀b∈frs X.stack,b∈X.env.locals::X.fs:=λb hb=>by
 rcases I.ok.stk with e | ⟨e,hf⟩
 ·rw[e] at hb; exact ay _ hb
 ·rw[e] at hb
  unfold frs at hb
  rw[cI,hf] at hb
  exact hb
theorem Inv.stkFree (I:Inv X lF σ H s):∀b∈frs X.stack,H b=none:=λb hb=>by
 rcases aF.mp (I.stkSub b hb) with e | hb
 ·rw[e]; exact I.free
 ·obtain⟨_,o,ho,_⟩:=I.ok.funs.mem hb
  exact I.lG.free b o ho (I.ok.frf b hb) λz=>I.ok.exfs b z hb
theorem Inv.step {g':Array GenState}{t':Nat}{d':Drawn}{ch:List Addr}(I:Inv X lF σ H s)
  (hch:∀b∈ch,(b∈X.ex\/X.s₀.heap.objs.size<=b)/\b≠X.env.locals/\(∀x c,X.env.cells.lookup x=some c->c≠b)/\∀p∈X.pn++lF,p.1≠b)
  (keep:∀b o,b≠X.env.locals->b∉X.fs->b∉ch->s.heap.get? b=some o->H b=none->h'.get? b=some o)
  (slot:∀b o,b≠X.env.locals->b∈X.fs->b∉ch->s.heap.get? b=some o->H b=none->∃sl,h'.get? b=some { o with slots:=sl}) (free:∀b o,b∉ch->s.heap.get? b=some o->H b=none->H' b=none)
  (there:∀b o,b∉ch->s.heap.get? b=some o->∃o',h'.get? b=some o')
  (tups:∀b xs,H b=some (.tup xs)->H' b=some (.tup xs)) (frzs:∀b o u,H b=some (.frz o u)->H' b=some (.frz o u)) (tbls:∀b ps,H b=some (.tbl ps)->∃more,H' b=some (.tbl (ps++more)))
  (ns:∀m,s.heap.Ns X.env.locals m->h'.Ns X.env.locals m) (hok:HOk X.prog X.w H' h') (hg:AllBare g'):
  Inv X lF σ H' { s with heap:=h',gens:=g',drawn:=d',toks:=t'} :=by
 have neL:∀b o,X.s₀.heap.get? b=some o->b≠X.env.locals:=λb o e=>aO (aM (aq e) I.ok.above)
 have neC:∀b o,X.s₀.heap.get? b=some o->b∉X.ex->b∉ch:=λb o e hx hb=>by
  rcases (hch b hb).1 with z | z
  ·exact hx z
  ·exact absurd (aM (aq e) z) (cJ _)
 have cellK:∀x c,X.env.cells.lookup x=some c->∀v,s.heap.IsCell c v->h'.IsCell c v:=λx c e v ⟨o,ho,hd⟩=>by
  have nch:c∉ch:=λz=>(hch c z).2.2.1 x c e rfl
  by_cases hc:c∈X.fs
  ·obtain⟨sl,q⟩:=slot c o (I.cne x c e) hc nch ho (I.freeC x c e)
   exact⟨_,q,hd⟩
  ·exact⟨o,keep c o (I.cne x c e) hc nch ho (I.freeC x c e),hd⟩
 refine⟨I.ok,I.os,hg,⟨λb o e n hb hx=>?_,λb o e n hb hx=>?_,λb o e n hx=>?_,λb o e hx=>?_,λb xs e=>tups b xs (I.lG.tups b xs e),λb o xs e=>frzs b o xs (I.lG.frzs b o xs e),λb ps e=>?_⟩,?_,λx c e=>?_,?_,λx c e=>?_,λp hp=>?_,hok,I.len⟩
 ·exact keep b o (neL b o e) hb (neC b o e hx) (I.lG.keep b o e n hb hx) (I.lG.free b o e n hx)
 ·obtain⟨sl,e1⟩:=I.lG.slot b o e n hb hx
  obtain⟨sl',e2⟩:=slot b _ (neL b o e) hb (neC b o e hx) e1 (I.lG.free b o e n hx)
  exact⟨sl',e2⟩
 ·obtain⟨o',e1⟩:=I.lG.there b o e hx
  exact free b o' (neC b o e hx) e1 (I.lG.free b o e n hx)
 ·obtain⟨o',e1⟩:=I.lG.there b o e hx
  exact there b o' (neC b o e hx) e1
 ·obtain⟨m1,e1⟩:=I.lG.tbls b ps e
  obtain⟨m2,e2⟩:=tbls b _ e1
  exact⟨m1++m2,by rw[e2,lh]⟩
 ·obtain⟨m,hn,hl⟩:=I.loc
  refine⟨m,ns m hn,λi x v e1 e2 e3=>?_⟩
  obtain⟨u,r,l⟩:=hl i x v e1 e2 e3
  refine⟨u,r,?_⟩
  rcases l with l | ⟨k,c,e,z⟩
  ·exact .inl l
  ·exact .inr ⟨k,c,e,cellK x c e _ z⟩
 ·obtain⟨v,z⟩:=I.cell x c e
  exact⟨v,cellK x c e v z⟩
 ·obtain⟨m,⟨o,_,_,ho,_⟩,_⟩:=I.loc
  exact free _ o (λz=>(hch _ z).2.1 rfl) ho I.free
 ·obtain⟨v,o,ho,hd⟩:=I.cell x c e
  exact free c o (λz=>(hch c z).2.2.1 x c e rfl) ho (I.freeC x c e)
 ·obtain⟨e,n,ne,nf,d⟩:=I.pin p hp
  have nch:p.1∉ch:=λz=>(hch p.1 z).2.2.2 p hp rfl
  exact⟨keep p.1 p.2 ne nf nch e n,free p.1 p.2 nch e n,ne,nf,d⟩
theorem Inv.un {t':Nat}(I:Inv X lF σ H s)(u:Un X.fs [] H H' s.heap h')(hok:HOk X.prog X.w H' h'):Inv X lF σ H' { s with heap:=h',toks:=t'} :=by
 obtain⟨m,⟨o,es,ep,ho,r⟩,_⟩:=id I.loc
 obtain⟨sl,hL⟩:=u.any ho I.free (by simp)
 exact I.step (g':=s.gens) (d':=s.drawn) (ch:=[]) (λ_ z=>nomatch z) (λb o _ hb _ e n=>u.keep b o e n hb (by simp)) (λb o _ hb _ e n=>u.slot b o e n hb (by simp)) (λb o _ e n=>u.free b o e n (by simp)) (λb o _ e=>u.there b o e (by simp)) u.tups u.frzs u.tbls (λm' hm=>by
  obtain⟨o',es',ep',ho',r'⟩:=hm
  rw[ho] at ho'; cases ho'
  exact⟨_,es',ep',hL,r'⟩) hok I.bare
theorem Inv.call {g':Array GenState}{t':Nat}{d':Drawn}{ch:List Addr}(I:Inv X lF σ H s)(u:Un (frs X.stack) ch H H' s.heap h')(hok:HOk X.prog X.w H' h')(hg:AllBare g')
  (hch:∀b∈ch,(b∈X.ex\/X.s₀.heap.objs.size<=b)/\b≠X.env.locals/\(∀x c,X.env.cells.lookup x=some c->c≠b)/\∀p∈X.pn++lF,p.1≠b):
  Inv X lF σ H' { s with heap:=h',gens:=g',drawn:=d',toks:=t'} :=by
 obtain⟨m,⟨o,es,ep,ho,r⟩,_⟩:=id I.loc
 obtain⟨sl,hL⟩:=u.any ho I.free λz=>(hch _ z).2.1 rfl
 exact I.step (ch:=ch) hch (λb o hL hb hc e n=>u.keep b o e n (λz=>(aF.mp (I.stkSub b z)).elim hL hb) hc) (λb o _ _ hc e n=>u.any e n hc) (λb o hc e n=>u.free b o e n hc) (λb o hc e=>u.there b o e hc) u.tups u.frzs u.tbls (λm' hm=>by
  obtain⟨o',es',ep',ho',r'⟩:=hm
  rw[ho] at ho'; cases ho'
  exact⟨_,es',ep',hL,r'⟩) hok hg
theorem Inv.turned {t':Nat}{it:Addr}(I:Inv X lF σ H s)(k:∀b o,b≠it->s.heap.get? b=some o->h'.get? b=some o)(hn:H it=none)(hL:it≠X.env.locals)
  (h1:it∈X.ex\/X.s₀.heap.objs.size<=it) (h2:∀x c,X.env.cells.lookup x=some c->c≠it) (h3:∀p∈X.pn++lF,p.1≠it):Inv X lF σ H { s with heap:=h',toks:=t'} :=by
 have nit:∀b u,H b=some u->b≠it:=λb u e z=>by rw[z,hn] at e; cases e
 refine I.step (g':=s.gens) (d':=s.drawn) (ch:=[it]) (λb hb=>?_) (λb o _ _ hc e _=>k b o (λz=>hc (by simp [z])) e) (λb o _ _ hc e _=>⟨o.slots,k b o (λz=>hc (by simp [z])) e⟩) (λ_ _ _ _ n=>n)
  (λb o hc e=>⟨o,k b o (λz=>hc (by simp [z])) e⟩) (λ_ _ e=>e) (λ_ _ _ e=>e) (λb ps e=>⟨#[],by rw[e]; simp⟩) (λm hm=>?_) (λb u e=>?_) I.bare
 ·have e:b=it:=by simpa using hb
  subst e
  exact⟨h1,hL,h2,h3⟩
 ·obtain⟨o,es,ep,ho,r⟩:=hm
  exact⟨o,es,ep,k _ o (dh hL) ho,r⟩
 ·refine(I.hok b u e).stay (λc v hc q=>k c v ?_ q) (λ_ q=>q) λ_ _ q=>q
  rcases hc with z | z
  ·rw[z]; exact nit b u e
  ·exact nit c _ z
theorem Inv.tok (I:Inv X lF σ H s)(t:Nat):Inv X lF σ H { s with toks:=t} :=I.un (h':=s.heap) (t':=t) Un.refl I.hok
theorem Inv.kept {t':Nat}(I:Inv X lF σ H s)(k:∀b u,s.heap.get? b=some u->h'.get? b=some u):Inv X lF σ H { s with heap:=h',toks:=t'} :=I.un (Un.kept k) (I.hok.kept k)
theorem Inv.laid {a:Addr}{o:HO}{t':Nat}(I:Inv X lF σ H s)(k:∀b u,s.heap.get? b=some u->h'.get? b=some u)(hp:s.heap.objs.size<=a)(new:ObjOk X.prog X.w (upd H a o) h' a o):
  Inv X lF σ (upd H a o) { s with heap:=h',toks:=t'} :=I.un (Un.laid k hp (I.hok.fresh hp)) (I.hok.laid k hp new)
theorem Inv.write {x e:Addr}{o:HO}{t':Nat}(I:Inv X lF σ H s)(mu:Mut (H x))(he:e=x\/H e=some (.own x))(k:∀b u,b≠e->s.heap.get? b=some u->h'.get? b=some u)(heo:∃u,h'.get? e=some u)
  (new:ObjOk X.prog X.w (upd H x o) h' x o):Inv X lF σ (upd H x o) { s with heap:=h',toks:=t'} :=I.un (Un.write mu he k heo) (I.hok.write mu he k heo new)
theorem Inv.pins_of {lF':List (Addr×Obj)}(I:Inv X lF σ H s)(h:∀p∈lF',s.heap.get? p.1=some p.2/\H p.1=none/\p.1≠X.env.locals/\p.1∉X.fs/\∀v,p.2.data≠ .cell v):Inv X lF' σ H s:=
 ⟨I.ok,I.os,I.bare,I.lG,I.loc,I.cell,I.free,I.freeC,λp hp=>(aK.mp hp).elim (λz=>I.pin p (aQ _ z)) (h p),I.hok,I.len⟩
theorem jIG {N:List Str}(hN:N.Nodup){i j:Nat}{x:Str}(a:N[i]?=some x)(b:N[j]?=some x):i=j:=by
 obtain⟨h1,e1⟩:=ah.mp a
 obtain⟨h2,e2⟩:=ah.mp b
 exact(List.getElem_inj hN).mp (e1.trans e2.symm)
theorem jG1 {M:Model}{A:Around}{E:Value->Shared->Prop}{i:Nat}{x:Str}{v:V}{u:Value}{Q:Unit->Shared->Prop}(I:Inv X lF σ H s)(hN:X.N.Nodup)(hi:X.N[i]?=some x)(hx:Loc X.env.scope x)(r:RelV v u)
  (h:∀s',Inv X lF (σ.set i (some v)) H s'->(∃a,Heap.SameBut a s.heap s'.heap/\(a=X.env.locals\/X.env.cells.lookup x=some a))->Q () s') (hf:X.fn x=true\/X.env.scope.names.lookup x=some .local:=by first | exact .inl rfl | exact .inr rfl | assumption):wpAny M A (storeName X.env x u) Q E s:=by
 obtain⟨m,hn,hl⟩:=id I.loc
 have hcls:(X.env.scope.kind== .class || (X.env.scope.kind== .module&&X.env.locals != X.env.globals))=false:=by rw[I.ok.kind]; rfl
 have hiσ:i<σ.length:=by rw[I.len]; exact(ah.mp hi).1
 have cne:=I.cne
 have tracked:∀{a:Addr}{h':Heap},(∃o,s.heap.get? a=some o/\H a=none)->Heap.SameBut a s.heap h'->HOk X.prog X.w H h':=λ{a h'} ha hs b ob e=>by
  obtain⟨_,_,hfree⟩:=ha
  refine(I.hok b ob e).stay (λc w' hc q=>(hs.2 c ?_).trans q) (λ_ q=>q) λ_ _ q=>q
  rintro rfl
  rcases hc with rfl | hc
  ·rw[hfree] at e; cases e
  ·rw[hfree] at hc; cases hc
 rcases hx with hk | hk
 ·refine wpAny_storeName_local hk hn (λh' hn' hs=>?_) hcls
  obtain⟨oL,_,_,hoL,_⟩:=id hn
  refine h _ ⟨I.ok,I.os,I.bare,⟨λb o e n hb hx=>?_,λb o e n hb hx=>?_,I.lG.free,λb o e hx=>?_,I.lG.tups,I.lG.frzs,I.lG.tbls⟩,⟨_,hn',λj y v' e1 e2 e3=>?_⟩,λy c e=>?_,I.free,I.freeC,λp hp=>?_,tracked ⟨oL,hoL,I.free⟩ hs,by simpa using I.len⟩ ⟨_,hs, .inl rfl⟩
  ·exact(hs.2 b (aO (aM (aq e) I.ok.above))).trans (I.lG.keep b o e n hb hx)
  ·obtain⟨sl,e1⟩:=I.lG.slot b o e n hb hx
   exact⟨sl,(hs.2 b (aO (aM (aq e) I.ok.above))).trans e1⟩
  ·obtain⟨o',e1⟩:=I.lG.there b o e hx
   exact⟨o',(hs.2 b (aO (aM (aq e) I.ok.above))).trans e1⟩
  ·by_cases hj:j=i
   ·subst hj
    rw[hi] at e1; cases e1
    rw[jg hiσ] at e2
    cases e2
    exact⟨u,r, .inl ⟨hk,by simp⟩⟩
   ·rw[kg (dh hj)] at e2
    obtain⟨u',r',q⟩:=hl j y v' e1 e2 e3
    refine⟨u',r',?_⟩
    rcases q with ⟨k,e⟩ | ⟨k,c,e,z⟩
    ·refine .inl ⟨k,?_⟩
     have:y≠x:=λe=>hj (jIG hN e1 (e ▸ hi))
     simp [this,e]
    ·exact .inr ⟨k,c,e,z.sameBut hs (cne y c e)⟩
  ·obtain⟨w',z⟩:=I.cell y c e
   exact⟨w',z.sameBut hs (cne y c e)⟩
  ·obtain⟨e,n,ne,nf,d⟩:=I.pin p hp
   exact⟨(hs.2 p.1 ne).trans e,n,ne,nf,d⟩
 ·have hfn:X.fn x=true:=by
   rcases hf with z | z
   ·exact z
   ·rw[z] at hk; cases hk
  obtain⟨c,hc⟩:=I.ok.has x (.inl hk)
  obtain⟨w',z⟩:=I.cell x c hc
  refine wpAny_storeName_cell I.ok.kind hk hc z (λh' hc' hs=>?_)
  obtain⟨oc,hoc,hocd⟩:=id z
  refine h { s with heap:=h'} ⟨I.ok,I.os,I.bare,⟨λb o e n hb hx=>?_,λb o e n hb hx=>?_,I.lG.free,λb o e hx=>?_,I.lG.tups,I.lG.frzs,I.lG.tbls⟩,⟨m,hn.sameBut hs (dh (cne x c hc)),λj y v' e1 e2 e3=>?_⟩,λy c' e=>?_,I.free,I.freeC,λp hp=>?_,tracked ⟨oc,hoc,I.freeC x c hc⟩ hs,by simpa using I.len⟩ ⟨c,hs, .inr hc⟩
  ·exact(hs.2 b (aO (aM (aq e) (I.ok.cab x c hfn hc)))).trans (I.lG.keep b o e n hb hx)
  ·obtain⟨sl,e1⟩:=I.lG.slot b o e n hb hx
   exact⟨sl,(hs.2 b (aO (aM (aq e) (I.ok.cab x c hfn hc)))).trans e1⟩
  ·obtain⟨o',e1⟩:=I.lG.there b o e hx
   exact⟨o',(hs.2 b (aO (aM (aq e) (I.ok.cab x c hfn hc)))).trans e1⟩
  ·by_cases hj:j=i
   ·subst hj
    rw[hi] at e1; cases e1
    rw[jg hiσ] at e2
    cases e2
    exact⟨u,r, .inr ⟨.inl hk,c,hc,hc'⟩⟩
   ·rw[kg (dh hj)] at e2
    obtain⟨u',r',q⟩:=hl j y v' e1 e2 e3
    refine⟨u',r',?_⟩
    rcases q with q | ⟨k,c',e,z'⟩
    ·exact .inl q
    ·refine .inr ⟨k,c',e,z'.sameBut hs ?_⟩
     rintro rfl
     exact hj (jIG hN e1 (I.ok.inj _ _ _ e hc ▸ hi))
  ·by_cases hcc:c'=c
   ·subst hcc; exact⟨_,hc'⟩
   ·obtain⟨w2,z2⟩:=I.cell y c' e
    exact⟨w2,z2.sameBut hs hcc⟩
  ·obtain⟨e,n,ne,nf,d⟩:=I.pin p hp
   refine⟨(hs.2 p.1 ?_).trans e,n,ne,nf,d⟩
   intro q
   rw[q,hoc] at e
   have q':oc=p.2:=bG e
   exact d w' (by rw[<- q']; exact hocd)
theorem jEV {M:Model}{A:Around}{E:Value->Shared->Prop}{i:Nat}{x:Str}{v:V}{u:Value}{Q:Unit->Shared->Prop}(I:Inv X lF σ H s)(hN:X.N.Nodup)(hi:X.N[i]?=some x)(hx:Loc X.env.scope x)(r:RelV v u)
  (h:∀s',Inv X lF (σ.set i (some v)) H s'->Q () s') (hf:X.fn x=true\/X.env.scope.names.lookup x=some .local:=by first | exact .inl rfl | exact .inr rfl | assumption):wpAny M A (storeName X.env x u) Q E s:=
 jG1 I hN hi hx r (λs' I' _=>h s' I') hf
theorem Inv.call' {s':Shared}{ch:List Addr}(I:Inv X lF σ H s)(ho:s'.os=s.os)(u:Un (frs X.stack) ch H H' s.heap s'.heap)(hok:HOk X.prog X.w H' s'.heap)(hg:AllBare s'.gens)
  (hch:∀b∈ch,(b∈X.ex\/X.s₀.heap.objs.size<=b)/\b≠X.env.locals/\(∀x c,X.env.cells.lookup x=some c->c≠b)/\∀p∈X.pn++lF,p.1≠b):Inv X lF σ H' s':=by
 obtain⟨h',g',d',t',o'⟩:=s'
 have e:o'=s.os:=ho
 subst e
 exact I.call (g':=g') (t':=t') (d':=d') u hok hg hch
end
abbrev XK:=Value->Option Addr->Hp->Prop
abbrev St:=List (Option V)
abbrev VK:=V->Hp->Prop
abbrev TE:=St->Hp->VK->Prop
abbrev TT:=St->Hp->(Bool->Hp->Prop)->Prop
abbrev TA:=St->Hp->(List V->Hp->Prop)->Prop
structure Ends where
 nx:St->Hp->Prop
 rt:VK
 bk:St->Hp->Prop:=λ_ _=>False
 ct:St->Hp->Prop:=λ_ _=>False
abbrev TS:=Ends->St->Hp->Prop
def EP (X:Cx)(lF:List (Addr×Obj))(σ:St)(Q:VK)(u:Value)(s':Shared):Prop:=∃v H',Inv X lF σ H' s'/\RelV v u/\Q v H'
def TP (X:Cx)(lF:List (Addr×Obj))(σ:St)(Q:Bool->Hp->Prop)(b:Bool)(s':Shared):Prop:=∃H',Inv X lF σ H' s'/\Q b H'
def AP (X:Cx)(lF:List (Addr×Obj))(σ:St)(Q:List V->Hp->Prop)(us:List Value)(s':Shared):Prop:=∃vs H',Inv X lF σ H' s'/\Vals vs us/\Q vs H'
def SP (X:Cx)(lF:List (Addr×Obj))(D:Ends)(f:Flow)(s':Shared):Prop:=
 match f with
 | .next=>∃σ' H',Inv X lF σ' H' s'/\D.nx σ' H'
 | .brk=>∃σ' H',Inv X lF σ' H' s'/\D.bk σ' H'
 | .cont=>∃σ' H',Inv X lF σ' H' s'/\D.ct σ' H'
 | .ret u=>∃v σ' H',Inv X lF σ' H' s'/\RelV v u/\D.rt v H'
def PE (X:Cx)(e:Expr)(t:TE):Prop:=
 ∀(lF:List (Addr×Obj)) (s:Shared) (σ:St) (H:Hp) (Q:VK),Inv X lF σ H s->t σ H Q->wpAny (model X.prog X.w) X.A (eval e X.env) (EP X lF σ Q) X.xe s
def PT (X:Cx)(e:Expr)(t:TT):Prop:=
 ∀(lF:List (Addr×Obj)) (s:Shared) (σ:St) (H:Hp) (Q:Bool->Hp->Prop),Inv X lF σ H s->t σ H Q->wpAny (model X.prog X.w) X.A (isTrue e X.env (eval e X.env)) (TP X lF σ Q) X.xe s
def PW (X:Cx)(e:Expr)(t:TT):Prop:=
 ∀(whole:Sem Value) (lF:List (Addr×Obj)) (s:Shared) (σ:St) (H:Hp) (Q:Bool->Hp->Prop),Inv X lF σ H s->t σ H Q->wpAny (model X.prog X.w) X.A (isTrue e X.env whole) (TP X lF σ Q) X.xe s
theorem PW.pt {X:Cx}{e:Expr}{t:TT}(h:PW X e t):PT X e t:=h _
def PA (X:Cx)(es:List Expr)(t:TA):Prop:=
 ∀(pos:Pos) (lF:List (Addr×Obj)) (s:Shared) (σ:St) (H:Hp) (Q:List V->Hp->Prop),Inv X lF σ H s->t σ H Q->wpAny (model X.prog X.w) X.A (spliced (backTo pos (starEach es X.env))) (AP X lF σ Q) X.xe s
def PS (X:Cx)(st:Stmt)(t:TS):Prop:=
 ∀(lF:List (Addr×Obj)) (s:Shared) (σ:St) (H:Hp) (D:Ends),Inv X lF σ H s->t D σ H->wpAny (model X.prog X.w) X.A (exec st X.env) (SP X lF D) X.xe s
def PSs (X:Cx)(st:List Stmt)(t:TS):Prop:=
 ∀(lF:List (Addr×Obj)) (s:Shared) (σ:St) (H:Hp) (D:Ends),Inv X lF σ H s->t D σ H->wpAny (model X.prog X.w) X.A (execs st X.env) (SP X lF D) X.xe s
theorem lJ {α:Type}{t:Sem α}{Q Q':α->Shared->Prop}{M:Model}{A:Around}{E:Value->Shared->Prop}{s:Shared}(h:wpAny M A t Q E s)(hQ:∀a s,Q a s->Q' a s):wpAny M A t Q' E s:=cw h hQ λ_ _ x=>x
variable {b:Expr}{ta tb:TE}{pos:Pos}
section
def tVar (i:Nat):TE:=λσ H Q=>∃v,σ[i]?=some (some v)/\Q v H
def tC (v:V):TE:=λ_ H Q=>Q v H
theorem jPD {i:Nat}{x:Str}{pos:Pos}(hN:X.N[i]?=some x)(hv:Vis X.env.scope x)(hd:(x==("__debug__" :Str))=false:=by decide)(hcd:(x==("__classdict__" :Str))=false:=by decide):PE X (.Name x pos) (tVar i):=by
 intro lF s σ H Q I h
 obtain⟨v,e,h⟩:=h
 obtain⟨m,hn,hl⟩:=I.loc
 obtain⟨u,r,l⟩:=hl i x v hN e hv
 have fin:EP X lF σ Q u s:=⟨v,H,I,r,h⟩
 rcases l with ⟨hk,hm⟩ | ⟨hk,c,hc,hcell⟩
 ·exact wpAny_Name (wpAny_loadName_local I.ok.kind hk hn hm fin) hd
 ·rcases hk with hk | hk
  ·exact wpAny_Name (wpAny_loadName_cell I.ok.kind hk hc hcell fin) hd
  ·exact wpAny_Name (wpAny_loadName_free I.ok.kind hk hc hcell fin hcd) hd
theorem jR {i j pos} :PE X (.Constant (.int i) j pos) (tC (.int i)):=λ_ _ _ H _ I h=>wpAny_Constant_int ⟨.int i,H,I.tok _,⟨_,rfl⟩,h⟩
theorem pe_bl {b j pos} :PE X (.Constant (.bool b) j pos) (tC (.bl b)):=λ_ _ _ H _ I h=>Constant_bool ⟨.bl b,H,I,rfl,h⟩
theorem jT6 {j pos} :PE X (.Constant .none j pos) (tC .non):=λ_ _ _ H _ I h=>Constant_none ⟨.non,H,I,rfl,h⟩
theorem jT3 {x j pos} :PE X (.Constant (.str x) j pos) (tC (.str x)):=λ_ _ _ H _ I h=>Calls.Constant_str ⟨.str x,H,I.tok _,⟨_,rfl⟩,h⟩
def Gl (X:Cx)(x:Str):Prop:=X.env.kindOf x=some .globalImplicit
theorem jRQ {E:Value->Shared->Prop}{lF:List (Addr×Obj)}{s:Shared}{σ:St}{H:Hp}{x:Str}{u:Value}{pos:Pos}{Q:Value->Shared->Prop}(I:Inv X lF σ H s)(hg:Gl X x)(hm:X.mg x=some u)(h:Q u s)
  (hd:(x==("__debug__" :Str))=false:=by decide):wpAny (model X.prog X.w) X.A (eval (.Name x pos) X.env) Q E s:=
 iq I.ok.kind hg (Calls.loadGlobal_global (by rw[I.ok.glob]; exact I.mod.glob.keeps I.bk) hm h) hd
theorem jD4 {E:Value->Shared->Prop}{lF:List (Addr×Obj)}{s:Shared}{σ:St}{H:Hp}{x:Str}{u:Value}{pos:Pos}{Q:Value->Shared->Prop}(I:Inv X lF σ H s)(hg:Gl X x)(hm:X.mg x=none)(hv:bootBuiltins x=some u)(h:Q u s)
  (hn:x≠ "__name__" :=by decide) (hd:(x==("__debug__" :Str))=false:=by decide):wpAny (model X.prog X.w) X.A (eval (.Name x pos) X.env) Q E s:=by
 obtain⟨mb,h1,h2⟩:=I.mod.blt
 exact iq I.ok.kind hg (Calls.loadGlobal_builtin (by rw[I.ok.glob]; exact I.mod.glob.keeps I.bk) hm (by rw[I.ok.blt]; exact h1.keeps I.bk) ((h2 x hn).trans hv) h) hd
theorem jR1 {x:Str}{v:V}{u:Value}{pos:Pos}(hg:Gl X x)(hm:X.mg x=none)(hv:bootBuiltins x=some u)(r:RelV v u)(hn:x≠ "__name__" :=by decide)(hd:(x==("__debug__" :Str))=false:=by decide):PE X (.Name x pos) (tC v):=
 λ_ _ _ H _ I h=>jD4 I hg hm hv ⟨v,H,I,r,h⟩ hn hd
variable {a:Expr}
def PC (X:Cx)(op:CmpOp)(a b:Expr)(t:TE):Prop:=
 ∀(lF:List (Addr×Obj)) (s:Shared) (σ:St) (H:Hp) (Q:VK),Inv X lF σ H s->t σ H Q->
  wpAny (model X.prog X.w) X.A (eval a X.env) (λv s₁=>wpAny (model X.prog X.w) X.A (eval b X.env) (λu s₂=>wpAny (model X.prog X.w) X.A (compareOp op v u) (EP X lF σ Q) X.xe s₂) X.xe s₁) X.xe s
def tB (t:TE):TT:=λσ H Q=>t σ H λx H1=>∃c,x= .bl c/\Q c H1
theorem jT7 {op:CmpOp}{t:TE}(h:PC X op a b t)(h1:behindInMarks op b=false:=by first | exact nobehind _ (by decide) (by decide) | rfl):PE X (.Compare a [op] [b] pos) t:=λlF s σ H Q I hw=>wpAny_Compare1 (h lF s σ H Q I hw) h1
theorem jPA {op:CmpOp}{t:TE}(h:PC X op a b t)(h1:behindInMarks op b=false:=by first | exact nobehind _ (by decide) (by decide) | rfl):PT X (.Compare a [op] [b] pos) (tB t):=by
 intro lF s σ H Q I hw
 refine wpAny_isTrue_Compare1 (lJ (h lF s σ H _ I hw) λv s1 h1=>lJ h1 λu s2 h2=>lJ h2 λc s3 ⟨x,H1,I1,r1,q1⟩=>?_) h1
 obtain⟨d,rfl,q⟩:=q1
 cases r1
 exact cR ⟨H1,I1,q⟩
theorem jSU {e:Expr}{t:TE}(h:PE X e t)(he:∀whole,isTrue e X.env whole=(do let v <- whole; standAt e.pos; holding [v] (truthy v)):=by intro _; rfl):PT X e (tB t):=by
 intro lF s σ H Q I hw
 refine isTrue_plain (lJ (h lF s σ H _ I hw) λv s1 ⟨x,H1,I1,r1,q1⟩=>?_) (he _)
 obtain⟨d,rfl,q⟩:=q1
 cases r1
 exact cR ⟨H1,I1,q⟩
variable {tA tB':TT}{rest:List Expr}
def tAnd (t u:TT):TT:=λσ H Q=>t σ H λc H1=>if c=true then u σ H1 Q else Q false H1
def tOr (t u:TT):TT:=λσ H Q=>t σ H λc H1=>if c=true then Q true H1 else u σ H1 Q
def tNot (t:TT):TT:=λσ H Q=>t σ H λc H1=>Q (!c) H1
theorem jQK (ha:PT X a tA):PW X (.BoolOp .And [a] pos) tA:=by
 intro wh lF s σ H Q I h
 refine isTrue_and (lJ (ha lF s σ H Q I h) λc s1 e=>?_)
 cases c with
 | true=>exact isTrue_and_nil e
 | false=>exact e
theorem jSR (ha:PT X a tA):PW X (.BoolOp .Or [a] pos) tA:=by
 intro wh lF s σ H Q I h
 refine isTrue_or (lJ (ha lF s σ H Q I h) λc s1 e=>?_)
 cases c with
 | false=>exact isTrue_or_nil e
 | true=>exact e
theorem jST (ha:PT X a tA)(hb:PW X (.BoolOp .And (b::rest) pos) tB'):PW X (.BoolOp .And (a::b::rest) pos) (tAnd tA tB'):=by
 intro wh lF s σ H Q I h
 refine isTrue_and (lJ (ha lF s σ H _ I h) λc s1 ⟨H1,I1,q1⟩=>?_)
 cases c with
 | true=>exact hb wh lF s1 σ H1 Q I1 q1
 | false=>exact⟨H1,I1,q1⟩
theorem pw_or (ha:PT X a tA)(hb:PW X (.BoolOp .Or (b::rest) pos) tB'):PW X (.BoolOp .Or (a::b::rest) pos) (tOr tA tB'):=by
 intro wh lF s σ H Q I h
 refine isTrue_or (lJ (ha lF s σ H _ I h) λc s1 ⟨H1,I1,q1⟩=>?_)
 cases c with
 | true=>exact⟨H1,I1,q1⟩
 | false=>exact hb wh lF s1 σ H1 Q I1 q1
theorem jSV (ha:PT X a tA):PT X (.UnaryOp .Not a pos) (tNot tA):=by
 intro lF s σ H Q I h
 exact isTrue_not (ha lF s σ H (λc H1=>Q (!c) H1) I h)
def tAndV (ta tb:TE):TE:=λσ H Q=>ta σ H λx H1=>∃c,x= .bl c/\if c=true then tb σ H1 Q else Q (.bl false) H1
def tOrV (ta tb:TE):TE:=λσ H Q=>ta σ H λx H1=>∃c,x= .bl c/\if c=true then Q (.bl true) H1 else tb σ H1 Q
def tNotV (ta:TE):TE:=λσ H Q=>ta σ H λx H1=>∃c,x= .bl c/\Q (.bl (!c)) H1
theorem jT4 {op}{t:TE}(h:PE X a t):PE X (.BoolOp op [a] pos) t:=λlF s σ H Q I hw=>BoolOp_one (h lF s σ H Q I hw)
theorem jTA (ha:PE X a ta)(hb:PE X (.BoolOp .And (b::rest) pos) tb):PE X (.BoolOp .And (a::b::rest) pos) (tAndV ta tb):=by
 intro lF s σ H Q I h
 refine BoolOp_and (lJ (ha lF s σ H _ I h) λv s1 ⟨x,H1,I1,r1,q1⟩=>?_)
 obtain⟨c,rfl,q1⟩:=q1
 cases r1
 refine cR ?_
 cases c with
 | true=>exact hb lF s1 σ H1 Q I1 q1
 | false=>exact⟨.bl false,H1,I1,rfl,q1⟩
theorem pe_or (ha:PE X a ta)(hb:PE X (.BoolOp .Or (b::rest) pos) tb):PE X (.BoolOp .Or (a::b::rest) pos) (tOrV ta tb):=by
 intro lF s σ H Q I h
 refine BoolOp_or (lJ (ha lF s σ H _ I h) λv s1 ⟨x,H1,I1,r1,q1⟩=>?_)
 obtain⟨c,rfl,q1⟩:=q1
 cases r1
 refine cR ?_
 cases c with
 | false=>exact hb lF s1 σ H1 Q I1 q1
 | true=>exact⟨.bl true,H1,I1,rfl,q1⟩
theorem jT5 (ha:PE X a ta):PE X (.UnaryOp .Not a pos) (tNotV ta):=by
 intro lF s σ H Q I h
 refine UnaryOp_ (lJ (ha lF s σ H _ I h) λv s1 ⟨x,H1,I1,r1,q1⟩=>?_)
 obtain⟨c,rfl,q1⟩:=q1
 cases r1
 exact not_of (cR ⟨.bl (!c),H1,I1,rfl,q1⟩)
def tIf (t:TT)(ta tb:TE):TE:=λσ H Q=>t σ H λc H1=>if c=true then ta σ H1 Q else tb σ H1 Q
theorem jNU {c:Expr}(hc:PT X c tA)(ha:PE X a ta)(hb:PE X b tb):PE X (.IfExp c a b pos) (tIf tA ta tb):=by
 intro lF s σ H Q I h
 refine wpAny_IfExp (lJ (hc lF s σ H _ I h) λd s1 ⟨H1,I1,q1⟩=>?_)
 cases d with
 | true=>exact ha lF s1 σ H1 Q I1 q1
 | false=>exact hb lF s1 σ H1 Q I1 q1
end
def SqL (K:W.Frag)(H:Hp)(a:Addr)(xs:List V):Prop:=
 Rd H a (.lst xs)\/
  ∃(o:Obj) (its:Array Value) (n:Nat),K.lookup a=some o/\o.cls= .type "list" /\o.dict=none/\o.data= .seq its n/\its.size<=sizeLine/\Vals xs its.toList
def SqT (K:W.Frag)(H:Hp)(a:Addr)(xs:List V):Prop:=
 Rd H a (.tup xs)\/
  ∃(o:Obj) (its:Array Value) (n:Nat),K.lookup a=some o/\o.cls= .type "tuple" /\o.data= .seq its n/\its.size<=sizeLine/\Vals xs its.toList
noncomputable def absV:Value->Option V
 | .none=>some .non
 | .bool b=>some (.bl b)
 | .int i _=>some (.int i)
 | .str x _=>some (.str x)
 | .bytes b _=>some (.byt b)
 | .float b _=>some (.flt b)
 | .ref a=>some (.ref a)
 | .type n=>some (.ty n)
 | _=>none
theorem RelV.abs {x:V}{u:Value}(r:RelV x u):absV u=some x:=by
 cases x with
 | non=>cases r; rfl
 | bl _=>cases r; rfl
 | int _=>obtain⟨t,rfl⟩:=r; rfl
 | str _=>obtain⟨t,rfl⟩:=r; rfl
 | byt _=>obtain⟨t,rfl⟩:=r; rfl
 | flt _=>obtain⟨t,rfl⟩:=r; rfl
 | ref _=>cases r; rfl
 | ty _=>cases r; rfl
theorem RelV.inj {x y:V}{u:Value}(r:RelV x u)(q:RelV y u):x=y:=bG (r.abs.symm.trans q.abs)
theorem Vals.inj:∀{xs ys:List V}{us:List Value},Vals xs us->Vals ys us->xs=ys
 | _,_,_, .nil, .nil=>rfl
 | _,_,_, .cons r t, .cons r' t'=>by rw[r.inj r',Vals.inj t t']
section
variable {σ:St}{xs ys:List V}
theorem SqL.of {K:W.Frag}(h:H a=some (.lst xs)):SqL K H a xs:= .inl (.inl h)
theorem SqT.of {K:W.Frag}(h:H a=some (.tup xs)):SqT K H a xs:= .inl (.inl h)
theorem Inv.list (I:Inv X lF σ H s)(h:SqL X.K H a xs):∃its:List Value,Vals xs its/\PlainL s.heap a its.toArray/\xs.length<=sizeLine:=by
 rcases h with h | ⟨o,its,n,hk,hc,hd,hs,hz,r⟩
 ·obtain⟨z,its,n,r,e⟩:=h.ok I.hok
  exact⟨its,r,⟨_,n,e,rfl,rfl,rfl⟩,z⟩
 ·refine⟨its.toList,r,⟨o,n,I.kIn a o hk,hc,hd,by simpa using hs⟩,?_⟩
  have e:=r.length
  simp only [aw] at e
  lia
theorem Inv.tuple (I:Inv X lF σ H s)(h:SqT X.K H a xs):∃its:List Value,Vals xs its/\IsTup s.heap a its.toArray/\xs.length<=sizeLine:=by
 rcases h with h | ⟨o,its,n,hk,hc,hs,hz,r⟩
 ·obtain⟨z,its,r,p⟩:=h.ok I.hok
  exact⟨its,r,p.isTup,z⟩
 ·refine⟨its.toList,r,⟨o,I.kIn a o hk,hc,n,by simpa using hs⟩,?_⟩
  have e:=r.length
  simp only [aw] at e
  lia
theorem Inv.list_inj (I:Inv X lF σ H s)(h:SqL X.K H a xs)(h':SqL X.K H a ys):xs=ys:=by
 obtain⟨its,r,⟨o,n,e,_,_,d⟩,_⟩:=I.list h
 obtain⟨its',r',⟨o',n',e',_,_,d'⟩,_⟩:=I.list h'
 rw[e] at e'; cases e'
 rw[d] at d'
 injection d' with d1 _
 have:its=its':=by simpa using bQ Array.toList d1
 subst this
 exact r.inj r'
theorem Inv.tuple_inj (I:Inv X lF σ H s)(h:SqT X.K H a xs)(h':SqT X.K H a ys):xs=ys:=by
 obtain⟨its,r,⟨o,e,_,n,d⟩,_⟩:=I.tuple h
 obtain⟨its',r',⟨o',e',_,n',d'⟩,_⟩:=I.tuple h'
 rw[e] at e'; cases e'
 rw[d] at d'
 injection d' with d1 _
 have:its=its':=by simpa using bQ Array.toList d1
 subst this
 exact r.inj r'
end
abbrev Cx.wish (X:Cx)(E:Value->Shared->Prop):Cx:= { X with xe:=E}
abbrev Cx.nox (X:Cx):Cx:=X.wish λ_ _=>False
theorem Cx.Ok.wish {X:Cx}(ok:X.Ok)(E:Value->Shared->Prop):(X.wish E).Ok:=
 ⟨ok.mod,ok.kind,ok.glob,ok.blt,ok.above,ok.inj,ok.has,ok.cab,ok.hd,ok.frames,ok.stk,ok.exf,ok.bs,ok.bsz,ok.noex,ok.exfs,ok.funs,ok.frf⟩
theorem Cx.Ok.unwish {X:Cx}{E:Value->Shared->Prop}(ok:(X.wish E).Ok):X.Ok:=
 ⟨ok.mod,ok.kind,ok.glob,ok.blt,ok.above,ok.inj,ok.has,ok.cab,ok.hd,ok.frames,ok.stk,ok.exf,ok.bs,ok.bsz,ok.noex,ok.exfs,ok.funs,ok.frf⟩
variable {E:Value->Shared->Prop}
section
variable {σ:St}
theorem Inv.wish (I:Inv X lF σ H s)(E:Value->Shared->Prop):Inv (X.wish E) lF σ H s:=⟨I.ok.wish E,I.os,I.bare,I.lG,I.loc,I.cell,I.free,I.freeC,I.pin,I.hok,I.len⟩
theorem Inv.unwish (I:Inv (X.wish E) lF σ H s):Inv X lF σ H s:=⟨I.ok.unwish,I.os,I.bare,I.lG,I.loc,I.cell,I.free,I.freeC,I.pin,I.hok,I.len⟩
theorem SP.unwish {D:Ends}{f:Flow}{s':Shared}(h:SP (X.wish E) lF D f s'):SP X lF D f s':=by
 cases f with
 | next=>obtain⟨σ',H',I,q⟩:=h; exact⟨σ',H',I.unwish,q⟩
 | brk=>obtain⟨σ',H',I,q⟩:=h; exact⟨σ',H',I.unwish,q⟩
 | cont=>obtain⟨σ',H',I,q⟩:=h; exact⟨σ',H',I.unwish,q⟩
 | ret u=>obtain⟨v,σ',H',I,r,q⟩:=h; exact⟨v,σ',H',I.unwish,r,q⟩
theorem PSs.nox {st:List Stmt}{t:TS}(h:PSs X.nox st t):PSs X st t:=λlF s σ H D I hw=>
 cw (h lF s σ H D (I.wish _) hw) (λ_ _ q=>q.unwish) λ_ _ z=>False.elim z
end
variable {e:Expr}{te:TE}
section
variable {st:Stmt}{rest:List Stmt}{t u:TS}
def tNext:TS:=λD σ H=>D.nx σ H
def tSeq (t u:TS):TS:=λD σ H=>t { D with nx:=u D} σ H
theorem jF1:PSs X [] tNext:=λ_ _ σ H _ I h=>g8 ⟨σ,H,I,h⟩
theorem y6 (h1:PS X st t)(h2:PSs X rest u):PSs X (st::rest) (tSeq t u):=by
 intro lF s σ H D I h
 refine wpAny_execs_cons (lJ (h1 lF s σ H { D with nx:=u D} I h) λf s1 q=>?_)
 cases f with
 | next=>
  obtain⟨σ',H',I',q⟩:=q
  exact h2 lF s1 σ' H' D I' q
 | ret v=>exact q
 | brk=>exact q
 | cont=>exact q
theorem jAZ (h1:PS X st t):PSs X [st] t:=by
 intro lF s σ H D I h
 refine wpAny_execs_cons (lJ (h1 lF s σ H D I h) λf s1 q=>?_)
 cases f with
 | next=>exact g8 q
 | ret v=>exact q
 | brk=>exact q
 | cont=>exact q
theorem Inv.quiet {lF:List (Addr×Obj)}{σ:St}{H:Hp}{s:Shared}(I:Inv X lF σ H s):interactive X.env=false:=by simp [interactive,I.ok.kind]
def tDrop (te:TE):TS:=λD σ H=>te σ H λ_ H1=>D.nx σ H1
theorem jQM (he:PE X e te)(hs:swapsWith e none pos.line X.env=pure false:=by rfl):PS X (.Expr e pos) (tDrop te):=by
 intro lF s σ H D I h
 exact wpAny_Expr_any (lJ (he lF s σ H _ I h) λv s1 ⟨x,H1,I1,r1,q1⟩=>⟨σ,H1,I1,q1⟩) I.quiet hs
def tRet (te:TE):TS:=λD σ H=>te σ H D.rt
theorem jD3 (he:PE X e te):PS X (.Return (some e) pos) (tRet te):=by
 intro lF s σ H D I h
 exact wpAny_Return_some (lJ (he lF s σ H _ I h) λv s1 ⟨x,H1,I1,r1,q1⟩=>⟨x,σ,H1,I1,r1,q1⟩)
def tIfS (c:TT)(t u:TS):TS:=λD σ H=>c σ H λb H1=>if b=true then t D σ H1 else u D σ H1
theorem ps_if {c:Expr}{a b:List Stmt}{tc:TT}(hc:PT X c tc)(ha:PSs X a t)(hb:PSs X b u):PS X (.If c a b pos) (tIfS tc t u):=by
 intro lF s σ H D I h
 refine wpAny_If (lJ (hc lF s σ H _ I h) λd s1 ⟨H1,I1,q1⟩=>?_)
 cases d with
 | true=>exact ha lF s1 σ H1 D I1 q1
 | false=>exact hb lF s1 σ H1 D I1 q1
end
abbrev TG:=V->St->Hp->(St->Hp->Prop)->Prop
abbrev TGs:=List V->St->Hp->(St->Hp->Prop)->Prop
def PG (X:Cx)(target:Expr)(t:TG):Prop:=
 ∀(lF:List (Addr×Obj)) (s:Shared) (σ:St) (H:Hp) (v:V) (u:Value) (Q:St->Hp->Prop),Inv X lF σ H s->RelV v u->t v σ H Q->
  wpAny (model X.prog X.w) X.A (assign target X.env u) (λ_ s'=>∃σ' H',Inv X lF σ' H' s'/\Q σ' H') X.xe s
def PGs (X:Cx)(ts:List Expr)(t:TGs):Prop:=
 ∀(lF:List (Addr×Obj)) (s:Shared) (σ:St) (H:Hp) (vs:List V) (us:List Value) (Q:St->Hp->Prop),Inv X lF σ H s->Vals vs us->t vs σ H Q->
  wpAny (model X.prog X.w) X.A (assignInOrder ((assignEach ts X.env).map (·.2)) us) (λ_ s'=>∃σ' H',Inv X lF σ' H' s'/\Q σ' H') X.xe s
abbrev TSet:=V->V->V->Hp->(Hp->Prop)->Prop
def PSet (X:Cx)(t:TSet):Prop:=
 ∀(lF:List (Addr×Obj)) (s:Shared) (σ:St) (H:Hp) (o i v:V) (ov iv u:Value) (Q:Hp->Prop),Inv X lF σ H s->RelV o ov->RelV i iv->RelV v u->t o i v H Q->
  wpAny (model X.prog X.w) X.A (setItem ov iv u) (λ_ s'=>∃H',Inv X lF σ H' s'/\Q H') X.xe s
abbrev TIp:=V->V->Hp->VK->Prop
def PIp (X:Cx)(op:Operator)(t:TIp):Prop:=
 ∀(lF:List (Addr×Obj)) (s:Shared) (σ:St) (H:Hp) (x y:V) (v u:Value) (Q:VK),Inv X lF σ H s->RelV x v->RelV y u->t x y H Q->
  wpAny (model X.prog X.w) X.A (inplaceOp op v u) (EP X lF σ Q) X.xe s
def yA (i:Nat):TG:=λv σ H Q=>Q (σ.set i (some v)) H
theorem jF2 {i:Nat}{x:Str}(hN:X.N.Nodup)(hi:X.N[i]?=some x)(hx:Loc X.env.scope x)(hf:X.fn x=true\/X.env.scope.names.lookup x=some .local:=by first | exact .inl rfl | exact .inr rfl | assumption):PG X (.Name x pos) (yA i):=by
 intro lF s σ H v u Q I r h
 exact wpAny_assign_Name (jEV I hN hi hx r (λs' I'=>⟨_,H,I',h⟩) hf)
def gNil:TGs:=λvs σ H Q=>vs=[]/\Q σ H
def gCons (t:TG)(u:TGs):TGs:=λvs σ H Q=>∃v r,vs=v::r/\t v σ H λσ' H'=>u r σ' H' Q
theorem jQU:PGs X [] gNil:=by
 intro lF s σ H vs us Q I r h
 obtain⟨e,h⟩:=h
 subst e
 cases r
 exact assignInOrder_nil ⟨σ,H,I,h⟩
theorem jNS {e:Expr}{es:List Expr}{t:TG}{u:TGs}(h1:PG X e t)(h2:PGs X es u)
  (hs:(assignEach (e::es) X.env).map (·.2)=assign e X.env::(assignEach es X.env).map (·.2):=by rfl):PGs X (e::es) (gCons t u):=by
 intro lF s σ H vs us Q I r h
 obtain⟨v,vr,e1,h⟩:=h
 subst e1
 cases r with
 | cons r rr=>
  rw[hs]
  refine assignInOrder_cons (lJ (h1 lF s σ H _ _ _ I r h) λ_ s1 ⟨σ1,H1,I1,q1⟩=>?_)
  exact h2 lF s1 σ1 H1 _ _ Q I1 rr q1
def gTup (K:W.Frag)(n:Nat)(t:TGs):TG:=λv σ H Q=>∃a xs,v= .ref a/\SqT K H a xs/\xs.length=n/\t xs σ H Q
theorem jT0 {es:List Expr}{k:Nat}{t:TGs}{n:Nat}(hc:X.calm=true)(h:PGs X es t)
  (hn:(assignEach es X.env).length=n:=by rfl) (hst:(assignEach es X.env).findIdx? (·.1)=none:=by rfl):PG X (.Tuple es k pos) (gTup X.K n t):=by
 intro lF s σ H v u Q I r hw
 obtain⟨a,xs,e1,hq,hl,hw⟩:=hw
 subst e1
 cases r
 obtain⟨its,rv,ht,hz⟩:=I.tuple hq
 refine assign_Tuple_tuple (I.ok.hd hc) ht (by simp [hn,<- hl,rv.length]) hst λh' hx=>?_
 have I1:Inv X lF σ H { s with heap:=h'} :=I.kept (t':=s.toks) λb o e=>hx b o (aO (aq e)) e
 exact h lF _ σ H xs _ Q I1 (by simpa using rv) hw
def gSub (to ti:TE)(t:TSet):TG:=λv σ H Q=>to σ H λo H1=>ti σ H1 λi H2=>t o i v H2 λH3=>Q σ H3
theorem jT1 {o i:Expr}{to ti:TE}{t:TSet}(ho:PE X o to)(hi:PE X i ti)(hs:PSet X t)
  (ha:∀v,assign (.Subscript o i pos) X.env v=(do
   let ov <- holding [v] (eval o X.env)
   let iv <- holding [v,ov] (eval i X.env)
   standAt pos
   holding [v,ov,iv] (setItem ov iv v)
   release [v,ov,iv] []):=by intro _; rfl):PG X (.Subscript o i pos) (gSub to ti t):=by
 intro lF s σ H v u Q I r h
 rw[ha]
 refine aa (bD (lJ (ho lF s σ H _ I h) λov s1 ⟨x,H1,I1,r1,q1⟩=>?_))
 refine aa (bD (lJ (hi lF s1 σ H1 _ I1 q1) λiv s2 ⟨y,H2,I2,r2,q2⟩=>?_))
 refine aa (iW (aa (bD (lJ (hs lF s2 σ H2 x y v ov iv u _ I2 r1 r2 r q2) λ_ s3 ⟨H3,I3,q3⟩=>?_))))
 exact wpAny_release ⟨σ,H3,I3,q3⟩
def tAsg (te:TE)(g:TG):TS:=λD σ H=>te σ H λx H1=>g x σ H1 D.nx
theorem jPC {tg e:Expr}{te:TE}{g:TG}(he:PE X e te)(hg:PG X tg g)(hs:swapsWithSole [tg] e pos.line X.env=pure false:=by rfl)(hw:swappedStores [tg] e X.env=pure none:=by rfl)
  (h1:(assignEach [tg] X.env).map (·.2)=[assign tg X.env]:=by rfl):PS X (.Assign [tg] e pos) (tAsg te g):=by
 intro lF s σ H D I h
 refine wpAny_Assign_stores (lJ (he lF s σ H _ I h) λv s1 ⟨x,H1,I1,r1,q1⟩=>?_) hs hw
 rw[h1]
 exact lJ (hg lF s1 σ H1 x v _ I1 r1 q1) λ_ s2 q=>q
theorem qL {i:Nat}{x:Str}{e:Expr}{te:TE}{pos':Pos}(hN:X.N.Nodup)(hi:X.N[i]?=some x)(hx:Loc X.env.scope x)(he:PE X e te)(hs:swapsWith e (some (.Name x pos')) pos.line X.env=pure false:=by rfl)(hf:X.fn x=true\/X.env.scope.names.lookup x=some .local:=by first | exact .inl rfl | exact .inr rfl | assumption):
  PS X (.Assign [.Name x pos'] e pos) (tAsg te (yA i)):=by
 intro lF s σ H D I h
 refine wpAny_Assign_Name (lJ (he lF s σ H _ I h) λv s1 ⟨y,H1,I1,r1,q1⟩=>?_) hs
 exact jEV I1 hN hi hx r1 (λs2 I2=>⟨_,H1,I2,q1⟩) hf
def tAug (i:Nat)(te:TE)(ti:TIp):TS:=λD σ H=>∃x,σ[i]?=some (some x)/\te σ H λy H1=>ti x y H1 λz H2=>D.nx (σ.set i (some z)) H2
theorem jSW {i:Nat}{x:Str}{e:Expr}{te:TE}{op:Operator}{ti:TIp}{pos':Pos}(hN:X.N.Nodup)(hi:X.N[i]?=some x)(hx:Loc X.env.scope x)(he:PE X e te)(ho:PIp X op ti)(hf:X.fn x=true\/X.env.scope.names.lookup x=some .local:=by first | exact .inl rfl | exact .inr rfl | assumption):
  PS X (.AugAssign (.Name x pos') op e pos) (tAug i te ti):=by
 intro lF s σ H D I h
 obtain⟨v,e1,h⟩:=h
 obtain⟨m,hn,hl⟩:=I.loc
 have vis:Vis X.env.scope x:=by rcases hx with k | k; exact .inl k; exact .inr (.inl k)
 obtain⟨u,r,l⟩:=hl i x v hi e1 vis
 refine wpAny_AugAssign_Name ?_
 have go:wpAny (model X.prog X.w) X.A (eval e X.env) (λw s₂=>wpAny (model X.prog X.w) X.A (inplaceOp op u w) (λr s₃=>wpAny (model X.prog X.w) X.A (storeName X.env x r) (λ_=>SP X lF D .next) X.xe s₃) X.xe s₂) X.xe s:=by
  refine lJ (he lF s σ H _ I h) λw s1 ⟨y,H1,I1,r1,q1⟩=>?_
  refine lJ (ho lF s1 σ H1 v y u w _ I1 r r1 q1) λz s2 ⟨zv,H2,I2,r2,q2⟩=>?_
  exact jEV I2 hN hi hx r2 (λs3 I3=>⟨_,H2,I3,q2⟩) hf
 rcases l with ⟨hk,hm⟩ | ⟨hk,c,hc,hcell⟩
 ·exact wpAny_loadName_local I.ok.kind hk hn hm go
 ·rcases hk with hk | hk
  ·exact wpAny_loadName_cell I.ok.kind hk hc hcell go
  ·rcases hx with k | k
   ·have:X.env.scope.names.lookup x=some .free:=hk
    rw[k] at this; cases this
   ·have:X.env.scope.names.lookup x=some .free:=hk
    rw[k] at this; cases this
def ipI (f:Int->Int->Int):TIp:=λx y H Q=>∃i j,x= .int i/\y= .int j/\Q (.int (f i j)) H
theorem jTY:PIp X .Add (ipI λi j=>i+j):=by
 intro lF s σ H x y v u Q I r1 r2 h
 obtain⟨i,j,e1,e2,q⟩:=h
 subst e1; subst e2
 obtain⟨t,rfl⟩:=r1
 obtain⟨t',rfl⟩:=r2
 exact iadd_int ⟨.int _,H,I.tok _,⟨_,rfl⟩,q⟩
def jP0 (c:TT)(tb:TS):TS:=λD σ H=>∃W:Nat->St->Hp->Prop,(∃m,W m σ H)/\∀m σ H,W m σ H->
 c σ H λb H1=>if b=true then ∃N:St->Hp->Prop,(∀σ' H',N σ' H'->∃m',m'<m/\W m' σ' H')/\tb { D with nx:=N,ct:=N,bk:=D.nx} σ H1 else D.nx σ H1
theorem jNQ {c:Expr}{body:List Stmt}{tc:TT}{tb:TS}(hp:PassesOwn (model X.prog X.w) X.A X.env X.xe)(hc:PT X c tc)(hb:PSs X body tb):PS X (.While c body [] pos) (jP0 tc tb):=by
 intro lF s σ H D I h
 obtain⟨W,⟨m0,w0⟩,turn⟩:=h
 refine wpAny_While (codeAny_whileLoop (λn s'=>∃σ' H',Inv X lF σ' H' s'/\W n σ' H') ?_ m0 ⟨σ,H,I,w0⟩)
 rintro n s1 ⟨σ1,H1,I1,w1⟩
 refine dP hp (lJ (hc lF s1 σ1 H1 _ I1 (turn n σ1 H1 w1)) λb s2 ⟨H2,I2,q2⟩=>?_)
 cases b with
 | true=>
  obtain⟨N,hN,q2⟩:=q2
  rw[am rfl]
  refine dP hp (lJ (hb lF s2 σ1 H2 _ I2 q2) λf s3 q3=>?_)
  cases f with
  | next=>
   obtain⟨σ3,H3,I3,n3⟩:=q3
   obtain⟨m',hm,w3⟩:=hN σ3 H3 n3
   exact⟨m',hm,σ3,H3,I3,w3⟩
  | cont=>
   obtain⟨σ3,H3,I3,n3⟩:=q3
   obtain⟨m',hm,w3⟩:=hN σ3 H3 n3
   exact⟨m',hm,σ3,H3,I3,w3⟩
  | brk=>exact q3
  | ret v=>exact q3
 | false=>
  rw[ai ag]
  exact g8 ⟨σ1,H2,I2,q2⟩
structure It where
 go:Nat->Hp->Prop
 yld:Nat->Hp->V->Hp->Prop
 stop:Nat->Hp->Prop
def FpOk (X:Cx)(lF:List (Addr×Obj))(H:Hp)(b:Addr):Prop:=
 H b=none/\b≠X.env.locals/\b∉X.fs/\(b∈X.ex\/X.s₀.heap.objs.size<=b)/\(∀x c,X.env.cells.lookup x=some c->c≠b)/\∀p∈X.pn++lF,p.1≠b
theorem Inv.fpOk {X:Cx}{lF:List (Addr×Obj)}{σ:St}{H H':Hp}{s:Shared}{b:Addr}(I:Inv X lF σ H s)(hb:s.heap.objs.size<=b)(hn:H' b=none):FpOk X lF H' b:=by
 refine⟨hn,cK (aM I.lt hb),I.nofs hb, .inr (bM I.sz hb),λx c e z=>?_,λp hp z=>?_⟩
 ·obtain⟨v,q⟩:=I.cell x c e
  exact absurd (aM q.lt (by rw[z]; exact hb)) (cJ _)
 ·exact absurd (aM (aq (I.pin p hp).1) (by rw[z]; exact hb)) (cJ _)
structure Turn (P:Program)(w:World)(K:W.Frag)(tg:Expr)(J:It)(fp:List Addr)(it:Addr)(tn:Nat->Heap->Prop):Prop where
 mem:it∈fp
 obj:∀i h,tn i h->∀b∈fp,∃o,h.get? b=some o/\∀v,o.data≠ .cell v
 keep:∀i h h',tn i h->(∀b∈fp,∀o,h.get? b=some o->h'.get? b=some o)->tn i h'
 item:∀(X:Cx),X.prog=P->X.w=w->X.K=K->X.calm=true->∀(i:Nat) (lF:List (Addr×Obj)) (s:Shared) (σ:St) (H:Hp) (E:Value->Shared->Prop),Inv X lF σ H s->(∀b∈fp,FpOk X lF H b)->tn i s.heap->J.go i H->
  wpAny (model P w) X.A (pyNext (.ref it)) (λr s1=>∃u,r=some u/\
   wpAny (model P w) X.A (letOwnedTupleGo tg (.ref it) u) (λ_ s2=>∃x H',Inv X lF σ H' s2/\RelV x u/\J.yld i H x H'/\tn (i+1) s2.heap/\∀b∈fp,H' b=none) E s1) E s
 done:∀(X:Cx),X.prog=P->X.w=w->X.K=K->X.calm=true->∀(i:Nat) (lF:List (Addr×Obj)) (s:Shared) (σ:St) (H:Hp) (E:Value->Shared->Prop),Inv X lF σ H s->(∀b∈fp,FpOk X lF H b)->tn i s.heap->J.stop i H->
  wpAny (model P w) X.A (pyNext (.ref it)) (λr s1=>r=none/\Inv X lF σ H s1) E s
 self:∀(A:Around) (i:Nat) (s:Shared) (Q:Value->Shared->Prop) (E:Value->Shared->Prop),tn i s.heap->Q (.ref it) s->wpAny (model P w) A (pyIter (.ref it)) Q E s
abbrev TI:=St->Hp->(It->Hp->Prop)->Prop
def PIE (X:Cx)(lF:List (Addr×Obj))(σ:St)(tg:Expr)(R:It->Hp->Prop)(itv:Value)(s2:Shared):Prop:=
 ∃(it:Addr) (fp:List Addr) (tn:Nat->Heap->Prop) (J:It) (H':Hp),itv= .ref it/\Inv X lF σ H' s2/\Turn X.prog X.w X.K tg J fp it tn/\tn 0 s2.heap/\(∀b∈fp,FpOk X lF H' b)/\R J H'
def PI (X:Cx)(tg iter:Expr)(wi:TI):Prop:=
 ∀(lF:List (Addr×Obj)) (s:Shared) (σ:St) (H:Hp) (R:It->Hp->Prop),Inv X lF σ H s->wi σ H R->
  wpAny (model X.prog X.w) X.A (eval iter X.env) (λv s1=>wpAny (model X.prog X.w) X.A (pyIter v) (PIE X lF σ tg R) X.xe s1) X.xe s
theorem go_of {M:Model}{A:Around}{E:Value->Shared->Prop}{s:Shared}{tg:Expr}{it:Addr}{u:Value}{o:Obj}{n:String}{vs:Array Value}{Q:Unit->Shared->Prop}(ho:s.heap.get? it=some o)(hc:o.cls= .type n)(hd:o.data= .fields vs)
  (hn: ["enumerate","zip","dict_itemiterator","dict_reverseitemiterator","odict_iterator","itertools.zip_longest","itertools.pairwise"].contains n=false) (hQ:Q () s):wpAny M A (letOwnedTupleGo tg (.ref it) u) Q E s:=by
 unfold letOwnedTupleGo
 cases tg <;> first
  | exact ae hQ
  | (cases u <;> first
    | exact ae hQ
    | (refine aa (ga ho ?_)
       rw [hc, hd]
       show wpAny M A (if (["enumerate", "zip", "dict_itemiterator", "dict_reverseitemiterator", "odict_iterator", "itertools.zip_longest", "itertools.pairwise"].contains n && vs[0]? == some (rawInt _)) = true then _ else _) Q E s
       rw [ai (by intro h; rw [hn, cS] at h; cases h)]
       exact ae hQ))
def Itl (K:W.Frag)(a:Addr):It:=
 ⟨λi H=>∃xs x,SqL K H a xs/\xs[i]?=some x,λi H x H'=>H'=H/\∀xs,SqL K H a xs->xs[i]?=some x,λi H=>∃xs,SqL K H a xs/\xs.length<=i⟩
def Itt (K:W.Frag)(a:Addr):It:=
 ⟨λi H=>∃xs x,SqT K H a xs/\xs[i]?=some x,λi H x H'=>H'=H/\∀xs,SqT K H a xs->xs[i]?=some x,λi H=>∃xs,SqT K H a xs/\xs.length<=i⟩
def Itr (lo:Int)(n:Nat):It:=⟨λi _=>i<n,λi H x H'=>H'=H/\x= .int (lo+i),λi _=>n<=i⟩
theorem jKB {P:Program}{w:World}{K:W.Frag}{tg:Expr}(a it:Addr):Turn P w K tg (Itl K a) [it] it (λi h=>h.IsListIter it a i) where
 mem:=by simp
 obj:=λi h st b hb=>by
  have e:b=it:=by simpa using hb
  subst e
  obtain⟨o,e,c,d⟩:=st
  exact⟨o,e,λv z=>by rw[d] at z; cases z⟩
 keep:=λi h h' st k=>st.at λo e=>k it (by simp) o e
 item:=by
  intro X hP hw hK hc i lF s σ H E I hf st hg
  subst hP hw hK
  obtain⟨xs,x,hq,hx⟩:=hg
  obtain⟨its,rv,p,hz⟩:=I.list hq
  obtain⟨u,hu,ru⟩:=rv.get hx
  obtain⟨f0,f1,f2,f3,f4,f5⟩:=hf it (by simp)
  refine wpAny_pyNext_list_item st p.isList (x:=u) (by simpa using hu) λh' st' sb=>?_
  have I1:Inv X lF σ H { s with heap:=h'} :=I.turned (t':=s.toks) (λb o hb e=>(sb.2 b hb).trans e) f0 f1 f3 f4 f5
  obtain⟨o,e,c,d⟩:=id st'
  exact⟨u,rfl,go_of (s:= { s with heap:=h'}) e c d (by decide) ⟨x,H,I1,ru,⟨rfl,λys hy=>by rw[I.list_inj hy hq]; exact hx⟩,st',λb hb=>(hf b hb).1⟩⟩
 done:=by
  intro X hP hw hK hc i lF s σ H E I hf st hg
  subst hP hw hK
  obtain⟨xs,hq,hx⟩:=hg
  obtain⟨its,rv,p,hz⟩:=I.list hq
  obtain⟨f0,f1,f2,f3,f4,f5⟩:=hf it (by simp)
  have hl:=rv.length
  exact wpAny_pyNext_list_end (I.ok.hd hc) st p.isList (by simp; lia) λh' eb=>⟨rfl,I.turned (t':=s.toks) (λb o hb e=>eb b o hb e) f0 f1 f3 f4 f5⟩
 self:=λ_ _ _ _ _ st h=>wpAny_pyIter_listiter st h
theorem jJC {P:Program}{w:World}{K:W.Frag}{tg:Expr}(a it:Addr):Turn P w K tg (Itt K a) [it] it (λi h=>h.IsTupleIter it a i) where
 mem:=by simp
 obj:=λi h st b hb=>by
  have e:b=it:=by simpa using hb
  subst e
  obtain⟨o,e,c,d⟩:=st
  exact⟨o,e,λv z=>by rw[d] at z; cases z⟩
 keep:=λi h h' st k=>st.at λo e=>k it (by simp) o e
 item:=by
  intro X hP hw hK hc i lF s σ H E I hf st hg
  subst hP hw hK
  obtain⟨xs,x,hq,hx⟩:=hg
  obtain⟨its,rv,p,hz⟩:=I.tuple hq
  obtain⟨u,hu,ru⟩:=rv.get hx
  obtain⟨f0,f1,f2,f3,f4,f5⟩:=hf it (by simp)
  refine wpAny_pyNext_tuple_item st (show s.heap.IsTuple a its.toArray from p) (x:=u) (by simpa using hu) λh' st' sb=>?_
  have I1:Inv X lF σ H { s with heap:=h'} :=I.turned (t':=s.toks) (λb o hb e=>(sb.2 b hb).trans e) f0 f1 f3 f4 f5
  obtain⟨o,e,c,d⟩:=id st'
  exact⟨u,rfl,go_of (s:= { s with heap:=h'}) e c d (by decide) ⟨x,H,I1,ru,⟨rfl,λys hy=>by rw[I.tuple_inj hy hq]; exact hx⟩,st',λb hb=>(hf b hb).1⟩⟩
 done:=by
  intro X hP hw hK hc i lF s σ H E I hf st hg
  subst hP hw hK
  obtain⟨xs,hq,hx⟩:=hg
  obtain⟨its,rv,p,hz⟩:=I.tuple hq
  obtain⟨f0,f1,f2,f3,f4,f5⟩:=hf it (by simp)
  have hl:=rv.length
  exact wpAny_pyNext_tuple_end (I.ok.hd hc) st (show s.heap.IsTuple a its.toArray from p) (by simp; lia) λh' eb=>⟨rfl,I.turned (t':=s.toks) (λb o hb e=>eb b o hb e) f0 f1 f3 f4 f5⟩
 self:=λ_ _ _ _ _ st h=>wpAny_pyIter_tupleiter st h
theorem jJD {P:Program}{w:World}{K:W.Frag}{tg:Expr}(it:Addr)(lo:Int)(n:Nat):Turn P w K tg (Itr lo n) [it] it (λi h=>IsRangeIter h it (lo+(i:Nat)*1) ((n:Int) - (i:Nat)) 1) where
 mem:=by simp
 obj:=λi h st b hb=>by
  have e:b=it:=by simpa using hb
  subst e
  exact⟨_,st,λv z=>by
   have z':Data.fields _=Data.cell v:=z
   cases z'⟩
 keep:=λi h h' st k=>k it (by simp) _ st
 item:=by
  intro X hP hw hK hc i lF s σ H E I hf st hg
  subst hP hw hK
  obtain⟨f0,f1,f2,f3,f4,f5⟩:=hf it (by simp)
  have W:=Walks.range (prog:=X.prog) (w:=X.w) (I.ok.hd hc) it lo 1 n
  refine W.item i s _ _ hg st λv h' tk hv st' kk=>?_
  obtain⟨t,rfl⟩:=hv
  have I1:Inv X lF σ H { s with heap:=h',toks:=tk} :=I.turned (λb o hb e=>kk b o (by simpa using hb) e) f0 f1 f3 f4 f5
  refine⟨_,rfl,go_of (s:= { s with heap:=h',toks:=tk}) (n:= "range_iterator") st' rfl rfl (by decide) ⟨.int (lo+i),H,I1,⟨t,?_⟩,⟨rfl,rfl⟩,st',λb hb=>(hf b hb).1⟩⟩
  rw[Int.mul_one]
 done:=by
  intro X hP hw hK hc i lF s σ H E I hf st hg
  subst hP hw hK
  obtain⟨f0,f1,f2,f3,f4,f5⟩:=hf it (by simp)
  exact wpAny_pyNext_range_end (I.ok.hd hc) st (by have:n<=i:=hg; lia) λh' eb=>⟨rfl,I.turned (t':=s.toks) (λb o hb e=>eb b o hb e) f0 f1 f3 f4 f5⟩
 self:=λ_ _ _ _ _ st h=>wpAny_pyIter_rangeiter st h
section
variable {tg:Expr}
def iList (K:W.Frag)(tl:TE):TI:=λσ H R=>tl σ H λx H1=>∃a,x= .ref a/\(∃xs,SqL K H1 a xs)/\R (Itl K a) H1
def iTup (K:W.Frag)(tl:TE):TI:=λσ H R=>tl σ H λx H1=>∃a,x= .ref a/\(∃xs,SqT K H1 a xs)/\R (Itt K a) H1
theorem jQS {l:Expr}{tl:TE}(hl:PE X l tl):PI X tg l (iList X.K tl):=by
 intro lF s σ H R I h
 refine lJ (hl lF s σ H _ I h) λv s1 ⟨x,H1,I1,r1,q1⟩=>?_
 obtain⟨a,e,⟨xs,hq⟩,q⟩:=q1
 subst e
 cases r1
 obtain⟨its,rv,p,hz⟩:=I1.list hq
 refine cU p.isList ?_
 refine⟨s1.heap.objs.size,[s1.heap.objs.size],_,_,H1,rfl,I1.kept (t':=s1.toks) λb o e=>ab _ e,jKB a _,⟨_,ao _ rfl,rfl,rfl⟩,λb hb=>?_,q⟩
 have e:b=s1.heap.objs.size:=by simpa using hb
 subst e
 exact I1.fpOk (aj _) (I1.hok.fresh (aj _))
theorem jSZ {l:Expr}{tl:TE}(hl:PE X l tl):PI X tg l (iTup X.K tl):=by
 intro lF s σ H R I h
 refine lJ (hl lF s σ H _ I h) λv s1 ⟨x,H1,I1,r1,q1⟩=>?_
 obtain⟨a,e,⟨xs,hq⟩,q⟩:=q1
 subst e
 cases r1
 obtain⟨its,rv,p,hz⟩:=I1.tuple hq
 refine wpAny_pyIter_tuple (show s1.heap.IsTuple a its.toArray from p) ?_
 refine⟨s1.heap.objs.size,[s1.heap.objs.size],_,_,H1,rfl,I1.kept (t':=s1.toks) λb o e=>ab _ e,jJC a _,⟨_,ao _ rfl,rfl,rfl⟩,λb hb=>?_,q⟩
 have e:b=s1.heap.objs.size:=by simpa using hb
 subst e
 exact I1.fpOk (aj _) (I1.hok.fresh (aj _))
theorem jI8 {lF:List (Addr×Obj)}{σ:St}{H:Hp}{s:Shared}{R:It->Hp->Prop}{E:Value->Shared->Prop}{lo hi:Int}{t u v:Tok}{tk:Nat}(I:Inv X lF σ H s)(h1: -(2 ^ 62)<=lo)(h2:lo<2 ^ 62)(h3: -(2 ^ 62)<=hi)(h4:hi<2 ^ 62)
  (q:R (Itr lo (hi - lo).toNat) H):wpAny (model X.prog X.w) X.A (pyIter (.ref s.heap.objs.size)) (PIE X lF σ tg R) E { s with heap:=s.heap.push { cls:= .type "range",data:= .fields #[.int lo t, .int hi u, .int 1 v]},toks:=tk} :=by
 refine wpAny_pyIter_range (IsRange.new ..) (small_one h1 h2 h3 h4) ?_
 have I1:Inv X lF σ H { s with heap:=s.heap.push { cls:= .type "range",data:= .fields #[.int lo t, .int hi u, .int 1 v]},toks:=tk} :=I.kept λb o e=>ab _ e
 refine⟨(s.heap.push { cls:= .type "range",data:= .fields #[.int lo t, .int hi u, .int 1 v]}).objs.size,[(s.heap.push { cls:= .type "range",data:= .fields #[.int lo t, .int hi u, .int 1 v]}).objs.size],_,_,H,rfl,
  I1.kept (t':=tk) λb o e=>ab _ e,jJD _ lo (hi - lo).toNat,?_,λb hb=>?_,q⟩
 ·have e1:lo+((0:Nat):Int)*1=lo:=by simp
  have e2:(((hi - lo).toNat:Nat):Int) - ((0:Nat):Int)=Builtin.Range.rangeSize lo hi 1:=by rw[rangeSize_one]; split <;> lia
  show IsRangeIter _ _ (lo+((0:Nat):Int)*1) ((((hi - lo).toNat:Nat):Int) - ((0:Nat):Int)) 1
  rw[e1,e2]
  exact ao _ rfl
 ·have e:b=(s.heap.push { cls:= .type "range",data:= .fields #[.int lo t, .int hi u, .int 1 v]}).objs.size:=by simpa using hb
  subst e
  exact I1.fpOk (aj _) (I1.hok.fresh (aj _))
def iRng1 (ta:TA):TI:=λσ H R=>ta σ H λvs H1=>∃j:Int,vs=[.int j]/\ -(2 ^ 62)<=j/\j<2 ^ 62/\R (Itr 0 j.toNat) H1
def iRng2 (ta:TA):TI:=λσ H R=>ta σ H λvs H1=>∃i j:Int,vs=[.int i, .int j]/\(-(2 ^ 62)<=i/\i<2 ^ 62/\ -(2 ^ 62)<=j/\j<2 ^ 62)/\R (Itr i (j - i).toNat) H1
theorem jBY {a:Expr}{ta:TA}{p pos:Pos}(hg:Gl X "range")(hm:X.mg "range" =none)(ha:PA X [a] ta)(hs:starEach [a] X.env=[(false,eval a X.env)]:=by rfl):PI X tg (.Call (.Name "range" p) [a] [] pos) (iRng1 ta):=by
 intro lF s σ H R I h
 refine Call_ (jD4 I hg hm boot_range (cO (lJ (ha pos lF s σ H _ I h) λus s1 ⟨vs,H1,I1,r1,q1⟩=>?_) hs rfl))
 obtain⟨j,e,q1,q2,q⟩:=q1
 subst e
 cases r1 with
 | cons r rr=>
  cases rr
  obtain⟨t,rfl⟩:=r
  exact call_range_1 (jI8 I1 (by lia) (by lia) q1 q2 (by simpa using q))
theorem jKY {a b:Expr}{ta:TA}{p pos:Pos}(hg:Gl X "range")(hm:X.mg "range" =none)(ha:PA X [a,b] ta)(hs:starEach [a,b] X.env=[(false,eval a X.env),(false,eval b X.env)]:=by rfl)(hs2:starEach [b] X.env=[(false,eval b X.env)]:=by rfl):
  PI X tg (.Call (.Name "range" p) [a,b] [] pos) (iRng2 ta):=by
 intro lF s σ H R I h
 refine Call_ (jD4 I hg hm boot_range (cO (lJ (ha pos lF s σ H _ I h) λus s1 ⟨vs,H1,I1,r1,q1⟩=>?_) (by rw[hs,hs2]) (by rw[hs2]; rfl)))
 obtain⟨i,j,e,⟨q1,q2,q3,q4⟩,q⟩:=q1
 subst e
 cases r1 with
 | cons r rr=>
  cases rr with
  | cons r' rr=>
   cases rr
   obtain⟨t,rfl⟩:=r
   obtain⟨t',rfl⟩:=r'
   exact call_range_2 (jI8 I1 q1 q2 q3 q4 q)
def tFor (wi:TI)(g:TG)(tb:TS):TS:=λD σ H=>wi σ H λJ H1=>∃W:Nat->Nat->St->Hp->Prop,(∃m,W 0 m σ H1)/\∀i m σ H,W i m σ H->
 (J.stop i H/\D.nx σ H)\/(J.go i H/\∃N:St->Hp->Prop,(∀σ' H',N σ' H'->∃m',m'<m/\W (i+1) m' σ' H')/\∀x H',J.yld i H x H'->g x σ H' λσ2 H2=>tb { D with nx:=N,ct:=N,bk:=D.nx} σ2 H2)
def jGB (fp:List Addr)(h:Heap):List (Addr×Obj):=fp.filterMap λb=>(h.get? b).map λo=>(b,o)
theorem jBE {fp:List Addr}{h:Heap}{b:Addr}{o:Obj}(hb:b∈fp)(e:h.get? b=some o):(b,o)∈jGB fp h:=lj.mpr ⟨b,hb,by rw[e]; rfl⟩
theorem jLA {fp:List Addr}{h:Heap}{p:Addr×Obj}(hp:p∈jGB fp h):p.1∈fp/\h.get? p.1=some p.2:=by
 obtain⟨b,hb,e⟩:=lj.mp hp
 cases q:h.get? b with
 | none=>rw[q] at e; cases e
 | some o=>
  rw[q] at e
  have e':(b,o)=p:=bG e
  subst e'
  exact⟨hb,q⟩
theorem Inv.pinned {lF:List (Addr×Obj)}{σ:St}{H:Hp}{s:Shared}{fp:List Addr}(I:Inv X lF σ H s)(hf:∀b∈fp,FpOk X lF H b)(ho:∀b∈fp,∃o,s.heap.get? b=some o/\∀v,o.data≠ .cell v):Inv X (lF++jGB fp s.heap) σ H s:=
 I.pins_of λp hp=>(aK.mp hp).elim (λz=>I.pin p (au _ z)) λz=>by
  obtain⟨hb,e⟩:=jLA z
  obtain⟨f0,f1,f2,_⟩:=hf p.1 hb
  obtain⟨o,e',d⟩:=ho p.1 hb
  rw[e] at e'; cases e'
  exact⟨e,f0,f1,f2,d⟩
theorem Inv.unpinned {lF pl:List (Addr×Obj)}{σ:St}{H:Hp}{s:Shared}(I:Inv X (lF++pl) σ H s):Inv X lF σ H s:=I.pins_of λp hp=>I.pin p (au _ (aQ _ hp))
theorem jPB {iter:Expr}{body:List Stmt}{wi:TI}{g:TG}{tb:TS}{pos:Pos}(hp:PassesOwn (model X.prog X.w) X.A X.env X.xe)(hc:X.calm=true)(hi:PI X tg iter wi)(hg:PG X tg g)(hb:PSs X body tb)
  (hs:∀x,foldedSetIterable iter X.env x=pure x:=by intro _; rfl):PS X (.For tg iter body [] pos) (tFor wi g tb):=by
 intro lF s σ H D I h
 refine wpAny_For (lJ (hi lF s σ H _ I h) λv s1 h1=>lJ h1 λitv s2 h2=>?_) hs
 obtain⟨it,fp,tn,J,H2,e,I2,T,st2,f2,W,⟨m0,w0⟩,turn⟩:=h2
 subst e
 have stat:∀{H':Hp},(∀b∈fp,H' b=none)->∀b∈fp,FpOk X lF H' b:=λhn b hb=>⟨hn b hb,(f2 b hb).2⟩
 refine codeAny_forLoop_any (λn s'=>∃i σ' H',Inv X lF σ' H' s'/\tn i s'.heap/\(∀b∈fp,H' b=none)/\W i n σ' H') ?_ m0 ⟨0,σ,H2,I2,st2,λb hb=>(f2 b hb).1,w0⟩
 rintro n s3 ⟨i,σ3,H3,I3,st3,fr3,w3⟩
 rcases turn i n σ3 H3 w3 with ⟨stop,qn⟩ | ⟨go,N,hN,step⟩
 ·refine dP hp (lJ (T.done X rfl rfl rfl hc i lF s3 σ3 H3 X.xe I3 (stat fr3) st3 stop) λr s4 ⟨hr,I4⟩=>?_)
  subst hr
  exact g8 ⟨σ3,H3,I4,qn⟩
 ·refine dP hp (lJ (T.item X rfl rfl rfl hc i lF s3 σ3 H3 X.xe I3 (stat fr3) st3 go) λr s4 ⟨u,hr,h4⟩=>?_)
  subst hr
  refine dP hp (lJ h4 λ_ s5 ⟨x,H5,I5,r5,y5,st5,fr5⟩=>?_)
  have I5':=I5.pinned (stat fr5) (T.obj _ _ st5)
  refine dP hp (lJ (hg _ s5 σ3 H5 x u _ I5' r5 (step x H5 y5)) λ_ s6 ⟨σ6,H6,I6,q6⟩=>?_)
  refine dP hp (lJ (hb _ s6 σ6 H6 _ I6 q6) λf s7 q7=>?_)
  have again:∀{σ7:St}{H7:Hp},Inv X (lF++jGB fp s5.heap) σ7 H7 s7->N σ7 H7->∃m,m<n/\∃i σ' H',Inv X lF σ' H' s7/\tn i s7.heap/\(∀b∈fp,H' b=none)/\W i m σ' H':=λ{σ7 H7} I7 n7=>by
   obtain⟨m',hm,w7⟩:=hN σ7 H7 n7
   refine⟨m',hm,i+1,σ7,H7,I7.unpinned,T.keep _ _ _ st5 λb hb o e=>(I7.pin (b,o) (au _ (au _ (jBE hb e)))).1,λb hb=>?_,w7⟩
   obtain⟨o,e,d⟩:=T.obj _ _ st5 b hb
   exact(I7.pin (b,o) (au _ (au _ (jBE hb e)))).2.1
  cases f with
  | next=>obtain⟨σ7,H7,I7,n7⟩:=q7; exact again I7 n7
  | cont=>obtain⟨σ7,H7,I7,n7⟩:=q7; exact again I7 n7
  | brk=>obtain⟨σ7,H7,I7,q7⟩:=q7; exact⟨σ7,H7,I7.unpinned,q7⟩
  | ret v=>obtain⟨x7,σ7,H7,I7,r7,q7⟩:=q7; exact⟨x7,σ7,H7,I7.unpinned,r7,q7⟩
end
theorem jFL {K:W.Frag}{a:Addr}{xs:List V}{g:TG}{tb:TS}{D:Ends}{σ:St}{H:Hp}(Pv:Nat->St->Hp->Prop)(h0:Pv 0 σ H)(hl:∀i σ H,i<=xs.length->Pv i σ H->SqL K H a xs)
  (hs:∀i x σ H,xs[i]?=some x->Pv i σ H->g x σ H λσ2 H2=>tb { D with nx:=Pv (i+1),ct:=Pv (i+1),bk:=D.nx} σ2 H2) (hd:∀σ H,Pv xs.length σ H->D.nx σ H):
  ∃W:Nat->Nat->St->Hp->Prop,(∃m,W 0 m σ H)/\∀i m σ H,W i m σ H->
   ((Itl K a).stop i H/\D.nx σ H)\/((Itl K a).go i H/\∃N:St->Hp->Prop,(∀σ' H',N σ' H'->∃m',m'<m/\W (i+1) m' σ' H')/\∀x H',(Itl K a).yld i H x H'->g x σ H' λσ2 H2=>tb { D with nx:=N,ct:=N,bk:=D.nx} σ2 H2):=by
 refine⟨λi m σ H=>m=xs.length - i/\i<=xs.length/\Pv i σ H,⟨xs.length,by simp,aS _,h0⟩,?_⟩
 rintro i m σ H ⟨rfl,hi,p⟩
 have q:=hl i σ H hi p
 by_cases hlt:i<xs.length
 ·refine .inr ⟨⟨xs,xs[i],q,by simp [hlt]⟩,Pv (i+1),λσ' H' p'=>⟨xs.length - (i+1),by lia,rfl,hlt,p'⟩,λx H' y=>?_⟩
  obtain⟨e,y⟩:=y
  subst e
  exact hs i x σ _ (y xs q) p
 ·have e:i=xs.length:=by lia
  subst e
  exact .inl ⟨⟨xs,q,aj _⟩,hd σ H p⟩
theorem jHS {K:W.Frag}{a:Addr}{xs:List V}{g:TG}{tb:TS}{D:Ends}{σ:St}{H:Hp}(Pv:Nat->St->Hp->Prop)(h0:Pv 0 σ H)(hl:∀i σ H,i<=xs.length->Pv i σ H->SqT K H a xs)
  (hs:∀i x σ H,xs[i]?=some x->Pv i σ H->g x σ H λσ2 H2=>tb { D with nx:=Pv (i+1),ct:=Pv (i+1),bk:=D.nx} σ2 H2) (hd:∀σ H,Pv xs.length σ H->D.nx σ H):
  ∃W:Nat->Nat->St->Hp->Prop,(∃m,W 0 m σ H)/\∀i m σ H,W i m σ H->
   ((Itt K a).stop i H/\D.nx σ H)\/((Itt K a).go i H/\∃N:St->Hp->Prop,(∀σ' H',N σ' H'->∃m',m'<m/\W (i+1) m' σ' H')/\∀x H',(Itt K a).yld i H x H'->g x σ H' λσ2 H2=>tb { D with nx:=N,ct:=N,bk:=D.nx} σ2 H2):=by
 refine⟨λi m σ H=>m=xs.length - i/\i<=xs.length/\Pv i σ H,⟨xs.length,by simp,aS _,h0⟩,?_⟩
 rintro i m σ H ⟨rfl,hi,p⟩
 have q:=hl i σ H hi p
 by_cases hlt:i<xs.length
 ·refine .inr ⟨⟨xs,xs[i],q,by simp [hlt]⟩,Pv (i+1),λσ' H' p'=>⟨xs.length - (i+1),by lia,rfl,hlt,p'⟩,λx H' y=>?_⟩
  obtain⟨e,y⟩:=y
  subst e
  exact hs i x σ _ (y xs q) p
 ·have e:i=xs.length:=by lia
  subst e
  exact .inl ⟨⟨xs,q,aj _⟩,hd σ H p⟩
theorem jCA {lo:Int}{n:Nat}{g:TG}{tb:TS}{D:Ends}{σ:St}{H:Hp}(Pv:Nat->St->Hp->Prop)(h0:Pv 0 σ H)
  (hs:∀i σ H,i<n->Pv i σ H->g (.int (lo+i)) σ H λσ2 H2=>tb { D with nx:=Pv (i+1),ct:=Pv (i+1),bk:=D.nx} σ2 H2) (hd:∀σ H,Pv n σ H->D.nx σ H):
  ∃W:Nat->Nat->St->Hp->Prop,(∃m,W 0 m σ H)/\∀i m σ H,W i m σ H->
   ((Itr lo n).stop i H/\D.nx σ H)\/((Itr lo n).go i H/\∃N:St->Hp->Prop,(∀σ' H',N σ' H'->∃m',m'<m/\W (i+1) m' σ' H')/\∀x H',(Itr lo n).yld i H x H'->g x σ H' λσ2 H2=>tb { D with nx:=N,ct:=N,bk:=D.nx} σ2 H2):=by
 refine⟨λi m σ H=>m=n - i/\i<=n/\Pv i σ H,⟨n,by simp,aS _,h0⟩,?_⟩
 rintro i m σ H ⟨rfl,hi,p⟩
 by_cases hlt:i<n
 ·refine .inr ⟨hlt,Pv (i+1),λσ' H' p'=>⟨n - (i+1),by lia,rfl,hlt,p'⟩,λx H' y=>?_⟩
  obtain⟨e,y⟩:=y
  subst e y
  exact hs i σ _ hlt p
 ·have e:i=n:=by lia
  subst e
  exact .inl ⟨aj _,hd σ H p⟩
abbrev R2:=V->V->Hp->VK->Prop
def OpR (X:Cx)(f:Value->Value->Sem Value)(r:R2):Prop:=
 ∀(lF:List (Addr×Obj)) (s:Shared) (σ:St) (H:Hp) (x y:V) (v u:Value) (Q:VK),Inv X lF σ H s->RelV x v->RelV y u->r x y H Q->
  wpAny (model X.prog X.w) X.A (f v u) (EP X lF σ Q) X.xe s
def UnR (X:Cx)(f:Value->Sem Value)(r:V->Hp->VK->Prop):Prop:=
 ∀(lF:List (Addr×Obj)) (s:Shared) (σ:St) (H:Hp) (x:V) (v:Value) (Q:VK),Inv X lF σ H s->RelV x v->r x H Q->
  wpAny (model X.prog X.w) X.A (f v) (EP X lF σ Q) X.xe s
def yT (X:Cx)(f:Value)(r:List V->Hp->VK->Prop):Prop:=
 ∀(lF:List (Addr×Obj)) (s:Shared) (σ:St) (H:Hp) (xs:List V) (us:List Value) (Q:VK),Inv X lF σ H s->Vals xs us->r xs H Q->
  wpAny (model X.prog X.w) X.A (call f us) (EP X lF σ Q) X.xe s
def tOp (r:R2)(ta tb:TE):TE:=λσ H Q=>ta σ H λx H1=>tb σ H1 λy H2=>r x y H2 Q
def tUn (r:V->Hp->VK->Prop)(ta:TE):TE:=λσ H Q=>ta σ H λx H1=>r x H1 Q
def rI (C:Int->Int->Prop)(g:Int->Int->V):R2:=λx y H Q=>∃i j,x= .int i/\y= .int j/\C i j/\Q (g i j) H
def rI0 (g:Int->Int->V):R2:=λx y H Q=>∃i j,x= .int i/\y= .int j/\Q (g i j) H
def rU (g:Int->V):V->Hp->VK->Prop:=λx H Q=>∃i,x= .int i/\Q (g i) H
variable {c:Expr}{tc:TE}
section
variable {a:Expr}
theorem binT (ha:PE X a ta)(hb:PE X b tb){lF:List (Addr×Obj)}{s:Shared}{σ:St}{H:Hp}{R:V->V->Hp->Prop}(I:Inv X lF σ H s)
  (h:ta σ H λx H1=>tb σ H1 λy H2=>R x y H2) {Q:Value->Shared->Prop}{f:Value->Value->Sem Value}
  (hf:∀v u s2 x y H2,Inv X lF σ H2 s2->RelV x v->RelV y u->R x y H2->wpAny (model X.prog X.w) X.A (f v u) Q X.xe s2):
  wpAny (model X.prog X.w) X.A (eval a X.env) (λv s₁=>wpAny (model X.prog X.w) X.A (eval b X.env) (λu s₂=>wpAny (model X.prog X.w) X.A (f v u) Q X.xe s₂) X.xe s₁) X.xe s:=by
 refine lJ (ha lF s σ H _ I h) λv s1 ⟨x,H1,I1,r1,q1⟩=>?_
 refine lJ (hb lF s1 σ H1 _ I1 q1) λu s2 ⟨y,H2,I2,r2,q2⟩=>?_
 exact hf v u s2 x y H2 I2 r1 r2 q2
theorem kX {op:Operator}{r:R2}(ho:OpR X (binaryOp op) r)(ha:PE X a ta)(hb:PE X b tb):PE X (.BinOp a op b pos) (tOp r ta tb):=by
 intro lF s σ H Q I h
 exact wpAny_BinOp (binT ha hb I h λv u s2 x y H2 I2 rx ry q=>ho lF s2 σ H2 x y v u Q I2 rx ry q)
theorem pe_un {op:UnaryOp}{r:V->Hp->VK->Prop}(ho:UnR X (unaryOp op) r)(ha:PE X a ta):PE X (.UnaryOp op a pos) (tUn r ta):=by
 intro lF s σ H Q I h
 exact UnaryOp_ (lJ (ha lF s σ H _ I h) λv s1 ⟨x,H1,I1,r1,q1⟩=>ho lF s1 σ H1 x v Q I1 r1 q1)
theorem opI {f:Value->Value->Sem Value}{C:Int->Int->Prop}{g:Int->Int->Int}
  (rule:∀(i j:Int) (t u:Tok) (s:Shared) (Q:Value->Shared->Prop) (E:Value->Shared->Prop),C i j->Q (.int (g i j) s.toks) { s with toks:=s.toks+1} ->wpAny (model X.prog X.w) X.A (f (.int i t) (.int j u)) Q E s):
  OpR X f (rI C λi j=> .int (g i j)):=by
 intro lF s σ H x y v u Q I rx ry h
 obtain⟨i,j,rfl,rfl,hc,q⟩:=h
 obtain⟨t,rfl⟩:=rx
 obtain⟨t',rfl⟩:=ry
 exact rule i j t t' s _ _ hc ⟨.int (g i j),H,I.tok _,⟨_,rfl⟩,q⟩
theorem opI0 {f:Value->Value->Sem Value}{g:Int->Int->Int}
  (rule:∀(i j:Int) (t u:Tok) (s:Shared) (Q:Value->Shared->Prop) (E:Value->Shared->Prop),Q (.int (g i j) s.toks) { s with toks:=s.toks+1} ->wpAny (model X.prog X.w) X.A (f (.int i t) (.int j u)) Q E s):
  OpR X f (rI0 λi j=> .int (g i j)):=by
 intro lF s σ H x y v u Q I rx ry h
 obtain⟨i,j,rfl,rfl,q⟩:=h
 obtain⟨t,rfl⟩:=rx
 obtain⟨t',rfl⟩:=ry
 exact rule i j t t' s _ _ ⟨.int (g i j),H,I.tok _,⟨_,rfl⟩,q⟩
theorem opB0 {f:Value->Value->Sem Value}{g:Int->Int->Bool}
  (rule:∀(i j:Int) (t u:Tok) (s:Shared) (Q:Value->Shared->Prop) (E:Value->Shared->Prop),Q (.bool (g i j)) s->wpAny (model X.prog X.w) X.A (f (.int i t) (.int j u)) Q E s):
  OpR X f (rI0 λi j=> .bl (g i j)):=by
 intro lF s σ H x y v u Q I rx ry h
 obtain⟨i,j,rfl,rfl,q⟩:=h
 obtain⟨t,rfl⟩:=rx
 obtain⟨t',rfl⟩:=ry
 exact rule i j t t' s _ _ ⟨.bl (g i j),H,I,rfl,q⟩
def CPow (i j:Int):Prop:=0<=j/\j<=1000000/\i.natAbs<2 ^ 64
def CMul (i j:Int):Prop:=(-(2 ^ 64)<i/\i<2 ^ 64)\/(-(2 ^ 64)<j/\j<2 ^ 64)
theorem CMul.ok {i j:Int}(h:CMul i j):IntMulOk i j:=by
 rcases h with ⟨h1,h2⟩ | ⟨h1,h2⟩
 ·exact .of_left (intBits_le_64 h1 h2)
 ·exact .of_right (intBits_le_64 h1 h2)
theorem jJB (k:Nat):(0:Int)<=2 ^ k:=by
 rw[two_pow_cast]
 exact gb _
theorem kT:OpR X (binaryOp .Add) (rI0 λi j=> .int (i+j)):=opI0 λ_ _ _ _ _ _ _ q=>add_int q
theorem jC0:OpR X (binaryOp .Sub) (rI0 λi j=> .int (i - j)):=opI0 λ_ _ _ _ _ _ _ q=>sub_int q
theorem jC1:OpR X (binaryOp .Mult) (rI CMul λi j=> .int (i*j)):=opI λ_ _ _ _ _ _ _ hc q=>mul_int q hc.ok
theorem jEK:OpR X (binaryOp .Mod) (rI (λ_ j=>0<j) λi j=> .int (i % j)):=opI λi j _ _ _ _ _ hc q=>by
 have h1:(0:Int)<j:=hc
 exact mod_int' (by lia) (by rw[Int.fmod_eq_emod_of_nonneg i (by lia)]; exact q)
theorem jL3:OpR X (binaryOp .Pow) (rI CPow λi j=> .int (i ^ j.toNat)):=opI λ_ _ _ _ _ _ _ hc q=>pow_int_small hc.1 hc.2.1 hc.2.2 q
theorem jGC:OpR X (binaryOp .LShift) (rI CPow λi j=> .int (i*2 ^ j.toNat)):=opI λ_ _ _ _ _ _ _ hc q=>lshift_int_small hc.1 hc.2.1 hc.2.2 q
theorem jTB:OpR X (binaryOp .RShift) (rI (λ_ j=>0<=j) λi j=> .int (i / 2 ^ j.toNat)):=opI λi j _ _ _ _ _ hc q=>
 rshift_int hc (by rw[ir i (jJB _)]; exact q)
theorem jL6:OpR X (binaryOp .BitAnd) (rI0 λi j=> .int (Builtin.bitAnd i j)):=opI0 λ_ _ _ _ _ _ _ q=>and_int q
theorem op_or:OpR X (binaryOp .BitOr) (rI0 λi j=> .int (Builtin.bitOr i j)):=opI0 λ_ _ _ _ _ _ _ q=>or_int q
theorem unI {f:Value->Sem Value}{g:Int->Int}
  (rule:∀(i:Int) (t:Tok) (s:Shared) (Q:Value->Shared->Prop) (E:Value->Shared->Prop),Q (.int (g i) s.toks) { s with toks:=s.toks+1} ->wpAny (model X.prog X.w) X.A (f (.int i t)) Q E s):
  UnR X f (rU λi=> .int (g i)):=by
 intro lF s σ H x v Q I rx h
 obtain⟨i,rfl,q⟩:=h
 obtain⟨t,rfl⟩:=rx
 exact rule i t s _ _ ⟨.int (g i),H,I.tok _,⟨_,rfl⟩,q⟩
theorem qI:UnR X (unaryOp .USub) (rU λi=> .int (-i)):=unI λ_ _ _ _ _ q=>neg_int q
theorem jSH:UnR X (unaryOp .Invert) (rU λi=> .int (Builtin.bitNot i)):=unI λ_ _ _ _ _ q=>invert_int q
end
noncomputable def scal:V->V->Bool
 | .non, .non=>true | .non, .int _=>true | .int _, .non=>true | .non, .bl _=>true | .bl _, .non=>true | .non, .str _=>true | .str _, .non=>true
 | .int _, .int _=>true | .bl _, .bl _=>true | .str _, .str _=>true | .byt _, .byt _=>true
 | .int _, .str _=>true | .str _, .int _=>true | .bl _, .str _=>true | .str _, .bl _=>true
 | _,_=>false
def rEq:R2:=λx y H Q=>scal x y=true/\Q (.bl (decide (x=y))) H
def rNe:R2:=λx y H Q=>scal x y=true/\Q (.bl (!decide (x=y))) H
theorem jMH {i j:Int} :decide (V.int i=V.int j)=(i==j):=by
 rw[bH]
 simp
theorem jQ6 {i j:Bool} :decide (V.bl i=V.bl j)=(i==j):=by
 rw[bH]
 simp
theorem jMG {i j:Str} :decide (V.str i=V.str j)=(i==j):=by
 rw[bH]
 simp
theorem jMI {i j:Array UInt8} :decide (V.byt i=V.byt j)=(i.toList==j.toList):=by
 rw[bH]
 cases i
 cases j
 simp
section
variable {a:Expr}
theorem kG {lF:List (Addr×Obj)}{σ:St}{H:Hp}{s:Shared}{Q:VK}{k k':Bool}(I:Inv X lF σ H s)(q:Q (.bl k) H)(e:k=k'):EP X lF σ Q (.bool k') s:=by
 subst e
 exact⟨.bl k,H,I,rfl,q⟩
theorem yR:OpR X (compareOp .Eq) rEq:=by
 intro lF s σ H x y v u Q I rx ry h
 obtain⟨hs,q⟩:=h
 cases x with
 | non=>
  cases rx
  cases y with
  | non=>cases ry; exact PySem.EqNone.eq_none_none (kG I q (by simp))
  | bl j=>cases ry; exact PySem.EqNone.eq_none_bool (kG I q (by simp))
  | int j=>obtain⟨t',rfl⟩:=ry; exact PySem.EqNone.eq_none_int (kG I q (by simp))
  | str j=>obtain⟨t',rfl⟩:=ry; exact PySem.EqNone.eq_none_str (kG I q (by simp))
  | _=>exact absurd (show false=true from hs) ag
 | bl i=>
  cases rx
  cases y with
  | non=>cases ry; exact PySem.EqNone.eq_bool_none (kG I q (by simp))
  | bl j=>cases ry; exact eq_bool (kG I q jQ6)
  | str j=>obtain⟨t',rfl⟩:=ry; exact PySem.EqMixed.eq_bool_str (kG I q (by simp))
  | _=>exact absurd (show false=true from hs) ag
 | int i=>
  obtain⟨t,rfl⟩:=rx
  cases y with
  | non=>cases ry; exact PySem.EqNone.eq_int_none (kG I q (by simp))
  | int j=>obtain⟨t',rfl⟩:=ry; exact eq_int (kG I q jMH)
  | str j=>obtain⟨t',rfl⟩:=ry; exact PySem.EqMixed.eq_int_str (kG I q (by simp))
  | _=>exact absurd (show false=true from hs) ag
 | str i=>
  obtain⟨t,rfl⟩:=rx
  cases y with
  | non=>cases ry; exact PySem.EqNone.eq_str_none (kG I q (by simp))
  | bl j=>cases ry; exact PySem.EqMixed.eq_str_bool (kG I q (by simp))
  | int j=>obtain⟨t',rfl⟩:=ry; exact PySem.EqMixed.eq_str_int (kG I q (by simp))
  | str j=>obtain⟨t',rfl⟩:=ry; exact eq_str (kG I q jMG)
  | _=>exact absurd (show false=true from hs) ag
 | byt i=>
  obtain⟨t,rfl⟩:=rx
  cases y with
  | byt j=>obtain⟨t',rfl⟩:=ry; exact PySem.W.eq_bytes (kG I q jMI)
  | _=>exact absurd (show false=true from hs) ag
 | _=>cases y <;> exact absurd (show false=true from hs) ag
theorem op_ne:OpR X (compareOp .NotEq) rNe:=by
 intro lF s σ H x y v u Q I rx ry h
 obtain⟨hs,q⟩:=h
 cases x with
 | non=>
  cases rx
  cases y with
  | non=>cases ry; exact PySem.EqNone.ne_none_none (kG I q (by simp))
  | bl j=>cases ry; exact PySem.EqNone.ne_none_bool (kG I q (by simp))
  | int j=>obtain⟨t',rfl⟩:=ry; exact PySem.EqNone.ne_none_int (kG I q (by simp))
  | str j=>obtain⟨t',rfl⟩:=ry; exact PySem.EqNone.ne_none_str (kG I q (by simp))
  | _=>exact absurd (show false=true from hs) ag
 | bl i=>
  cases rx
  cases y with
  | non=>cases ry; exact PySem.EqNone.ne_bool_none (kG I q (by simp))
  | bl j=>cases ry; exact ne_bool (kG I q (bQ not jQ6))
  | str j=>obtain⟨t',rfl⟩:=ry; exact PySem.EqMixed.ne_bool_str (kG I q (by simp))
  | _=>exact absurd (show false=true from hs) ag
 | int i=>
  obtain⟨t,rfl⟩:=rx
  cases y with
  | non=>cases ry; exact PySem.EqNone.ne_int_none (kG I q (by simp))
  | int j=>obtain⟨t',rfl⟩:=ry; exact ne_int (kG I q (bQ not jMH))
  | str j=>obtain⟨t',rfl⟩:=ry; exact PySem.EqMixed.ne_int_str (kG I q (by simp))
  | _=>exact absurd (show false=true from hs) ag
 | str i=>
  obtain⟨t,rfl⟩:=rx
  cases y with
  | non=>cases ry; exact PySem.EqNone.ne_str_none (kG I q (by simp))
  | bl j=>cases ry; exact PySem.EqMixed.ne_str_bool (kG I q (by simp))
  | int j=>obtain⟨t',rfl⟩:=ry; exact PySem.EqMixed.ne_str_int (kG I q (by simp))
  | str j=>obtain⟨t',rfl⟩:=ry; exact ne_str (kG I q (bQ not jMG))
  | _=>exact absurd (show false=true from hs) ag
 | byt i=>
  obtain⟨t,rfl⟩:=rx
  cases y with
  | byt j=>obtain⟨t',rfl⟩:=ry; exact PySem.W.ne_bytes (kG I q (bQ not jMI))
  | _=>exact absurd (show false=true from hs) ag
 | _=>cases y <;> exact absurd (show false=true from hs) ag
theorem op_lt:OpR X (compareOp .Lt) (rI0 λi j=> .bl (decide (i<j))):=opB0 λ_ _ _ _ _ _ _ q=>lt_int q
theorem op_le:OpR X (compareOp .LtE) (rI0 λi j=> .bl (decide (i<=j))):=opB0 λ_ _ _ _ _ _ _ q=>le_int q
theorem op_gt:OpR X (compareOp .Gt) (rI0 λi j=> .bl (decide (j<i))):=opB0 λ_ _ _ _ _ _ _ q=>gt_int q
theorem op_ge:OpR X (compareOp .GtE) (rI0 λi j=> .bl (decide (j<=i))):=opB0 λ_ _ _ _ _ _ _ q=>ge_int q
theorem jPH:OpR X (compareOp .Is) (λx y H Q=>y= .non/\Q (.bl (decide (x= .non))) H):=by
 intro lF s σ H x y v u Q I rx ry h
 obtain⟨rfl,q⟩:=h
 cases ry
 refine is_none_gen (kG I q ?_)
 cases x <;> first
  | (cases rx; rfl)
  | (obtain⟨t,rfl⟩:=rx; rfl)
theorem jN (b:Expr){op:CmpOp}(h:op≠ .In:=by decide)(h2:op≠ .NotIn:=by decide):behindInMarks op b=false:=by
 have e1:(op==CmpOp.In)=false:=by cases op <;> first | rfl | exact absurd rfl h
 have e2:(op==CmpOp.NotIn)=false:=by cases op <;> first | rfl | exact absurd rfl h2
 cases b <;> simp [behindInMarks,e1,e2]
theorem jQY {op:CmpOp}{r:R2}(ho:OpR X (compareOp op) r)(ha:PE X a ta)(hb:PE X b tb)(hm:behindInMarks op b=false):PE X (.Compare a [op] [b] pos) (tOp r ta tb):=by
 intro lF s σ H Q I h
 exact wpAny_Compare1 (binT ha hb I h λv u s2 x y H2 I2 rx ry q=>ho lF s2 σ H2 x y v u Q I2 rx ry q) hm
def tTest (t:TE):TT:=λσ H Q=>t σ H λx H'=>∃k,x= .bl k/\Q k H'
theorem jDU {op:CmpOp}{r:R2}(ho:OpR X (compareOp op) r)(ha:PE X a ta)(hb:PE X b tb)(hm:behindInMarks op b=false):PT X (.Compare a [op] [b] pos) (tTest (tOp r ta tb)):=by
 intro lF s σ H Q I h
 refine wpAny_isTrue_Compare1 (lJ (ha lF s σ H _ I h) λv s1 ⟨x,H1,I1,r1,q1⟩=>lJ (hb lF s1 σ H1 _ I1 q1) λu s2 ⟨y,H2,I2,r2,q2⟩=>
  lJ (ho lF s2 σ H2 x y v u _ I2 r1 r2 q2) λc s3 ⟨z,H3,I3,r3,k,e,q3⟩=>?_) hm
 subst e
 cases r3
 exact cR ⟨H3,I3,q3⟩
def jP2 (r r':R2)(ta tb tc:TE):TE:=λσ H Q=>ta σ H λx H1=>tb σ H1 λy H2=>r x y H2 λz H3=>∃k,z= .bl k/\
 (if k=true then tc σ H3 λw' H4=>r' y w' H4 Q else Q (.bl false) H3)
theorem jNW {op op':CmpOp}{r r':R2}(ho:OpR X (compareOp op) r)(ho':OpR X (compareOp op') r')(ha:PE X a ta)(hb:PE X b tb)(hc:PE X c tc)
  (hm:lastMarks [op,op'] [b,c]=false:=by with_unfolding_all rfl):PE X (.Compare a [op,op'] [b,c] pos) (jP2 r r' ta tb tc):=by
 intro lF s σ H Q I h
 refine Compare_chain (lJ (ha lF s σ H _ I h) λv s1 ⟨x,H1,I1,r1,q1⟩=>chain_link (lJ (hb lF s1 σ H1 _ I1 q1) λu s2 ⟨y,H2,I2,r2,q2⟩=>
  lJ (ho lF s2 σ H2 x y v u _ I2 r1 r2 q2) λd s3 ⟨z,H3,I3,r3,k,e,q3⟩=>?_)) hm
 subst e
 cases r3
 refine cR ?_
 cases k with
 | false=>exact ite_ff ⟨.bl false,H3,I3,rfl,q3⟩
 | true=>exact ite_tt (chain_last (lJ (hc lF s3 σ H3 _ I3 q3) λw' s4 ⟨z',H4,I4,r4,q4⟩=>ho' lF s4 σ H4 y z' u w' Q I4 r2 r4 q4))
theorem jGH:(sizeLine:Nat)<2 ^ 63:=by rw[fc]; decide
theorem vals1 {x:V}{us:List Value}(r:Vals [x] us):∃u,us=[u]/\RelV x u:=by
 cases r with
 | cons r1 r2=>cases r2; exact⟨_,rfl,r1⟩
theorem vals2 {x y:V}{us:List Value}(r:Vals [x,y] us):∃u w',us=[u,w']/\RelV x u/\RelV y w':=by
 cases r with
 | cons r1 r2=>
  cases r2 with
  | cons r3 r4=>cases r4; exact⟨_,_,rfl,r1,r3⟩
theorem jMX (hc:X.calm=true):yT X (.builtin "max") (λxs H Q=>∃i j,xs=[.int i, .int j]/\Q (.int (if j>i then j else i)) H):=by
 intro lF s σ H xs us Q I r h
 obtain⟨i,j,rfl,q⟩:=h
 obtain⟨u,w',rfl,⟨t,rfl⟩,⟨t',rfl⟩⟩:=vals2 r
 refine max_two_ints (I.ok.hd hc) λh' tk k=>⟨_,H,I.kept k,?_,q⟩
 by_cases hj:j>i
 ·rw[am hj,am hj]; exact⟨_,rfl⟩
 ·rw[ai hj,ai hj]; exact⟨_,rfl⟩
theorem jMW (hc:X.calm=true):yT X (.builtin "min") (λxs H Q=>∃i j,xs=[.int i, .int j]/\Q (.int (if j<i then j else i)) H):=by
 intro lF s σ H xs us Q I r h
 obtain⟨i,j,rfl,q⟩:=h
 obtain⟨u,w',rfl,⟨t,rfl⟩,⟨t',rfl⟩⟩:=vals2 r
 refine min_two_ints (I.ok.hd hc) λh' tk k=>⟨_,H,I.kept k,?_,q⟩
 by_cases hj:j<i
 ·rw[am hj,am hj]; exact⟨_,rfl⟩
 ·rw[ai hj,ai hj]; exact⟨_,rfl⟩
theorem jGX:yT X (.type "int") (λxs H Q=>(∃i,xs=[.int i]/\Q (.int i) H)\/∃k,xs=[.bl k]/\Q (.int (if k then 1 else 0)) H):=by
 intro lF s σ H xs us Q I r h
 rcases h with ⟨i,rfl,q⟩ | ⟨k,rfl,q⟩
 ·obtain⟨u,rfl,t,rfl⟩:=vals1 r
  exact call_int_int ⟨.int i,H,I,⟨_,rfl⟩,q⟩
 ·obtain⟨u,rfl,r1⟩:=vals1 r
  cases r1
  exact call_int_bool ⟨.int (if k then 1 else 0),H,I.tok _,⟨_,rfl⟩,q⟩
end
structure ObjM (h:Heap)(x dx C:Addr)(mA:Str->Option Value):Prop where
 obj:h.get? x=some (instObj C dx)
 ns:h.Ns1 dx mA
 ne:dx≠x
theorem jLL {h:Heap}{dx:Addr}{mA:Str->Option Value}(n:h.Ns1 dx mA):∃od,h.get? dx=some od/\∀name,lookIn name od=some (mA name):=by
 obtain⟨o,es,ep,ho,hd,hk,_,hm⟩:=n
 refine⟨o,ho,λname=>?_⟩
 have e:=hm name
 unfold nsFind findBy at e
 rw[<- Array.find?_toList] at e
 unfold lookIn
 rw[hd]
 dsimp only
 split
 ·rename_i y q
  rw[q] at e
  exact bQ some e
 ·rename_i q
  rw[q] at e
  have a:es.toList.any (·.refKey)=false:=by
   rw[List.any_eq_false]
   intro y hy
   obtain⟨z,t,hkey⟩:=hk y (gZ.mp hy)
   simp [DictEntry.refKey,hkey]
  have a':¬es.toList.any (·.refKey)=true:=by rw[a]; exact ag
  rw[ai a']
  exact bQ some e
theorem ObjM.look {h:Heap}{x dx C:Addr}{mA:Str->Option Value}(I:ObjM h x dx C mA):∃od,PySem.W.InstAt h x (instObj C dx) C (some od)/\∀name,lookIn name od=some (mA name):=
 let ⟨od,ho,hl⟩:=jLL I.ns
 ⟨od,⟨I.obj,rfl,rfl,ho⟩,hl⟩
variable {A:Around}{dx C f:Addr}
section
variable {prog:Program}{K:W.Frag}{mA:Str->Option Value}{name:Str}{v:Value}
end
theorem RelO.some_of {v:V}{o:Option Value}(r:RelO (some v) o):∃u,o=some u/\RelV v u:=by
 cases o with
 | none=>exact(show False from r).elim
 | some u=>exact⟨u,rfl,r⟩
section
variable {fs fs':List (Str×V)}
theorem jS0 (hok:HOk P w H h)(e:H a=some (.ins C dx fs)):∃mA,ObjM h a dx C mA/\(∀f,RelO (fs.lookup f) (mA f))/\PySem.Within mA (fs.map (·.1))/\fs.length<=1000/\H dx=some (.own a):=by
 obtain⟨d,z,ne,ob,mA,n,r,q⟩:=(show ObjOk P w H h a (.ins C dx fs) from hok a _ e)
 exact⟨mA,⟨ob,n,ne⟩,r,q,z,d⟩
end
structure Cls (K:W.Frag)(C:Addr):Prop where
 pg:plainGet K C Str.empty=true
 hd:PySem.W.hasDictIn K C=true
 po:PySem.W.plainOver K C=true
 sa:findIn K (.ref C) "__setattr__" =some (some (.builtin "object.__setattr__"))
theorem Cls.get {K:W.Frag}{C:Addr}(c:Cls K C)(f:Str):plainGet K C f=true:=c.pg
section
variable {σ:St}{fs:List (Str×V)}{f:Str}{v:V}
end
section
variable {o value:Expr}{f:Str}{pos' tpos:Pos}{tv:TE}
end
section
variable {σ:St}{Q:Value->Shared->Prop}{c:Value}{b:Bool}
inductive TyOf (K:W.Frag) (H:Hp):V->Value->Prop where
 | non:TyOf K H .non (.type "NoneType")
 | bl (x:Bool):TyOf K H (.bl x) (.type "bool")
 | int (i:Int):TyOf K H (.int i) (.type "int")
 | str (x:Str):TyOf K H (.str x) (.type "str")
 | flt (x:UInt64):TyOf K H (.flt x) (.type "float")
 | lst {a:Addr}{xs:List V}(e:H a=some (.lst xs)):TyOf K H (.ref a) (.type "list")
 | frz {a:Addr}{o:Obj}{xs:List V}(e:H a=some (.frz o (.lst xs))):TyOf K H (.ref a) (.type "list")
 | tup {a:Addr}{xs:List V}(e:H a=some (.tup xs)):TyOf K H (.ref a) (.type "tuple")
 | dK {a:Addr}{lI:List (Key×V)}(e:H a=some (.dK lI)):TyOf K H (.ref a) (.type "dict")
 | dT {a:Addr}{lI:List (List Key×V)}(e:H a=some (.dT lI)):TyOf K H (.ref a) (.type "dict")
 | ins {a C dx:Addr}{fs:List (Str×V)}(e:H a=some (.ins C dx fs)) (cl:Cls K C) (ha:findIn K (.ref C) "__class__" =some (some (.builtin "object.__class__")))
   (hn:PySem.W.specialIn K (.builtin "object.__class__") "__get__" =some (some (.builtin "getset_descriptor.__get__"))) (htk:PySem.W.takesIn K (.builtin "object.__class__")=some true)
   (hm:mroIn K C (.type "object")=some true):TyOf K H (.ref a) (.ref C)
theorem jM0 {x:V}{u t:Value}(I:Inv X lF σ H s)(rx:RelV x u)(ty:TyOf X.K H x t)(e:kitOne X.K t c=some b)(h:∀tk,Q (.bool b) { s with toks:=tk}):
  wpAny (model X.prog X.w) A (call (.builtin "isinstance") [u,c]) Q E s:=by
 cases ty with
 | non=>cases (show u=Value.none from rx); exact cB PySem.W.kitx_none I.kIn True.intro e (λz=>nomatch z) h
 | bl y=>cases (show u=Value.bool y from rx); exact cB PySem.W.kitx_bool I.kIn True.intro e (λz=>nomatch z) h
 | int i=>obtain⟨t,q⟩:=(show ∃t,u=Value.int i t from rx); cases q; exact cB PySem.W.kitx_int I.kIn True.intro e (λz=>nomatch z) h
 | str y=>obtain⟨t,q⟩:=(show ∃t,u=Value.str y t from rx); cases q; exact cB PySem.W.kitx_str I.kIn True.intro e (λz=>nomatch z) h
 | flt y=>obtain⟨t,q⟩:=(show ∃t,u=Value.float y t from rx); cases q; exact cB PySem.W.kitx_float I.kIn True.intro e (λz=>nomatch z) h
 | @lst a xs ea=>
  cases (show u=Value.ref a from rx)
  obtain⟨_,_,n,_,h1⟩:=(show ObjOk X.prog X.w H s.heap a (.lst xs) from I.hok a _ ea)
  exact cB kitx_list I.kIn ⟨_,h1,rfl⟩ e (λz=>nomatch z) h
 | @frz a ob xs ea=>
  cases (show u=Value.ref a from rx)
  obtain⟨_,_,_,n,_,h1⟩:=(show ObjOk X.prog X.w H s.heap a (.frz ob (.lst xs)) from I.hok a _ ea)
  exact cB kitx_list I.kIn ⟨_,h1,rfl⟩ e (λz=>nomatch z) h
 | @tup a xs ea=>
  cases (show u=Value.ref a from rx)
  obtain⟨_,_,_,p⟩:=(show ObjOk X.prog X.w H s.heap a (.tup xs) from I.hok a _ ea)
  obtain⟨o,h1,h2,_⟩:=p.isTup
  exact cB PySem.W.kitx_tuple I.kIn ⟨o,h1,h2⟩ e (λz=>nomatch z) h
 | @dK a lI ea=>
  cases (show u=Value.ref a from rx)
  obtain⟨_,_,vs,_,p⟩:=(show ObjOk X.prog X.w H s.heap a (.dK lI) from I.hok a _ ea)
  obtain⟨o,es,ep,h1,h2,_⟩:=p
  exact cB kitx_dict I.kIn ⟨o,h1,h2.1⟩ e (λz=>nomatch z) h
 | @dT a lI ea=>
  cases (show u=Value.ref a from rx)
  obtain⟨_,_,xs,_,o,es,ep,h1,h2,_⟩:=(show ObjOk X.prog X.w H s.heap a (.dT lI) from I.hok a _ ea)
  exact cB kitx_dict I.kIn ⟨o,h1,h2.1⟩ e (λz=>nomatch z) h
 | @ins a C dx fs ea cl ha hn htk hm=>
  cases (show u=Value.ref a from rx)
  obtain⟨mA,O,_⟩:=jS0 I.hok ea
  obtain⟨od,J,_⟩:=O.look
  exact cB (PySem.W.kitx_own (cl.get _) cl.hd ha hn htk hm) I.kIn J e (λz=>nomatch z) h
end
structure Room (k:Nat)(A:Around):Prop where
 hd:A.handled=none
 dp:A.depth+3*k+5<recursionLimit
 un:A.units+16*k+200<cLine
theorem Room.mono {j k:Nat}{A:Around}(r:Room k A)(h:j<=k):Room j A:=⟨r.hd,by have:=r.dp; lia,by have:=r.un; lia⟩
theorem Room.deeper {k:Nat}{A:Around}(r:Room (k+1) A)(env:Env):Room k (A.deeper env):=
 ⟨r.hd,by have:=r.dp; show A.depth+1+3*k+5<_; lia,by have:=r.un; show A.units+3+16*k+200<_; lia⟩
theorem Room.in1 {k:Nat}{A:Around}(r:Room (k+1) A):Room k A.in1:=
 ⟨r.hd,by have:=r.dp; show A.depth+3*k+5<_; lia,by have:=r.un; show A.units+1+16*k+200<_; lia⟩
theorem Room.depth {k:Nat}{A:Around}(r:Room k A):A.depth<recursionLimit:=by have:=r.dp; lia
theorem Room.units {k:Nat}{A:Around}(r:Room k A):A.units+64<cLine:=by have:=r.un; lia
theorem Room.units0 {k:Nat}{A:Around}(r:Room k A):A.units<cLine:=by have:=r.un; lia
def tNil:TA:=λ_ H Q=>Q [] H
def tCons (ta:TE)(tr:TA):TA:=λσ H Q=>ta σ H λx H1=>tr σ H1 λxs H2=>Q (x::xs) H2
variable {es:List Expr}
section
variable {t:TA}
theorem yQ:PA X [] tNil:=λ_ _ _ _ H Q I h=>Calls.spliced_nil ⟨[],H,I, .nil,h⟩
theorem kI (ha:PE X e te)(hr:PA X es t)(hs:starEach (e::es) X.env=(false,eval e X.env)::starEach es X.env:=by rfl):PA X (e::es) (tCons te t):=by
 intro pos lF s σ H Q I h
 rw[hs]
 show wpAny _ _ (spliced ((false,eval e X.env)::backTo pos (starEach es X.env))) _ _ s
 refine Calls.spliced_cons (lJ (ha lF s σ H _ I h) λu s1 ⟨x,H1,I1,r1,q1⟩=>?_)
 exact lJ (hr pos lF s1 σ H1 _ I1 q1) λus s2 ⟨xs,H2,I2,r2,q2⟩=>⟨x::xs,H2,I2, .cons r1 r2,q2⟩
def tTup (t:TA):TE:=λσ H Q=>t σ H λxs H1=>xs.length<=sizeLine/\∀p,H1 p=none->Q (.ref p) (upd H1 p (.tup xs))
def tLst (t:TA):TE:=λσ H Q=>t σ H λxs H1=>xs.length<=sizeLine/\∀p,H1 p=none->Q (.ref p) (upd H1 p (.lst xs))
theorem jT2 {x1}(h:PA X es t):PE X (.Tuple es x1 pos) (tTup t):=by
 intro lF s σ H Q I hq
 refine wpAny_Tuple_spliced (lJ (h pos lF s σ H _ I hq) λus s1 ⟨xs,H1,I1,r,z,q⟩=>⟨by rw[<- r.length]; exact z,?_⟩)
 have hf:H1 s1.heap.objs.size=none:=I1.hok.fresh (aj _)
 refine⟨.ref s1.heap.objs.size,upd H1 s1.heap.objs.size (.tup xs),I1.laid (t':=s1.toks) (λb u e=>ab _ e) (aj _) ?_,rfl,q _ hf⟩
 exact⟨z,us,r,TupO.new _ _⟩
theorem jIC (h:PA X es t):PE X (.List es pos) (tLst t):=by
 intro lF s σ H Q I hq
 refine wpAny_List_spliced (lJ (h pos lF s σ H _ I hq) λus s1 ⟨xs,H1,I1,r,z,q⟩=>⟨by rw[<- r.length]; exact z,?_⟩)
 have hf:H1 s1.heap.objs.size=none:=I1.hok.fresh (aj _)
 refine⟨.ref s1.heap.objs.size,upd H1 s1.heap.objs.size (.lst xs),I1.laid (t':=s1.toks) (λb u e=>ab _ e) (aj _) ?_,rfl,q _ hf⟩
 exact⟨z,us,0,r,ao _ rfl⟩
end
abbrev Sp:=List V->Hp->VK->XK->Prop
abbrev CXT:=List Env->Hp->Shared->XK->Value->Shared->Prop
structure Env0 (P:Program)(w:World)(K:W.Frag)(mg:Str->Option Value)(lG:Heap)(A:Around)(outer:List Env)(s:Shared)(H:Hp):Prop where
 frames:A.frames=some outer
 mod:Mod K mg lG
 bs:∀b o,lG.get? b=some o->s.heap.get? b=some o/\H b=none
 bsz:lG.objs.size<=s.heap.objs.size
 funs:s.heap.FunFrames lG outer
 frf:∀b∈frs outer,H b=none
 hok:HOk P w H s.heap
 bare:AllBare s.gens
def CE (outer:List Env)(P:Program)(w:World)(H:Hp)(s:Shared)(Q:VK)(u:Value)(s':Shared):Prop:=
 ∃v H',s'.os=s.os/\AllBare s'.gens/\Un (frs outer) [] H H' s.heap s'.heap/\HOk P w H' s'.heap/\RelV v u/\Q v H'
def CR (CX:CXT)(outer:List Env)(P:Program)(w:World)(H:Hp)(s:Shared)(Q:VK)(E:XK)(r:Result)(s':Shared):Prop:=
 match r with
 | .ok (.ret u)=>CE outer P w H s Q u s'
 | .ok _=>False
 | .error e=>CX outer H s E e s'
structure FnOk (P:Program)(w:World)(K:W.Frag)(mg:Str->Option Value)(lG:Heap)(CX:CXT)(k:Nat)(f:Addr)(fd:FuncData)(ps:List Str)(sp:Sp):Prop where
 len:∀vs H Q E,sp vs H Q E->vs.length=ps.length
 run:∀(A:Around) (outer:List Env) (s:Shared) (H:Hp) (args:Args) (us:List Value) (vs:List V) (Q:VK) (E:XK),Room k A->Env0 P w K mg lG A outer s H->BindsTo s fd args (ps.zip us)->Vals vs us->sp vs H Q E->
  codeAny (model P w) A (.call (.ref f) args) (CR CX outer P w H s Q E) s
theorem FnOk.imp {P:Program}{w:World}{K:W.Frag}{mg:Str->Option Value}{lG:Heap}{CX:CXT}{k:Nat}{f:Addr}{fd:FuncData}{ps:List Str}{sp sp':Sp}(F:FnOk P w K mg lG CX k f fd ps sp)
  (h:∀vs H Q E,sp' vs H Q E->sp vs H Q E):FnOk P w K mg lG CX k f fd ps sp':=
 ⟨λvs H Q E q=>F.len vs H Q E (h _ _ _ _ q),λA outer s H args us vs Q E hr he hb hv hs=>F.run A outer s H args us vs Q E hr he hb hv (h _ _ _ _ hs)⟩
theorem Env0.in1 {P:Program}{w:World}{K:W.Frag}{mg:Str->Option Value}{lG:Heap}{A:Around}{outer:List Env}{s:Shared}{H:Hp}(e:Env0 P w K mg lG A outer s H):
  Env0 P w K mg lG A.in1 outer s H:=⟨e.frames,e.mod,e.bs,e.bsz,e.funs,e.frf,e.hok,e.bare⟩
section
variable {σ:St}{s':Shared}
theorem Inv.env0 (I:Inv X lF σ H s):Env0 X.prog X.w X.K X.mg X.lG X.A X.stack s H:=
 ⟨I.ok.frames,I.ok.mod,I.bs,bM I.ok.bsz I.sz,I.stack,I.stkFree,I.hok,I.bare⟩
theorem Inv.after {Q:VK}{u:Value}(I:Inv X lF σ H s)(h:CE X.stack X.prog X.w H s Q u s'):EP X lF σ Q u s':=by
 obtain⟨v,H',os,bare,un,hok,r,q⟩:=h
 obtain⟨hh,g,d,t,os'⟩:=s'
 obtain rfl:os'=s.os:=os
 exact⟨v,H',I.call (h':=hh) (g':=g) (d':=d) (t':=t) (ch:=[]) un hok bare (λb z=>absurd z (by simp)),r,q⟩
end
def tCall (sp:Sp)(dvs:List V)(E:XK)(t:TA):TE:=λσ H Q=>t σ H λvs H1=>sp (vs++dvs) H1 Q E
def Binds (K:W.Frag)(fd:FuncData)(ps:List Str)(ds:List Value):Prop:=
 ∀(s:Shared) (us:List Value),K.In s.heap->(us++ds).length=ps.length->BindsTo s fd ⟨us,[]⟩ (ps.zip (us++ds))
theorem Binds.all {K:W.Frag}{fd:FuncData}{ps:List Str}(h:∀us:List Value,us.length=ps.length->bindArgs fd ⟨us,[]⟩=pure (ps.zip us)):Binds K fd ps []:=λs us _ hl=>by
 rw[bI] at hl ⊢
 exact .of_eq (h us hl)
def jND (CX:CXT)(X:Cx)(E:XK):Prop:=∀(lF:List (Addr×Obj)) (σ:St) (H:Hp) (s:Shared) (e:Value) (s':Shared),Inv X lF σ H s->CX X.stack H s E e s'->X.xe e s'
variable {CX:CXT}{fd:FuncData}{ps:List Str}{sp:Sp}{m:Str}{p apos:Pos}
section
variable {k:Nat}{dvs:List V}{ds:List Value}{E:XK}{x:Str}{o:Expr}{t:TA}
theorem jSP {lF:List (Addr×Obj)}{σ:St}{H:Hp}{s:Shared}{Q:VK}{us:List Value}{vs:List V}(F:FnOk X.prog X.w X.K X.mg X.lG CX k f fd ps sp)(hr:Room k X.A)(hb:Binds X.K fd ps ds)(hd:Vals dvs ds)(hx:jND CX X E)
  (I:Inv X lF σ H s) (r:Vals vs us) (h:sp (vs++dvs) H Q E):wpAny (model X.prog X.w) X.A (call (.ref f) us) (EP X lF σ Q) X.xe s:=by
 have r2:Vals (vs++dvs) (us++ds):=r.append hd
 have hl:(us++ds).length=ps.length:=by rw[<- r2.length]; exact F.len _ _ _ _ h
 refine lu (eE (F.run X.A X.stack s H ⟨us,[]⟩ (us++ds) (vs++dvs) Q E hr I.env0 (hb s us I.kIn hl) r2 h) λr s' hq=>?_)
 cases r with
 | error e=>exact hx lF σ H s e s' I hq
 | ok fl=>
  cases fl with
  | ret u=>exact I.after hq
  | next=>exact False.elim hq
  | brk=>exact False.elim hq
  | cont=>exact False.elim hq
theorem jQZ (F:FnOk X.prog X.w X.K X.mg X.lG CX k f fd ps sp)(hr:Room k X.A)(hg:Gl X x)(hm:X.mg x=some (.ref f))(hk:keepIn X.K (.ref f)=true)(hb:Binds X.K fd ps ds)(hd:Vals dvs ds)(hx:jND CX X E)
  (ha:PA X (e::es) t) (hdb:(x==("__debug__" :Str))=false:=by decide) (he:starEach (e::es) X.env=(false,eval e X.env)::starEach es X.env:=by rfl) (hpl:(backTo pos (starEach es X.env)).any (·.1)=false:=by rfl):
  PE X (.Call (.Name x p) (e::es) [] pos) (tCall sp dvs E t):=by
 intro lF s σ H Q I h
 refine gc (jRQ I hg hm ?_ hdb)
 refine PySem.W.callWith_K (h₀:=X.lG) I.ok.mod.kin hk (lJ (ha pos lF s σ H _ I h) λus s1 ⟨vs,H1,I1,r,q⟩=>⟨I1.kIn,?_⟩) he hpl
 exact jSP F hr hb hd hx I1 r q
end
def PK (X:Cx)(kws:List Keyword)(t:TA):Prop:=
 ∀(pos:Pos) (lF:List (Addr×Obj)) (s:Shared) (σ:St) (H:Hp) (Q:List V->Hp->Prop),Inv X lF σ H s->t σ H Q->wpAny (model X.prog X.w) X.A (evalAll ((backToKw pos (keywordEach kws X.env)).map (·.2))) (AP X lF σ Q) X.xe s
section
variable {k:Nat}{ks:List Str}{E:XK}{x:Str}{kpos:Pos}{o:Expr}{kws:List Keyword}{t tk:TA}{nm:Option Str}
theorem jSX:PK X [] tNil:=λ_ _ _ _ H Q I h=>wpAny_evalAll_nil ⟨[],H,I, .nil,h⟩
theorem jQQ (ha:PE X e te)(hr:PK X kws t):PK X (⟨nm,e,kpos⟩::kws) (tCons te t):=by
 intro pos lF s σ H Q I h
 show wpAny _ _ (evalAll ((do let v <- eval e X.env; standAt pos; pure v)::(backToKw pos (keywordEach kws X.env)).map (·.2))) _ _ s
 refine wpAny_evalAll_cons (aa (lJ (ha lF s σ H _ I h) λu s1 ⟨x,H1,I1,r1,q1⟩=>aa (iW (ae ?_))))
 exact lJ (hr pos lF s1 σ H1 _ I1 q1) λus s2 ⟨xs,H2,I2,r2,q2⟩=>⟨x::xs,H2,I2, .cons r1 r2,q2⟩
variable {g:List Value->List Value->List Value}{gV:List V->List V->List V}
end
structure FnScope (N P:List Str)(sc:Scope):Prop where
 kind:sc.kind= .function:=by rfl
 co:sc.isCoroutine=false:=by rfl
 gen:sc.isGenerator=false:=by rfl
 nd:N.Nodup:=by decide+kernel
 pre:N.take P.length=P:=by rfl
 par:∀x∈P,sc.names.lookup x=some .local\/sc.names.lookup x=some .cell:=by decide+kernel
 nofree:∀y∈sc.names,y.2≠ .free:=by decide+kernel
theorem jH2 {kindOf:Str->Option NameKind}{x:Str} :∀{binds:List (Str×Value)}{m:Str->Option Value},(∀v,(x,v)∉binds)->bindL kindOf binds m x=m x
 | [],_,_=>rfl
 | (n,v)::r,m,h=>by
  unfold bindL
  rw[jH2 λw hw=>h w (ay _ hw)]
  split
  ·have:x≠n:=by rintro rfl; exact h v ax
   simp [this]
  ·rfl
theorem jH4 {kindOf:Str->Option NameKind}{x:Str} :∀{binds:List (Str×Value)}{m:Str->Option Value},(∀v,(x,v)∉binds)->bindC kindOf binds m x=m x
 | [],_,_=>rfl
 | (n,v)::r,m,h=>by
  unfold bindC
  rw[jH4 λw hw=>h w (ay _ hw)]
  split
  ·rfl
  ·have:x≠n:=by rintro rfl; exact h v ax
   simp [this]
theorem jH3 {kindOf:Str->Option NameKind}{x:Str}{v:Value} :∀{P:List Str}{vs:List Value}{i:Nat}{m:Str->Option Value},P.Nodup->P[i]?=some x->vs[i]?=some v->kindOf x=some .local->
  bindL kindOf (P.zip vs) m x=some v
 | [],_,_,_,_,h,_,_=>by simp at h
 | _::_,[],_,_,_,_,h,_=>by simp at h
 | p::P,w::vs,0,m,nd,h1,h2,hk=>by
  simp at h1 h2; subst h1; subst h2
  show bindL kindOf ((p,w)::P.zip vs) m p=_
  unfold bindL
  rw[jH2 λv hv=>(dE.mp nd).1 (eQ hv).1,am hk]
  simp
 | p::P,w::vs,i+1,m,nd,h1,h2,hk=>by
  show bindL kindOf ((p,w)::P.zip vs) m x=_
  unfold bindL
  exact jH3 (i:=i) (dE.mp nd).2 (by simpa using h1) (by simpa using h2) hk
theorem jH5 {kindOf:Str->Option NameKind}{x:Str}{v:Value} :∀{P:List Str}{vs:List Value}{i:Nat}{m:Str->Option Value},P.Nodup->P[i]?=some x->vs[i]?=some v->kindOf x≠some .local->
  bindC kindOf (P.zip vs) m x=some v
 | [],_,_,_,_,h,_,_=>by simp at h
 | _::_,[],_,_,_,_,h,_=>by simp at h
 | p::P,w::vs,0,m,nd,h1,h2,hk=>by
  simp at h1 h2; subst h1; subst h2
  show bindC kindOf ((p,w)::P.zip vs) m p=_
  unfold bindC
  rw[jH4 λv hv=>(dE.mp nd).1 (eQ hv).1,ai hk]
  simp
 | p::P,w::vs,i+1,m,nd,h1,h2,hk=>by
  show bindC kindOf ((p,w)::P.zip vs) m x=_
  unfold bindC
  exact jH5 (i:=i) (dE.mp nd).2 (by simpa using h1) (by simpa using h2) hk
def yV (N:List Str)(vs:List V):St:=vs.map some++List.replicate (N.length - vs.length) none
def cxOf (CX:CXT)(P:Program)(w:World)(K:W.Frag)(mg:Str->Option Value)(lG:Heap)(N:List Str)(qual:Str)(scope:Scope)(f:Addr)(cd:Value)(A:Around)(outer:List Env)(s:Shared)(H:Hp)(E:XK):Cx where
 prog:=P
 w:=w
 K:=K
 mg:=mg
 lG:=lG
 A:=A.deeper (envOfC qual scope s.heap.objs.size f cd)
 N:=N
 s₀:=s
 H₀:=H
 env:=envOfC qual scope s.heap.objs.size f cd
 outer:=outer
 stack:=envOfC qual scope s.heap.objs.size f cd::outer
 ex:=[]
 calm:=true
 fn:=λ_=>true
 pn:=[]
 xe:=λe s'=>wpAny (model P w) (A.deeper (envOfC qual scope s.heap.objs.size f cd)) (leaving (envOfC qual scope s.heap.objs.size f cd) e) (λ_ s''=>CX outer H s E e s'') (λe' s''=>CX outer H s E e' s'') s'
theorem jJ3 {sc:Scope}{n:Nat}{x:Str}(h:sc.names.lookup x=some .cell):∃c,(cellsFrom n sc.names []).lookup x=some c:=by
 have q:=jh sc.names n [] (.inl h)
 exact fJ.mp q
theorem jM1 {CX:CXT}{P:Program}{w:World}{K:W.Frag}{mg:Str->Option Value}{lG:Heap}{N ps:List Str}{qual:Str}{scope:Scope}{f:Addr}{cd:Value}{A:Around}{outer:List Env}{s s1:Shared}{H:Hp}{E:XK}{us:List Value}{vs:List V}
  (S:FnScope N ps scope) (hd:A.handled=none) (e0:Env0 P w K mg lG A outer s H) (hl:vs.length=ps.length) (r:Vals vs us)
  (x:InCallC s s.heap.objs.size (bindL (envOfC qual scope s.heap.objs.size f cd).kindOf (ps.zip us) λ_=>none) (cellsFrom (s.heap.objs.size+1) scope.names []) (bindC (envOfC qual scope s.heap.objs.size f cd).kindOf (ps.zip us) λ_=>none) s1):
  Inv (cxOf CX P w K mg lG N qual scope f cd A outer s H E) [] (yV N vs) H s1:=by
 have hpl:ps.length<=N.length:=by have:=bQ List.length S.pre; rw[aY] at this; lia
 obtain⟨h1,tk,rfl,hk⟩:=x.done
 have noA:∀b:Addr,b∉(cxOf CX P w K mg lG N qual scope f cd A outer s H E).ex:=λb z=>absurd (show b∈([]:List Addr) from z) (by simp)
 refine⟨⟨e0.mod,S.kind,rfl,rfl,aj _,λy z c h1 h2=>?_,λy hy=>?_,λy c _ h=>?_,λ_=>hd,Around.frames_deeper e0.frames, .inr ⟨rfl,rfl⟩,λb z=>absurd z (noA b),e0.bs,e0.bsz,λb _ _=>noA b,λb z=>absurd z (noA b),e0.funs,e0.frf⟩,
  rfl,e0.bare,Un.kept hk,⟨_,x.toInCall.ns,λi y v h1 h2 h3=>?_⟩,λy c h=>⟨_,x.cell y c h⟩,e0.hok.fresh (aj _),λy c h=>?_,λp hp=>absurd (show p∈([]:List (Addr×Obj)) from hp) (by simp),e0.hok.kept hk,?_⟩
 ·exact name_of_addr x.apart (cq h1) (cq h2)
 ·have hy:scope.names.lookup y=some .cell\/scope.names.lookup y=some .free:=hy
  rcases hy with hy | hy
  ·exact jJ3 hy
  ·exact absurd rfl (S.nofree _ (cq hy))
 ·exact cQ (x.above y c (cq h))
 ·have hi:i<vs.length:=by
   unfold yV at h2
   by_cases hi:i<vs.length
   ·exact hi
   ·rw[bx (by simpa using hi)] at h2
    rw[i5] at h2
    split at h2 <;> cases h2
  have ha:vs[i]?=some v:=by
   unfold yV at h2
   rw[bS (by simpa using hi),aW] at h2
   cases e:vs[i]? with
   | none=>rw[e] at h2; cases h2
   | some a=>rw[e] at h2; cases h2; rfl
  obtain⟨u,hu,rv⟩:=r.get ha
  have hp:ps[i]?=some y:=by
   rw[<- S.pre,cn (by lia)]; exact h1
  have ndP:ps.Nodup:=by rw[<- S.pre]; exact S.nd.sublist (fb _ _)
  refine⟨u,rv,?_⟩
  rcases S.par y (az hp) with k | k
  ·exact .inl ⟨k,jH3 ndP hp hu k⟩
  ·obtain⟨c,e⟩:=jJ3 (n:=s.heap.objs.size+1) k
   refine .inr ⟨.inl k,c,e,?_⟩
   have q:=x.cell y c e
   rw[jH5 ndP hp hu (by show scope.names.lookup y≠_; rw[k]; decide)] at q
   exact q
 ·exact e0.hok.fresh (cQ (x.above y c (cq h)))
 ·unfold yV
  show _=N.length
  rw[aJ,af,gI]
  lia
theorem fn_of {CX:CXT}{P:Program}{w:World}{K:W.Frag}{mg:Str->Option Value}{lG:Heap}{k:Nat}{f:Addr}{name qual:Str}{params:Arguments}{body:List Stmt}{scope:Scope}{dV kV doc pm lH ct oc:Value}{an od:Option Addr}
  {osl:Array (Option Value)}{N ps:List Str}{sp:Sp}(lk:K.lookup f=some ⟨oc,od, .func (PySem.W.fnOf name qual params body scope dV kV doc pm an lH ct),osl⟩) (hcd:PySem.W.codeIn K lH qual=true) (S:FnScope N ps scope)
  (len:∀vs H Q E,sp vs H Q E->vs.length=ps.length)
  (hbody:∀(A:Around) (outer:List Env) (s:Shared) (H:Hp) (vs:List V) (Q:VK) (E:XK),Room k (A.deeper (envOfC qual scope s.heap.objs.size f lH))->sp vs H Q E->
   ∃t,PSs (cxOf CX P w K mg lG N qual scope f lH A outer s H E) body t/\t { nx:=λ_ H'=>Q .non H',rt:=Q} (yV N vs) H):
  FnOk P w K mg lG CX (k+1) f (PySem.W.fnOf name qual params body scope dV kV doc pm an lH ct) ps sp:=by
 refine⟨len,λA outer s H args us vs Q E hr e0 hb r hsp=>?_⟩
 have hl:=len _ _ _ _ hsp
 have KX:K.In s.heap:=e0.mod.kin.keeps λb o e=>(e0.bs b o e).1
 have lim:s.heap.NoLimit:=e0.mod.nolimit.keeps λb o e=>(e0.bs b o e).1
 have hkind:∀y∈ps.zip us,scope.names.lookup y.1=some .local\/(scope.names.lookup y.1=some .cell/\((cellsFrom (s.heap.objs.size+1) scope.names []).lookup y.1).isSome=true):=λ⟨n,v⟩ hy=>by
  rcases S.par n (eQ hy).1 with q | q
  ·exact .inl q
  ·exact .inr ⟨q,jh _ _ _ (.inl q)⟩
 refine codeAny_call_function hr.depth (KX _ _ lk) rfl S.co S.gen rfl (PySem.W.codeRec_of KX hcd) (hb _ _ _ _ ?_)
 refine wpAny_newFunctionEnv_cells S.kind hkind λenv he s1 x=>?_
 subst he
 refine⟨lim.keeps x.toInCall.keep,codeAny_func ?_⟩
 obtain⟨t,ht,hq⟩:=hbody A outer s H vs Q E (hr.deeper _) hsp
 have I:Inv (cxOf CX P w K mg lG N qual scope f lH A outer s H E) [] (yV N vs) H s1:=jM1 S hr.hd e0 hl r x
 refine cw (ht [] s1 (yV N vs) H _ I hq) (λfl s' hs=>?_) λe s' hs=>hs
 have fin:∀{σ':St}{H':Hp}{v:V}{u:Value},Inv (cxOf CX P w K mg lG N qual scope f lH A outer s H E) [] σ' H' s'->RelV v u->Q v H'->CE outer P w H s Q u s':=
  λ{σ' H' v u} J rv q=>⟨v,H',J.os,J.bare,J.lG,J.hok,rv,q⟩
 cases fl with
 | ret u=>
  obtain⟨v,σ',H',J,rv,q⟩:=hs
  exact fin J rv q
 | next=>
  obtain⟨σ',H',J,q⟩:=hs
  exact fin (v:=V.non) (u:=Value.none) J rfl q
 | brk=>
  obtain⟨_,_,_,q⟩:=hs
  exact False.elim q
 | cont=>
  obtain⟨_,_,_,q⟩:=hs
  exact False.elim q
section
variable {x:Str}{t:TA}{id T:String}{r:List V->Hp->VK->Prop}
def tCB (r:List V->Hp->VK->Prop)(t:TA):TE:=λσ H Q=>t σ H λvs H1=>r vs H1 Q
theorem jF3 (hc:yT X (.builtin id) r)(hg:Gl X x)(hm:X.mg x=none)(hv:bootBuiltins x=some (.builtin id))(ha:PA X (e::es) t)(hn:x≠ "__name__" :=by decide)(hdb:(x==("__debug__" :Str))=false:=by decide)
  (he:starEach (e::es) X.env=(false,eval e X.env)::starEach es X.env:=by rfl) (hpl:(backTo pos (starEach es X.env)).any (·.1)=false:=by rfl):PE X (.Call (.Name x p) (e::es) [] pos) (tCB r t):=by
 intro lF s σ H Q I h
 refine gc (jD4 I hg hm hv ?_ hn hdb)
 exact PyProof.Rows.callWith_builtin1 (lJ (ha pos lF s σ H _ I h) λus s1 ⟨vs,H1,I1,r1,q1⟩=>hc lF s1 σ H1 vs us Q I1 r1 q1) he hpl
theorem jBZ (hc:yT X (.type T) r)(hg:Gl X x)(hm:X.mg x=none)(hv:bootBuiltins x=some (.type T))(ha:PA X (e::es) t)(hn:x≠ "__name__" :=by decide)(hdb:(x==("__debug__" :Str))=false:=by decide)
  (he:starEach (e::es) X.env=(false,eval e X.env)::starEach es X.env:=by rfl) (hpl:(backTo pos (starEach es X.env)).any (·.1)=false:=by rfl):PE X (.Call (.Name x p) (e::es) [] pos) (tCB r t):=by
 intro lF s σ H Q I h
 refine gc (jD4 I hg hm hv ?_ hn hdb)
 exact cO (lJ (ha pos lF s σ H _ I h) λus s1 ⟨vs,H1,I1,r1,q1⟩=>hc lF s1 σ H1 vs us Q I1 r1 q1) he hpl
end
end L2
namespace HT
open PySem PyProof.Rows
noncomputable def lexLt:List Int->List Int->Bool
 | [],[]=>false
 | [],_::_=>true
 | _::_,[]=>false
 | x::xs,y::ys=>if x=y then lexLt xs ys else decide (x<y)
theorem lexLt_cons (x y:Int)(xs ys:List Int):lexLt (x::xs) (y::ys)=if x=y then lexLt xs ys else decide (x<y):=rfl
theorem jFC:lexLt [] []=false:=rfl
theorem jEE (y:Int)(ys:List Int):lexLt [] (y::ys)=true:=rfl
theorem jEF (x:Int)(xs:List Int):lexLt (x::xs) []=false:=rfl
theorem jOE (A:Around)(s:Shared)(a:Int)(t:Tok)(c:Int)(u:Tok):∃e,SeqAt.EqAt A s (.int a t) (.int c u) e/\(e=true↔a=c):=
 ⟨(a==c),eF a t c u,by simp⟩
theorem rcLt_int (A:Around)(s:Shared)(a:Int)(t:Tok)(c:Int)(u:Tok)(prog:Program)(w:World)(E:Value->Shared->Prop)(Q:Value->Shared->Prop)(h:Q (.bool (decide (a<c))) s):
  wpAny (model prog w) A (richCompare .Lt (.int a t) (.int c u)) Q E s:=
 (PyProof.Rows.lt_int h:wpAny (model prog w) A (compareOp .Lt (.int a t) (.int c u)) Q E s)
section
open PySem.SeqAt
open PySem.AutoSeq1 (wpAny_loadPart')
open PySem.MeetsSeq PySem.MeetsSeq2 PySem.MeetsSeq3
theorem tuple_lt_ints (l b:Addr)(items items2:Array Value)(n n2:Nat)(dd dd2:Option Addr)(sl sl2:Array (Option Value))(ns ms:List Int)(hi:IntsAre items.toList ns)(hj:IntsAre items2.toList ms):
  Meets (Builtin.«tuple.__lt__» ⟨[.ref l, .ref b],[]⟩)
   (λ_ R s=>s.heap.get? l=some { cls:= .type "tuple",dict:=dd,data:= .seq items n,slots:=sl} /\s.heap.get? b=some { cls:= .type "tuple",dict:=dd2,data:= .seq items2 n2,slots:=sl2} /\
    R (.ok (.ret (.bool (lexLt ns ms)))) s):=
 .of_wp λprog w A R s h=>by
  obtain⟨hp,g,d,tk,os⟩:=s; obtain⟨hl,hb,h⟩:=h
  have f2:=AutoSeq1.sub_tuple_tuple
  have z1:items.size=ns.length:=by rw[<- hi.length]; simp
  have z2:items2.size=ms.length:=by rw[<- hj.length]; simp
  wp_walk using cC hl,cC hb,gO _ (λrest b s'=>b.1=none/\s'=⟨hp,g,d,tk,os⟩/\∃(vs ws:List Value) (ns' ms':List Int),rest=vs.zip ws/\
   IntsAre vs ns'/\IntsAre ws ms'/\ns'.length+items2.size=ms'.length+items.size/\R (.ok (.ret (.bool (lexLt ns' ms')))) ⟨hp,g,d,tk,os⟩) _
  case turn=>
   rintro ⟨y,x⟩ rest b s' ⟨hb',rfl,vs,ws,ns',ms',hz,hvi,hwi,hlen,hR⟩
   cases hvi with
   | nil=>rw[List.zip_nil_left] at hz; cases hz
   | cons a t hvi'=>
    cases hwi with
    | nil=>rw[List.zip_nil_right] at hz; cases hz
    | cons c u hwi'=>
     rw[dJ] at hz
     injection hz with hyx hrest
     injection hyx with hy hx
     subst hy hx
     rw[lexLt_cons] at hR
     simp only [aP] at hlen
     obtain⟨e,he,hiff⟩:=jOE A.in1 ⟨hp,g,d,tk,os⟩ a t c u
     refine aa (he prog w _ _ ?_)
     cases e with
     | true=>
      rw[am (hiff.mp rfl)] at hR
      wp_walk
      exact⟨rfl,rfl,_,_,_,_,hrest,hvi',hwi',by lia,hR⟩
     | false=>
      rw[ai (λq=>absurd (hiff.mpr q) ag)] at hR
      have hri:=rcLt_int A.in1 ⟨hp,g,d,tk,os⟩ a t c u prog w
      wp_walk using hri
      exact⟨_,rfl,by simpa using hR⟩
  case fin=>
   rintro ⟨b1,b2⟩ s' ⟨hb',rfl,vs,ws,ns',ms',hz,hvi,hwi,hlen,hR⟩
   simp only at hb'
   subst hb'
   have hv:lexLt ns' ms'=decide (items.size<items2.size):=by
    cases hvi with
    | nil=>
     cases hwi with
     | nil=>
      simp only [dF] at hlen
      rw[jFC]
      exact(aI (by lia)).symm
     | cons c u hw=>
      simp only [dF,aP] at hlen
      rw[jEE]
      exact(ar (by lia)).symm
    | cons a t hv=>
     cases hwi with
     | nil=>
      simp only [dF,aP] at hlen
      rw[jEF]
      exact(aI (by lia)).symm
     | cons c u hw=>
      rw[dJ] at hz
      cases hz
   rw[hv] at hR
   wp_walk
   exact⟨_,rfl,by simpa [Builtin.Tuple.tupleCompareSizes] using hR⟩
  case h=>
   exact⟨rfl,rfl,items.toList,items2.toList,ns,ms,rfl,hi,hj,by lia,h⟩
end
section
variable {prog:Program}{w:World}{A:Around}{E:Value->Shared->Prop}{s:Shared}
theorem lt_tupInts {l b:Addr}{items items2:Array Value}{ns ms:List Int}{Q:Value->Shared->Prop}(hl:IsTup s.heap l items)(hb:IsTup s.heap b items2)(hi:IntsAre items.toList ns)(hj:IntsAre items2.toList ms)
  (hu:A.units<cLine) (h:Q (.bool (lexLt ns ms)) s):wpAny (model prog w) A (compareOp .Lt (.ref l) (.ref b)) Q E s:=by
 obtain⟨⟨cls,dd,data,sl⟩,ho,hc,n,hd⟩:=id hl
 obtain⟨⟨cls2,dd2,data2,sl2⟩,ho2,hc2,n2,hd2⟩:=id hb
 simp only at hc hd hc2 hd2
 subst hc hd hc2 hd2
 exact richCompare_meets_room (op:= .Lt) ⟨_,ho,rfl⟩ ⟨_,ho2,rfl⟩ gJ jk (i6 _ _) (tuple_lt_ints l b items items2 n n2 dd dd2 sl sl2 ns ms hi hj)
  ⟨ho,ho2,show Value.bool (lexLt ns ms)≠Value.notImplemented/\Q (.bool (lexLt ns ms)) s from ⟨(λx=>nomatch x),h⟩⟩ hu
theorem cat_tup {t b:Addr}{vs ws:List Value}{Q:Value->Shared->Prop}(ht:IsTup s.heap t vs.toArray)(hb:IsTup s.heap b ws.toArray)(hv:vs≠ [])
  (h1:ws=[]->Q (.ref t) s) (h2:ws≠ []->Q (.ref s.heap.objs.size) { s with heap:=s.heap.push { cls:= .type "tuple",data:= .seq (vs++ws).toArray}})
  (hsz:vs.length+ws.length<=sizeLine):wpAny (model prog w) A (binaryOp .Add (.ref t) (.ref b)) Q E s:=by
 obtain⟨⟨cls,dd,data,sl⟩,ho,hc,n,hd⟩:=id ht
 obtain⟨⟨cls2,dd2,data2,sl2⟩,ho2,hc2,n2,hd2⟩:=id hb
 simp only at hc hd hc2 hd2
 subst hc hd hc2 hd2
 have e:vs.toArray++ws.toArray=(vs++ws).toArray:=by simp
 by_cases hw:ws=[]
 ·exact concat_meets ⟨_,ho,rfl⟩ ⟨_,ho2,rfl⟩ i7 seq_tuple_add gq gl (fO _ _)
   (tuple_addW1 t b vs.toArray ws.toArray n n2 dd dd2 sl sl2 (by simpa using hv) (by simp [hw])) ⟨ho,ho2,h1 hw⟩
 ·refine concat_meets ⟨_,ho,rfl⟩ ⟨_,ho2,rfl⟩ i7 seq_tuple_add gq gl (fO _ _)
   (tuple_addW2 t b vs.toArray ws.toArray n n2 dd dd2 sl sl2 (by simpa using hv) (by simpa using hw) (by rw[ak,ak]; exact hsz)) ⟨ho,ho2,?_⟩
  rw[e]
  exact h2 hw
noncomputable def sIx (n d:Nat):Option Int->Nat
 | none=>d
 | some v=>if v<0 then (v+(n:Int)).toNat else min v.toNat n
theorem sIx_none (n d:Nat):sIx n d none=d:=rfl
theorem sIx_nat (n d k:Nat):sIx n d (some (k:Int))=min k n:=by
 show (if (k:Int)<0 then ((k:Int)+(n:Int)).toNat else min (k:Int).toNat n)=min k n
 rw[ai (by lia),bu]
theorem jSO (n d:Nat)(hd:d<=n)(o:Option Int):sIx n d o<=n:=by
 cases o with
 | none=>exact hd
 | some v=>
  show (if v<0 then (v+(n:Int)).toNat else min v.toNat n)<=n
  by_cases hv:v<0
  ·rw[am hv]; lia
  ·rw[ai hv]; exact Nat.min_le_right _ _
theorem jMQ (v:Int)(n d:Nat):(if v<0 then max (v+(n:Int)) 0 else min v (n:Int))=((sIx n d (some v):Nat):Int):=by
 show (if v<0 then max (v+(n:Int)) 0 else min v (n:Int))=(((if v<0 then (v+(n:Int)).toNat else min v.toNat n):Nat):Int)
 by_cases hv:v<0
 ·simp only [am hv]; lia
 ·simp only [ai hv]; lia
theorem jK5 (lo hi:Option Int)(n:Nat):Builtin.Slice.sliceAdjust lo hi 1 (n:Int)=(((sIx n 0 lo:Nat):Int),((sIx n n hi:Nat):Int)):=by
 have h1:¬((1:Int)<0):=by lia
 unfold Builtin.Slice.sliceAdjust
 simp only [h1,eS]
 refine Prod.ext ?_ ?_
 ·cases lo with
  | none=>rfl
  | some v=>exact jMQ v n 0
 ·cases hi with
  | none=>rfl
  | some v=>exact jMQ v n n
theorem jJK (i j:Nat):Builtin.Slice.slicePlaces (i:Int) (j:Int) 1=j - i:=by
 unfold Builtin.Slice.slicePlaces
 have h1:(1:Int)>0:=by lia
 simp only [h1,gu,Int.ediv_one]
 split <;> lia
theorem slicePart_ {v:Value}{o:Option Int}{Q:Option Int->Shared->Prop}(p:IsPart v o)(h:Q o s):wpAny (model prog w) A (Builtin.Slice.slicePartIndex v) Q E s:=by
 cases p with
 | none=>exact fe h
 | int i t=>exact slicePart_int h
theorem sliceApplied_gen {sl:Addr}{vl vu:Value}{lo hi:Option Int}{n:Nat}{Q:Int×Int×Nat->Shared->Prop}(hs:s.heap.IsSliceOf sl vl vu .none)(pl:IsPart vl lo)(pu:IsPart vu hi)
  (h:Q (((sIx n 0 lo:Nat):Int),1,sIx n n hi - sIx n 0 lo) s):wpAny (model prog w) A (Builtin.Slice.sliceApplied (.ref sl) (pure (n:Int))) Q E s:=by
 obtain⟨os,hos,hcs,hds⟩:=id hs
 unfold Builtin.Slice.sliceApplied Builtin.Slice.sliceFields
 refine aa (aa (bC hos hds (x:=vl) rfl (aa (bC hos hds (x:=vu) rfl (aa (bC hos hds (x:= .none) rfl (ae ?_)))))))
 refine aa (fe ?_)
 show wpAny _ _ (if ((1:Int)==0)=true then _ else _) _ _ s
 rw[ai (by decide)]
 refine aa (slicePart_ pl (aa (slicePart_ pu (aa (ae ?_)))))
 show wpAny _ _ (match Builtin.Slice.sliceAdjust lo hi 1 (n:Int) with | (lo,hi)=>pure (lo,(1:Int),Builtin.Slice.slicePlaces lo hi 1)) _ _ s
 rw[jK5 lo hi n]
 show wpAny _ _ (pure (((sIx n 0 lo:Nat):Int),(1:Int),Builtin.Slice.slicePlaces ((sIx n 0 lo:Nat):Int) ((sIx n n hi:Nat):Int) 1)) _ _ s
 rw[jJK]
 exact ae h
theorem jNR (xs:Array Value)(i k:Nat):((List.range k).filterMap λ(m:Nat)=>xs[((i:Int)+(m:Int)*1).toNat]?).toArray=((xs.toList.drop i).take k).toArray:=by
 have e:(λ(m:Nat)=>xs[((i:Int)+(m:Int)*1).toNat]?)=λm=>xs[i+m]?:=by
  funext m
  have:((i:Int)+(m:Int)*1).toNat=i+m:=by lia
  rw[this]
 rw[e]
 have:=pick_run xs i k
 rw[List.filterMap_map] at this
 have e2:((λx=>xs[x]?) ∘ λx=>i+x)=λm=>xs[i+m]?:=rfl
 rw[e2] at this
 rw[this]
theorem getItem_tuple_cut {t sl:Addr}{items:Array Value}{vl vu:Value}{lo hi:Option Int}{Q:Value->Shared->Prop}(ht:IsTup s.heap t items)(hs:s.heap.IsSliceOf sl vl vu .none)(pl:IsPart vl lo)(pu:IsPart vu hi)
  (hw:¬(sIx items.size 0 lo=0/\sIx items.size items.size hi=items.size))
  (h:Q (.ref s.heap.objs.size) { s with heap:=s.heap.push { cls:= .type "tuple",data:= .seq ((items.toList.drop (sIx items.size 0 lo)).take (sIx items.size items.size hi - sIx items.size 0 lo)).toArray}})
  (hsz:items.size<=sizeLine):wpAny (model prog w) A (getItem (.ref t) (.ref sl)) Q E s:=by
 have htake:sizeOk (.seq ((items.toList.drop (sIx items.size 0 lo)).take (sIx items.size items.size hi - sIx items.size 0 lo)).toArray):=by
  show ((items.toList.drop (sIx items.size 0 lo)).take (sIx items.size items.size hi - sIx items.size 0 lo)).toArray.size<=sizeLine
  rw[ak,aY,cD,aw]
  lia
 have hj:sIx items.size items.size hi<=items.size:=jSO _ _ (aj _) hi
 obtain⟨os,hos,hcs,hds⟩:=id hs
 have hTs:s.TypeIs (.ref sl) "slice" :=⟨os,hos,hcs⟩
 unfold getItem
 try with_reducible refine bD ?_
 first | refine aa (ae ?_) | skip
 refine aa (gw ht.typeIs (by decide) ?_)
 refine aa (bh (name:=Str.ofString "__getitem__") ht.typeIs aU
  (bo aU ht.typeIs fz ?_ (gd _ _)))
 show wpAny _ _ (Builtin.Tuple.tupleItemsOf (.ref t) >>= _) _ _ s
 refine aa (iX ht ?_)
 refine aa (dq hTs ?_)
 rw[am (by decide)]
 refine aa (sliceApplied_gen hs pl pu ?_)
 have hno:¬((((sIx items.size 0 lo:Nat):Int)==0&&(1:Int)==1&&(sIx items.size items.size hi - sIx items.size 0 lo)==items.size)=true):=by
  intro q
  rw[bE,bE] at q
  have q1:((sIx items.size 0 lo:Nat):Int)=0:=eq_of_beq q.1.1
  have q2:sIx items.size items.size hi - sIx items.size 0 lo=items.size:=eq_of_beq q.2
  exact hw ⟨by lia,by lia⟩
 show wpAny _ _ (if (((sIx items.size 0 lo:Nat):Int)==0&&(1:Int)==1&&(sIx items.size items.size hi - sIx items.size 0 lo)==items.size)=true then _ else _) _ _ s
 rw[ai hno,jNR]
 first
  | exact aa (m:=Builtin.Tuple.tupleExact _) (bj (ae ⟨_,rfl,ae h⟩) htake)
  | exact aa (m:=Builtin.Tuple.tupleExact _) (bj (aa (ae (ae ⟨_,rfl,ae h⟩))) htake)
  | exact aa (aa (m:=Builtin.Tuple.tupleExact _) (bj (ae (ae ⟨_,rfl,ae h⟩)) htake))
  | exact aa (aa (m:=Builtin.Tuple.tupleExact _) (bj (ae ⟨_,rfl,ae h⟩) htake))
end
end HT
namespace L2
open PySem PySem.Spec PyProof.Rows
abbrev TO:=St->Hp->(Option Int->Hp->Prop)->Prop
def PO (X:Cx)(e:Option Expr)(t:TO):Prop:=
 ∀(lF:List (Addr×Obj)) (s:Shared) (σ:St) (H:Hp) (Q:Option Int->Hp->Prop),Inv X lF σ H s->t σ H Q->
  wpAny (model X.prog X.w) X.A (evalPart e X.env) (λu s'=>∃o H',Inv X lF σ H' s'/\IsPart u o/\Q o H') X.xe s
def jB4:TO:=λ_ H Q=>Q none H
def tPart (t:TE):TO:=λσ H Q=>t σ H λx H1=>∃i,x= .int i/\Q (some i) H1
theorem jEM {ns:List Int} :∀{us:List Value},Vals (ns.map V.int) us->IntsAre us ns:=by
 induction ns with
 | nil=>intro us r; rw[jm] at r; cases r; exact .nil
 | cons n ns ih=>
  intro us r
  rw[bg] at r
  cases r with
  | cons r1 r2=>
   obtain⟨t,e⟩:=r1
   subst e
   exact .cons n t (ih r2)
variable {X:Cx}{e:Expr}{pos:Pos}
section
variable {te:TE}{lo hi:Option Expr}{tl th:TO}{p2:Pos}
theorem jQP:PO X none jB4:=by
 intro lF s σ H Q I h
 rw[iY]
 exact ae ⟨none,H,I, .none,h⟩
theorem jQO (h:PE X e te):PO X (some e) (tPart te):=by
 intro lF s σ H Q I hw
 rw[evalPart_some]
 refine lJ (h lF s σ H _ I hw) λu s1 ⟨x,H1,I1,r1,q1⟩=>?_
 obtain⟨i,rfl,q⟩:=q1
 obtain⟨t,rfl⟩:=r1
 exact⟨some i,H1,I1, .int i t,q⟩
def SlR (X:Cx)(r:V->Option Int->Option Int->Hp->VK->Prop):Prop:=
 ∀(lF:List (Addr×Obj)) (s:Shared) (σ:St) (H:Hp) (x:V) (v vl vu:Value) (lo hi:Option Int) (sl:Addr) (Q:VK),Inv X lF σ H s->RelV x v->s.heap.IsSliceOf sl vl vu .none->IsPart vl lo->IsPart vu hi->r x lo hi H Q->
  ∃T id,typeLookup (.type T) "__getitem__" =pure (some (.builtin id))/\s.TypeIs v T/\wpAny (model X.prog X.w) X.A (getItem v (.ref sl)) (EP X lF σ Q) X.xe s
def tSl (r:V->Option Int->Option Int->Hp->VK->Prop)(te:TE)(tl th:TO):TE:=λσ H Q=>te σ H λx H1=>tl σ H1 λl H2=>th σ H2 λu H3=>r x l u H3 Q
theorem jNT {r:V->Option Int->Option Int->Hp->VK->Prop}(hr:SlR X r)(he:PE X e te)(hl:PO X lo tl)(hu:PO X hi th):PE X (.Subscript e (.Slice lo hi none p2) pos) (tSl r te tl th):=by
 intro lF s σ H Q I h
 refine jn (lJ (he lF s σ H _ I h) λv s1 ⟨x,H1,I1,r1,q1⟩=>?_)
 refine wpAny_Slice (lJ (hl lF s1 σ H1 _ I1 q1) λvl s2 ⟨l,H2,I2,pl,q2⟩=>lJ (hu lF s2 σ H2 _ I2 q2) λvu s3 ⟨u,H3,I3,pu,q3⟩=>?_)
 rw[iY]
 refine ae ?_
 have I4:Inv X lF σ H3 { s3 with heap:=s3.heap.push { cls:= .type "slice",data:= .fields #[vl,vu, .none]}} :=I3.kept (t':=s3.toks) λb ob q=>ab _ q
 obtain⟨T,id,hT,ht,hg⟩:=hr lF { s3 with heap:=s3.heap.push { cls:= .type "slice",data:= .fields #[vl,vu, .none]}} σ H3 x v vl vu l u s3.heap.objs.size Q I4 r1 (ge ..) pl pu q3
 show wpAny (model X.prog X.w) X.A (subscriptTail e (.Slice lo hi none p2) v (.ref s3.heap.objs.size)) (EP X lF σ Q) X.xe { s3 with heap:=s3.heap.push { cls:= .type "slice",data:= .fields #[vl,vu, .none]}}
 exact tail_any (ops:=[.ref s3.heap.objs.size,v]) ht hT hg (by with_unfolding_all rfl)
def cutV (xs:List V)(lo hi:Option Int):List V:=(xs.drop (HT.sIx xs.length 0 lo)).take (HT.sIx xs.length xs.length hi - HT.sIx xs.length 0 lo)
theorem jE9 (xs:List V)(lo hi:Option Int):(cutV xs lo hi).length<=xs.length:=by
 unfold cutV
 rw[aY,cD]
 lia
def rSlT (K:W.Frag):V->Option Int->Option Int->Hp->VK->Prop:=λx lo hi H Q=>∃a xs,x= .ref a/\SqT K H a xs/\
 ¬(HT.sIx xs.length 0 lo=0/\HT.sIx xs.length xs.length hi=xs.length)/\∀p,H p=none->Q (.ref p) (upd H p (.tup (cutV xs lo hi)))
theorem jSL:SlR X (rSlT X.K):=by
 intro lF s σ H x v vl vu lo hi sl Q I rx hs pl pu h
 obtain⟨a,xs,rfl,hx,hw,q⟩:=h
 cases rx
 obtain⟨its,r,ht,hz⟩:=I.tuple hx
 have hlen:its.toArray.size=xs.length:=by rw[ak]; exact r.length.symm
 refine⟨"tuple",_,aU.lookup,ht.typeIs,?_⟩
 refine HT.getItem_tuple_cut ht hs pl pu (by rw[hlen]; exact hw) ?_ (by rw[hlen]; exact hz)
 rw[hlen]
 refine⟨.ref s.heap.objs.size,_,I.laid (t':=s.toks) (o:= .tup (cutV xs lo hi)) (λb ob q=>ab _ q) (aj _) ?_,rfl,q _ (I.hok.fresh (aj _))⟩
 exact⟨bM (jE9 xs lo hi) hz,_,(r.drop (HT.sIx xs.length 0 lo)).take (HT.sIx xs.length xs.length hi - HT.sIx xs.length 0 lo),TupO.new _ _⟩
def rCatT (K:W.Frag):R2:=λx y H Q=>∃a b xs ys,x= .ref a/\y= .ref b/\SqT K H a xs/\SqT K H b ys/\xs≠ []/\xs.length+ys.length<=sizeLine/\
 (ys=[]->Q (.ref a) H)/\(ys≠ []->∀p,H p=none->Q (.ref p) (upd H p (.tup (xs++ys))))
theorem Vals.nil_iff {xs:List V}{us:List Value}(r:Vals xs us):us=[]↔xs=[]:=by
 cases r with
 | nil=>simp
 | cons _ _=>simp
theorem jR3:OpR X (binaryOp .Add) (rCatT X.K):=by
 intro lF s σ H x y v u Q I rx ry h
 obtain⟨a,b,xs,ys,rfl,rfl,ha,hb,hx,hz,q1,q2⟩:=h
 cases rx
 cases ry
 obtain⟨its,r1,p1,_⟩:=I.tuple ha
 obtain⟨its2,r2,p2,_⟩:=I.tuple hb
 refine HT.cat_tup p1 p2 (λz=>hx (r1.nil_iff.mp z)) (λz=>⟨.ref a,H,I,rfl,q1 (r2.nil_iff.mp z)⟩) (λz=>?_) (by rw[<- r1.length,<- r2.length]; exact hz)
 refine⟨.ref s.heap.objs.size,_,I.laid (t':=s.toks) (o:= .tup (xs++ys)) (λb ob q=>ab _ q) (aj _) ?_,rfl,q2 (λw=>z (r2.nil_iff.mpr w)) _ (I.hok.fresh (aj _))⟩
 exact⟨by rw[aJ]; exact hz,_,r1.append r2,TupO.new _ _⟩
end
noncomputable def ixN (n:Nat)(i:Int):Option Nat:=if 0<=i then (if i<n then some i.toNat else none) else if -(n:Int)<=i then some (i+n).toNat else none
def atI {α:Type}(xs:List α)(i:Int):Option α:=(ixN xs.length i).bind λj=>xs[j]?
theorem jLZ {n:Nat}{i:Int}{j:Nat}(h:ixN n i=some j):seqIndex? i n=some j/\j<n/\ -(n:Int)<=i/\i<n:=by
 unfold ixN at h
 by_cases h0:0<=i
 ·rw[am h0] at h
  by_cases h1:i<n
  ·rw[am h1] at h
   have e:i.toNat=j:=bG h
   exact⟨by rw[seqIndex_of h0 h1,e],by lia,by lia,h1⟩
  ·rw[ai h1] at h; cases h
 ·rw[ai h0] at h
  by_cases h1: -(n:Int)<=i
  ·rw[am h1] at h
   have e:(i+n).toNat=j:=bG h
   exact⟨by rw[seqIndex_neg (by lia) h1,e],by lia,h1,by lia⟩
  ·rw[ai h1] at h; cases h
theorem jN6 {α:Type}{xs:List α}{i:Int}{v:α}(h:atI xs i=some v):∃j,seqIndex? i xs.length=some j/\xs[j]?=some v/\j<xs.length/\ -(xs.length:Int)<=i/\i<xs.length:=by
 unfold atI at h
 cases e:ixN xs.length i with
 | none=>rw[e] at h; cases h
 | some j=>
  rw[e] at h
  obtain⟨h1,h2,h3,h4⟩:=jLZ e
  exact⟨j,h1,h,h2,h3,h4⟩
theorem jAQ {α:Type}{xs:List α}{j:Nat}{v:α}(h:xs[j]?=some v):atI xs (j:Int)=some v:=by
 have hj:j<xs.length:=(ah.mp h).1
 have e:ixN xs.length (j:Int)=some j:=by
  unfold ixN
  rw[am (by lia),am (by lia)]; simp
 unfold atI; rw[e]; exact h
def jB3 (b:Expr):Prop:=∀o i,subscripted b false o i=operate [o,i] (getItem o i)
def IxR (X:Cx)(r:R2):Prop:=
 ∀(value slice:Expr) (lF:List (Addr×Obj)) (s:Shared) (σ:St) (H:Hp) (x y:V) (v u:Value) (Q:VK),Inv X lF σ H s->RelV x v->RelV y u->r x y H Q->
  subscripted slice false v u=operate [v,u] (getItem v u)->wpAny (model X.prog X.w) X.A (subscriptTail value slice v u) (EP X lF σ Q) X.xe s
def MtR (X:Cx)(id:String)(r:V->List V->Hp->VK->Prop):Prop:=
 ∀(lF:List (Addr×Obj)) (s:Shared) (σ:St) (H:Hp) (x:V) (xs:List V) (v:Value) (us:List Value) (Q:VK),Inv X lF σ H s->RelV x v->Vals xs us->r x xs H Q->
  wpAny (model X.prog X.w) X.A (call (.builtin id) (v::us)) (EP X lF σ Q) X.xe s
section
variable {a b:Expr}{ta tb:TE}
theorem pe_ix {r:R2}(hr:IxR X r)(ha:PE X a ta)(hb:PE X b tb)(hs:jB3 b):PE X (.Subscript a b pos) (tOp r ta tb):=by
 intro lF s σ H Q I h
 exact jn (binT ha hb I h λv u s2 x y H2 I2 rx ry q=>hr a b lF s2 σ H2 x y v u Q I2 rx ry q (hs _ _))
def rIxL (K:W.Frag):R2:=λx y H Q=>∃p xs i v,x= .ref p/\y= .int i/\SqL K H p xs/\atI xs i=some v/\Q v H
def rIxT (K:W.Frag):R2:=λx y H Q=>∃p xs i v,x= .ref p/\y= .int i/\SqT K H p xs/\atI xs i=some v/\Q v H
theorem yC:IxR X (rIxL X.K):=by
 intro value slice lF s σ H x y v u Q I rx ry h hs
 obtain⟨p,xs,i,z,rfl,rfl,hq,he,q⟩:=h
 cases rx
 obtain⟨t,rfl⟩:=ry
 obtain⟨its,r,pl,hz⟩:=I.list hq
 obtain⟨j,h1,h2,h3,h4,h5⟩:=jN6 he
 obtain⟨w,ew,rw'⟩:=r.get h2
 have hl:=r.length
 have hn:=jGH
 have fin:EP X lF σ Q w s:=⟨z,H,I,rw',q⟩
 by_cases h0:0<=i
 ·have hj:i.toNat=j:=by
   rw[seqIndex_of h0 h5] at h1
   exact bG h1
  exact item_listR pl.isList h0 (by lia) (by rw[hj]; simpa using ew) fin hs
 ·have hj:(i+(its.toArray.size:Int)).toNat=j:=by
   rw[seqIndex_neg (by lia) h4] at h1
   rw[ak,<- hl]
   exact bG h1
  exact subscriptTail_builtinR (x:=w) pl.isList.typeIs slot_list_getitem.lookup
   (wpAny_getItem_list_neg (Q:=λr s'=>r=w/\EP X lF σ Q r s') pl.isList (by lia) (by rw[ak] <;> lia) (by lia) (by rw[hj]; simpa using ew) ⟨rfl,fin⟩) hs
theorem jX:IxR X (rIxT X.K):=by
 intro value slice lF s σ H x y v u Q I rx ry h hs
 obtain⟨p,xs,i,z,rfl,rfl,hq,he,q⟩:=h
 cases rx
 obtain⟨t,rfl⟩:=ry
 obtain⟨its,r,pl,hz⟩:=I.tuple hq
 obtain⟨j,h1,h2,h3,h4,h5⟩:=jN6 he
 obtain⟨w,ew,rw'⟩:=r.get h2
 have hl:=r.length
 have hn:=jGH
 have fin:EP X lF σ Q w s:=⟨z,H,I,rw',q⟩
 exact subscriptTail_builtinR (x:=w) pl.typeIs slot_tuple_getitem.lookup
  (getItem_tuple (j:=j) (Q:=λr s'=>r=w/\EP X lF σ Q r s') pl (by lia) (by lia) (by rw[ak,<- hl]; exact h1) (by simpa using ew) ⟨rfl,fin⟩) hs
theorem jJR (its:List Value)(n j:Nat)(u:Value):Obj.mapSeq (·.setIfInBounds j u) { cls:= .type "list",data:= .seq its.toArray n} = { cls:= .type "list",data:= .seq (its.set j u).toArray n} :=by
 simp [Obj.mapSeq]
theorem Inv.lst {lF:List (Addr×Obj)}{σ:St}{H:Hp}{s:Shared}{p:Addr}{xs:List V}(I:Inv X lF σ H s)(h:H p=some (.lst xs)):
  ∃(its:List Value) (n:Nat),Vals xs its/\s.heap.get? p=some { cls:= .type "list",data:= .seq its.toArray n} /\xs.length<=sizeLine:=by
 obtain⟨z,its,n,r,e⟩:=I.hok p _ h
 exact⟨its,n,r,e,z⟩
theorem Inv.lstUpd {lF:List (Addr×Obj)}{σ:St}{H:Hp}{s:Shared}{p:Addr}{xs ys:List V}{its its':List Value}{n n':Nat}{f:Obj->Obj}(I:Inv X lF σ H s)(h:H p=some (.lst xs))
  (ho:s.heap.get? p=some { cls:= .type "list",data:= .seq its.toArray n}) (hf:f { cls:= .type "list",data:= .seq its.toArray n} = { cls:= .type "list",data:= .seq its'.toArray n'}) (r:Vals ys its') (hz:ys.length<=sizeLine) (t:Nat):
  Inv X lF σ (upd H p (.lst ys)) { s with heap:=s.heap.update p f,toks:=t} :=by
 have e:(s.heap.update p f).get? p=some { cls:= .type "list",data:= .seq its'.toArray n'} :=by
  rw[bY f ho (by rw[hf] <;> rfl),hf]
 refine I.write (x:=p) (e:=p) (by rw[h]; trivial) (.inl rfl) (λb u hb q=>(bf _ _ (dh hb)).trans q) ⟨_,e⟩ ?_
 exact⟨hz,its',n',r,e⟩
def rSetL:V->V->V->Hp->(Hp->Prop)->Prop:=λo i v H Q=>∃p xs k j,o= .ref p/\i= .int k/\H p=some (.lst xs)/\ixN xs.length k=some j/\Q (upd H p (.lst (xs.set j v)))
theorem jNM:PSet X rSetL:=by
 intro lF s σ H o i v ov iv u Q I ro ri rv h
 obtain⟨p,xs,k,j,rfl,rfl,hp,hj,q⟩:=h
 cases ro
 obtain⟨t,rfl⟩:=ri
 obtain⟨its,n,r,ho,hz⟩:=I.lst hp
 obtain⟨h1,h2,h3,h4⟩:=jLZ hj
 have hl:=r.length
 have hn:=jGH
 have I':Inv X lF σ (upd H p (.lst (xs.set j v))) { s with heap:=s.heap.update p (Obj.mapSeq (·.setIfInBounds j u))} :=
  I.lstUpd hp ho (jJR its n j u) (r.set rv j) (by rw[List.length_set]; exact hz) s.toks
 by_cases h0:0<=k
 ·have hk:k.toNat=j:=by
   rw[seqIndex_of h0 h4] at h1
   exact bG h1
  exact PySem.W.ki_setAt ho h0 (by lia) (by rw[ak,<- hl]; exact h4) (by rw[hk]; exact⟨_,I',q⟩)
 ·have hk:(k+(its.toArray.size:Int)).toNat=j:=by
   rw[seqIndex_neg (by lia) h3] at h1
   rw[ak,<- hl]
   exact bG h1
  exact PySem.W.ki_setBack ho (by lia) (by rw[ak,<- hl]; exact h3) (by lia) (by rw[hk]; exact⟨_,I',q⟩)
theorem jG5 (lo hi:Option Int)(n:Nat):(sliceBounds lo hi none n).1=((HT.sIx n 0 lo:Nat):Int)/\(sliceBounds lo hi none n).2.1=((HT.sIx n n hi:Nat):Int)/\(sliceBounds lo hi none n).2.2=1:=by
 refine⟨?_,?_,rfl⟩
 ·cases lo with
  | none=>simp [sliceBounds,HT.sIx]
  | some i=>
   simp only [sliceBounds,HT.sIx,getD_none,show (1:Int)>0 by decide,gu]
   by_cases h:i<0
   ·simp only [h,gu] <;> lia
   ·simp only [h,eS] <;> lia
 ·cases hi with
  | none=>simp [sliceBounds,HT.sIx]
  | some i=>
   simp only [sliceBounds,HT.sIx,getD_none,show (1:Int)>0 by decide,gu]
   by_cases h:i<0
   ·simp only [h,gu] <;> lia
   ·simp only [h,eS] <;> lia
theorem jEX (its:List Value)(lo hi:Option Int):slicePick its.toArray lo hi none=((its.drop (HT.sIx its.length 0 lo)).take (HT.sIx its.length its.length hi - HT.sIx its.length 0 lo)).toArray:=by
 obtain⟨h1,h2,h3⟩:=jG5 lo hi its.toArray.size
 unfold slicePick
 rw[h1,h2,h3]
 simp only [sliceRange_one,pick_run,ak] <;> rfl
def rSlL (K:W.Frag):V->Option Int->Option Int->Hp->VK->Prop:=λx lo hi H Q=>∃a xs,x= .ref a/\SqL K H a xs/\∀p,H p=none->Q (.ref p) (upd H p (.lst (cutV xs lo hi)))
theorem kY:SlR X (rSlL X.K):=by
 intro lF s σ H x v vl vu lo hi sl Q I rx hs pl pu h
 obtain⟨a,xs,rfl,hx,q⟩:=h
 cases rx
 obtain⟨its,r,ht,hz⟩:=I.list hx
 have hlen:=r.length
 refine⟨"list",_,slot_list_getitem.lookup,ht.isList.typeIs,?_⟩
 refine wpAny_getItem_list_slice ht.isList hs pl pu .none (by simp) ?_ (by rw[ak] <;> lia)
 rw[jEX,<- hlen]
 refine⟨.ref s.heap.objs.size,_,I.laid (t':=s.toks) (o:= .lst (cutV xs lo hi)) (λb ob q=>ab _ q) (aj _) ?_,rfl,q _ (I.hok.fresh (aj _))⟩
 exact⟨bM (jE9 xs lo hi) hz,_,0,(r.drop (HT.sIx xs.length 0 lo)).take (HT.sIx xs.length xs.length hi - HT.sIx xs.length 0 lo),ao _ rfl⟩
def flatV:V->Bool
 | .non=>true
 | .bl _=>true
 | .int _=>true
 | .str _=>true
 | _=>false
noncomputable def eqV:V->V->Bool
 | .non, .non=>true
 | .bl a, .bl b=>a==b
 | .bl a, .int b=>(if a then 1 else 0)==b
 | .int a, .bl b=>a==(if b then 1 else 0)
 | .int a, .int b=>a==b
 | .str a, .str b=>a==b
 | _,_=>false
theorem jQ4 {A:Around}{s:Shared}{y x:V}{u v:Value}(ry:RelV y u)(rx:RelV x v)(fy:flatV y=true)(fx:flatV x=true):SeqAt.EqAt A s u v (eqV y x):=by
 cases y with
 | non=>
  cases ry
  cases x with
  | non=>cases rx; exact SeqAt.EqAt.same _
  | bl b=>cases rx; exact SeqAt.EqAt.none_bool b
  | int b=>obtain⟨t,rfl⟩:=rx; exact SeqAt.EqAt.none_int b t
  | str b=>obtain⟨t,rfl⟩:=rx; exact SeqAt.EqAt.none_str b t
  | _=>exact absurd (show false=true from fx) ag
 | bl a=>
  cases ry
  cases x with
  | non=>cases rx; exact SeqAt.EqAt.bool_none a
  | bl b=>cases rx; exact SeqAt.EqAt.bool_bool a b
  | int b=>obtain⟨t,rfl⟩:=rx; exact SeqAt.EqAt.bool_int a b t
  | str b=>obtain⟨t,rfl⟩:=rx; exact SeqAt.EqAt.bool_str a b t
  | _=>exact absurd (show false=true from fx) ag
 | int a=>
  obtain⟨t',rfl⟩:=ry
  cases x with
  | non=>cases rx; exact SeqAt.EqAt.int_none a t'
  | bl b=>cases rx; exact SeqAt.EqAt.int_bool a t' b
  | int b=>obtain⟨t,rfl⟩:=rx; exact eF a t' b t
  | str b=>obtain⟨t,rfl⟩:=rx; exact SeqAt.EqAt.int_str a t' b t
  | _=>exact absurd (show false=true from fx) ag
 | str a=>
  obtain⟨t',rfl⟩:=ry
  cases x with
  | non=>cases rx; exact SeqAt.EqAt.str_none a t'
  | bl b=>cases rx; exact SeqAt.EqAt.str_bool a t' b
  | int b=>obtain⟨t,rfl⟩:=rx; exact SeqAt.EqAt.str_int a t' b t
  | str b=>obtain⟨t,rfl⟩:=rx; exact SeqAt.EqAt.str_str a t' b t
  | _=>exact absurd (show false=true from fx) ag
 | _=>exact absurd (show false=true from fy) ag
noncomputable def eqU (x:V)(u:Value):Bool:=match u with
 | .none=>eqV .non x
 | .bool b=>eqV (.bl b) x
 | .int i _=>eqV (.int i) x
 | .str z _=>eqV (.str z) x
 | _=>false
theorem jQ3 {x y:V}{u:Value}(r:RelV y u)(f:flatV y=true):eqU x u=eqV y x:=by
 cases y with
 | non=>cases r; rfl
 | bl b=>cases r; rfl
 | int i=>obtain⟨t,rfl⟩:=r; rfl
 | str z=>obtain⟨t,rfl⟩:=r; rfl
 | _=>exact absurd (show false=true from f) ag
theorem jED {x:V} :∀{xs:List V}{us:List Value},Vals xs us->xs.all flatV=true->us.any (eqU x)=xs.any λy=>eqV y x
 | _,_, .nil,_=>rfl
 | y::xs,u::us, .cons r t,f=>by
  rw[eW,bE] at f
  rw[gU,gU,jQ3 r f.1,jED t f.2]
theorem jC3 {A:Around}{s:Shared}{x:V}{v:Value}(rx:RelV x v)(fx:flatV x=true):∀{xs:List V}{us:List Value},Vals xs us->xs.all flatV=true->∀u∈us,SeqAt.EqAt A s u v (eqU x u)
 | _,_, .nil,_=>λu hu=>by cases hu
 | y::xs,u::us, .cons r t,f=>λu' hu=>by
  rw[eW,bE] at f
  rcases aF.mp hu with rfl | hu
  ·rw[jQ3 r f.1]; exact jQ4 r rx f.1 fx
  ·exact jC3 rx fx t f.2 u' hu
def inV (x:V)(xs:List V):Bool:=xs.any λy=>eqV y x
def rIn (K:W.Frag)(neg:Bool):R2:=λx y H Q=>∃p xs,y= .ref p/\(SqL K H p xs\/SqT K H p xs)/\flatV x=true/\xs.all flatV=true/\Q (.bl (if neg then !inV x xs else inV x xs)) H
theorem jDY:OpR X (compareOp .In) (rIn X.K false):=by
 intro lF s σ H x y v u Q I rx ry h
 obtain⟨p,xs,rfl,hq,fx,fs,q⟩:=h
 cases ry
 rcases hq with hq | hq
 ·obtain⟨its,r,pl,hz⟩:=I.list hq
  refine SeqAt.in_listAt (eqU x) pl.isList (λw hw=>jC3 rx fx r fs w (by simpa using hw)) ⟨.bl _,H,I,rfl,?_⟩
  rw[show its.toArray.any (eqU x)=its.any (eqU x) by simp,jED r fs]
  exact q
 ·obtain⟨its,r,pl,hz⟩:=I.tuple hq
  refine SeqAt.in_tupleAt (eqU x) pl (λw hw=>jC3 rx fx r fs w (by simpa using hw)) ⟨.bl _,H,I,rfl,?_⟩
  rw[show its.toArray.any (eqU x)=its.any (eqU x) by simp,jED r fs]
  exact q
theorem jGD:OpR X (compareOp .NotIn) (rIn X.K true):=by
 intro lF s σ H x y v u Q I rx ry h
 obtain⟨p,xs,rfl,hq,fx,fs,q⟩:=h
 cases ry
 rcases hq with hq | hq
 ·obtain⟨its,r,pl,hz⟩:=I.list hq
  refine SeqAt.notIn_listAt (eqU x) pl.isList (λw hw=>jC3 rx fx r fs w (by simpa using hw)) ⟨.bl _,H,I,rfl,?_⟩
  rw[show its.toArray.any (eqU x)=its.any (eqU x) by simp,jED r fs]
  exact q
 ·obtain⟨its,r,pl,hz⟩:=I.tuple hq
  refine SeqAt.notIn_tupleAt (eqU x) pl (λw hw=>jC3 rx fx r fs w (by simpa using hw)) ⟨.bl _,H,I,rfl,?_⟩
  rw[show its.toArray.any (eqU x)=its.any (eqU x) by simp,jED r fs]
  exact q
theorem jG:yT X (.builtin "len") (λxs H Q=>∃p ys,xs=[.ref p]/\(SqL X.K H p ys\/SqT X.K H p ys)/\Q (.int ys.length) H):=by
 intro lF s σ H xs us Q I r h
 obtain⟨p,ys,rfl,hq,q⟩:=h
 obtain⟨u,rfl,rx⟩:=vals1 r
 cases rx
 have hn:=jGH
 rcases hq with hq | hq
 ·obtain⟨its,r',pl,hz⟩:=I.list hq
  have hlen:=r'.length
  exact Calls.call_len_list pl.isList (by simp only [ak] <;> lia) ⟨.int ys.length,H,I.tok _,⟨s.toks+1,by rw[ak,hlen]⟩,q⟩
 ·obtain⟨its,r',pl,hz⟩:=I.tuple hq
  have hlen:=r'.length
  exact len_tuple pl (by simp only [ak] <;> lia) ⟨.int ys.length,H,I.tok _,⟨s.toks+1,by rw[ak,hlen]⟩,q⟩
theorem jGV:yT X (.type "list") (λxs H Q=>∃p ys,xs=[.ref p]/\(SqL X.K H p ys\/SqT X.K H p ys)/\∀l,H l=none->Q (.ref l) (upd H l (.lst ys))):=by
 intro lF s σ H xs us Q I r h
 obtain⟨p,ys,rfl,hq,q⟩:=h
 obtain⟨u,rfl,rx⟩:=vals1 r
 cases rx
 have fin:∀(its:List Value),Vals ys its->ys.length<=sizeLine->∀(h':Heap) (c':Nat),(∀b o',s.heap.get? b=some o'->h'.get? b=some o')->
   h'.get? s.heap.objs.size=some { cls:= .type "list",dict:=none,data:= .seq its.toArray c',slots:=#[]} ->EP X lF σ Q (.ref s.heap.objs.size) { s with heap:=h'} :=λits r' hz h' c' kp e=>
  ⟨.ref s.heap.objs.size,_,I.laid (t':=s.toks) kp (aj _) (show ObjOk X.prog X.w _ h' _ (.lst ys) from ⟨hz,its,c',r',e⟩),rfl,q _ (I.hok.fresh (aj _))⟩
 rcases hq with hq | hq
 ·obtain⟨its,r',pl,hz⟩:=I.list hq
  have hlen:=r'.length
  obtain⟨o,ho,hc,n,hd⟩:=pl.isList
  exact call_list_seq p (.inl rfl) ho hc hd (λh' c' kp e=>fin its r' hz h' c' kp e) (by simp only [ak] <;> lia)
 ·obtain⟨its,r',pl,hz⟩:=I.tuple hq
  have hlen:=r'.length
  obtain⟨o,ho,hc,n,hd⟩:=pl
  exact call_list_seq p (.inr rfl) ho hc hd (λh' c' kp e=>fin its r' hz h' c' kp e) (by simp only [ak] <;> lia)
theorem jA0:yT X (.type "tuple") (λxs H Q=>∃p ys,xs=[.ref p]/\((SqL X.K H p ys/\∀l,H l=none->Q (.ref l) (upd H l (.tup ys)))\/(SqT X.K H p ys/\Q (.ref p) H))):=by
 intro lF s σ H xs us Q I r h
 obtain⟨p,ys,rfl,h⟩:=h
 obtain⟨u,rfl,rx⟩:=vals1 r
 cases rx
 rcases h with ⟨hq,q⟩ | ⟨hq,q⟩
 ·obtain⟨its,r',pl,hz⟩:=I.list hq
  have hlen:=r'.length
  refine call_tuple_list pl.isList (λh' kp=>?_) (by simp only [ak] <;> lia)
  have I1:Inv X lF σ H { s with heap:=h'} :=I.kept (t':=s.toks) kp
  have I2:Inv X lF σ (upd H h'.objs.size (.tup ys)) { s with heap:=h'.push { cls:= .type "tuple",data:= .seq its.toArray}} :=
   I1.laid (t':=s.toks) (λb o e=>ab _ e) (aj _) (show ObjOk X.prog X.w _ _ _ (.tup ys) from ⟨hz,its,r',TupO.new _ _⟩)
  exact⟨.ref h'.objs.size,_,I2,rfl,q _ (I1.hok.fresh (aj _))⟩
 ·obtain⟨its,r',pl,hz⟩:=I.tuple hq
  exact call_tuple_same pl ⟨.ref p,H,I,rfl,q⟩
def tyV (K:W.Frag)(T:String)(x:V)(H:Hp):Prop:=match x with
 | .str _=>T= "str"
 | .int _=>T= "int"
 | .ref p=>(T= "list" /\∃xs,SqL K H p xs)\/(T= "tuple" /\∃o,K.lookup p=some o/\o.cls= .type "tuple" /\o.dict=none)\/
   (T= "dict" /\((∃lI,H p=some (.dK lI))\/∃lI,H p=some (.dT lI)))\/(T= "set" /\∃S n,H p=some (.set S n))
 | _=>False
theorem jOY {lF:List (Addr×Obj)}{σ:St}{H:Hp}{s:Shared}{T:String}{x:V}{v:Value}(I:Inv X lF σ H s)(r:RelV x v)(ty:tyV X.K T x H):
  s.TypeIs v T/\∀a,v= .ref a->∃ob,s.heap.get? a=some ob/\ob.dict=none:=by
 cases x with
 | str z=>
  obtain⟨t,rfl⟩:=r
  cases (show T= "str" from ty)
  exact⟨typeIs_str s z t,λ_ e=>nomatch e⟩
 | int i=>
  obtain⟨t,rfl⟩:=r
  cases (show T= "int" from ty)
  exact⟨typeIs_int s i t,λ_ e=>nomatch e⟩
 | ref p=>
  cases r
  rcases ty with ⟨rfl,xs,hq⟩ | ⟨rfl,o,hk,hc,hd⟩ | ⟨rfl,hk⟩ | ⟨rfl,S,n,hk⟩
  ·obtain⟨its,_,pl,_⟩:=I.list hq
   refine⟨pl.isList.typeIs,λa e=>?_⟩
   cases e
   obtain⟨o,n,e,c,hd,_⟩:=pl
   exact⟨o,e,hd⟩
  ·refine⟨⟨o,I.kIn p o hk,hc⟩,λa e=>?_⟩
   cases e
   exact⟨o,I.kIn _ o hk,hd⟩
  ·have z:∃o,s.heap.get? p=some o/\o.ExactDict:=by
    rcases hk with ⟨lI,hk⟩ | ⟨lI,hk⟩
    ·obtain⟨_,_,_,_,o,_,_,e,ex,_⟩:=I.hok p _ hk
     exact⟨o,e,ex⟩
    ·obtain⟨_,_,_,_,o,_,_,e,ex,_⟩:=I.hok p _ hk
     exact⟨o,e,ex⟩
   obtain⟨o,e,ex⟩:=z
   refine⟨⟨o,e,ex.1⟩,λa e2=>?_⟩
   cases e2
   exact⟨o,e,ex.2.1⟩
  ·obtain⟨o,_,_,_,e,ex,_⟩:=I.hok p _ hk
   refine⟨⟨o,e,ex.1⟩,λa e2=>?_⟩
   cases e2
   exact⟨o,e,ex.2.1⟩
 | _=>exact False.elim ty
def tBM0 (K:W.Frag)(T:String)(r:V->List V->Hp->VK->Prop)(to:TE):TE:=λσ H Q=>to σ H λx H1=>tyV K T x H1/\r x [] H1 Q
def tBM (K:W.Frag)(T:String)(r:V->List V->Hp->VK->Prop)(to:TE)(t:TA):TE:=λσ H Q=>to σ H λx H1=>tyV K T x H1/\t σ H1 λxs H2=>r x xs H2 Q
variable {o:Expr}{es:List Expr}{to:TE}{t:TA}{name:Str}{apos cpos:Pos}{T id:String}{r:V->List V->Hp->VK->Prop}
theorem jT8 (pa:PlainAttrs T)(slot:Slot T name id)(hty:typeOf (.builtin id)=pure (.type "method_descriptor"))(hm:MtR X id r)(ho:PE X o to)
  (hbase:attributeBase o name X.env (eval o X.env)=eval o X.env:=by rfl) (hline:(apos.endLine==cpos.line)=true:=by rfl):PE X (.Call (.Attribute o name apos) [] [] cpos) (tBM0 X.K T r to):=by
 intro lF s σ H Q I h
 refine wpAny_Call_method0_late hbase hline (lJ (ho lF s σ H _ I h) λv s1 ⟨x,H1,I1,r1,ty,q1⟩=>?_)
 obtain⟨h1,h2⟩:=jOY I1 r1 ty
 exact⟨T,id,pa,slot,hty,h1,h2,Calls.callWith_builtin rfl (PySem.evalArgs_none (hm lF s1 σ H1 x [] v [] Q I1 r1 .nil q1))⟩
theorem pe_bm (pa:PlainAttrs T)(slot:Slot T name id)(hty:typeOf (.builtin id)=pure (.type "method_descriptor"))(hm:MtR X id r)(ho:PE X o to)(ha:PA X (e::es) t)
  (hbase:attributeBase o name X.env (eval o X.env)=eval o X.env:=by rfl)
  (hfew:((backTo cpos (starEach (e::es) X.env)).all (λx=>!x.1)&&(backToKw cpos (keywordEach [] X.env)).all (λx=>x.1.isSome)
   &&decide ((e::es).length+([]:List Keyword).length+(if ([]:List Keyword).isEmpty then 0 else 1)<30))=true:=by rfl)
  (hline:(apos.endLine==cpos.line)=true:=by rfl) (hs:starEach (e::es) X.env=(false,eval e X.env)::starEach es X.env:=by rfl) (hplain:(backTo cpos (starEach es X.env)).any (·.1)=false:=by rfl):
  PE X (.Call (.Attribute o name apos) (e::es) [] cpos) (tBM X.K T r to t):=by
 intro lF s σ H Q I h
 refine wpAny_Call_method_late hbase hfew hline rfl (lJ (ho lF s σ H _ I h) λv s1 ⟨x,H1,I1,r1,ty,q1⟩=>?_)
 obtain⟨h1,h2⟩:=jOY I1 r1 ty
 refine⟨T,id,pa,slot,hty,h1,h2,?_⟩
 have hA:=ha cpos lF s1 σ H1 _ I1 q1
 rw[hs] at hA ⊢
 refine Calls.callWith_builtin (by show (false || (backTo cpos (starEach es X.env)).any (·.1))=false; rw[hplain] <;> rfl) (Calls.evalArgs_plain ?_)
 exact lJ hA λus s2 ⟨vs,H2,I2,r2,q2⟩=>hm lF s2 σ H2 x vs v us Q I2 r1 r2 q2
/- xs.append(e),list.index on a module's tuple .. are MtR facts of 06m -/
end
def MtM (X:Cx)(id:String)(r:V->List V->Hp->VK->Prop):Prop:=
 ∀(lF:List (Addr×Obj)) (s:Shared) (σ:St) (H:Hp) (x:V) (xs:List V) (v:Value) (us:List Value) (Q:VK),Inv X lF σ H s->RelV x v->Vals xs us->r x xs H Q->
  wpAny (model X.prog X.w) X.A (call (.builtin id) (v::us)) (EP X lF σ Q) X.xe s
theorem Vals.one:∀{x:V}{us:List Value},Vals [x] us->∃u,us=[u]/\RelV x u
 | _,_, .cons r .nil=>⟨_,rfl,r⟩
theorem Vals.two:∀{x y:V}{us:List Value},Vals [x,y] us->∃u v,us=[u,v]/\RelV x u/\RelV y v
 | _,_,_, .cons r (.cons q .nil)=>⟨_,_,rfl,r,q⟩
theorem Vals.zero:∀{us:List Value},Vals [] us->us=[]
 | _, .nil=>rfl
theorem Vals.reverse {xs:List V}{us:List Value}(h:Vals xs us):Vals xs.reverse us.reverse:=by
 induction h with
 | nil=>exact .nil
 | cons r t ih=>rw[dQ,dQ]; exact Vals.append ih (.cons r .nil)
variable {s:Shared}
section
variable {lF:List (Addr×Obj)}{σ:St}{H:Hp}{l b:Addr}{xs ys zs:List V}
theorem Inv.lset {its its':List Value}{n:Nat}{f:Array Value->Array Value}{t':Nat}(I:Inv X lF σ H s)(hH:H l=some (.lst xs))
  (e:s.heap.get? l=some { cls:= .type "list",data:= .seq its.toArray n}) (hf:f its.toArray=its'.toArray) (hv:Vals ys its') (hz:ys.length<=sizeLine):
  Inv X lF σ (upd H l (.lst ys)) { s with heap:=s.heap.update l (Obj.mapSeq f),toks:=t'} :=by
 have q:=PySem.IsL.update e f
 rw[hf] at q
 refine I.write (x:=l) (e:=l) (by rw[hH]; exact trivial) (.inl rfl) (λb' u hb hu=>(bf s.heap (Obj.mapSeq f) (dh hb)).trans hu) ⟨_,q⟩ ?_
 exact⟨hz,its',_,hv,q⟩
theorem Inv.lnew {its:List Value}{t':Nat}(I:Inv X lF σ H s)(hv:Vals ys its)(hz:ys.length<=sizeLine):
  Inv X lF σ (upd H s.heap.objs.size (.lst ys)) { s with heap:=s.heap.push { cls:= .type "list",data:= .seq its.toArray},toks:=t'} :=
 I.laid (λ_ _ q=>ab _ q) (aj _) ⟨hz,its,0,hv,ao _ rfl⟩
theorem Inv.fresh (I:Inv X lF σ H s):H s.heap.objs.size=none:=I.hok.fresh (aj _)
theorem Inv.lstM (I:Inv X lF σ H s)(hH:H l=some (.lst xs)):xs.length<=sizeLine/\∃(its:List Value) (n:Nat),Vals xs its/\xs.length=its.length/\s.heap.get? l=some { cls:= .type "list",data:= .seq its.toArray n} :=by
 obtain⟨z,its,n,r,e⟩:=I.hok l _ hH
 exact⟨z,its,n,r,r.length,e⟩
end
def jQJ:V->List V->Hp->VK->Prop:=λx vs H Q=>∃l xs y,x= .ref l/\vs=[y]/\H l=some (.lst xs)/\xs.length<sizeLine/\Q .non (upd H l (.lst (xs++[y])))
theorem jC2:MtM X "list.append" jQJ:=by
 intro lF s σ H x vs v us Q I rx rv h
 obtain⟨l,xs,y,rfl,rfl,hH,hz,q⟩:=h
 cases rx
 obtain⟨u,rfl,ru⟩:=rv.one
 obtain⟨z,its,n,r,hl,e⟩:=I.lstM hH
 refine call_meets F.slot_list_append ⟨_,e,rfl⟩ F.entry_list_append (F.args_list_append_2 _ _) (PySem.list_append l its.toArray n u (by rw[ak]; lia)) ⟨e,?_⟩
 refine⟨.non,_,I.lset (its':=its++[u]) hH e (by simp) (r.append (.cons ru .nil)) ?_,rfl,q⟩
 rw[aJ,gL]
 lia
def rCat:R2:=λx y H Q=>∃l b xs zs,x= .ref l/\y= .ref b/\H l=some (.lst xs)/\H b=some (.lst zs)/\xs.length+zs.length<=sizeLine/\∀p,H p=none->Q (.ref p) (upd H p (.lst (xs++zs)))
theorem jTC:OpR X (binaryOp .Add) rCat:=by
 intro lF s σ H x y v u Q I rx ry h
 obtain⟨l,b,xs,zs,rfl,rfl,hH,hB,hz,q⟩:=h
 cases rx
 cases ry
 obtain⟨z,its,n,r,hl,e⟩:=I.lstM hH
 obtain⟨z2,its2,n2,r2,hl2,e2⟩:=I.lstM hB
 refine PySem.P.add_list e e2 ?_ (by rw[ak,ak]; lia)
 have ea:its.toArray++its2.toArray=(its++its2).toArray:=by simp
 rw[ea]
 exact⟨.ref _,_,I.lnew (t':=s.toks) (r.append r2) (by rw[aJ]; lia),rfl,q _ I.fresh⟩
section
variable {prog:Program}{w:World}{A:Around}{E:Value->Shared->Prop}
set_option maxRecDepth 100000 in
end
end L2
namespace Att
open PySem PySem.W PySem.Calls PyProof.Rows
theorem jE5 {P:Params}{h:Heap} :∀(ns:List Int) (vs:List Value),WellAll P h vs (ns.map WData.int)->IntsAre vs ns:=by
 intro ns
 induction ns with
 | nil=>
  intro vs w
  rw[jm] at w
  cases w
  exact .nil
 | cons n ns ih=>
  intro vs w
  rw[bg] at w
  cases w with
  | cons a b=>
   cases a
   exact .cons _ _ (ih _ b)
theorem jKM {l:OpenLaw}{n:Nat}(hn:l.most=some n){P:Params}{h:Heap}{args:List WData}{vals:List Value}
  (hpre:l.row.toRowW.claim.pre args=true) (hwl:WellAll P h vals args):
  ∃a vs ns,vals=[Value.ref a]/\args=[WData.list (ns.map WData.int)]/\h.get? a=some { cls:= .type "list",data:= .seq vs.toArray} /\IntsAre vs ns/\ns.length<=n:=by
 have hsh:WShape.hasAll [] args [.list .int]=true:=(pre_splitW hpre).1
 have hc:l.pre.holds [] { args:=args} =true:=(pre_splitW hpre).2
 obtain⟨d,r,rfl,h1,h2⟩:=hasAllW_cons hsh
 obtain rfl:=hasAllW_nil h2
 obtain⟨xs,rfl,h3⟩:=hasW_list h1
 obtain⟨ns,rfl⟩:=items_int h3
 have hlen:ns.length<=n:=by
  unfold OpenLaw.pre at hc
  have h4:(WTm.not (.lt (.lit (.int (n:Int))) (.len (.arg 0)))).holds [] { args:=[.list (ns.map .int)]} =true:=by
   have h4:=(holds_andW hc).1
   rw[hn] at h4
   exact h4
  have h5:=condW_of h4 (w_not (w_lt w_lit (w_len_list (w_arg rfl))))
  rw[af] at h5
  refine Nat.le_of_not_lt λq=>?_
  have q':(n:Int)<((ns.length:Nat):Int):=by lia
  first
   | (rw[ar q'] at h5; exact absurd h5 (by decide))
   | (simp at h5; lia)
 cases hwl with
 | cons w1 w2=>
  cases w2
  cases w1 with
  | list ho hall=>exact⟨_,_,ns,rfl,rfl,ho,jE5 ns _ hall,hlen⟩
theorem jKW (l:OpenLaw)(args:List WData):l.row.toRowW.claim.post args (.bool true) args=true:=
 postW_of (r:=l.row.toRowW) (X:=(true==true))
  (show WShape.has [] (.bool true) .bool=true by first | rfl | decide | simp [WShape.has,WShape.arms,WShape.armsAll])
  (show (WTm.eq .res (.lit (.bool true))).value [] { args:=args,res:=some (.bool true),after:=args} =some (.bool (true==true)) from w_eq_bool (w_res rfl) w_lit) rfl
theorem attach_call {l:OpenLaw}{n:Nat}{q:Program}{loose:List Str}{XP:(Str->Option Value)->Heap->Prop}{YP:World->Heap->Prop}{d:DefRec}
  (hn:l.most=some n) (hdf:d.params.defaults=[])
  (call:∀(w:World) (s₀ s₁:Shared) (mg mb:Str->Option Value) (fa:Addr) (o:Obj) (pm cd doc:Value) (a:Addr) (vs:List Value) (ns:List Int),
   Ground q loose [] XP w s₀ mg mb s₁.heap->YP w s₁.heap->
   s₁.heap.get? fa=some o->o.data= .func (docDef d.name d.params d.body d.scope pm cd doc)->s₁.heap.CodeRec cd d.name->mg d.name=some (.ref fa)->
   s₁.heap.get? a=some { cls:= .type "list",data:= .seq vs.toArray} ->IntsAre vs ns->ns.length<=n->s₁.gens=#[]->
   codeAny (model l.prog w) callerA (.call (.ref fa) ⟨[.ref a],[]⟩) (λr s'=>r= .ok (.ret (.bool true))/\OldK s₁.heap s'.heap/\s'.os=s₁.os/\AllBare s'.gens) s₁):
  WalkO q loose XP YP l.row.toRowW d [] (λf vs=>PySem.call f vs):=by
 intro w s₀ s₁ mg mb G Y fa o pm cd doc dV kV ho hd hcd hD hmg hg args vals as hpre hlay hrd hwl hlo
 obtain rfl:dV= .none:=Dflts.none hD hdf
 obtain rfl:kV= .none:=Dflts.noKw hD
 obtain⟨a,vs,ns,rfl,rfl,hobj,hints,hlen⟩:=jKM hn hpre hwl
 refine enter_call (eE (call w s₀ s₁ mg mb fa o pm cd doc a vs ns G Y ho (fd_plain hd) hcd hmg hobj hints hlen hg) λr s' hq=>?_)
 obtain⟨rfl,h2,h3,h4⟩:=hq
 exact⟨.inl ⟨.bool true, .bool true,[],rfl,λ_=>rfl, .bool true,jKW l _,λ_=>⟨List.Pairwise.nil,λ_ hm=>(nomatch hm)⟩⟩,h2,h3,h4⟩
section
variable {prog:Program}{w:World}{A:Around}{E:Value->Shared->Prop}{s:Shared}{K:Frag}
end
end Att
namespace L2
open PySem PySem.Spec PyProof.Rows
theorem jFV:∀{vs:List Value}{ns:List Int},IntsAre vs ns->Vals (ns.map V.int) vs
 | _,_, .nil=> .nil
 | _,_, .cons n t h=> .cons ⟨t,rfl⟩ (jFV h)
end L2
/- THE LAST THEOREM (shape; LID,My.* are yours):
  My.Adr:a structure of the addresses that your layer names (classes,functions); My.Txt K t:a structure (Prop) of the equations over K;
  My.txt_mk: {K} {implicit addresses ..} (e1:nsIn K mainGlobals "law" =some (some (.ref f))) (e2:K.lookup f=some ⟨oc,od, .func (fnOf "law" "law" params body scope dV kV doc pm an lH ct),sl⟩) (e3:codeIn K lH "law" =true) .. :∃t,My.Txt K t
set_option maxRecDepth 100000 in
set_option maxHeartbeats 0 in
theorem PySem.Challenge.cw_LID_holds : PySem.Challenge.rw_LID.Holds := by
 w_on; o_law; k_head; (case hw=>w_witness2)
 k_fill
 refine L2.walk_of (l:=PySem.Challenge.rw_LID) (n:=63) (k:=40) (x:= "script") (CX:=λw=> ..) (sp:=λ_=>My.sp_law) rfl (by decide) rfl ⟨rfl,by decide,by decide⟩ (λw h Y=>PySem.W.kIn_of Y) ?F ?S ?C
 case F=>
  intro w mg fa h KX G hmg
  have T:∃t,My.Txt (L2.KOf KX) t:=by
   dsimp only [L2.KOf] -- K must stand as «<heap const>w.params» for k_is
   refine' My.txt_mk ?e1 ?e2 ?e3 ..
   (case e1=>PySem.W.k_is) -- in the order:a name->its address->its object->its parts
   (case e2=>PySem.W.k_is)
   ..
  obtain⟨t,T⟩:=T
  have e0:=hmg.symm.trans (gW KX G T.law)
  cases e0 -- fa is the law's own address
  exact⟨_,λs u=> .of_eq rfl,λlG kb nb=>My.law_fn T kb nb⟩ -- if «.of_eq rfl» comes too early:refine' ⟨_,?b,λlG kb nb=>My.law_fn T kb nb⟩; exact λs u=> .of_eq rfl
 case S=>exact λw H a ns hl hO hS=> ..
 case C=>exact ..
(the tactic k_is has no namespace:write k_is) -/
namespace L2
open PySem PySem.Spec PyProof.Rows
abbrev CX0:CXT:=λ_ _ _ _ _ _=>False
abbrev E0:XK:=λ_ _ _=>False
theorem pass0 {X:Cx} :jND CX0 X E0:=λ_ _ _ _ _ _ _ h=>h.elim
structure Fun (K:W.Frag)(x qual:Str)(st:Stmt)(f:Addr)(fd:FuncData):Prop where
 ex:∃(oc:Value) (od:Option Addr) (kV doc pm:Value) (an:Option Addr) (lH ct:Value) (osl:Array (Option Value)),
  fd=PySem.W.fnOf x qual (q0 st) (jE st) (jB st) .none kV doc pm an lH ct/\K.lookup f=some ⟨oc,od, .func fd,osl⟩/\PySem.W.codeIn K lH qual=true
 kp:keepIn K (.ref f)=true
variable {w:World}
section
variable {P:Program}{K:W.Frag}{mg:Str->Option Value}{lG:Heap}
theorem Fun.ok {x qual:Str}{st:Stmt}{f:Addr}{fd:FuncData}{N ps:List Str}{k:Nat}{sp:Sp}(F:Fun K x qual st f fd)(S:FnScope N ps (jB st))(len:∀vs H Q E,sp vs H Q E->vs.length=ps.length)
  (hbody:∀(lH:Value) (A:Around) (outer:List Env) (s:Shared) (H:Hp) (vs:List V) (Q:VK) (E:XK),Room k (A.deeper (envOfC qual (jB st) s.heap.objs.size f lH))->sp vs H Q E->
   ∃t,PSs (cxOf CX0 P w K mg lG N qual (jB st) f lH A outer s H E).nox (jE st) t/\t { nx:=λ_ H'=>Q .non H',rt:=Q} (yV N vs) H):FnOk P w K mg lG CX0 (k+1) f fd ps sp:=by
 obtain⟨oc,od,kV,doc,pm,an,lH,ct,osl,rfl,lk,hcd⟩:=F.ex
 refine fn_of lk hcd S len λA outer s H vs Q E hr hsp=>?_
 obtain⟨t,h,q⟩:=hbody lH A outer s H vs Q E hr hsp
 exact⟨t,h.nox,q⟩
theorem Fun.binds {x qual:Str}{st:Stmt}{f:Addr}{fd:FuncData}{ps:List Str}(F:Fun K x qual st f fd)
  (h:∀(kV doc pm:Value) (an:Option Addr) (lH ct:Value) (us:List Value),us.length=ps.length->bindArgs (PySem.W.fnOf x qual (q0 st) (jE st) (jB st) .none kV doc pm an lH ct) ⟨us,[]⟩=pure (ps.zip us)):Binds K fd ps []:=by
 obtain⟨oc,od,kV,doc,pm,an,lH,ct,osl,rfl,lk,hcd⟩:=F.ex
 exact .all (h kV doc pm an lH ct)
theorem y0 {x qual:Str}{st:Stmt}{f:Addr}{oc:Value}{od an:Option Addr}{osl:Array (Option Value)}{kV doc pm lH ct:Value}(l:K.lookup f=some ⟨oc,od, .func (PySem.W.fnOf x qual (q0 st) (jE st) (jB st) .none kV doc pm an lH ct),osl⟩)
  (c:PySem.W.codeIn K lH qual=true) (k:keepIn K (.ref f)=true):Fun K x qual st f (PySem.W.fnOf x qual (q0 st) (jE st) (jB st) .none kV doc pm an lH ct):=⟨⟨oc,od,kV,doc,pm,an,lH,ct,osl,rfl,l,c⟩,k⟩
end
theorem qW {A:Around}{k:Nat}(hr:Room k A):A.units+1<cLine:=lv (Nat.add_le_add_left (by decide:1<=64) _) hr.units
variable {X:Cx}
theorem pv (i:Nat){x:Str}{pos:Pos}(hN:X.N[i]?=some x:=by rfl)(hv:Vis X.env.scope x:=by first | exact Or.inl rfl | exact Or.inr (Or.inl rfl) | exact Or.inr (Or.inr rfl))(hd:(x==("__debug__" :Str))=false:=by decide)
  (hcd:(x==("__classdict__" :Str))=false:=by decide):PE X (.Name x pos) (tVar i):=jPD hN hv hd hcd
theorem iteF {A B:Prop}(h:B):if false=true then A else B:=by
 rw[ai ag]
 exact h
theorem iteT {A B:Prop}(h:A):if true=true then A else B:=by
 rw[am rfl]
 exact h
theorem ite2 {c A B:Prop} [Decidable c](h1:c->A)(h2:¬c->B):if c then A else B:=by
 by_cases h:c
 ·rw[am h]
  exact h1 h
 ·rw[ai h]
  exact h2 h
theorem iteNS {c A B:Prop} [Decidable c](hc:c)(h:B):if (!decide c)=true then A else B:=by
 rw[ar hc]
 exact iteF h
def kD (cells:List (Str×Addr)):List (Str×NameKind)->List (Str×Addr)->List (Str×Addr)
 | [],acc=>acc
 | (n,k)::r,acc=>if k= .free then kD cells r ((n,(cells.lookup n).getD 0)::acc) else kD cells r acc
theorem jCX {env:Env} :∀(l:List (Str×NameKind)) (acc:List (Str×Addr)),(∀y∈l,y.2= .free->∃c,env.cells.lookup y.1=some c)->
  (forIn l acc λ(x:Str×NameKind) (cs:List (Str×Addr))=>(if (x.2==NameKind.free)=true then (do let a <- cellOf env x.1; pure (ForInStep.yield ((x.1,a)::cs))) else pure (ForInStep.yield cs):Sem (ForInStep (List (Str×Addr)))))=pure (kD env.cells l acc)
 | [],acc,_=>rfl
 | (n,k)::r,acc,h=>by
  have hr:∀y∈r,y.2= .free->∃c,env.cells.lookup y.1=some c:=λy hy=>h y (ay _ hy)
  rw[g9]
  by_cases hk:k= .free
  ·subst hk
   obtain⟨c,hc⟩:=h (n, .free) ax rfl
   have e:cellOf env n=pure c:=by unfold cellOf; rw[hc]
   have e2:kD env.cells ((n,NameKind.free)::r) acc=kD env.cells r ((n,c)::acc):=by
    show (if NameKind.free=NameKind.free then kD env.cells r ((n,(env.cells.lookup n).getD 0)::acc) else _)=_
    rw[am rfl,hc]; rfl
   rw[e2,<- jCX r ((n,c)::acc) hr]
   show ((do let a <- cellOf env n; pure (ForInStep.yield ((n,a)::acc))) >>= _)=_
   rw[e]; rfl
  ·have hb:(k==NameKind.free)=false:=by cases k <;> first | rfl | exact absurd rfl hk
   have e2:kD env.cells ((n,k)::r) acc=kD env.cells r acc:=by
    show (if k=NameKind.free then _ else kD env.cells r acc)=_
    rw[ai hk]
   rw[e2,<- jCX r acc hr]
   show ((if (k==NameKind.free)=true then _ else pure (ForInStep.yield acc)) >>= _)=_
   rw[hb]; rfl
theorem jMP {env:Env}{sc:Scope}(h:∀y∈sc.names,y.2= .free->∃c,env.cells.lookup y.1=some c):closureFor sc env=pure (kD env.cells sc.names []):=by
 unfold closureFor
 show (forIn sc.names [] _ >>= λcs=>pure cs)=_
 rw[show (forIn sc.names ([]:List (Str×Addr)) _:Sem _)=_ from jCX sc.names [] h]
 rfl
theorem jAV {cells:List (Str×Addr)} :∀(l:List (Str×NameKind)) (acc:List (Str×Addr)),(∀y∈l,y.2= .free->∃c,cells.lookup y.1=some c)->
  (∀x c,acc.lookup x=some c->cells.lookup x=some c)->∀x c,(kD cells l acc).lookup x=some c->cells.lookup x=some c
 | [],acc,_,ha=>ha
 | (n,k)::r,acc,h,ha=>by
  have hr:∀y∈r,y.2= .free->∃c,cells.lookup y.1=some c:=λy hy=>h y (ay _ hy)
  unfold kD
  by_cases hk:k= .free
  ·rw[am hk]
   obtain⟨c0,hc⟩:=h (n,k) ax hk
   refine jAV r _ hr λx c e=>?_
   rw[bF] at e
   cases hx:x==n with
   | true=>
    rw[hx] at e
    have exn:x=n:=eq_of_beq hx
    subst exn
    have hc':cells.lookup x=some c0:=hc
    rw[hc'] at e ⊢
    exact e
   | false=>rw[hx] at e; exact ha x c e
  ·rw[ai hk]; exact jAV r acc hr ha
theorem jAW {cells:List (Str×Addr)}{x:Str} :∀(l:List (Str×NameKind)) (acc:List (Str×Addr)),((x,NameKind.free)∈l\/∃c,acc.lookup x=some c)->∃c,(kD cells l acc).lookup x=some c
 | [],acc,h=>by
  rcases h with h | h
  ·cases h
  ·exact h
 | (n,k)::r,acc,h=>by
  unfold kD
  by_cases hk:k= .free
  ·rw[am hk]
   refine jAW r _ ?_
   by_cases e:x=n
   ·subst e
    exact .inr ⟨_,by rw[bF,beq_self_eq_true]⟩
   ·rcases h with h | ⟨c,h⟩
    ·rcases aF.mp h with q | q
     ·cases q; exact absurd rfl e
     ·exact .inl q
    ·refine .inr ⟨c,?_⟩
     rw[bF,dG.mpr e]
     exact h
  ·rw[ai hk]
   refine jAW r _ ?_
   rcases h with h | h
   ·rcases aF.mp h with q | q
    ·cases q; exact absurd rfl hk
    ·exact .inl q
   ·exact .inr h
theorem jAR {x:Str}{k:NameKind} :∀{l:List (Str×NameKind)},l.lookup x=some k->(x,k)∈l
 | [],h=>by cases h
 | (n,k')::r,h=>by
  rw[bF] at h
  cases hx:x==n with
  | true=>rw[hx] at h; cases h; rw[eq_of_beq hx]; exact ax
  | false=>rw[hx] at h; exact ay _ (jAR h)
theorem jCJ {env:Env}{x:Str}{k:NameKind}(hk:k= .cell\/k= .free):∀{l:List (Str×NameKind)},(∀y∈l,y.2≠ .cell)->
  (l.map λ(n,k)=>if (k==NameKind.free&&env.scope.kind== .function&&env.kindOf n==some .cell) then (n,NameKind.cell) else (n,k)).lookup x=some k->l.lookup x=some .free
 | [],_,h=>by simp at h
 | (n,k')::r,hc,h=>by
  have ih:= @jCJ env x k hk r (λy hy=>hc y (ay _ hy))
  have hc0:k'≠ .cell:=hc (n,k') ax
  rw[bF]
  rw[bg] at h
  dsimp only at h
  by_cases hb:(k'==NameKind.free&&env.scope.kind== .function&&env.kindOf n==some .cell)=true
  ·rw[am hb,bF] at h
   cases hx:x==n with
   | true=>
    have:k'= .free:=by
     simp only [bE] at hb
     exact eq_of_beq hb.1.1
    rw[this]
   | false=>rw[hx] at h; exact ih h
  ·rw[ai hb,bF] at h
   cases hx:x==n with
   | true=>
    rw[hx] at h
    have e:k'=k:=bG h
    rcases hk with q | q
    ·exact absurd (e.trans q) hc0
    ·rw[e,q]
   | false=>rw[hx] at h; exact ih h
theorem jCU {env:Env}{x:Str} :∀{l:List (Str×NameKind)},l.lookup x=some .free->
  (l.map λ(n,k)=>if (k==NameKind.free&&env.scope.kind== .function&&env.kindOf n==some .cell) then (n,NameKind.cell) else (n,k)).lookup x=some .cell\/
  (l.map λ(n,k)=>if (k==NameKind.free&&env.scope.kind== .function&&env.kindOf n==some .cell) then (n,NameKind.cell) else (n,k)).lookup x=some .free
 | [],h=>by cases h
 | (n,k')::r,h=>by
  have ih:= @jCU env x r
  rw[bF] at h
  rw[bg]
  dsimp only
  by_cases hb:(k'==NameKind.free&&env.scope.kind== .function&&env.kindOf n==some .cell)=true
  ·rw[am hb,bF]
   cases hx:x==n with
   | true=>exact .inl rfl
   | false=>rw[hx] at h; exact ih h
  ·rw[ai hb,bF]
   cases hx:x==n with
   | true=>rw[hx] at h; exact .inr h
   | false=>rw[hx] at h; exact ih h
section
variable {prog:Program}{A:Around}{R:Result->Shared->Prop}{s:Shared}
abbrev jKD (ifs:List Expr)(env:Env):Sem Bool:=forIn ifs true λc r=>if r=true then do let ok <- isTrue c env (eval c env); pure (ForInStep.yield ok) else pure (ForInStep.yield r)
theorem jK2 {elt tg iter:Expr}{ifs:List Expr}{sc:Scope}{pos:Pos}{it acc:Value}{env:Env}(J:Nat->Shared->Prop)
  (turn:∀n z,J n z->wpAny (model prog w) A (pyNext it) (λr z1=>match r with
   | none=>R (.ok .next) z1
   | some v=>wpAny (model prog w) A (letOwnedTupleGo tg it v) (λ_ z2=>wpAny (model prog w) A (assign tg env v) (λ_ z3=>wpAny (model prog w) A (jKD ifs env) (λok z4=>
     if ok=true then wpAny (model prog w) A (eval elt env) (λx z5=>wpAny (model prog w) A (call (.builtin "list.append") [acc,x]) (λ_ z6=>∃k,k<n/\J k z6) (λ_ _=>False) z5) (λ_ _=>False) z4
     else ∃k,k<n/\J k z4) (λ_ _=>False) z3) (λ_ _=>False) z2) (λ_ _=>False) z1) (λ_ _=>False) z)
  (n:Nat) (h:J n s):codeAny (model prog w) A (.compLoop (.ListComp elt [⟨tg,iter,ifs,0⟩] sc pos) 0 it acc env) R s:=by
 refine codeAny_loop rfl J (λk z hJ=>?_) n h
 have noE:∀{α:Type}{t:Sem α}{Q:α->Shared->Prop}{E:Value->Shared->Prop}{z:Shared},wpAny (model prog w) A t Q (λ_ _=>False) z->wpAny (model prog w) A t Q E z:=
  λq=>cw q (λ_ _ a=>a) λ_ _ f=>f.elim
 show wpAny _ A ((compTurn (.ListComp elt [⟨tg,iter,ifs,0⟩] sc pos) 0 it acc env).onRaise (λx=>do noteFrame x env; theTreesLotGoes x)) _ _ z
 refine wpAny_noted ?_
 rw[compTurn_list]
 refine aa (iW (aa (cw (turn k z hJ) (λr z1 q1=>?_) λ_ _ f=>f.elim)))
 cases r with
 | none=>exact ae q1
 | some v=>
  refine aa (cw q1 (λ_ z2 q2=>?_) λ_ _ f=>f.elim)
  refine aa (cw q2 (λ_ z3 q3=>?_) λ_ _ f=>f.elim)
  refine aa (cw q3 (λok z4 q4=>?_) λ_ _ f=>f.elim)
  cases ok with
  | false=>exact ae ⟨rfl,q4⟩
  | true=>
   refine aa (aa (cw q4 (λx z5 q5=>?_) λ_ _ f=>f.elim))
   exact aa (cw q5 (λ_ z6 q6=>ae (ae ⟨rfl,q6⟩)) λ_ _ f=>f.elim)
end
noncomputable def blk (X:Cx)(sc:Scope)(cl:List (Str×Addr))(C:Addr)(Nc:List Str)(fp:List Addr)(s:Shared)(H:Hp):Cx where
 prog:=X.prog
 w:=X.w
 K:=X.K
 mg:=X.mg
 lG:=X.lG
 A:=X.A
 N:=Nc
 s₀:=s
 H₀:=H
 env:=compEnvC sc cl C X.env
 outer:=X.stack
 stack:=X.stack
 ex:=fp
 fn:=λ_=>false
 calm:=X.calm
 pn:=[]
 xe:=λ_ _=>False
def blkσ (m:List (Option Nat))(σ:St):St:=m.map λo=>match o with
 | none=>none
 | some i=>(σ[i]?).getD none
def PTs (X:Cx)(ifs:List Expr)(t:TT):Prop:=
 ∀(lF:List (Addr×Obj)) (s:Shared) (σ:St) (H:Hp) (Q:Bool->Hp->Prop),Inv X lF σ H s->t σ H Q->wpAny (model X.prog X.w) X.A (jKD ifs X.env) (TP X lF σ Q) X.xe s
def qG:TT:=λ_ H Q=>Q true H
theorem jKU {X:Cx} :PTs X [] qG:=λ_ _ _ H _ I h=>wpAny_tests_nil ⟨H,I,h⟩
theorem jKT {X:Cx}{c:Expr}{t:TT}(h:PT X c t):PTs X [c] t:=λlF s σ H Q I q=>wpAny_tests_one (h lF s σ H Q I q)
def qX (m:List (Option Nat))(g:TG)(tt:TT)(te:TE)(σ:St)(Q:VK)(J:It)(H1:Hp):Prop:=∀D,H1 D=none->∃W:Nat->Nat->St->Hp->List V->Prop,
  (∃n,W 0 n (blkσ m σ) (upd H1 D (.lst [])) [])/\∀i n σ' H' ys,W i n σ' H' ys->H' D=some (.lst ys)/\ys.length<sizeLine/\
   ((J.stop i H'/\Q (.ref D) H')\/(J.go i H'/\∃N:St->Hp->List V->Prop,(∀σ2 H2 zs,N σ2 H2 zs->∃n',n'<n/\W (i+1) n' σ2 H2 zs)/\∀x H'',J.yld i H' x H''->g x σ' H'' λσ2 H2=>tt σ2 H2 λb H3=>
    if b=true then te σ2 H3 λv H4=>H4 D=some (.lst ys)/\N σ2 (upd H4 D (.lst (ys++[v]))) (ys++[v])
    else N σ2 H3 ys))
def tComp (m:List (Option Nat))(wi:TI)(g:TG)(tt:TT)(te:TE):TE:=λσ H Q=>wi σ H (qX m g tt te σ Q)
theorem Un.sameBut {fs ex:List Addr}{H H':Hp}{h h1 h2:Heap}{C:Addr}(u:Un fs ex H H' h h1)(sb:Heap.SameBut C h1 h2)(hC:h.objs.size<=C):Un fs ex H H' h h2:=by
 have ne:∀{b:Addr}{o:Obj},h.get? b=some o->b≠C:=λe=>aO (aM (aq e) hC)
 refine⟨λb o e n hf hx=>(sb.2 b (ne e)).trans (u.keep b o e n hf hx),λb o e n hf hx=>?_,u.free,λb o e hx=>?_,u.tups,u.frzs,u.tbls⟩
 ·obtain⟨sl,q⟩:=u.slot b o e n hf hx
  exact⟨sl,(sb.2 b (ne e)).trans q⟩
 ·obtain⟨o',q⟩:=u.there b o e hx
  exact⟨o',(sb.2 b (ne e)).trans q⟩
theorem HOk.sameBut {P:Program}{w:World}{H:Hp}{h1 h2:Heap}{C:Addr}(x:HOk P w H h1)(sb:Heap.SameBut C h1 h2)(hC:H C=none):HOk P w H h2:=λa o e=>
 (x a o e).stay (λb u hb q=>(sb.2 b (by
  rintro rfl
  rcases hb with rfl | hb
  ·rw[hC] at e; cases e
  ·rw[hC] at hb; cases hb)).trans q) (λ_ q=>q) λ_ _ q=>q
variable {g:TG}{tt:TT}{te:TE}{m:List (Option Nat)}
section
variable {tg iter elt:Expr}{ifs:List Expr}{sc:Scope}{pos:Pos}{wi:TI}{Nc:List Str}
def jD8 (X:Cx)(sc:Scope)(Nc:List Str)(m:List (Option Nat)):Prop:=
 m.length=Nc.length/\∀(k i:Nat),m[k]?=some (some i)->∃x,Nc[k]?=some x/\X.N[i]?=some x/\sc.names.lookup x=some .free
theorem jN2 {lF:List (Addr×Obj)}{s:Shared}{σ:St}{H:Hp}{fp:List Addr}(I:Inv X lF σ H s)(hkind:sc.kind= .function)(hcell:∀y∈sc.names,y.2≠ .cell)
  (hfree:∀y∈sc.names,y.2= .free->X.env.scope.names.lookup y.1=some .cell\/X.env.scope.names.lookup y.1=some .free) (hm:jD8 X sc Nc m) (hfp:∀b∈fp,FpOk X lF H b) (hlt:∀b∈fp,b<s.heap.objs.size)
  {h1:Heap}{tk:Nat}{md:Str->Option Value}(hns:h1.Ns s.heap.objs.size md) (old:∀b o,s.heap.get? b=some o->h1.get? b=some o):
  Inv (blk X sc (kD X.env.cells sc.names []) s.heap.objs.size Nc fp s H) [] (blkσ m σ) H { s with heap:=h1,toks:=tk} :=by
 have hcl:∀y∈sc.names,y.2= .free->∃c,X.env.cells.lookup y.1=some c:=λy hy hf=>I.ok.has y.1 (hfree y hy hf)
 have sub:∀x c,(kD X.env.cells sc.names []).lookup x=some c->X.env.cells.lookup x=some c:=jAV sc.names [] hcl (λx c e=>by cases e)
 have isfree:∀x,(compEnvC sc (kD X.env.cells sc.names []) s.heap.objs.size X.env).kindOf x=some .cell\/(compEnvC sc (kD X.env.cells sc.names []) s.heap.objs.size X.env).kindOf x=some .free->sc.names.lookup x=some .free:=λx h=>by
  rcases h with h | h
  ·exact jCJ (.inl rfl) hcell h
  ·exact jCJ (.inr rfl) hcell h
 refine⟨⟨I.ok.mod,hkind,I.ok.glob,I.ok.blt,aj _,λx y c h1 h2=>I.ok.inj x y c (sub x c h1) (sub y c h2),λx hx=>?_,λx c hf _=>?_,I.ok.hd,I.ok.frames, .inl rfl,λb hb=>?_,I.bs,bM I.ok.bsz I.sz,λb o e hb=>?_,λb hb hz=>?_,I.stack,I.stkFree⟩,
  rfl,I.bare,Un.kept old,⟨md,hns,λk x v e1 e2 e3=>?_⟩,λx c e=>?_,I.hok.fresh (aj _),λx c e=>I.freeC x c (sub x c e),λp hp=>absurd (show p∈([]:List (Addr×Obj)) from hp) (by simp),I.hok.kept old,?_⟩
 ·exact jAW sc.names [] (.inl (jAR (isfree x hx)))
 ·exact absurd (show false=true from hf) ag
 ·obtain⟨f0,f1,f2,f3,f4,f5⟩:=hfp b hb
  exact⟨aO (hlt b hb),λx c e=>f4 x c (sub x c e)⟩
 ·obtain⟨f0,f1,f2,f3,f4,f5⟩:=hfp b hb
  rcases f3 with q | q
  ·exact I.ok.noex b o e q
  ·exact absurd (aM (aq (I.ok.bs b o e).1) q) (cJ _)
 ·obtain⟨f0,f1,f2,f3,f4,f5⟩:=hfp b hb
  rcases aF.mp (I.stkSub b hz) with q | q
  ·exact f1 q
  ·exact f2 q
 ·have e2':∃i,m[k]?=some (some i)/\σ[i]?=some (some v):=by
   unfold blkσ at e2
   rw[aW] at e2
   cases q:m[k]? with
   | none=>rw[q] at e2; cases e2
   | some o=>
    rw[q] at e2
    cases o with
    | none=>cases e2
    | some i=>
     refine⟨i,rfl,?_⟩
     have e2:(σ[i]?).getD none=some v:=bG e2
     cases r:σ[i]? with
     | none=>rw[r] at e2; cases e2
     | some z=>rw[r] at e2; exact bQ some e2
  obtain⟨i,q1,q2⟩:=e2'
  obtain⟨x',a1,a2,a3⟩:=hm.2 k i q1
  have e1':Nc[k]?=some x:=e1
  rw[e1'] at a1
  cases a1
  have vis:=hfree (x, .free) (jAR a3) rfl
  obtain⟨m0,hn0,hl0⟩:=I.loc
  obtain⟨u,r,l⟩:=hl0 i x v a2 q2 (.inr vis)
  refine⟨u,r, .inr ⟨jCU a3,?_⟩⟩
  obtain⟨c,hc⟩:=jAW (cells:=X.env.cells) (x:=x) sc.names [] (.inl (jAR a3))
  rcases l with ⟨lk,_⟩ | ⟨_,c',hc',o,ho,hd⟩
  ·have lk':X.env.scope.names.lookup x=some .local:=lk
   rcases vis with z | z
   ·rw[lk'] at z; cases z
   ·rw[lk'] at z; cases z
  ·have:=sub x c hc
   rw[hc'] at this
   cases this
   exact⟨c,hc,o,old _ _ ho,hd⟩
 ·obtain⟨v,o,ho,hd⟩:=I.cell x c (sub x c e)
  exact⟨v,o,old _ _ ho,hd⟩
 ·show (blkσ m σ).length=Nc.length
  unfold blkσ
  rw[af]
  exact hm.1
theorem jJ1 {tf:St->TE}(hc:X.calm=true)(hi:PI X tg iter wi)(hkind:sc.kind= .function)(hcell:∀y∈sc.names,y.2≠ .cell)(hnames:∀y∈sc.names,y.2= .local->sc.names.lookup y.1=some .local)
  (hfree:∀y∈sc.names,y.2= .free->X.env.scope.names.lookup y.1=some .cell\/X.env.scope.names.lookup y.1=some .free) (hm:jD8 X sc Nc m)
  (hg:∀cl C fp s H,PG (blk X sc cl C Nc fp s H) tg g) (ht:∀cl C fp s H,PTs (blk X sc cl C Nc fp s H) ifs tt) (he:∀cl C fp s H lF σ,Inv X lF σ H s->(∀b∈fp,FpOk X lF H b)->PE (blk X sc cl C Nc fp s H) elt (tf σ))
  (hs:∀x,foldedSetIterable iter X.env x=pure x) {fpos:Pos}{use:Option (Value->Sem Unit)}{R:Value->Shared->Prop}{lF:List (Addr×Obj)}{s:Shared}{σ:St}{H:Hp}{Q:VK}(I:Inv X lF σ H s) (h:tComp m wi g tt (tf σ) σ H Q)
  (fin:∀(D C:Addr) (H5:Hp) (z1:Shared) (r:Flow),(∃mm,z1.heap.Ns C mm)->FpOk X lF H5 C->(∀h',Heap.SameBut C z1.heap h'->Inv X lF σ H5 { z1 with heap:=h'})->Q (.ref D) H5->compPost (model X.prog X.w) X.A X.xe use R (.ref D) C (.ok r) z1):
  wpAny (model X.prog X.w) X.A (comprehension (.ListComp elt [⟨tg,iter,ifs,0⟩] sc pos) sc X.env fpos (newList []) false (eval iter X.env) use) R X.xe s:=by
 have hcl:∀y∈sc.names,y.2= .free->∃c,X.env.cells.lookup y.1=some c:=λy hy hf=>I.ok.has y.1 (hfree y hy hf)
 refine wpAny_comprehension_free (use:=use) rfl hs (jMP hcl) hkind hnames (lJ (hi lF s σ H _ I h) λv s1 h1=>lJ h1 λitv s2 h2=>?_)
 obtain⟨it,fp,tn,J,H2,e,I2,T,st2,f2,hQ⟩:=h2
 subst e
 have hlt:∀b∈fp,b<s2.heap.objs.size:=λb hb=>by
  obtain⟨o,e,_⟩:=T.obj 0 _ st2 b hb
  exact aq e
 refine bj (wpAny_newFunctionEnv hcell (by intro y hy; simp at hy) (λh₁ hns₁ hsb₁=>?_) hkind)
 have I3:Inv X lF σ (upd H2 s2.heap.objs.size (.lst [])) { s2 with heap:=s2.heap.push { cls:= .type "list",data:= .seq ([]:List Value).toArray}} :=I2.lnew (t':=s2.toks) .nil (aS _)
 obtain⟨W,⟨n0,w0⟩,turn⟩:=hQ s2.heap.objs.size I2.fresh
 have hD3:∀b∈fp,b≠s2.heap.objs.size:=λb hb=>aO (hlt b hb)
 have f3:∀b∈fp,FpOk X lF (upd H2 s2.heap.objs.size (.lst [])) b:=λb hb=>by
  obtain⟨a0,a1⟩:=f2 b hb
  exact⟨by rw[j7 (hD3 b hb)]; exact a0,a1⟩
 generalize hE:({ s2 with heap:=s2.heap.push { cls:= .type "list",data:= .seq ([]:List Value).toArray}} :Shared)=s3 at I3 hns₁ hsb₁ ⊢
 generalize hH3:upd H2 s2.heap.objs.size (.lst [])=H3 at I3 f3 w0
 have hsz3:s3.heap.objs.size=s2.heap.objs.size+1:=by rw[<- hE]; exact bR _ _
 have old:∀b o,s3.heap.get? b=some o->h₁.get? b=some o:=λb o e=>hsb₁.extBut b o (aO (aq e)) (ab _ e)
 have old2:∀b o,s2.heap.get? b=some o->h₁.get? b=some o:=λb o e=>old b o (by rw[<- hE]; exact ab _ e)
 have I4:=jN2 (fp:=fp) (tk:=s3.toks+([]:List (Str×Value)).length) I3 hkind hcell hfree hm f3 (λb hb=>show b<s3.heap.objs.size by rw[hsz3]; exact bK (hlt b hb)) hns₁ old
 have st4:tn 0 h₁:=T.keep _ _ _ st2 λb hb o e=>old2 b o e
 have loop:codeAny (model X.prog X.w) X.A (.compLoop (.ListComp elt [⟨tg,iter,ifs,0⟩] sc pos) 0 (.ref it) (.ref s2.heap.objs.size) (compEnvC sc (kD X.env.cells sc.names []) s3.heap.objs.size X.env))
   (compPost (model X.prog X.w) X.A X.xe use R (.ref s2.heap.objs.size) s3.heap.objs.size) { s3 with heap:=h₁,toks:=s3.toks+([]:List (Str×Value)).length} :=by
  generalize hX:blk X sc (kD X.env.cells sc.names []) s3.heap.objs.size Nc fp s3 H3=Xb at I4
  have eP:Xb.prog=X.prog:=by rw[<- hX]; rfl
  have ew:Xb.w=X.w:=by rw[<- hX]; rfl
  have eK:Xb.K=X.K:=by rw[<- hX]; rfl
  have eA:Xb.A=X.A:=by rw[<- hX]; rfl
  have ec:Xb.calm=true:=by rw[<- hX]; exact hc
  have ee:Xb.env=compEnvC sc (kD X.env.cells sc.names []) s3.heap.objs.size X.env:=by rw[<- hX]; rfl
  have ex:Xb.xe=λ_ _=>False:=by rw[<- hX]; rfl
  have hgb:PG Xb tg g:=by rw[<- hX]; exact hg _ _ _ _ _
  have htb:PTs Xb ifs tt:=by rw[<- hX]; exact ht _ _ _ _ _
  have heb:PE Xb elt (tf σ):=by rw[<- hX]; exact he _ _ _ _ _ _ _ I3 f3
  have stat:∀{H':Hp},(∀b∈fp,H' b=none)->∀b∈fp,FpOk Xb [] H' b:=λ{H'} hn b hb=>by
   obtain⟨o,eo,_⟩:=T.obj _ _ st4 b hb
   have q:=I4.ok.exf b (by rw[<- hX]; exact hb)
   exact⟨hn b hb,q.1,I4.ok.exfs b (by rw[<- hX]; exact hb), .inl (by rw[<- hX]; exact hb),q.2,λp hp=>absurd hp (by rw[<- hX]; simp [blk])⟩
  have fr4:∀b∈fp,H3 b=none:=λb hb=>(f3 b hb).1
  unfold PG at hgb
  unfold PTs at htb
  unfold PE at heb
  rw[eP,ew,eA,ee,ex] at hgb htb heb
  refine jK2 (λn z=>∃i σ' H' ys,Inv Xb [] σ' H' z/\tn i z.heap/\(∀b∈fp,H' b=none)/\W i n σ' H' ys) ?_ n0 ⟨0,_,H3,[],I4,st4,fr4,w0⟩
  rintro n z ⟨i,σ5,H5,ys,I5,st5,fr5,w5⟩
  obtain⟨hD,hlen,way⟩:=turn i n σ5 H5 ys w5
  rcases way with ⟨stop,q⟩ | ⟨go,N,hN,step⟩
  ·have RR:=T.done Xb eP ew eK ec i [] z σ5 H5 (λ_ _=>False) I5 (stat fr5) st5 stop
   rw[eA] at RR
   refine lJ RR λr z1 ⟨hr,I6⟩=>?_
   subst hr
   obtain⟨mm,hn6,_⟩:=I6.loc
   rw[ee] at hn6
   have u6:Un (frs X.stack) fp H3 H5 s3.heap z1.heap:=by
    have:=I6.lG
    rw[<- hX] at this
    exact this
   have fC:H5 s3.heap.objs.size=none:=by
    have:=I6.free
    rw[ee] at this
    exact this
   have hok6:HOk X.prog X.w H5 z1.heap:=by
    have:=I6.hok
    rw[eP,ew] at this
    exact this
   have os6:z1.os=s3.os:=by
    have:=I6.os
    rw[<- hX] at this
    exact this
   refine fin s2.heap.objs.size s3.heap.objs.size H5 z1 .next ⟨mm,hn6⟩ (I3.fpOk (aj _) fC) (λh' sb=>?_) q
   refine I3.call' (s':= { z1 with heap:=h'}) (ch:=fp) os6 (u6.sameBut sb (aj _)) (hok6.sameBut sb fC) I6.bare (λb hb=>?_)
   obtain⟨a0,a1,a2,a3,a4,a5⟩:=f3 b hb
   exact⟨a3,a1,a4,a5⟩
  ·have RR:=T.item Xb eP ew eK ec i [] z σ5 H5 (λ_ _=>False) I5 (stat fr5) st5 go
   rw[eA] at RR
   refine lJ RR λr z1 ⟨u,hr,h6⟩=>?_
   subst hr
   refine lJ h6 λ_ z2 ⟨x,H7,I7,r7,y7,st7,fr7⟩=>?_
   have I7':=I7.pinned (stat fr7) (T.obj _ _ st7)
   refine lJ (hgb _ z2 σ5 H7 x u _ I7' r7 (step x H7 y7)) λ_ z3 ⟨σ8,H8,I8,q8⟩=>?_
   refine lJ (htb _ z3 σ8 H8 _ I8 q8) λok z4 ⟨H9,I9,q9⟩=>?_
   have again:∀{σ7:St}{Hz:Hp}{zz:Shared}{yy:List V}{n':Nat},Inv Xb ([]++jGB fp z2.heap) σ7 Hz zz->n'<n->W (i+1) n' σ7 Hz yy->∃k,k<n/\∃i σ' H' ys,Inv Xb [] σ' H' zz/\tn i zz.heap/\(∀b∈fp,H' b=none)/\W i k σ' H' ys:=λ{σ7 Hz zz yy n'} Iz hn wz=>by
    refine⟨n',hn,i+1,σ7,Hz,yy,Iz.unpinned,T.keep _ _ _ st7 λb hb o e=>(Iz.pin (b,o) (au _ (au _ (jBE hb e)))).1,λb hb=>?_,wz⟩
    obtain⟨o,e,d⟩:=T.obj _ _ st7 b hb
    exact(Iz.pin (b,o) (au _ (au _ (jBE hb e)))).2.1
   cases ok with
   | false=>
    obtain⟨n',hn,w9⟩:=hN _ _ _ (show N σ8 H9 ys from q9)
    exact again I9 hn w9
   | true=>
    refine lJ (heb _ z4 σ8 H9 _ I9 q9) λxv z5 ⟨vv,H10,I10,r10,hD10,n10⟩=>?_
    obtain⟨n',hn,w10⟩:=hN _ _ _ n10
    have RR:=jC2 (X:=Xb) _ z5 σ8 H10 (.ref s2.heap.objs.size) [vv] (.ref s2.heap.objs.size) [xv] (λ_ H'=>H'=upd H10 s2.heap.objs.size (.lst (ys++[vv]))) I10 rfl (.cons r10 .nil) ⟨_,ys,vv,rfl,rfl,hD10,hlen,rfl⟩
    rw[eP,ew,eA,ex] at RR
    refine lJ RR λ_ z6 ⟨_,H11,I11,_,e11⟩=>?_
    subst e11
    exact again I11 hn w10
 exact codeAny_compStart_list loop (T.self _ 0 _ _ _ st4 loop)
theorem jHH (hc:X.calm=true)(hi:PI X tg iter wi)(hkind:sc.kind= .function)(hcell:∀y∈sc.names,y.2≠ .cell)(hnames:∀y∈sc.names,y.2= .local->sc.names.lookup y.1=some .local)
  (hfree:∀y∈sc.names,y.2= .free->X.env.scope.names.lookup y.1=some .cell\/X.env.scope.names.lookup y.1=some .free) (hm:jD8 X sc Nc m)
  (hg:∀cl C fp s H,PG (blk X sc cl C Nc fp s H) tg g) (ht:∀cl C fp s H,PTs (blk X sc cl C Nc fp s H) ifs tt) (he:∀cl C fp s H,PE (blk X sc cl C Nc fp s H) elt te)
  (hs:∀x,foldedSetIterable iter X.env x=pure x:=by intro _; rfl):PE X (.ListComp elt [⟨tg,iter,ifs,0⟩] sc pos) (tComp m wi g tt te):=by
 intro lF s σ H Q I h
 rw[eval_ListComp]
 exact jJ1 (tf:=λ_=>te) (use:=none) hc hi hkind hcell hnames hfree hm hg ht (λcl C fp s H _ _ _ _=>he cl C fp s H) hs I h (λD C H5 z1 r ⟨mm,hn⟩ fC sb q=>⟨mm,hn,λh' s2=>⟨.ref D,H5,sb h' s2,rfl,q⟩⟩)
end
theorem kP {X:Cx}{sc psc:Scope}(h:(sc.names.all λy=>decide (y.2= .free->psc.names.lookup y.1=some .cell\/psc.names.lookup y.1=some .free))=true:=by decide+kernel)(e:X.env.scope=psc:=by rfl):
  ∀y∈sc.names,y.2= .free->X.env.scope.names.lookup y.1=some .cell\/X.env.scope.names.lookup y.1=some .free:=by
 rw[e]
 intro y hy
 exact aE (aV.mp h y hy)
def jMB (sc:Scope)(N Nc:List Str)(m:List (Option Nat))(k:Nat):Bool:=match m[k]? with
 | some (some i)=>match Nc[k]? with
  | some x=>decide (N[i]?=some x)&&decide (sc.names.lookup x=some .free)
  | none=>false
 | _=>true
theorem jU {X:Cx}{sc:Scope}{N Nc:List Str}{m:List (Option Nat)}(e:X.N=N)(hl:m.length=Nc.length)(h:((List.range m.length).all (jMB sc N Nc m))=true):jD8 X sc Nc m:=by
 refine⟨hl,λk i hk=>?_⟩
 have hlt:k<m.length:=(ah.mp hk).1
 have q:=aV.mp h k (be.mpr hlt)
 unfold jMB at q
 rw[hk] at q
 cases e2:Nc[k]? with
 | none=>rw[e2] at q; cases q
 | some x=>
  rw[e2] at q
  have q:(decide (N[i]?=some x)&&decide (sc.names.lookup x=some .free))=true:=q
  rw[bE] at q
  exact⟨x,rfl,by rw[e]; exact aE q.1,aE q.2⟩
section
variable {σ:St}{H1:Hp}{Q:VK}
theorem jBG {lo:Int}{n:Nat}(hn:n<sizeLine)(Pv:Addr->Nat->St->Hp->List V->Prop)(h0:∀D,H1 D=none->Pv D 0 (blkσ m σ) (upd H1 D (.lst [])) [])
  (hD:∀D i σ' H' ys,H1 D=none->i<=n->Pv D i σ' H' ys->H' D=some (.lst ys)/\ys.length<=i)
  (hs:∀D i σ' H' ys,H1 D=none->i<n->Pv D i σ' H' ys->g (.int (lo+i)) σ' H' λσ2 H2=>tt σ2 H2 λb H3=>if b=true then te σ2 H3 λv H4=>H4 D=some (.lst ys)/\Pv D (i+1) σ2 (upd H4 D (.lst (ys++[v]))) (ys++[v]) else Pv D (i+1) σ2 H3 ys)
  (hd:∀D σ' H' ys,H1 D=none->Pv D n σ' H' ys->Q (.ref D) H'):qX m g tt te σ Q (Itr lo n) H1:=by
 intro D hDn
 refine⟨λi k σ' H' ys=>k=n - i/\i<=n/\Pv D i σ' H' ys,⟨n,rfl,aS _,h0 D hDn⟩,?_⟩
 rintro i k σ' H' ys ⟨rfl,hi,p⟩
 obtain⟨q1,q2⟩:=hD D i σ' H' ys hDn hi p
 refine⟨q1,by lia,?_⟩
 by_cases hlt:i<n
 ·refine .inr ⟨hlt,Pv D (i+1),λσ2 H2 zs z=>⟨n - (i+1),by lia,rfl,hlt,z⟩,λx H'' y=>?_⟩
  obtain⟨e1,e2⟩:=y
  subst e1 e2
  exact hs D i σ' _ ys hDn hlt p
 ·have e:i=n:=by lia
  subst e
  exact .inl ⟨aj _,hd D σ' H' ys hDn p⟩
end
end L2
end
namespace SS
open PySem PySem.SetTable
abbrev Ris (xs:Array Nat):Prop:=xs.toList.Pairwise (· < ·)
theorem jCI {xs:Array Nat}(h:Ris xs){a b:Nat}(hab:a<b)(hb:b<xs.size):xs.getD a 0<xs.getD b 0:=by
 have h1:a<xs.size:=gx hab hb
 have:=cH.mp h a b (by simpa using h1) (by simpa using hb) hab
 simpa [Array.getD,h1,hb] using this
theorem jS1 {xs:Array Nat}{j:Nat}(hr:Ris xs):∀(fuel lo hi:Nat),hi - lo<=fuel->lo<=hi->hi<=xs.size->(∀a,a<lo->xs.getD a 0<j)->(∀a,hi<=a->a<xs.size->j<=xs.getD a 0)->
  (below.go xs j fuel lo hi<=xs.size/\(∀a,a<below.go xs j fuel lo hi->xs.getD a 0<j)/\(∀a,below.go xs j fuel lo hi<=a->a<xs.size->j<=xs.getD a 0)):=by
 intro fuel
 induction fuel with
 | zero=>
  intro lo hi h1 h2 h3 h4 h5
  have e:lo=hi:=by lia
  subst e
  exact⟨h3,h4,h5⟩
 | succ fuel ih=>
  intro lo hi h1 h2 h3 h4 h5
  unfold below.go
  by_cases hlt:lo<hi
  ·rw[am hlt]
   have hm:(lo+hi) / 2<xs.size:=by lia
   have e:xs.getD ((lo+hi) / 2) j=xs.getD ((lo+hi) / 2) 0:=by simp [Array.getD,hm]
   dsimp only
   rw[e]
   by_cases hc:xs.getD ((lo+hi) / 2) 0<j
   ·rw[am hc]
    refine ih _ _ (by lia) (by lia) h3 (λa ha=>?_) h5
    by_cases e2:a=(lo+hi) / 2
    ·rw[e2]; exact hc
    ·exact gx (jCI hr (by lia) hm) hc
   ·rw[ai hc]
    refine ih _ _ (by lia) (by lia) (by lia) h4 (λa ha hs=>?_)
    by_cases e2:a=(lo+hi) / 2
    ·rw[e2]; lia
    ·have:=jCI hr (show (lo+hi) / 2<a by lia) hs
     lia
  ·rw[ai hlt]
   have e:lo=hi:=by lia
   subst e
   exact⟨h3,h4,h5⟩
theorem jEQ {xs:Array Nat}(hr:Ris xs)(j:Nat):below xs j<=xs.size/\(∀a,a<below xs j->xs.getD a 0<j)/\(∀a,below xs j<=a->a<xs.size->j<=xs.getD a 0):=
 jS1 hr xs.size 0 xs.size (by lia) (aS _) (aj _) (λa h=>absurd h (cL _)) (λa h1 h2=>absurd h2 (by lia))
theorem jFR {xs:Array Nat}(hr:Ris xs){j i:Nat}(hi:i<=xs.size)(h1:∀a,a<i->xs.getD a 0<j)(h2:∀a,i<=a->a<xs.size->j<=xs.getD a 0):below xs j=i:=by
 obtain⟨b1,b2,b3⟩:=jEQ hr j
 rcases Nat.lt_trichotomy (below xs j) i with h | h | h
 ·have q1:=h1 _ h
  have q2:=b3 _ (aj _) (by lia)
  lia
 ·exact h
 ·have q1:=b2 _ h
  have q2:=h2 _ (aj _) (by lia)
  lia
theorem toList_insertAt {α:Type}(xs:Array α)(p:Nat)(x:α):(insertAt xs p x).toList=xs.toList.take p++x::xs.toList.drop p:=by
 unfold insertAt
 simp [ff,List.extract]
 rw[bL (by simp)]
theorem jA6 {α:Type}(xs:Array α)(p:Nat)(x:α):(insertAt xs p x).size=xs.size+1:=by
 rw[<- aw,toList_insertAt]
 simp
 lia
theorem jBB {xs:Array Nat}{j:Nat}(hr:Ris xs)(hj:j∉xs.toList):Ris (insertAt xs (below xs j) j):=by
 obtain⟨b1,b2,b3⟩:=jEQ hr j
 show (insertAt xs (below xs j) j).toList.Pairwise (· < ·)
 rw[toList_insertAt,cA,eG]
 have hl:∀a∈xs.toList.take (below xs j),a<j:=by
  intro a ha
  obtain⟨i,hi,e⟩:=List.mem_take_iff_getElem.mp ha
  have:=b2 i (by lia)
  have hs:i<xs.size:=by simp at hi; lia
  simp [Array.getD,hs] at this
  simp at e
  lia
 have hg:∀a∈xs.toList.drop (below xs j),j<a:=by
  intro a ha
  obtain⟨i,hi,e⟩:=List.mem_drop_iff_getElem.mp ha
  have hs:i+below xs j<xs.size:=by simpa [jo] using hi
  have:=b3 (i+below xs j) (by lia) hs
  simp [Array.getD,hs] at this
  have e':xs[i+below xs j]=a:=by simpa [jo] using e
  have hne:a≠j:=by
   intro z
   apply hj
   rw[<- z]
   exact cc ha
  lia
 refine⟨hr.sublist (fb _ _),⟨hg,hr.sublist (iJ _ _)⟩,?_⟩
 intro a ha b hb
 rcases aF.mp hb with rfl | hb
 ·exact hl a ha
 ·exact gx (hl a ha) (hg b hb)
theorem jA8 {t:SetTable}{j:Nat}(hr:Ris t.place)(h:t.slot j= .empty):j∉t.place.toList:=by
 intro hm
 obtain⟨i,hi,e⟩:=cr hm
 have hs:i<t.place.size:=by simpa using hi
 have e0:t.place[i]=j:=by simpa using e
 have eb:below t.place j=i:=by
  refine jFR hr (cQ hs) (λa ha=>?_) (λa h1 h2=>?_)
  ·have:=jCI hr ha hs
   simp only [Array.getD,hs] at this ⊢
   simp [e0] at this ⊢
   exact this
  ·by_cases e2:a=i
   ·subst e2
    simp [Array.getD,hs,e0]
   ·have:=jCI hr (show i<a by lia) h2
    simp only [Array.getD,hs] at this
    simp [e0] at this
    simp [Array.getD]
    lia
 unfold SetTable.slot at h
 dsimp only at h
 rw[eb] at h
 rw[am (by simp [hs,e0])] at h
 cases h
theorem jCR (j:Nat):has #[] j=false:=by
 unfold has
 simp
theorem jIB {t:SetTable}(hd:t.dummies=#[]){f:Nat->Int}{h:Int} :∀(fuel:Nat) (p:Probe) (m:Met),p.dummy=none->probe.go t f h fuel p=some m->
  (∃j,m= .empty j none/\t.slot j= .empty)\/(∃j i n,m= .candidate j i n):=by
 intro fuel
 induction fuel with
 | zero=>intro p m _ e; simp [probe.go] at e
 | succ fuel ih=>
  intro p m hp e
  unfold probe.go at e
  cases hs:t.slot p.j with
  | empty=>
   rw[hs] at e
   simp only [iK] at e
   subst e
   exact .inl ⟨p.j,by rw[hp],hs⟩
  | dummy=>
   unfold SetTable.slot at hs
   dsimp only at hs
   rw[hd,jCR] at hs
   split at hs
   ·cases hs
   ·simp at hs
  | live i=>
   rw[hs] at e
   dsimp only at e
   split at e
   ·simp only [iK] at e
    subst e
    exact .inr ⟨_,_,_,rfl⟩
   ·refine ih _ _ ?_ e
    unfold advance
    split
    ·exact hp
    ·exact hp
theorem jFK {t:SetTable}(hr:Ris t.place)(hd:t.dummies=#[]){h:Int}{slot:Nat}{d:Bool}(e:t.freeSlot h=some (slot,d)):slot∉t.place.toList:=by
 unfold SetTable.freeSlot at e
 split at e
 ·rename_i j dummy hp
  simp only [iK,Prod.mk.injEq] at e
  have hp':probe.go t (λ_=>h+1) h (10*turns t.mask) (t.probeStart h)=some (.empty j dummy):=hp
  rcases jIB hd _ _ _ (by unfold probeStart; rfl) hp' with ⟨j',em,hs⟩ | ⟨_,_,_,em⟩
  ·cases em
   have:slot=j:=by rw[<- e.1]; rfl
   rw[this]
   exact jA8 hr hs
  ·cases em
 ·cases e
theorem jAC {t:SetTable}{j:Nat}(hd:t.dummies=#[])(h:t.slot j≠ .empty):(∃i,t.slot j= .live i)/\j∈t.place.toList:=by
 unfold SetTable.slot at h ⊢
 dsimp only at h ⊢
 by_cases q:(t.place[below t.place j]?==some j)=true
 ·rw[am q]
  refine⟨⟨_,rfl⟩,?_⟩
  have e:t.place[below t.place j]?=some j:=eq_of_beq q
  obtain⟨hi,e⟩:=dM.mp e
  rw[<- e]
  exact Array.getElem_mem_toList hi
 ·rw[ai q,hd,jCR] at h
  exact absurd rfl h
theorem run7 (i:Nat):runEnd 7 i=i:=by unfold runEnd; rw[ai (by lia)]
theorem jKV {t:SetTable}(hm:t.mask=7)(hd:t.dummies=#[]){h:Int} :∀(k fuel:Nat) (p:Probe),p.j=p.i->p.more=0->p.i<8->p.perturb<32->k<=fuel->
  probe.go t (λ_=>h+1) h fuel p=none->∀r,r<k->Nat.repeat (λi=>(i*5+1) % 8) r p.i∈t.place.toList:=by
 intro k
 induction k with
 | zero=>intro fuel p _ _ _ _ _ _ r hr; lia
 | succ k ih=>
  intro fuel p h1 h2 h3 h4 h5 h6 r hr
  obtain⟨f,rfl⟩:∃f,fuel=f+1:=⟨fuel - 1,by lia⟩
  unfold probe.go at h6
  by_cases he:t.slot p.j= .empty
  ·rw[he] at h6; cases h6
  ·obtain⟨⟨i,hl⟩,hmem⟩:=jAC hd he
   rw[hl] at h6
   dsimp only at h6
   rw[ai (by simp; lia)] at h6
   have hz:p.perturb / 32=0:=by lia
   have ea:t.advance p= { p with j:=(p.i*5+1) % 8,more:=0,i:=(p.i*5+1) % 8,perturb:=0} :=by
    unfold advance leap
    rw[ai (by lia),hm,hz]
    simp [run7]
   rw[ea] at h6
   cases r with
   | zero=>show p.i∈_; rw[<- h1]; exact hmem
   | succ r=>
    have q:=ih f _ (by rfl) (by rfl) (by show (p.i*5+1) % 8<8; lia) (by show 0<32; lia) (by lia) h6 r (by lia)
    have e:∀(r i:Nat),Nat.repeat (λi=>(i*5+1) % 8) (r+1) i=Nat.repeat (λi=>(i*5+1) % 8) r ((i*5+1) % 8):=by
     intro r
     induction r with
     | zero=>intro i; rfl
     | succ r ihr=>
      intro i
      show ((Nat.repeat _ (r+1) i)*5+1) % 8=((Nat.repeat _ r ((i*5+1) % 8))*5+1) % 8
      rw[ihr]
    rw[e]
    exact q
theorem jN7:∀i,i<8->∀j,j<8->∃r,r<8/\Nat.repeat (λi=>(i*5+1) % 8) r i=j:=by decide+kernel
theorem jAA {t:SetTable}(hm:t.mask=7)(hd:t.dummies=#[])(hz:t.place.size<8){h:Int}(h0:0<=h)(h1:h<32):∃q,t.freeSlot h=some q:=by
 unfold SetTable.freeSlot
 have hb:bits h<32:=by unfold bits; lia
 have hps:t.probeStart h= { j:=bits h % 8,more:=0,i:=bits h % 8,perturb:=bits h,dummy:=none} :=by
  unfold probeStart
  rw[hm]
  simp [run7]
 cases e:t.probe (λ_=>h+1) h (t.probeStart h) with
 | none=>
  exfalso
  have e':probe.go t (λ_=>h+1) h (10*turns t.mask) (t.probeStart h)=none:=e
  rw[hps] at e'
  have q:=jKV hm hd 8 _ _ (by rfl) (by rfl) (by show bits h % 8<8; lia) (by exact hb) (by rw[hm]; decide) e'
  have sub:List.range 8 ⊆ t.place.toList:=by
   intro j hj
   obtain⟨r,hr,er⟩:=jN7 (bits h % 8) (by lia) j (be.mp hj)
   rw[<- er]
   exact q r hr
  have:=eg (List.nodup_range (n:=8)) sub
  simp at this
  lia
 | some m=>
  rcases jIB hd _ _ _ (by rw[hps]) (show probe.go t (λ_=>h+1) h (10*turns t.mask) (t.probeStart h)=some m from e) with ⟨j,rfl,_⟩ | ⟨j,i,n,rfl⟩
  ·exact⟨_,rfl⟩
  ·exfalso
   have nc:∀(fuel:Nat) (p:Probe) (j i:Nat) (n:Probe),probe.go t (λ_=>h+1) h fuel p≠some (.candidate j i n):=by
    intro fuel
    induction fuel with
    | zero=>intro p j i n; simp [probe.go]
    | succ f ih=>
     intro p j i n
     unfold probe.go
     cases t.slot p.j with
     | empty=>simp
     | dummy=>exact ih _ _ _ _
     | live i'=>
      dsimp only
      rw[ai (by simp; lia)]
      exact ih _ _ _ _
   exact nc _ _ _ _ _ e
structure Tab (t:SetTable)(n:Nat)(led:Bool):Prop where
 ris:Ris t.place
 sz:t.place.size=n
 dm:t.dummies=#[]
 msk:t.mask=7
 pl:t.plain=true
 ld:t.led=led
theorem Tab.fits {t:SetTable}{n:Nat}{led:Bool}(T:Tab t n led)(hn:n<=4):t.fits n=true:=by
 unfold SetTable.fits fill
 simp [T.sz,T.dm,T.msk]
 lia
theorem Tab.full {t:SetTable}{n:Nat}{led:Bool}(T:Tab t n led)(hn:n<=4):t.tooFull=false:=by
 unfold tooFull fill
 simp [T.sz,T.dm,T.msk]
 lia
theorem jBV (led:Bool):Tab (fresh 0 0 led) 0 led:=⟨List.Pairwise.nil,rfl,rfl,rfl,rfl,rfl⟩
theorem jJU {t:SetTable}{n:Nat}{led:Bool}(T:Tab t n led)(hn:n+1<=4)(es:Array (Int×Value))(he:es.size=n){h:Int}(h0:0<=h)(h1:h<32)(x:Value):
  Tab (layNew t es h x).2.1 (n+1) led/\∃p,(layNew t es h x).1.toList=es.toList.take p++(h,x)::es.toList.drop p:=by
 obtain⟨⟨slot,d⟩,hf⟩:=jAA T.msk T.dm (by rw[T.sz]; lia) h0 h1
 unfold layNew
 rw[hf]
 dsimp only [SetTable.put]
 have hnm:=jFK T.ris T.dm hf
 have T2:Tab { t with place:=insertAt t.place (below t.place slot) slot,dummies:=if has t.dummies slot then eraseAt t.dummies (below t.dummies slot) else t.dummies} (n+1) led:=by
  refine⟨jBB T.ris hnm,by rw[jA6,T.sz],?_,T.msk,T.pl,T.ld⟩
  rw[T.dm,jCR]
  rfl
 refine⟨?_,_,toList_insertAt _ _ _⟩
 unfold SetTable.orStandIn
 rw[jA6,he,T2.fits hn]
 exact T2
def slotAt (xs:Array Nat):Nat->Nat
 | 0=>0
 | i+1=>xs.getD i 0+1
theorem jB9 {xs:Array Nat}(hr:Ris xs){i:Nat}(hi:i<=xs.size):below xs (slotAt xs i)=i:=by
 cases i with
 | zero=>exact jFR hr (aS _) (λa h=>absurd h (cL _)) (λa _ _=>aS _)
 | succ i=>
  refine jFR hr hi (λa ha=>?_) (λa h1 h2=>?_)
  ·show _<xs.getD i 0+1
   by_cases e:a=i
   ·rw[e]; lia
   ·have:=jCI hr (show a<i by lia) (show i<xs.size by lia)
    lia
  ·show xs.getD i 0+1<=_
   exact jCI hr (show i<a by lia) h2
theorem jK0 {α:Type}{l:List α}{i:Nat}(h:i<l.length):(l[i]::l.eraseIdx i).Perm l:=by
 rw[List.eraseIdx_eq_take_drop_succ]
 have e:l=l.take i++l[i]::l.drop (i+1):=by rw[<- List.drop_eq_getElem_cons h,bB]
 conv=>rhs; rw[e]
 exact List.perm_middle.symm
theorem jQR {α:Type}(next:Nat->Nat):∀(fuel k:Nat) (left:List α) (out:Array α),fuel=left.length->(pickOrder.go next fuel k left out).toList.Perm (out.toList++left):=by
 intro fuel
 induction fuel with
 | zero=>
  intro k left out h
  have:left=[]:=cz.mp h.symm
  subst this
  simp [pickOrder.go]
 | succ f ih=>
  intro k left out h
  have hl:next k % left.length<left.length:=lw _ (by lia)
  unfold pickOrder.go
  rw[aG hl]
  dsimp only
  refine(ih _ _ _ (by rw[List.length_eraseIdx_of_lt hl]; lia)).trans ?_
  rw[dS,aX]
  exact db _ (jK0 hl)
theorem jDW {α:Type}(next:Nat->Nat)(xs:Array α):(pickOrder next xs).toList.Perm xs.toList:=by
 unfold pickOrder
 have:=jQR next xs.size 0 xs.toList #[] (by simp)
 simpa using this
end SS
namespace SS
open PySem
abbrev ledW (w:World):Bool:=!(w.params.followText "set-order")
def El (e:Int×Value)(k:Int):Prop:=e.1=hashInt k/\∃t,e.2= .int k t
theorem jA5 {α β:Type}{F:α->β->Prop} :∀{l:List α}{r:List β},Paired F l r->∀a∈l,∃b∈r,F a b
 | _,_, .nil=>λa h=>by cases h
 | _,_, .cons f t=>λa h=>by
  rcases aF.mp h with rfl | h
  ·exact⟨_,ax,f⟩
  ·obtain⟨b,hb,q⟩:=jA5 t a h
   exact⟨b,ay _ hb,q⟩
theorem jAD {α β:Type}{F:α->β->Prop} :∀{l:List α}{r:List β},Paired F l r->∀b∈r,∃a∈l,F a b
 | _,_, .nil=>λa h=>by cases h
 | _,_, .cons f t=>λb h=>by
  rcases aF.mp h with rfl | h
  ·exact⟨_,ax,f⟩
  ·obtain⟨a,ha,q⟩:=jAD t b h
   exact⟨a,ay _ ha,q⟩
theorem jAI {α β:Type}{F:α->β->Prop}{a:α}{b:β}(f:F a b):∀{l:List α}{r:List β}(p:Nat),Paired F l r->Paired F (l.take p++a::l.drop p) (r.take p++b::r.drop p)
 | _,_,0,q=>by simpa using Paired.cons f q
 | _,_,p+1, .nil=>by simpa using Paired.cons f .nil
 | _,_,p+1, .cons g t=>by
  simp only [List.take_succ_cons,List.drop_succ_cons,i8]
  exact .cons g (jAI f p t)
theorem jCM {α:Type}(l:List α)(p:Nat)(x z:α):z∈l.take p++x::l.drop p↔z=x\/z∈l:=by
 conv=>rhs; rw[<- bB p l]
 simp only [aK,aF]
 constructor
 ·rintro (h | h | h)
  ·exact .inr (.inl h)
  ·exact .inl h
  ·exact .inr (.inr h)
 ·rintro (h | h | h)
  ·exact .inr (.inl h)
  ·exact .inl h
  ·exact .inr (.inr h)
theorem jAY {α:Type}(l:List α)(p:Nat)(x:α):(l.take p++x::l.drop p).Perm (x::l):=by
 have h:(l.take p++x::l.drop p).Perm (x::(l.take p++l.drop p)):=List.perm_middle
 rw[bB] at h
 exact h
structure SetG (w:World)(h:Heap)(a:Addr)(ks:List Int):Prop where
 ex:∃o es ep t,h.get? a=some o/\o.ExactSet/\o.data= .set es ep t/\Paired El es.toList ks/\Tab t es.size (ledW w)
 nd:ks.Nodup
 len:ks.length<=4
variable {prog:Program}{w:World}{A:Around}{E:Value->Shared->Prop}{s:Shared}{a:Addr}
section
variable {ks:List Int}{k:Int}{tk:Tok}
theorem elems {es:List (Int×Value)}(h:Paired El es ks):ElemsOf (intKind prog w) es:=λe he=>by
 obtain⟨k,_,h1,t,h2⟩:=jA5 h e he
 rw[h2]
 exact⟨⟨k,by show Value.isInt k (.int k t)=true; simp [Value.isInt],h1⟩,rfl⟩
theorem SetG.at {h h':Heap}(S:SetG w h a ks)(e:∀o,h.get? a=some o->h'.get? a=some o):SetG w h' a ks:=by
 obtain⟨⟨o,es,ep,t,ho,r⟩,nd,len⟩:=S
 exact⟨⟨o,es,ep,t,e _ ho,r⟩,nd,len⟩
theorem jC9 (k0:0<=k)(k1:k<32):hashInt k=k:=by
 obtain⟨n,rfl⟩:=Int.eq_ofNat_of_zero_le k0
 have e:∀n:Nat,n<32->hashInt (n:Int)=(n:Int):=by decide+kernel
 exact e n (by lia)
theorem jNC {Q:Bool->Shared->Prop}(S:SetG w s.heap a ks)(hl:ks.length+1<=4)(k0:0<=k)(k1:k<32)
  (h:∀b h' ks',Heap.SameBut a s.heap h'->SetG w h' a ks'->(∀z,z∈ks'↔z=k\/z∈ks)->ks'.length<=ks.length+1->Q b { s with heap:=h'}):
  wpAny (model prog w) A (setAddHashed a (.int k tk) (hashInt k)) Q E s:=by
 obtain⟨o,es,ep,t,ho,hex,hd,hp,T⟩:=id S.ex
 have hn:es.size=ks.length:=by rw[<- aw]; exact fH hp
 have hf:=T.fits (by lia)
 have hel:ElemsOf (intKind prog w) es.toList:=elems hp
 have hb:es.size<scanBound:=by unfold scanBound; lia
 have hi:∀(j:Int) (t:Tok),Value.isInt k (.int j t)=true->j=k:=λj t e=>by simpa [Value.isInt] using e
 unfold setAddHashed setAddHashedIn
 refine bD (aa (bv ho hd hf ?_))
 dsimp only
 rw[byScan_of (knd:=intKind prog w) rfl hb hel,am rfl]
 unfold setAddByScan
 refine aa (aa (cx (aa ?_)))
 refine wpAny_setScan_of (knd:=intKind prog w) (k:=k) (by show Value.isInt k (.int k tk)=true; simp [Value.isInt]) ho hd hf hel ?_
 have es0:s= { s with heap:=s.heap} :=by cases s; rfl
 cases hr:List.findIdx? (λe=>(intKind prog w).is k e.2) es.toList with
 | some j=>
  obtain⟨hj,hpj,_⟩:=List.findIdx?_eq_some_iff_getElem.mp hr
  obtain⟨k',hk',_,t',e'⟩:=jA5 hp _ (de hj)
  have hkk:k'=k:=hi k' t' (by rw[<- e']; exact hpj)
  subst hkk
  refine ae (ae ?_)
  rw[es0]
  exact h false s.heap ks (iM a s.heap) S (λz=>⟨.inr,λq=>q.elim (λe=>e ▸ hk') id⟩) (by lia)
 | none=>
  have hnk:k∉ks:=λhm=>by
   obtain⟨e,he,_,t',e'⟩:=jAD hp k hm
   have q:=List.findIdx?_eq_none_iff.mp hr e he
   rw[e'] at q
   have q':Value.isInt k (.int k t')=false:=q
   simp [Value.isInt] at q'
  obtain⟨T1,p,hp1⟩:=jJU T (by lia) es rfl (h:=hashInt k) (by rw[jC9 k0 k1]; exact k0) (by rw[jC9 k0 k1]; exact k1) (.int k tk)
  dsimp only
  show wpAny _ A (match layNew t es (hashInt k) (Value.int k tk) with | (es,t,wasDummy,gave)=>_) _ E s
  generalize layNew t es (hashInt k) (Value.int k tk)=L at T1 hp1 ⊢
  obtain⟨es1,t1,wd,gv⟩:=L
  dsimp only at T1 hp1 ⊢
  have hp2:Paired El es1.toList (ks.take p++k::ks.drop p):=by
   rw[hp1]
   exact jAI ⟨rfl,tk,rfl⟩ p hp
  have hz1:es1.size=es.size+1:=by
   rw[<- aw,hp1,(jAY es.toList p (hashInt k,Value.int k tk)).length_eq]
   simp
  have hlen:(ks.take p++k::ks.drop p).length=ks.length+1:=(jAY ks p k).length_eq
  have T1':Tab t1 es1.size (ledW w):=by rw[hz1]; exact T1
  have hg:(s.heap.update a (Obj.putSet es1 t1)).get? a=some { o with data:= .set es1 (ep+1) t1} :=by
   have q:=bY (Obj.putSet es1 t1) ho (by rw[i9 es1 t1 hd]; rfl)
   rw[i9 es1 t1 hd] at q
   exact q
  have fin:Q true { s with heap:=s.heap.update a (Obj.putSet es1 t1)} :=
   h true _ _ (ed ..) ⟨⟨_,es1,ep+1,t1,hg,hex,rfl,hp2,T1'⟩,(jAY ks p k).nodup_iff.mpr (dE.mpr ⟨hnk,S.nd⟩),by lia⟩ (λz=>jCM ks p k z) (by lia)
  have hfull:t1.tooFull=false:=T1'.full (by lia)
  refine aa (show wpAny _ A (match gv with | true=>rule "set.scan.the-table-gave-way" | false=>pure ()) _ E s from ?_)
  have hzl:es1.size<=sizeLine:=by rw[hz1,show sizeLine=2 ^ 24 from rfl]; lia
  cases gv with
  | true=>
   refine cx ?_
   split
   all_goals
    refine aa (show wpAny _ A (pure true:Sem Bool) _ E s from ae ?_)
    simp only [gu]
    refine aa (gy ho hd ?_ hzl)
    rw[hfull,bV,ai ag]
    exact ae (ae fin)
  | false=>
   refine ae ?_
   split
   all_goals
    refine aa (show wpAny _ A (pure true:Sem Bool) _ E s from ae ?_)
    simp only [gu]
    refine aa (gy ho hd ?_ hzl)
    rw[hfull,bV,ai ag]
    exact ae (ae fin)
end
theorem jA4:entryFor table "set.update.loop" =some Builtin.«set.update.loop»:=entryFor_of_fast (by kernel_rfl)
theorem jA1:plainId "set.update.loop" =true:=by decide+kernel
variable {I:Addr}
section
variable {R:Result->Shared->Prop}{fp wr:List Addr}{n:Nat}{P:Nat->Value->Prop}{St:Nat->Shared->Prop}
theorem jEU (W:WalksS prog w A.in1 I fp wr (λa b=>b=a) n P St)(S:Addr)(hSf:S∉fp)(val:Nat->Int)(hval:∀i v,P i v->∃t,v= .int (val i) t)(hv:∀i,i<n->0<=val i/\val i<32)(hn:n<=4):
  ∀(k i:Nat) (s:Shared) (ks:List Int),n - i=k->i<=n->St i s->SetG w s.heap S ks->ks.length<=i->(∀z,z∈ks↔∃j,j<i/\val j=z)->
   (∀s' ks',Moved (S::wr) (λa b=>b=a) s s'->SetG w s'.heap S ks'->(∀z,z∈ks'↔∃j,j<n/\val j=z)->R (.ok (.ret .none)) s')->
   codeAny (model prog w) A (.builtin "set.update.loop" ⟨[.ref S, .ref I],[]⟩) R s:=by
 have hSw:S∉wr:=λh=>hSf (W.sub _ h)
 have sub1:∀b∈wr,b∈S::wr:=λb hb=>ay _ hb
 intro k
 induction k with
 | zero=>
  intro i s ks hk hi hst hS hl hm hR
  obtain rfl:i=n:=by lia
  refine bZ jA4 ?_
  rw[ce jA1 _]
  show wpAny _ A.in1 (pyNext (.ref I) >>= _) _ _ s
  refine aa (W.done s _ _ hst λs' mv=>?_)
  show wpAny _ A.in1 (ret Value.none) _ _ s'
  exact ae (hR s' ks (mv.mono sub1) (hS.at λo e=>mv.heap S o hSw e) hm)
 | succ k ih=>
  intro i s ks hk hi hst hS hl hm hR
  have hlt:i<n:=by lia
  refine bZ jA4 ?_
  rw[ce jA1 _]
  show wpAny _ A.in1 (pyNext (.ref I) >>= _) _ _ s
  refine aa (W.item i s _ _ hlt hst λv s' hP hst' mv=>?_)
  obtain⟨t,rfl⟩:=hval i v hP
  have hS':=hS.at (h':=s'.heap) λo e=>mv.heap S o hSw e
  show wpAny _ A.in1 (holding [Value.int (val i) t] (setAdd S (.int (val i) t)) >>= _) _ _ s'
  refine aa (bD ?_)
  unfold setAdd
  refine bD (aa (wpAny_pyHash_int ?_))
  refine jNC (s:= { s' with toks:=s'.toks+1}) hS' (by lia) (hv i hlt).1 (hv i hlt).2 λb h' ks' sb hS2 hm2 hl2=>?_
  refine ae ⟨eX jA1 _,ih (i+1) _ ks' (by lia) hlt (W.frame _ s' _ _ hst' (g0 _) λb hb o e=>?_) hS2 (by lia) (λz=>?_) λs'' ks'' mv2 hS3 hm3=>?_⟩
  ·rw[sb.2 b (λh:b=S=>hSf (by rw[<- h]; exact hb))]
   exact e
  ·rw[hm2,hm]
   constructor
   ·rintro (h | ⟨j,hj,e⟩)
    ·exact⟨i,by lia,h.symm⟩
    ·exact⟨j,by lia,e⟩
   ·rintro ⟨j,hj,e⟩
    by_cases hji:j=i
    ·exact .inl (by rw[<- e,hji])
    ·exact .inr ⟨j,by lia,e⟩
  ·refine hR s'' ks'' (Moved.trans W.gtrans ((mv.mono sub1).then_heap (g0 _) λb o hb e=>?_) mv2) hS3 hm3
   rw[sb.2 b (λh:b=S=>hb (by rw[h]; exact ax))]
   exact e
end
section
theorem jF6 (a:Value){Q:Value->Shared->Prop}
  (h:Q (.ref s.heap.objs.size) { s with heap:=s.heap.push { cls:= .type "set",dict:=none,data:= .set #[] 0 (.fresh 0 0 (ledW w))}}):
  codeAny (model prog w) A (.call (.builtin "set.__new__") ⟨[.type "set",a],[]⟩) (wants Q E) s:=by
 refine ju (show wpAny _ A.in1 (do checkBuiltinCall "set.__new__" ⟨[.type "set",a],[]⟩; again (.builtin "set.__new__" ⟨[.type "set",a],[]⟩)) _ _ s from ?_)
 refine aa (kh (F.newCall_set_1 a) (ae ⟨eX F.plain_set_new _,bZ F.entry_set_new ?_⟩))
 rw[ce F.plain_set_new _]
 unfold Builtin.«set.__new__» Builtin.Frozenset.newClass
 have q:=sub_set_self
 obtain⟨hp,g,d,tk,os⟩:=s
 dsimp only
 wp_walk
 refine cM (ae ?_)
 dsimp only
 simp only [newObj]
 exact aa (wpAny_alloc (ae (ae h)))
set_option maxHeartbeats 3200000 in
theorem set_of_list {l:Addr}{items:Array Value}{ns:List Int}{Q:Value->Shared->Prop}(hh:A.handled=none)(hl:s.heap.IsList l items)(hi:PyProof.Rows.IntsAre items.toList ns)
  (hn:items.size<=4) (hv:∀z∈ns,0<=z/\z<32)
  (h:∀(h':Heap) (tk:Nat) (ks:List Int),SetG w h' s.heap.objs.size ks->(∀z,z∈ks↔z∈ns)->(∀b o,s.heap.get? b=some o->h'.get? b=some o)->Q (.ref s.heap.objs.size) { s with heap:=h',toks:=tk}):
  wpAny (model prog w) A (call (.type "set") [.ref l]) Q E s:=by
 obtain⟨c,tl,hmro⟩:=F.called_set.mro
 have hmade:=F.called_set.made
 have hsub:=F.called_set.sub
 have g1:=F.called_set.notType
 have g2:=F.called_set.canCreate
 have g3:=F.typeCall_set_1 (.ref l)
 refine lu (ju (show wpAny _ _ (callAny (.type "set") _) _ _ _ from ?_))
 refine ae ⟨iu _ (by decide+kernel),bZ F.entry_type_call ?_⟩
 rw[Around.under_plain (weight_type_call_type "set" [.ref l] []) rfl]
 repeat (any_goals (first | assumption | wp_step))
 have hlen:items.size=ns.length:=by rw[<- aw]; exact hi.length
 refine eE (jF6 (.ref l) (E:=E) (Q:=λobj z=>obj= .ref s.heap.objs.size/\z= { s with heap:=s.heap.push { cls:= .type "set",dict:=none,data:= .set #[] 0 (.fresh 0 0 (ledW w))}}) ⟨rfl,rfl⟩) λr z hr=>?_
 cases r with
 | error e=>exact hr
 | ok fl=>
  cases fl with
  | ret obj=>
   obtain⟨rfl,rfl⟩:=hr
   generalize hO:({ cls:= .type "set",dict:=none,data:= .set #[] 0 (.fresh 0 0 (ledW w))} :Obj)=oS
   have hS:(s.heap.push oS).get? s.heap.objs.size=some oS:=ao _ (by rw[<- hO]; rfl)
   have hT:Shared.TypeIs { s with heap:=s.heap.push oS} (.ref s.heap.objs.size) "set" :=⟨_,hS,by rw[<- hO]⟩
   have hli:=F.called_set.init.lookup
   have hbi:=F.called_set.init.bind (.ref s.heap.objs.size)
   repeat (any_goals (first | assumption | wp_step))
   refine eE (codeAny_call_builtin (R:=wants (λr z2=>r= .none/\∃h' tk ks,z2= { s with heap:=h',toks:=tk} /\SetG w h' s.heap.objs.size ks/\(∀z,z∈ks↔z∈ns)/\(∀b o,s.heap.get? b=some o->h'.get? b=some o)) E)
    F.called_set.init.plain F.entry_set_init (check_set_init_1 hT ?_)) λr2 z2 hr2=>?_
   ·obtain⟨ol,hol,hcl,nl,hdl⟩:=hl
    obtain⟨ocls,odict,odata,oslots⟩:=ol
    simp only at hcl hdl
    subst hcl; subst hdl
    have hol':(s.heap.push oS).get? l=some { cls:= .type "list",dict:=odict,data:= .seq items nl,slots:=oslots} :=ab _ hol
    have y1:=F.sub_list_set
    have y2:=F.sub_list_frozenset
    have y3:(Value.type "list" ==Value.type "dict")=false:=by decide
    have hl1:(s.heap.push oS).IsList l items:=⟨_,hol',rfl,nl,rfl⟩
    subst hO
    unfold Builtin.«set.__init__» noKeywords Builtin.Frozenset.updateFrom
    generalize hPI:pyIter=PI
    wp_walk
    subst hPI
    refine cU hl1 (aa (gz ?_))
    have hlS:l<s.heap.objs.size:=aq hol
    have hz1:(s.heap.push { cls:= .type "set",dict:=none,data:= .set #[] 0 (.fresh 0 0 (ledW w))}).objs.size=s.heap.objs.size+1:=bR _ _
    have nI:l≠(s.heap.push { cls:= .type "set",dict:=none,data:= .set #[] 0 (.fresh 0 0 (ledW w))}).objs.size:=by
     rw[hz1]
     exact aO (bK hlS)
    have nS:s.heap.objs.size∉ [(s.heap.push { cls:= .type "set",dict:=none,data:= .set #[] 0 (.fresh 0 0 (ledW w))}).objs.size,l]:=by
     rw[hz1]
     simp only [aF,bA,dv,lx]
     exact⟨aO (gP _),cK hlS⟩
    have hget:((s.heap.push { cls:= .type "set",dict:=none,data:= .set #[] 0 (.fresh 0 0 (ledW w))}).push { cls:= .type "list_iterator",data:= .fields #[.ref l, .int 0 0]}).get? s.heap.objs.size
      =some { cls:= .type "set",dict:=none,data:= .set #[] 0 (.fresh 0 0 (ledW w))} :=ab _ hS
    refine jEU ((iw (by simp [hh]) _ l nI items).toS) s.heap.objs.size nS (λi=>ns.getD i 0) (λi v q=>PyProof.Rows.IntsAre.int_at hi i v (by rw[bO]; exact q))
     (λi q=>hv _ ?_) hn (items.size - 0) 0 _ [] rfl (aS _) ⟨⟨_,ao _ rfl,rfl,rfl⟩,hl1.push _⟩ ⟨⟨_,#[],0,_,hget,⟨rfl,rfl,rfl⟩,rfl, .nil,jBV _⟩,ki,aS _⟩ (aj _) (λz=>⟨λq=>by(cases q),λ⟨j,q,_⟩=>absurd q (cL _)⟩) ?_
    ·have q':i<ns.length:=by rw[<- hlen]; exact q
     simp [List.getD,q']
    ·intro s' ks mv S' hm
     obtain⟨h',g',d',tk',os'⟩:=s'
     have e1:g'=s.gens:=mv.gens
     have e2:d'=s.drawn:=mv.drawn
     have e3:os'=s.os:=mv.os
     subst e1; subst e2; subst e3
     refine ae (ae ⟨rfl,h',tk',ks,rfl,S',λz=>?_,λb o e=>?_⟩)
     ·rw[hm]
      constructor
      ·rintro ⟨j,hj,e⟩
       have hj':j<ns.length:=by rw[<- hlen]; exact hj
       rw[<- e]
       simp [List.getD,hj']
      ·intro hz
       obtain⟨j,hj,e⟩:=cr hz
       exact⟨j,by rw[hlen]; exact hj,by simp [List.getD,hj,e]⟩
     ·have hb:=aq e
      refine mv.heap b o ?_ (ab _ (ab _ e))
      rw[hz1]
      simp only [aF,bA,dv,lx]
      exact⟨aO hb,aO (bK hb)⟩
   ·cases r2 with
    | error e=>exact hr2
    | ok fl2=>
     cases fl2 with
     | ret r=>
      obtain⟨rfl,h',tk,ks,rfl,hS',hm,hk⟩:=hr2
      repeat (any_goals (first | assumption | wp_step))
      exact h _ _ _ hS' hm hk
     | _=>exact hr2.elim
  | _=>exact hr.elim
end
theorem slot_si_next:Slot "set_iterator" "__next__" "set_iterator.__next__" :=
 .of (owner:= "set_iterator") (n:= "__next__") (by
   rw[jw,gM]
   kernel_rfl) (by decide+kernel) (by decide+kernel)
  (by decide+kernel)
  (by first
   | exact .inl (by decide+kernel)
   | exact .inr (by decide+kernel))
  (by
   rw[kj]
   kernel_rfl)
theorem jB5:Slot "set_iterator" "__iter__" "set_iterator.__iter__" :=
 .of (owner:= "set_iterator") (n:= "__iter__") (by
   rw[jw,gM]
   kernel_rfl) (by decide+kernel) (by decide+kernel)
  (by decide+kernel)
  (by first
   | exact .inl (by decide+kernel)
   | exact .inr (by decide+kernel))
  (by
   rw[kj]
   kernel_rfl)
theorem jAB:entryFor table "set_iterator.__next__" =some Builtin.«set_iterator.__next__»:=entryFor_of_tree (by kernel_rfl)
theorem jAP:entryFor table "set.__iter__" =some Builtin.«frozenset.__iter__»:=
 entryFor_alias (id':= "frozenset.__iter__") (by kernel_rfl) rfl (by decide+kernel) (by kernel_rfl)
theorem jCB:entryFor table "set_iterator.__iter__" =some Builtin.«dict_keyiterator.__iter__»:=
 entryFor_alias (id':= "dict_keyiterator.__iter__") (by kernel_rfl) (by first | rfl | decide+kernel | (unfold String.splitOn; simp+decide [String.splitOnAux])) (by decide+kernel)
  (by kernel_rfl)
theorem jAF (a:Value):argsOk "set_iterator.__next__" ⟨[a],[]⟩:=by unfold argsOk; kernel_rfl
theorem jD7 (a:Value):argsOk "set_iterator.__iter__" ⟨[a],[]⟩:=by unfold argsOk; kernel_rfl
theorem jB2 (a:Value):argsOk "set.__iter__" ⟨[a],[]⟩:=by unfold argsOk; kernel_rfl
abbrev qO (w:World):Bool:=w.params.followText "set-order"
abbrev IsSI (h:Heap)(I:Addr)(slot i:Nat)(a:Addr)(n ep:Nat):Prop:=
 h.get? I=some { cls:= .type "set_iterator",dict:=none,data:= .fields #[rawInt slot,rawInt i, .ref a,rawInt n,rawInt ep],slots:=#[]}
def kW (w:World)(t:SetTable)(i:Nat):Nat:=if qO w=true then 0 else slotAt t.place i
noncomputable def told (w:World)(a:Addr)(ep:Nat)(es:Array (Int×Value)):List Value:=(if qO w=true then (pickOrder (w.params.setOrder a ep) es).toList else es.toList).map (·.2)
theorem told_len (w:World)(a:Addr)(ep:Nat)(es:Array (Int×Value)):(told w a ep es).length=es.size:=by
 unfold told
 rw[af]
 split
 ·rw[(jDW _ es).length_eq]; simp
 ·simp
theorem told_perm (w:World)(a:Addr)(ep:Nat)(es:Array (Int×Value)):(told w a ep es).Perm (es.toList.map (·.2)):=by
 unfold told
 split
 ·exact(jDW _ es).map _
 ·exact .refl _
variable {es:Array (Int×Value)}{ep:Nat}
section
variable {o:Obj}{t:SetTable}
theorem jDZ {i:Nat}{Q:Option (Value×Nat)->Shared->Prop}(ho:s.heap.get? a=some o)(hd:o.data= .set es ep t)(T:Tab t es.size (ledW w))(hn:es.size<=4)(hi:i<=es.size)
  (h:Q ((told w a ep es)[i]?.map λv=>(v,kW w t (i+1))) s):wpAny (model prog w) A (setNext a (kW w t i) i ep) Q E s:=by
 unfold setNext
 refine aa (bv ho hd (T.fits hn) ?_)
 dsimp only
 unfold setsByText
 refine aa (aa (cM (ae ?_)))
 show wpAny _ A (if qO w=true then _ else _) Q E s
 have hl:=told_len w a ep es
 by_cases hb:qO w=true
 ·rw[am hb,ai (by simp)]
  unfold setWalk
  refine aa (aa (bv ho hd (T.fits hn) ?_))
  dsimp only
  unfold setsByText
  refine aa (aa (cM (ae ?_)))
  show wpAny _ A (if qO w=true then _ else _) _ E s
  rw[am hb]
  refine aa (cM (ae (ae ?_)))
  have e:(told w a ep es)[i]?.map (λv=>(v,kW w t (i+1)))=(pickOrder (w.params.setOrder a ep) es)[i]?.map (λe=>(e.snd,kW w t i)):=by
   unfold told kW
   rw[am hb,am hb,am hb,aW,bO,Option.map_map]
   rfl
  rw[e] at h
  exact h
 ·rw[ai hb]
  have hb':qO w=false:=by simpa using hb
  have hld:t.led=true:=by rw[T.ld]; show (!qO w)=true; rw[hb']; rfl
  show wpAny _ A (if (!t.plain&&decide (es.size>1))=true then _ else _) Q E s
  rw[T.pl,dr,cS,ai ag]
  refine aa ?_
  show wpAny _ A (if (!t.led&&!es.isEmpty)=true then _ else pure ()) _ E s
  rw[hld,dr,cS,ai ag]
  refine ae (ae ?_)
  have eb:SetTable.below t.place (kW w t i)=i:=by
   unfold kW
   rw[ai hb]
   exact jB9 T.ris (by rw[T.sz]; exact hi)
  rw[eb]
  have et:(told w a ep es)[i]?=es[i]?.map (·.2):=by
   unfold told
   rw[ai hb,aW,bO]
  rw[et] at h
  by_cases hlt:i<es.size
  ·have h1:es[i]?=some es[i]:=by simp [hlt]
   have hlt2:i<t.place.size:=by rw[T.sz]; exact hlt
   have h2:t.place[i]?=some t.place[i]:=by simp [hlt2]
   have h3:kW w t (i+1)=t.place[i]+1:=by
    unfold kW slotAt
    rw[ai hb]
    simp [Array.getD,hlt2]
   rw[h1,h3] at h
   rw[h1,h2]
   exact h
  ·have h1:es[i]?=none:=by simp; lia
   rw[h1] at h
   rw[h1]
   exact h
theorem jB6 {i:Nat}{v:Value}{Q:Option Value->Shared->Prop}(ho:s.heap.get? a=some o)(hd:o.data= .set es ep t)(T:Tab t es.size (ledW w))(hn:es.size<=4)
  (hit:IsSI s.heap I (kW w t i) i a es.size ep) (hv:(told w a ep es)[i]?=some v)
  (hQ:∀h',IsSI h' I (kW w t (i+1)) (i+1) a es.size ep->Heap.SameBut I s.heap h'->Q (some v) { s with heap:=h'}):wpAny (model prog w) A (pyNext (.ref I)) Q E s:=by
 have hT:s.TypeIs (.ref I) "set_iterator" :=⟨_,hit,rfl⟩
 have hi:i<es.size:=by
  rw[<- told_len w a ep es]
  exact(ah.mp hv).1
 unfold pyNext
 refine aa (cP (bh (name:=Str.ofString "__next__") hT slot_si_next (bo slot_si_next hT jAB ?_ (jAF _))))
 unfold Builtin.«set_iterator.__next__»
 refine aa (m:=slotArgs "__next__" 0 _) (ae ?_)
 dsimp only
 unfold fieldsOf
 refine aa (aa (ga hit ?_))
 refine ae ?_
 dsimp only [rawInt]
 unfold setEntries
 refine aa (aa (bv ho hd (T.fits hn) (ae ?_)))
 rw[ai (by simp)]
 simp only [bu]
 refine aa (jDZ ho hd T hn (cQ hi) ?_)
 rw[hv]
 dsimp only [Option.map]
 refine aa (bq hit (by simp) λh1 hit1 sb1=>?_)
 refine aa (bq hit1 (by simp) λh2 hit2 sb2=>?_)
 refine ae ⟨v,rfl,ae (hQ h2 ?_ (sb1.trans sb2))⟩
 show h2.get? I=_
 rw[hit2]
 simp [rawInt]
theorem jBP {Q:Option Value->Shared->Prop}(hh:A.handled=none)(ho:s.heap.get? a=some o)(hd:o.data= .set es ep t)(T:Tab t es.size (ledW w))(hn:es.size<=4)
  (hit:IsSI s.heap I (kW w t es.size) es.size a es.size ep)
  (hQ:∀h',Heap.ExtBut I s.heap h'->Q none { s with heap:=h'}):wpAny (model prog w) A (pyNext (.ref I)) Q E s:=by
 have hT:s.TypeIs (.ref I) "set_iterator" :=⟨_,hit,rfl⟩
 unfold pyNext
 refine aa (cP (bh (name:=Str.ofString "__next__") hT slot_si_next (bo slot_si_next hT jAB ?_ (jAF _))))
 unfold Builtin.«set_iterator.__next__»
 refine aa (m:=slotArgs "__next__" 0 _) (ae ?_)
 dsimp only
 unfold fieldsOf
 refine aa (aa (ga hit ?_))
 refine ae ?_
 dsimp only [rawInt]
 unfold setEntries
 refine aa (aa (bv ho hd (T.fits hn) (ae ?_)))
 rw[ai (by simp)]
 simp only [bu]
 refine aa (jDZ ho hd T hn (aj _) ?_)
 rw[cy (by rw[told_len]; exact aj _)]
 dsimp only [Option.map]
 refine aa (bq hit (by simp) λh1 hit1 sb1=>?_)
 refine aa ?_
 simp only [newExc,newTuple]
 refine aa (bj ?_ (by size_fits))
 refine aa (m:=firstArgMember _ _) (kh (a:=Value.none) (by first | rfl | (simp only [firstArgMember]; rfl)) ?_)
 refine bj ?_ (by size_fits)
 simp only [raiseNew]
 refine aa (wpAny_handled ?_)
 rw[show A.in1.handled=none from hh]
 refine aa (ae (wpAny_throw ?_))
 refine aa (fj (T:= "StopIteration") (b:=true) ⟨_,ao _ rfl,rfl⟩ ix ?_)
 exact ae (hQ _ ((sb1.extBut.push _).push _))
theorem jHD {i:Nat}{slot n:Nat}{Q:Value->Shared->Prop}(hit:IsSI s.heap I slot i a n ep)(h:Q (.ref I) s):wpAny (model prog w) A (pyIter (.ref I)) Q E s:=by
 have hT:s.TypeIs (.ref I) "set_iterator" :=⟨_,hit,rfl⟩
 refine iN hT jB5 (bo jB5 hT jCB ?_ (jD7 _))
 show wpAny _ _ (ret (.ref I)) _ _ s
 exact ae ⟨_,rfl,"set_iterator",_,hT,slot_si_next.lookup,h⟩
theorem jEY {Q:Value->Shared->Prop}(hx:o.ExactSet)(ho:s.heap.get? a=some o)(hd:o.data= .set es ep t)(T:Tab t es.size (ledW w))(hn:es.size<=4)
  (hQ:∀h',h'.get? s.heap.objs.size=some { cls:= .type "set_iterator",dict:=none,data:= .fields #[rawInt (kW w t 0),rawInt 0, .ref a,rawInt es.size,rawInt ep],slots:=#[]} ->(∀b u,s.heap.get? b=some u->h'.get? b=some u)->
   h'.objs.size=s.heap.objs.size+1->Q (.ref s.heap.objs.size) { s with heap:=h'}):wpAny (model prog w) A (pyIter (.ref a)) Q E s:=by
 have hT:s.TypeIs (.ref a) "set" :=⟨o,ho,hx.1⟩
 refine iN hT eZ (bo eZ hT jAP ?_ (jB2 _))
 unfold Builtin.«frozenset.__iter__»
 refine aa (show wpAny _ _ (pure a:Sem Addr) _ _ s from ae ?_)
 unfold Builtin.Frozenset.sizeOf setEntries
 refine aa (aa (aa (bv ho hd (T.fits hn) (ae (ae ?_)))))
 dsimp only
 unfold setDrawn
 refine aa (aa (bv ho hd (T.fits hn) ?_))
 dsimp only
 unfold setsByText
 refine aa (aa (cM (ae (ae ?_))))
 show wpAny _ _ (if (!qO w&&(!t.plain&&decide (es.size>1)))=true then _ else _) _ _ s
 rw[T.pl,dr,cS,bV,ai ag]
 refine aa (ae ?_)
 refine aa (wpAny_setEpoch_of ho hd (T.fits hn) ?_)
 refine aa (bj (ae ⟨_,rfl,"set_iterator",_,⟨_,ao _ rfl,rfl⟩,slot_si_next.lookup,hQ _ ?_ (λb u e=>ab _ e) (bR _ _)⟩) (by size_fits))
 have e0:kW w t 0=0:=by unfold kW slotAt; split <;> rfl
 rw[e0]
 exact ao _ rfl
theorem jDM (hh:A.handled=none)(hne:a≠I)(hd:o.data= .set es ep t)(T:Tab t es.size (ledW w))(hn:es.size<=4):
  Walks prog w A I [I,a] [I] es.size (λi v=>(told w a ep es)[i]?=some v) (λi h=>IsSI h I (kW w t i) i a es.size ep/\h.get? a=some o) where
 sub:=λb hb=>by simp at hb; simp [hb]
 frame:=λ_ _ _ st hk=>⟨hk I (by simp) _ st.1,hk a (by simp) _ st.2⟩
 item:=λi s Q E hi st hQ=>by
  obtain⟨v,hv⟩:∃v,(told w a ep es)[i]?=some v:=⟨_,aG (by rw[told_len]; exact hi)⟩
  exact jB6 st.2 hd T hn st.1 hv λh' hit' sb=>hQ v h' s.toks hv ⟨hit',(sb.2 a hne).trans st.2⟩ λb o hb e=>(sb.2 b (λz=>hb (by simp [z]))).trans e
 done:=λs Q E st hQ=>jBP hh st.2 hd T hn st.1 λh' eb=>hQ h' s.toks λb o hb e=>eb b o (λz=>hb (by simp [z])) e
 self:=λ_ _ _ _ st hQ=>jHD st.1 hQ
end
theorem jG4:typeLookup (.type "set") "__len__" =pure (some (.builtin "set.__len__")):=by rw[jw,gM]; kernel_rfl
section
variable {o:Obj}{t:SetTable}
theorem jFI {Q:Bool->Shared->Prop}(hT:s.TypeIs (.ref a) "set")(h:Q false s):wpAny (model prog w) A (Builtin.List.listLengthHint (.ref a)) Q E s:=by
 unfold Builtin.List.listLengthHint
 refine aa (jx hT jG4 ?_)
 generalize hid:("set.__len__" :String)=id0
 wp_delta
 rw[show splitId id0=some ("set","__len__") from by subst hid; decide+kernel]
 subst hid
 refine aa (fj (b:=true) hT (by rw[kj]; kernel_rfl) ?_)
 refine wpAny_ite_split (λq=>absurd q (by decide)) (λ_=>?_)
 refine wpAny_ite_split (λ_=>?_) (λq=>absurd (by decide+kernel) q)
 exact aa (dq hT (ae h))
theorem collect_set {Q:List Value->Shared->Prop}(hh:A.handled=none)(hx:o.ExactSet)(ho:s.heap.get? a=some o)(hd:o.data= .set es ep t)(T:Tab t es.size (ledW w))(hn:es.size<=4)
  (hQ:∀s',(∀b u,s.heap.get? b=some u->s'.heap.get? b=some u)->s'.gens=s.gens->s'.drawn=s.drawn->s'.os=s.os->s.heap.objs.size<s'.heap.objs.size->Q (told w a ep es) s'):wpAny (model prog w) A (collect (.ref a)) Q E s:=by
 have ha:a<s.heap.objs.size:=aq ho
 have hSa:s.heap.objs.size≠a:=cK ha
 unfold collect
 refine aa (gz (bZ ij ?_))
 rw[ce ik _]
 show wpAny _ A.in1 (newList [] >>= λl=>again (.builtin "list.__iadd__" ⟨[l, .ref a],[]⟩)) _ _ s
 refine aa (bj (ae ⟨eX eh _,bZ ja ?_⟩))
 rw[ce eh _]
 generalize hE:({ s with heap:=s.heap.push { cls:= .type "list",dict:=none,data:= .seq ([]:List Value).toArray}} :Shared)=s1
 have ho1:s1.heap.get? a=some o:=by rw[<- hE]; exact ab _ ho
 have hL1:s1.heap.get? s.heap.objs.size=some { cls:= .type "list",dict:=none,data:= .seq ([]:List Value).toArray} :=by rw[<- hE]; exact ao _ rfl
 have hz1:s1.heap.objs.size=s.heap.objs.size+1:=by rw[<- hE]; exact bR _ _
 have hT1:s1.TypeIs (.ref a) "set" :=⟨o,ho1,hx.1⟩
 show wpAny _ A.in1 (Builtin.List.listExtendWith (.ref s.heap.objs.size) (.ref a) (.ref s.heap.objs.size)) _ _ _
 unfold Builtin.List.listExtendWith
 refine aa (dq hT1 ?_)
 have q1:Builtin.List.listSameRef (.ref s.heap.objs.size) (.ref a)=false:=by simp [Builtin.List.listSameRef,hSa]
 rw[ai (by rw[q1]; decide)]
 refine aa (jEY hx ho1 hd T hn λh2 hI2 k2 z2=>?_)
 refine aa (bD ?_)
 have ho2:h2.get? a=some o:=k2 _ _ ho1
 have hT2:Shared.TypeIs { s1 with heap:=h2} (.ref a) "set" :=⟨o,ho2,hx.1⟩
 have hL2:=k2 _ _ hL1
 refine jFI hT2 ?_
 rw[am (by decide+kernel)]
 refine aa (cx ?_)
 have hne:s.heap.objs.size≠s1.heap.objs.size:=by lia
 refine aa ?_
 show wpAny _ A.in1 (updateSeq s.heap.objs.size (·.push .none) >>= λ_=>updateSeq s.heap.objs.size (·.pop)) _ _ _
 refine aa (hG hL2 rfl ?_)
 have hL3:=bY (Obj.mapSeq (·.push Value.none)) hL2 rfl
 refine hG hL3 rfl ?_
 have hL4:=bY (Obj.mapSeq (·.pop)) hL3 rfl
 have oth:∀b u,b≠s.heap.objs.size->h2.get? b=some u->((h2.update s.heap.objs.size (Obj.mapSeq (·.push Value.none))).update s.heap.objs.size (Obj.mapSeq (·.pop))).get? b=some u:=
  λb u hb e=>(bf _ _ (dh hb)).trans ((bf _ _ (dh hb)).trans e)
 have W:=(jDM (prog:=prog) (A:=A.in1) (a:=a) (I:=s1.heap.objs.size) hh (aO (show a<s1.heap.objs.size by rw[hz1]; exact bK ha)) hd T hn).toS
 have z24:es.size<=sizeLine:=by rw[show sizeLine=2 ^ 24 from rfl]; lia
 refine ae ⟨eX iH _,codeAny_extend_loopS W z24 s.heap.objs.size (by simp [hne,hSa]) _ es.size 0 _ _ _ rfl (aS _) ⟨oth _ _ (dh hne) hI2,oth _ _ (dh hSa) ho2⟩ hL4 (ItemsOf.nil _) λs' acc' c' hm hS' hacc=>?_⟩
 show wpAny _ A (load s.heap.objs.size >>= _) _ _ s'
 refine aa (ga hS' ?_)
 have eacc:acc'.toList=told w a ep es:=by
  apply iP
  intro i
  by_cases hi:i<es.size
  ·have hi':i<acc'.size:=by rw[hacc.1]; exact hi
   have:=hacc.2 i acc'[i] (by simp [hi'])
   rw[this]
   simp [hi']
  ·rw[cy (by rw[aw,hacc.1]; lia),cy (by rw[told_len]; lia)]
 refine ae ?_
 rw[eacc]
 refine hQ s' (λb u e=>?_) ?_ ?_ ?_ (aq hS')
 ·have hb:b≠s.heap.objs.size:=aO (aq e)
  have hb1:b≠s1.heap.objs.size:=aO (show b<s1.heap.objs.size by rw[hz1]; exact bK (aq e))
  exact hm.heap b u (by simp [hb,hb1]) (oth b u hb (k2 b u (by rw[<- hE]; exact ab _ e)))
 ·have:=hm.gens; rw[<- hE] at this; exact this
 ·have:=hm.drawn; rw[<- hE] at this; exact this
 ·have:=hm.os; rw[<- hE] at this; exact this
end
end SS
namespace SS
open PySem PyProof.Rows
section
variable {prog:Program}{w:World}{A:Around}{E:Value->Shared->Prop}{s:Shared}{a:Addr}{ks:List Int}
theorem jM2:∀{vs:List Value}{ks:List Int},Paired (λv k=>∃t,v=Value.int k t) vs ks->IntsAre vs ks
 | _,_, .nil=> .nil
 | _,_, .cons ⟨t,e⟩ r=>by subst e; exact .cons _ t (jM2 r)
theorem jEJ {es:List (Int×Value)} :∀{ks:List Int},Paired El es ks->Paired (λv k=>∃t,v=Value.int k t) (es.map (·.2)) ks
 | _, .nil=> .nil
 | _, .cons ⟨_,q⟩ r=> .cons q (jEJ r)
theorem jAJ {α β:Type}{F:α->β->Prop}{l l':List α}(p:l'.Perm l):∀{r:List β},Paired F l r->∃r',Paired F l' r'/\r'.Perm r:=by
 induction p with
 | nil=>intro r h; cases h; exact⟨[], .nil, .nil⟩
 | cons x _ ih=>
  intro r h
  cases h with
  | cons f t=>
   obtain⟨r',h1,h2⟩:=ih t
   exact⟨_::r', .cons f h1,h2.cons _⟩
 | swap x y l=>
  intro r h
  cases h with
  | cons f t=>
   cases t with
   | cons g t=>exact⟨_, .cons g (.cons f t), .swap _ _ _⟩
 | trans _ _ ih1 ih2=>
  intro r h
  obtain⟨r1,h1,h2⟩:=ih2 h
  obtain⟨r2,h3,h4⟩:=ih1 h1
  exact⟨r2,h3,h4.trans h2⟩
theorem sorted_set {Q:Value->Shared->Prop}(hh:A.handled=none)(S:SetG w s.heap a ks)
  (h:∀(s':Shared) (l:Addr) (vs:List Value) (ns:List Int) (e:Nat),s.heap.objs.size<=l->(∀b u,s.heap.get? b=some u->s'.heap.get? b=some u)->s'.gens=s.gens->s'.drawn=s.drawn->s'.os=s.os->
   s'.heap.get? l=some { cls:= .type "list",data:= .seq vs.toArray e} ->IntsAre vs ns->ns.Perm ks->ns.Pairwise (· <= ·)->Q (.ref l) s'):
  wpAny (model prog w) A (call (.builtin "sorted") [.ref a]) Q E s:=by
 obtain⟨o,es,ep,t,ho,hex,hd,hp,T⟩:=S.ex
 have hn:es.size<=4:=by
  have:=fH hp
  rw[aw] at this
  have:=S.len
  lia
 refine fo kind_sorted plain_sorted entry_sorted (args_sorted1 _) ?_
 unfold Builtin.«sorted»
 refine aa (m:=checkCount "sorted" 1 1 _) (ae ?_)
 refine aa (collect_set (A:=A.in1) hh hex ho hd T hn λs1 k1 g1 d1 o1 z1=>?_)
 refine aa (eY ?_ (by rw[told_len,show sizeLine=2 ^ 24 from rfl]; lia))
 obtain⟨ks1,hp1,pm1⟩:=jAJ (told_perm w a ep es) (jEJ hp)
 have hI:=jM2 hp1
 have hl:(told w a ep es).length<64:=by rw[told_len]; lia
 have hL:(s1.heap.push (seqObj "list" (told w a ep es).toArray 0)).get? s1.heap.objs.size=some (seqObj "list" (told w a ep es).toArray 0):=ao _ rfl
 show wpAny _ _ _ _ _ { s1 with heap:=s1.heap.push (seqObj "list" (told w a ep es).toArray 0)}
 refine aa (bD (bo iy ⟨_,hL,rfl⟩ hV (list_sort_tree hL hI hl λout ns' a1 a2 a3=>⟨_,rfl,?_⟩) (args_list_sort _)))
 obtain⟨e,he⟩:=sortedHeap_at (out:=out) hL
 have kept:∀b u,s.heap.get? b=some u->(sortedHeap (s1.heap.push (seqObj "list" (told w a ep es).toArray 0)) s1.heap.objs.size (told w a ep es) out).get? b=some u:=λb u q=>by
  have q1:=k1 b u q
  have hb:b<s1.heap.objs.size:=aq q1
  rw[sortedHeap_old (aO hb) (by rw[iA]; exact bK hb)]
  exact ab _ q1
 generalize sortedHeap (s1.heap.push (seqObj "list" (told w a ep es).toArray 0)) s1.heap.objs.size (told w a ep es) out=hf at he kept ⊢
 exact ae ⟨_,rfl,h { s1 with heap:=hf} s1.heap.objs.size out.toList ns' e (cQ z1) kept g1 d1 o1 (by rw[dU]; exact he) a1 (a2.trans pm1) a3⟩
end
end SS
namespace L2
open PySem PySem.Spec PyProof.Rows
variable {es xs:List Expr}{env:Env}{a b:Expr}{pos:Pos}
section
variable {ys:List Expr}
theorem yH {op:Operator} :starEach (.BinOp a op b pos::es) env=(false,eval (.BinOp a op b pos) env)::starEach es env:=rfl
theorem se_un {op:UnaryOp} :starEach (.UnaryOp op a pos::es) env=(false,eval (.UnaryOp op a pos) env)::starEach es env:=rfl
theorem jG7 {ops:List CmpOp} :starEach (.Compare a ops xs pos::es) env=(false,eval (.Compare a ops xs pos) env)::starEach es env:=rfl
theorem jM {kw:List Keyword} :starEach (.Call a xs kw pos::es) env=(false,eval (.Call a xs kw pos) env)::starEach es env:=rfl
theorem jP:starEach (.Subscript a b pos::es) env=(false,eval (.Subscript a b pos) env)::starEach es env:=rfl
theorem jV {gs sc} :starEach (.ListComp a gs sc pos::es) env=(false,eval (.ListComp a gs sc pos) env)::starEach es env:=rfl
theorem qA {x1} :starEach (.Tuple xs x1 pos::es) env=(false,eval (.Tuple xs x1 pos) env)::starEach es env:=rfl
theorem jSM:starEach (.List xs pos::es) env=(false,eval (.List xs pos) env)::starEach es env:=rfl
theorem jJ {c k} :starEach (.Constant c k pos::es) env=(false,eval (.Constant c k pos) env)::starEach es env:=rfl
theorem j4 {x:Str} :starEach (.Name x pos::es) env=(false,eval (.Name x pos) env)::starEach es env:=rfl
end
variable {X:Cx}
def CDivL (i j:Int):Prop:=0<j/\j<2 ^ 64
theorem jID:OpR X (binaryOp .FloorDiv) (rI CDivL λi j=> .int (i / j)):=opI λi j _ _ _ _ _ hc q=>by
 have h1:(0:Int)<j:=hc.1
 have h2:j<2 ^ 64:=hc.2
 refine floordiv_int (by lia) (by rw[ir i (by lia)]; exact q) (.inl (PyProof.noPylong_of_log2 ?_))
 have h3:j.natAbs<2 ^ 64:=by lia
 have h4:j.natAbs≠0:=by lia
 have:=(Nat.log2_lt h4).mpr h3
 lia
theorem jL:yT X (.builtin "isinstance") (λxs H Q=>∃x T t b,xs=[x, .ty T]/\TyOf X.K H x t/\kitOne X.K t (.type T)=some b/\Q (.bl b) H):=by
 intro lF s σ H xs us Q I r h
 obtain⟨x,T,t,b,rfl,ty,e,q⟩:=h
 obtain⟨u,v,rfl,ru,rv⟩:=r.two
 cases rv
 exact jM0 I ru ty e λtk=>⟨.bl b,H,I.tok tk,rfl,q⟩
def jQI:V->List V->Hp->VK->Prop:=λx vs H Q=>∃l xs i y,x= .ref l/\vs=[.int i,y]/\H l=some (.lst xs)/\0<=i/\i<=xs.length/\xs.length<sizeLine/\Q .non (upd H l (.lst (xs.take i.toNat++y::xs.drop i.toNat)))
theorem Vals.put {y:V}{v:Value}(r:RelV y v){xs:List V}{us:List Value}(h:Vals xs us)(k:Nat):Vals (xs.take k++y::xs.drop k) (us.take k++v::us.drop k):=(h.take k).append (.cons r (h.drop k))
theorem jLE:MtM X "list.insert" jQI:=by
 intro lF s σ H x vs v us Q I rx rv h
 obtain⟨l,xs,i,y,rfl,rfl,hH,h0,h1,hz,q⟩:=h
 cases rx
 obtain⟨a,b,rfl,ra,rb⟩:=rv.two
 obtain⟨t,rfl⟩:=ra
 obtain⟨z,its,n,r,hl,e⟩:=I.lstM hH
 have line:=jGH
 have hf:Builtin.List.listFitsIndex i=true:=fitsIndex_both (by lia) (by lia)
 refine call_meets F.slot_list_insert ⟨_,e,rfl⟩ F.entry_list_insert (F.args_list_insert_3 _ _ _) (AutoSeq1.list_insert_list_int_val_1 l its.toArray n i t b (by simp [hf]) (by rw[ak]; lia)) ⟨e,?_⟩
 refine⟨.non,_,I.lset (its':=its.take i.toNat++b::its.drop i.toNat) hH e ?_ (Vals.put rb r i.toNat) ?_,rfl,q⟩
 ·have hk:(if i<0 then (i+(its.toArray.size:Int)).toNat else min i.toNat its.toArray.size)=i.toNat:=by
   rw[ai (by lia),ak]
   lia
  show (its.toArray.extract 0 (if i<0 then (i+(its.toArray.size:Int)).toNat else min i.toNat its.toArray.size)).push b++its.toArray.extract (if i<0 then (i+(its.toArray.size:Int)).toNat else min i.toNat its.toArray.size)=_
  rw[hk]
  apply Array.ext'
  simp [dO,bL]
 ·rw[aJ,aP,aY,cD]
  lia
def rEqE (K:W.Frag):R2:=λx y H Q=>∃p q xs,x= .ref p/\y= .ref q/\SqT K H p xs/\SqT K H q []/\Q (.bl (decide (xs=[]))) H
theorem jL5 (hu:X.A.units<cLine):OpR X (compareOp .Eq) (rEqE X.K):=by
 intro lF s σ H x y v u Q I rx ry h
 obtain⟨p,q,xs,rfl,rfl,hp,hq,k⟩:=h
 cases rx
 cases ry
 obtain⟨its,r,t1,_⟩:=I.tuple hp
 obtain⟨its2,r2,t2,_⟩:=I.tuple hq
 have e2:its2=[]:=r2.zero
 subst e2
 refine SeqAt.eq_tupleAt (e:=λ_=>true) (show s.heap.IsTuple p its.toArray from t1) (show s.heap.IsTuple q ([]:List Value).toArray from t2) hu (λj h1 h2=>absurd h2 (by simp)) ⟨.bl _,H,I,rfl,?_⟩
 have hl:=r.length
 have e:((List.range (min its.toArray.size ([]:List Value).toArray.size)).all (λ_=>true)&&its.toArray.size==([]:List Value).toArray.size)=decide (xs=[]):=by
  cases xs with
  | nil=>
   have:its=[]:=by simpa using hl.symm
   subst this
   rfl
  | cons a b=>
   have:its.length≠0:=by rw[<- hl]; simp
   simp [this]
 rw[e]
 exact k
theorem jAK (hc:X.calm=true):yT X (.builtin "all") (λxs H Q=>∃(p:Addr) (bs:List Bool),xs=[.ref p]/\SqL X.K H p (bs.map V.bl)/\Q (.bl (bs.all id)) H):=by
 intro lF s σ H xs us Q I r h
 obtain⟨p,bs,rfl,hq,q⟩:=h
 obtain⟨u,rfl,rx⟩:=r.one
 cases rx
 obtain⟨its,r',pl,hz⟩:=I.list hq
 have hlen:=r'.length
 rw[af] at hlen
 refine call_all_walk (cU pl.isList ?_)
 have hne:p≠s.heap.objs.size:=by
  obtain⟨o,ho,_⟩:=pl.isList
  exact aO (aq ho)
 refine⟨s.heap.objs.size,_,_,_,_,_,λi=>bs.getD i true,rfl,iw (by simpa using I.ok.hd hc) _ p hne its.toArray,⟨⟨_,ao _ rfl,rfl,rfl⟩,pl.isList.push _⟩,λi v z Q' E' hP hQ'=>?_,λh' tk hk=>?_⟩
 ·have hi:its[i]?=some v:=by simpa using hP
  have hb:i<bs.length:=by
   rw[hlen]
   exact(ah.mp hi).1
  obtain⟨u,hu,ru⟩:=r'.get (i:=i) (x:= .bl (bs[i])) (by simp [hb])
  rw[hi] at hu
  cases hu
  cases ru
  have e:bs.getD i true=bs[i]:=by simp [List.getD,hb]
  have hQ2:Q' (bs.getD i true) z:=hQ'
  rw[e] at hQ2
  exact ae hQ2
 ·have e:(List.range its.toArray.size).all (λi=>bs.getD i true)=bs.all id:=by
   rw[ak,<- hlen]
   rw[bH,aV,aV]
   constructor
   ·intro a b hb
    obtain⟨i,hi,rfl⟩:=cr hb
    have:=a i (be.mpr hi)
    simpa [List.getD,hi] using this
   ·intro a i hi
    have hi:=be.mp hi
    have:=a bs[i] (de hi)
    simpa [List.getD,hi] using this
  rw[e]
  exact⟨.bl _,H,I.kept (t':=tk) λb o e=>hk b o (by
   intro z
   have z:b=s.heap.objs.size:=by simpa using z
   exact absurd (aq e) (by rw[z]; exact cJ _)) (ab _ e),rfl,q⟩
def jE6 (n:Nat):List V:=(List.range n).map λ(i:Nat)=>V.int (i:Int)
theorem jJA {n:Nat}{acc:Array Value}(h:ItemsOf (λi v=>∃t,v=Value.int (0+(i:Int)*1) t) acc n):Vals (jE6 n) acc.toList:=by
 have key:∀(l:List Value) (k:Nat),(∀j v,l[j]?=some v->∃t,v=Value.int ((k+j:Nat):Int) t)->Vals ((List.range' k l.length).map λ(i:Nat)=>V.int (i:Int)) l:=by
  intro l
  induction l with
  | nil=>intro k _; exact .nil
  | cons v l ih=>
   intro k hk
   rw[aP,List.range'_succ,bg]
   refine .cons ?_ (ih (k+1) λj u hj=>?_)
   ·obtain⟨t,e⟩:=hk 0 v rfl
    exact⟨t,by simpa using e⟩
   ·obtain⟨t,e⟩:=hk (j+1) u (by simpa using hj)
    exact⟨t,by rw[e]; congr 1; lia⟩
 have:=key acc.toList 0 λj v hj=>by
  obtain⟨t,e⟩:=h.2 j v (by simpa using hj)
  exact⟨t,by rw[e]; congr 1; lia⟩
 rw[aw,h.1] at this
 unfold jE6
 rw[List.range_eq_range']
 exact this
theorem jHX:yT X (.type "range") (λxs H Q=>∃j:Int,xs=[.int j]/\∀p,H p=none->Q (.ref p) (upd H p (.rng 0 j))):=by
 intro lF s σ H xs us Q I r h
 obtain⟨j,rfl,q⟩:=h
 obtain⟨u,rfl,t,rfl⟩:=r.one
 refine call_range_1 ⟨.ref s.heap.objs.size,_,I.laid (o:= .rng 0 j) (λb o e=>ab _ e) (aj _) ?_,rfl,q _ I.fresh⟩
 exact⟨_,_,_,ao _ rfl⟩
theorem jGW (hc:X.calm=true):yT X (.type "list") (λxs H Q=>∃p j,xs=[.ref p]/\H p=some (.rng 0 j)/\0<=j/\j<=1000/\∀l,H l=none->Q (.ref l) (upd H l (.lst (jE6 j.toNat)))):=by
 intro lF s σ H xs us Q I r h
 obtain⟨p,j,rfl,hp,h0,h1,q⟩:=h
 obtain⟨u,rfl,rx⟩:=r.one
 cases rx
 obtain⟨t,u,v,e⟩:=I.hok p _ hp
 have en:Builtin.Range.rangeSize 0 j 1=(j.toNat:Int):=by
  rw[rangeSize_one]
  split <;> lia
 refine call_list_range (I.ok.hd hc) (show IsRange s.heap p 0 j 1 t u v from e) (small_one (by lia) (by lia) (by lia) (by lia)) en (by lia) λh' tk acc' c' kp hS hacc=>?_
 refine⟨.ref s.heap.objs.size,_,I.laid (t':=tk) (o:= .lst (jE6 j.toNat)) kp (aj _) ?_,rfl,q _ I.fresh⟩
 refine⟨?_,acc'.toList,c',jJA hacc,by rw[dU]; exact hS⟩
 unfold jE6
 rw[af,b9,fc]
 lia
def SetO (w:World)(a:Addr)(ks:List Int):HO:= .ext λh=>SS.SetG w h a ks
theorem jCZ {ns:List Int} :∀{us:List Value},Vals (ns.map V.int) us->IntsAre us ns:=by
 induction ns with
 | nil=>intro us h; cases h; exact .nil
 | cons n ns ih=>
  intro us h
  cases h with
  | cons r t=>
   obtain⟨k,rfl⟩:=r
   exact .cons n k (ih t)
theorem jB7:∀{us:List Value}{ns:List Int},IntsAre us ns->Vals (ns.map V.int) us
 | _,_, .nil=> .nil
 | _,_, .cons n t r=> .cons ⟨t,rfl⟩ (jB7 r)
theorem jMU (hc:X.calm=true):yT X (.type "set") (λxs H Q=>∃(p:Addr) (ns:List Int),xs=[.ref p]/\SqL X.K H p (ns.map V.int)/\ns.length<=4/\(∀z∈ns,0<=z/\z<32)/\
  ∀(l:Addr) (ks:List Int),H l=none->(∀z,z∈ks↔z∈ns)->Q (.ref l) (upd H l (SetO X.w l ks))):=by
 intro lF s σ H xs us Q I r h
 obtain⟨p,ns,rfl,hq,hl,hv,q⟩:=h
 obtain⟨u,rfl,rx⟩:=r.one
 cases rx
 obtain⟨its,r',pl,hz⟩:=I.list hq
 have hlen:=r'.length
 rw[af] at hlen
 refine SS.set_of_list (I.ok.hd hc) pl.isList (jCZ r') (by rw[ak]; lia) hv λh' tk ks S hm kp=>?_
 have hg:∃o,h'.get? s.heap.objs.size=some o:=let ⟨o,_,_,_,e,_⟩:=S.ex; ⟨o,e⟩
 exact⟨.ref s.heap.objs.size,_,I.laid (t':=tk) (o:=SetO X.w s.heap.objs.size ks) kp (aj _) ⟨S,hg,λh1 h2 a b=>a.at b⟩,rfl,q _ ks I.fresh hm⟩
theorem jEG (hc:X.calm=true):yT X (.builtin "sorted") (λxs H Q=>∃(p:Addr) (ks:List Int),xs=[.ref p]/\H p=some (SetO X.w p ks)/\
  ∀(l:Addr) (ns:List Int),H l=none->ns.Pairwise (· < ·)->(∀z,z∈ns↔z∈ks)->Q (.ref l) (upd H l (.lst (ns.map V.int)))):=by
 intro lF s σ H xs us Q I r h
 obtain⟨p,ks,rfl,hp,q⟩:=h
 obtain⟨u,rfl,rx⟩:=r.one
 cases rx
 obtain⟨S,_,_⟩:=I.hok p _ hp
 refine SS.sorted_set (I.ok.hd hc) S λs' l vs ns e hl kp g d o he hi pm srt=>?_
 obtain⟨h',g',d',t',o'⟩:=s'
 have g:g'=s.gens:=g
 have o:o'=s.os:=o
 have d:d'=s.drawn:=d
 subst g; subst o; subst d
 have nd:ns.Nodup:=pm.nodup_iff.mpr S.nd
 have lt:ns.Pairwise (· < ·):=by
  have:=List.Pairwise.and srt nd
  exact this.imp λ{a b} ⟨x,y⟩=>by lia
 have hz:(ns.map V.int).length<=sizeLine:=by
  rw[af,pm.length_eq,fc]
  have:=S.len
  lia
 have I2:Inv X lF σ (upd H l (.lst (ns.map V.int))) { s with heap:=h',toks:=t'} :=I.laid (t':=t') kp hl ⟨hz,vs,e,jB7 hi,he⟩
 exact⟨.ref l,_,I2,rfl,q l ns (I.hok.fresh hl) lt λz=>pm.mem_iff⟩
variable {p2:Pos}
section
variable {p1 p3 p4 p5 p6 p7:Pos}{k1 k2 k3 k4:Nat}
theorem jQW {i j r:Int}(hj:0<=j)(hj2:j<=1000000)(hi:i.natAbs<2 ^ 64)(e:i ^ j.toNat=r):PE X (.BinOp (.Constant (.int i) k2 p2) .Pow (.Constant (.int j) k3 p3) p4) (tC (.int r)):=λlF s σ H Q I h=>
 (kX (X:=X) jL3 jR jR) lF s σ H Q I ⟨_,_,rfl,rfl,⟨hj,hj2,hi⟩,by subst e; exact h⟩
theorem jQX {a b:Expr}{i j r:Int}(ha:PE X a (tC (.int i)))(hb:PE X b (tC (.int j)))(hc:CMul i j)(e:i*j=r):PE X (.BinOp a .Mult b p1) (tC (.int r)):=λlF s σ H Q I h=>
 (kX (X:=X) jC1 ha hb) lF s σ H Q I ⟨_,_,rfl,rfl,hc,by subst e; exact h⟩
theorem jR0 {a b:Expr}{i j r:Int}(ha:PE X a (tC (.int i)))(hb:PE X b (tC (.int j)))(e:i+j=r):PE X (.BinOp a .Add b p1) (tC (.int r)):=λlF s σ H Q I h=>
 (kX (X:=X) kT ha hb) lF s σ H Q I ⟨_,_,rfl,rfl,by subst e; exact h⟩
theorem jT9:PE X (.BinOp (.BinOp (.Constant (.int 2) k1 p1) .Mult (.BinOp (.Constant (.int 10) k2 p2) .Pow (.Constant (.int 12) k3 p3) p4) p5) .Add (.Constant (.int 1) k4 p6) p7) (tC (.int 2000000000001)):=
 jR0 (i:=2000000000000) (jQX (j:=1000000000000) jR (jQW (by decide) (by decide) (by decide) (by decide)) (.inl ⟨by decide,by decide⟩) (by decide)) jR (by decide)
end
def ItAt (tp:Bool)(h:Heap)(it a:Addr)(i:Nat):Prop:=match tp with
 | false=>h.IsListIter it a i
 | true=>h.IsTupleIter it a i
def ObAt (tp:Bool)(h:Heap)(a:Addr)(xs:Array Value):Prop:=match tp with
 | false=>h.IsList a xs
 | true=>h.IsTuple a xs
theorem ItAt.but {tp:Bool}{h h':Heap}{it a b:Addr}{i:Nat}(x:ItAt tp h it a i)(e:Heap.ExtBut b h h')(n:it≠b):ItAt tp h' it a i:=by
 cases tp with
 | false=>exact Heap.IsListIter.extBut x e n
 | true=>exact Heap.IsTupleIter.extBut x e n
theorem ObAt.but {tp:Bool}{h h':Heap}{a b:Addr}{xs:Array Value}(x:ObAt tp h a xs)(e:Heap.ExtBut b h h')(n:a≠b):ObAt tp h' a xs:=by
 cases tp with
 | false=>exact Heap.IsList.extBut x e n
 | true=>exact Heap.IsTuple.extBut x e n
theorem ItAt.at {tp:Bool}{h h':Heap}{it a:Addr}{i:Nat}(x:ItAt tp h it a i)(e:∀o,h.get? it=some o->h'.get? it=some o):ItAt tp h' it a i:=by
 cases tp with
 | false=>exact Heap.IsListIter.at x e
 | true=>exact Heap.IsTupleIter.at x e
theorem ItAt.obj {tp:Bool}{h:Heap}{it a:Addr}{i:Nat}(x:ItAt tp h it a i):∃o,h.get? it=some o/\∀v,o.data≠ .cell v:=by
 cases tp with
 | false=>obtain⟨o,e,_,d⟩:=x; exact⟨o,e,λv q=>by rw[d] at q; cases q⟩
 | true=>obtain⟨o,e,_,d⟩:=x; exact⟨o,e,λv q=>by rw[d] at q; cases q⟩
theorem ObAt.lt {tp:Bool}{h:Heap}{a:Addr}{xs:Array Value}(x:ObAt tp h a xs):a<h.objs.size:=by
 cases tp with
 | false=>obtain⟨o,e,_⟩:=x; exact aq e
 | true=>obtain⟨o,e,_⟩:=x; exact aq e
variable {w:World}{A:Around}{s:Shared}
section
variable {prog:Program}{E:Value->Shared->Prop}
theorem next1 {tp:Bool}{it a:Addr}{i:Nat}{xs:Array Value}{x:Value}{Q:Value->Shared->Prop}(hi:ItAt tp s.heap it a i)(ha:ObAt tp s.heap a xs)(hx:xs[i]?=some x)
  (k:∀h',ItAt tp h' it a (i+1)->Heap.SameBut it s.heap h'->Q x { s with heap:=h'}):wpAny (model prog w) A (Builtin.SmallTypes.nextOf (.ref it)) Q E s:=by
 cases tp with
 | false=>exact wpAny_nextOf_list_item hi ha hx k
 | true=>
  obtain⟨o,e,c,d⟩:=id (show s.heap.IsTupleIter it a i from hi)
  obtain⟨u,eu,_,n,du⟩:=(show s.heap.IsTuple a xs from ha)
  have ty:=Heap.IsTupleIter.typeIs (show s.heap.IsTupleIter it a i from hi)
  unfold Builtin.SmallTypes.nextOf
  refine aa (bh (name:=Str.ofString "__next__") ty F.slot_tuple_iterator_next (bo F.slot_tuple_iterator_next ty F.entry_tuple_iterator_next (?_:wpAny (model prog w) _ (field (.ref it) 0 >>= _) _ _ s) (F.args_tuple_iterator_next_1 _)))
  refine aa (bC e d (x:= .ref a) rfl (?_:wpAny (model prog w) _ (if (Value.ref a==Value.none)=true then _ else _) _ _ s))
  rw[ai (by exact ag)]
  show wpAny (model prog w) _ (field (.ref it) 1 >>= _) _ _ s
  refine aa (bC e d (x:= .int i 0) rfl ?_)
  show wpAny (model prog w) _ (seqItems? (.ref a) >>= _) _ _ s
  refine aa (cV eu du ?_)
  simp only [bu,hx]
  refine aa (wpAny_setField e d (by simp) (ae ⟨x,rfl,ae (k _ ⟨_,bY _ e (Obj.isFreed_of_fields (Obj.data_mapFields d _)),(Obj.cls_mapFields ..).trans c,?_⟩ (ed ..))⟩))
  rw[Obj.data_mapFields d]
  simp [rawInt]
theorem next0 {tp:Bool}{it a:Addr}{i:Nat}{xs:Array Value}{Q:Value->Shared->Prop}(hh:A.handled=none)(hi:ItAt tp s.heap it a i)(ha:ObAt tp s.heap a xs)(hx:xs[i]?=none)
  (k:∀h' e,Heap.ExtBut it s.heap h'->(∃o,h'.get? e=some o/\o.cls= .type "StopIteration")->E (.ref e) { s with heap:=h'}):wpAny (model prog w) A (Builtin.SmallTypes.nextOf (.ref it)) Q E s:=by
 cases tp with
 | false=>exact wpAny_nextOf_list_end hh hi ha hx k
 | true=>
  obtain⟨o,e,c,d⟩:=id (show s.heap.IsTupleIter it a i from hi)
  obtain⟨u,eu,_,n,du⟩:=(show s.heap.IsTuple a xs from ha)
  have ty:=Heap.IsTupleIter.typeIs (show s.heap.IsTupleIter it a i from hi)
  unfold Builtin.SmallTypes.nextOf
  refine aa (bh (name:=Str.ofString "__next__") ty F.slot_tuple_iterator_next (bo F.slot_tuple_iterator_next ty F.entry_tuple_iterator_next (?_:wpAny (model prog w) _ (field (.ref it) 0 >>= _) _ _ s) (F.args_tuple_iterator_next_1 _)))
  refine aa (bC e d (x:= .ref a) rfl (?_:wpAny (model prog w) _ (if (Value.ref a==Value.none)=true then _ else _) _ _ s))
  rw[ai (by exact ag)]
  show wpAny (model prog w) _ (field (.ref it) 1 >>= _) _ _ s
  refine aa (bC e d (x:= .int i 0) rfl ?_)
  show wpAny (model prog w) _ (seqItems? (.ref a) >>= _) _ _ s
  refine aa (cV eu du ?_)
  simp only [bu,hx]
  refine aa (cx (aa (wpAny_setField e d (by simp) (?_:wpAny (model prog w) _ (newExc (.type "StopIteration") [] >>= _) _ _ _))))
  refine aa (by
   simp only [newExc,newTuple]
   refine aa (bj (aa (m:=firstArgMember _ _) (kh (a:=Value.none) (by first | rfl | (simp only [firstArgMember]; rfl)) (bj ?_ (by size_fits)))) (by size_fits))
   simp only [raiseNew]
   refine aa (wpAny_handled ?_)
   first | rw[show A.in1.handled=none from hh] | rw[hh]
   exact aa (ae (wpAny_throw (k _ _ (((ed ..).extBut.push _).push _) ⟨_,ao _ rfl,rfl⟩))))
theorem jK7 {t1 t2:Bool}{z TI TO i1 i2 l1 l2:Addr}{k1 k2:Nat}{xs ys:Array Value}{x y a b:Value}{Q:Value->Shared->Prop}(D:ZipApart z TI TO i1 i2 l1 l2)
  (ez:IsZip s.heap z TI TO .none) (eI:IsPair s.heap TI (.ref i1) (.ref i2)) (eO:IsPair s.heap TO a b) (g1:ItAt t1 s.heap i1 l1 k1) (g2:ItAt t2 s.heap i2 l2 k2) (o1:ObAt t1 s.heap l1 xs) (o2:ObAt t2 s.heap l2 ys) (hx:xs[k1]?=some x) (hy:ys[k2]?=some y)
  (k:∀h',IsZip h' z TI TO (rawInt s.heap.objs.size)->IsPair h' TO x y->ItAt t1 h' i1 l1 (k1+1)->ItAt t2 h' i2 l2 (k2+1)->IsPair h' s.heap.objs.size x y->h'.objs.size=s.heap.objs.size+1->
   (∀c o,c≠z->c≠TO->c≠i1->c≠i2->s.heap.get? c=some o->h'.get? c=some o)->Q (.ref s.heap.objs.size) { s with heap:=h'}):
  wpAny (model prog w) A (Builtin.«zip.__next__» ⟨[.ref z],[]⟩) (λfin s'=>∃v,fin= .done (.ret v)/\Q v s') E s:=by
 show wpAny (model prog w) A (field (.ref z) 2 >>= _) _ _ _
 refine aa (bC ez rfl (x:= .bool false) rfl (?_:wpAny (model prog w) A (field (.ref z) 3 >>= _) _ _ _))
 refine aa (bC ez rfl (x:= .ref TI) rfl (aa (cV eI rfl (?_:wpAny (model prog w) A (Builtin.SmallTypes.ownedTupleIsFree (.ref z) >>= _) _ _ _))))
 refine aa (by
  unfold Builtin.SmallTypes.ownedTupleIsFree
  refine aa (bC ez rfl (x:= .none) rfl (ae ?_))
  simp only [gu]
  refine aa (cx (aa (bC ez rfl (x:= .ref TO) rfl (aa (bq ez (by simp) λp1 f1 q1=>?_)))))
  have f1:IsZip p1 z TI TO .ellipsis:=f1
  refine aa (by
   simp only [jc,List.zipIdx_nil,g9,km]
   refine aa (aa (iZ (?_:wpAny (model prog w) A (Builtin.SmallTypes.nextOf (.ref i1) >>= _) _ _ _)))
   refine aa (next1 (g1.but q1.extBut D.i1z) (o1.but q1.extBut D.l1z) hx λp2 r2 q2=>ae ?_)
   have eO2:IsPair p2 TO a b:=q2.extBut _ _ D.TOi1 (q1.extBut _ _ D.TOz eO)
   refine aa (cV eO2 rfl (aa (g4 eO2 λp3 eO3 q3=>aa (iQ (ae ?_)))))
   have eO3:IsPair p3 TO x b:=eO3
   refine aa (aa (iZ (?_:wpAny (model prog w) A (Builtin.SmallTypes.nextOf (.ref i2) >>= _) _ _ _)))
   refine aa (next1 (((g2.but q1.extBut D.i2z).but q2.extBut D.i12.symm).but q3.extBut D.TOi2.symm) (((o2.but q1.extBut D.l2z).but q2.extBut D.l2i1).but q3.extBut D.l2TO) hy λp4 r4 q4=>ae ?_)
   have eO4:IsPair p4 TO x b:=q4.extBut _ _ D.TOi2 eO3
   refine aa (cV eO4 rfl (aa (g4 eO4 λp5 eO5 q5=>aa (iQ (ae (ae ?_))))))
   have eO5:IsPair p5 TO x y:=eO5
   refine aa (cV eO5 rfl (aa (iB ?_)))
   have sz:p5.objs.size=s.heap.objs.size:=by rw[q5.1,q4.1,q3.1,q2.1,q1.1]
   have ez5:IsZip p5 z TI TO .ellipsis:=q5.extBut _ _ D.TOz.symm (q4.extBut _ _ D.i2z.symm (q3.extBut _ _ D.TOz.symm (q2.extBut _ _ D.i1z.symm f1)))
   have kp5:∀c o,c≠z->c≠TO->c≠i1->c≠i2->s.heap.get? c=some o->p5.get? c=some o:=λc o n1 n2 n3 n4 e=>q5.extBut _ _ n2 (q4.extBut _ _ n4 (q3.extBut _ _ n2 (q2.extBut _ _ n3 (q1.extBut _ _ n1 e))))
   have r15:ItAt t1 p5 i1 l1 (k1+1):=((r2.but q3.extBut D.TOi1.symm).but q4.extBut D.i12).but q5.extBut D.TOi1.symm
   have r25:ItAt t2 p5 i2 l2 (k2+1):=r4.but q5.extBut D.TOi2.symm
   have zlt:z<p5.objs.size:=aq ez5
   show wpAny (model prog w) A (Builtin.SmallTypes.ownedTupleHandOut (.ref z) (.ref p5.objs.size) >>= _) _ _ _
   refine aa ?_
   unfold Builtin.SmallTypes.ownedTupleHandOut
   have f6:IsZip (p5.push { cls:= .type "tuple",data:= .seq #[x,y]}) z TI TO .ellipsis:=ab _ ez5
   refine aa (bq f6 (by simp) λp7 f7 q7=>?_)
   have f7:IsZip p7 z TI TO (rawInt p5.objs.size):=f7
   refine bq f7 (by simp) λp8 f8 q8=>?_
   have f8:IsZip p8 z TI TO (rawInt p5.objs.size):=f8
   have up:∀c o,c≠z->p5.get? c=some o->p8.get? c=some o:=λc o n1 e=>q8.extBut _ _ n1 (q7.extBut _ _ n1 (ab _ e))
   have eT:IsPair p8 p5.objs.size x y:=q8.extBut _ _ (cK zlt) (q7.extBut _ _ (cK zlt) (ao _ rfl))
   have sz8:p8.objs.size=p5.objs.size+1:=by rw[q8.1,q7.1,bR]
   rw[sz] at f8 eT sz8
   refine ae ⟨_,rfl,(?_:Q (.ref p5.objs.size) _)⟩
   rw[sz]
   exact k p8 f8 (up _ _ D.TOz eO5) (r15.at λo e=>up _ o D.i1z e) (r25.at λo e=>up _ o D.i2z e) eT sz8 λc o n1 n2 n3 n4 e=>up c o n1 (kp5 c o n1 n2 n3 n4 e)))
theorem jNF {t1 t2:Bool}{z TI TO i1 i2 l1 l2:Addr}{k1 k2:Nat}{xs ys:Array Value}{a b:Value}{Q:Fin->Shared->Prop}(hh:A.handled=none)(D:ZipApart z TI TO i1 i2 l1 l2)
  (ez:IsZip s.heap z TI TO .none) (eI:IsPair s.heap TI (.ref i1) (.ref i2)) (eO:IsPair s.heap TO a b) (g1:ItAt t1 s.heap i1 l1 k1) (g2:ItAt t2 s.heap i2 l2 k2) (o1:ObAt t1 s.heap l1 xs) (o2:ObAt t2 s.heap l2 ys) (hend:xs[k1]?=none\/ys[k2]?=none)
  (k:∀h' e,(∀c o,c≠z->c≠TO->c≠i1->c≠i2->s.heap.get? c=some o->h'.get? c=some o)->(∃o,h'.get? e=some o/\o.cls= .type "StopIteration")->E (.ref e) { s with heap:=h'}):
  wpAny (model prog w) A (Builtin.«zip.__next__» ⟨[.ref z],[]⟩) Q E s:=by
 show wpAny (model prog w) A (field (.ref z) 2 >>= _) _ _ _
 refine aa (bC ez rfl (x:= .bool false) rfl (?_:wpAny (model prog w) A (field (.ref z) 3 >>= _) _ _ _))
 refine aa (bC ez rfl (x:= .ref TI) rfl (aa (cV eI rfl (?_:wpAny (model prog w) A (Builtin.SmallTypes.ownedTupleIsFree (.ref z) >>= _) _ _ _))))
 refine aa (by
  unfold Builtin.SmallTypes.ownedTupleIsFree
  refine aa (bC ez rfl (x:= .none) rfl (ae ?_))
  simp only [gu]
  refine aa (cx (aa (bC ez rfl (x:= .ref TO) rfl (aa (bq ez (by simp) λp1 f1 q1=>?_)))))
  have f1:IsZip p1 z TI TO .ellipsis:=f1
  refine aa (by
   simp only [jc,List.zipIdx_nil,g9,km]
   refine aa (aa (iZ (?_:wpAny (model prog w) A (Builtin.SmallTypes.nextOf (.ref i1) >>= _) _ _ _)))
   cases hx:xs[k1]? with
   | none=>
    refine aa (next0 hh (g1.but q1.extBut D.i1z) (o1.but q1.extBut D.l1z) hx λp2 e q2 ⟨u,eu,cu⟩=>?_)
    have f2:IsZip p2 z TI TO .ellipsis:=q2 _ _ D.i1z.symm f1
    have nz:e≠z:=λv=>by subst v; rw[f2] at eu; cases eu; simp at cu
    exact bq f2 (by simp) λp3 _ q3=>k p3 e (λc o n1 _ n3 _ v=>q3.extBut _ _ n1 (q2 _ _ n3 (q1.extBut _ _ n1 v))) ⟨u,q3.extBut _ _ nz eu,cu⟩
   | some x=>
    have hy:ys[k2]?=none:=by
     rcases hend with v | v
     ·rw[hx] at v; cases v
     ·exact v
    refine aa (next1 (g1.but q1.extBut D.i1z) (o1.but q1.extBut D.l1z) hx λp2 r2 q2=>ae ?_)
    have eO2:IsPair p2 TO a b:=q2.extBut _ _ D.TOi1 (q1.extBut _ _ D.TOz eO)
    refine aa (cV eO2 rfl (aa (g4 eO2 λp3 eO3 q3=>aa (iQ (ae ?_)))))
    refine aa (aa (iZ (?_:wpAny (model prog w) A (Builtin.SmallTypes.nextOf (.ref i2) >>= _) _ _ _)))
    refine aa (next0 hh (((g2.but q1.extBut D.i2z).but q2.extBut D.i12.symm).but q3.extBut D.TOi2.symm) (((o2.but q1.extBut D.l2z).but q2.extBut D.l2i1).but q3.extBut D.l2TO) hy λp4 e q4 ⟨u,eu,cu⟩=>?_)
    have f4:IsZip p4 z TI TO .ellipsis:=q4 _ _ D.i2z.symm (q3.extBut _ _ D.TOz.symm (q2.extBut _ _ D.i1z.symm f1))
    have nz:e≠z:=λv=>by subst v; rw[f4] at eu; cases eu; simp at cu
    exact bq f4 (by simp) λp5 _ q5=>k p5 e (λc o n1 n2 n3 n4 v=>q5.extBut _ _ n1 (q4 _ _ n4 (q3.extBut _ _ n2 (q2.extBut _ _ n3 (q1.extBut _ _ n1 v))))) ⟨u,q5.extBut _ _ nz eu,cu⟩))
theorem jHF {t1 t2:Bool}{z TI TO i1 i2 l1 l2:Addr}{k1 k2:Nat}{xs ys:Array Value}{x y a b:Value}{Q:Option Value->Shared->Prop}(D:ZipApart z TI TO i1 i2 l1 l2)
  (ez:IsZip s.heap z TI TO .none) (eI:IsPair s.heap TI (.ref i1) (.ref i2)) (eO:IsPair s.heap TO a b) (g1:ItAt t1 s.heap i1 l1 k1) (g2:ItAt t2 s.heap i2 l2 k2) (o1:ObAt t1 s.heap l1 xs) (o2:ObAt t2 s.heap l2 ys) (hx:xs[k1]?=some x) (hy:ys[k2]?=some y)
  (k:∀h',IsZip h' z TI TO (rawInt s.heap.objs.size)->IsPair h' TO x y->ItAt t1 h' i1 l1 (k1+1)->ItAt t2 h' i2 l2 (k2+1)->IsPair h' s.heap.objs.size x y->h'.objs.size=s.heap.objs.size+1->
   (∀c o,c≠z->c≠TO->c≠i1->c≠i2->s.heap.get? c=some o->h'.get? c=some o)->Q (some (.ref s.heap.objs.size)) { s with heap:=h'}):
  wpAny (model prog w) A (pyNext (.ref z)) Q E s:=by
 have ty:s.TypeIs (.ref z) "zip" :=⟨_,ez,rfl⟩
 unfold pyNext
 exact aa (cP (bh (name:=Str.ofString "__next__") ty F.slot_zip_next (bo F.slot_zip_next ty F.entry_zip_next (jK7 D ez eI eO g1 g2 o1 o2 hx hy λh' b1 b2 b3 b4 b5 b6 b7=>ae (k h' b1 b2 b3 b4 b5 b6 b7)) (F.args_zip_next_1 _))))
theorem jHG {t1 t2:Bool}{z TI TO i1 i2 l1 l2:Addr}{k1 k2:Nat}{xs ys:Array Value}{a b:Value}{Q:Option Value->Shared->Prop}(hh:A.handled=none)(D:ZipApart z TI TO i1 i2 l1 l2)
  (ez:IsZip s.heap z TI TO .none) (eI:IsPair s.heap TI (.ref i1) (.ref i2)) (eO:IsPair s.heap TO a b) (g1:ItAt t1 s.heap i1 l1 k1) (g2:ItAt t2 s.heap i2 l2 k2) (o1:ObAt t1 s.heap l1 xs) (o2:ObAt t2 s.heap l2 ys) (hend:xs[k1]?=none\/ys[k2]?=none)
  (k:∀h',(∀c o,c≠z->c≠TO->c≠i1->c≠i2->s.heap.get? c=some o->h'.get? c=some o)->Q none { s with heap:=h'}):wpAny (model prog w) A (pyNext (.ref z)) Q E s:=by
 have ty:s.TypeIs (.ref z) "zip" :=⟨_,ez,rfl⟩
 unfold pyNext
 refine aa (cP (bh (name:=Str.ofString "__next__") ty F.slot_zip_next (bo F.slot_zip_next ty F.entry_zip_next (jNF hh D ez eI eO g1 g2 o1 o2 hend λh' e kp ⟨u,eu,cu⟩=>?_) (F.args_zip_next_1 _))))
 exact aa (fj (T:= "StopIteration") (b:=true) ⟨u,eu,cu⟩ ix (ae (k _ kp)))
end
def qM (tp:Bool)(a:Addr):Obj:=match tp with
 | false=> { cls:= .type "list_iterator",data:= .fields #[.ref a, .int 0 0]}
 | true=> { cls:= .type "tuple_iterator",data:= .fields #[.ref a, .int 0 0]}
theorem jCQ (tp:Bool)(a:Addr):(qM tp a).isFreed=false:=by cases tp <;> rfl
theorem ObAt.push {tp:Bool}{h:Heap}{a:Addr}{xs:Array Value}(x:ObAt tp h a xs)(o:Obj):ObAt tp (h.push o) a xs:=by
 cases tp with
 | false=>exact Heap.IsList.push x o
 | true=>exact Heap.IsTuple.push x o
theorem jCK {prog:Program}{w:World}{A:Around}{E:Value->Shared->Prop}{s:Shared}{tp:Bool}{a:Addr}{xs:Array Value}{Q:Value->Shared->Prop}(h:ObAt tp s.heap a xs)(q:Q (.ref s.heap.objs.size) { s with heap:=s.heap.push (qM tp a)}):
  wpAny (model prog w) A (pyIter (.ref a)) Q E s:=by
 cases tp with
 | false=>exact cU h q
 | true=>exact wpAny_pyIter_tuple h q
def zp1 (t1:Bool)(h:Heap)(l1:Addr):Heap:=h.push (qM t1 l1)
def zp2 (t1 t2:Bool)(h:Heap)(l1 l2:Addr):Heap:=(zp1 t1 h l1).push (qM t2 l2)
def zp3 (t1 t2:Bool)(h:Heap)(l1 l2:Addr):Heap:=(zp2 t1 t2 h l1 l2).push { cls:= .type "tuple",data:= .seq #[.ref h.objs.size, .ref (zp1 t1 h l1).objs.size]}
def zp4 (t1 t2:Bool)(h:Heap)(l1 l2:Addr):Heap:=(zp3 t1 t2 h l1 l2).push { cls:= .type "tuple",data:= .seq #[.none, .none]}
def zp5 (t1 t2:Bool)(h:Heap)(l1 l2:Addr):Heap:=(zp4 t1 t2 h l1 l2).push { cls:= .type "zip",data:= .fields #[.none, .bool false, .bool false, .ref (zp2 t1 t2 h l1 l2).objs.size, .ref (zp3 t1 t2 h l1 l2).objs.size]}
theorem jJQ (t1 t2:Bool)(l1 l2:Addr)(xs ys:Array Value):
  Meets (Builtin.«zip.__new__» ⟨[.type "zip", .ref l1, .ref l2],[]⟩) (λ_ R s=>ObAt t1 s.heap l1 xs/\ObAt t2 s.heap l2 ys/\R (.ok (.ret (.ref (zp4 t1 t2 s.heap l1 l2).objs.size))) { s with heap:=zp5 t1 t2 s.heap l1 l2}):=
 .of_wp λprog w A R s h=>by
  obtain⟨hp,g,d,tk,os⟩:=s
  obtain⟨a1,a2,q⟩:=h
  have sub:=sub_zip
  have e1:ObAt t1 (Shared.heap ⟨hp,g,d,tk,os⟩) l1 xs:=a1
  have e2:ObAt t2 (Shared.heap ⟨hp.push (qM t1 l1),g,d,tk,os⟩) l2 ys:=ObAt.push a2 _
  wp_walk using jCK e1,jCK e2
  exact⟨_,rfl,q⟩
theorem ItAt.new (tp:Bool){h:Heap}{it a:Addr}(e:h.get? it=some (qM tp a)):ItAt tp h it a 0:=by
 cases tp with
 | false=>exact⟨_,e,rfl,rfl⟩
 | true=>exact⟨_,e,rfl,rfl⟩
theorem jMS {prog:Program}{w:World}{A:Around}{E:Value->Shared->Prop}{s:Shared}{t1 t2:Bool}{l1 l2:Addr}{xs ys:Array Value}{Q:Value->Shared->Prop}(a1:ObAt t1 s.heap l1 xs)(a2:ObAt t2 s.heap l2 ys)
  (k:∀h',IsZip h' (s.heap.objs.size+4) (s.heap.objs.size+2) (s.heap.objs.size+3) .none->IsPair h' (s.heap.objs.size+2) (.ref s.heap.objs.size) (.ref (s.heap.objs.size+1))->
   IsPair h' (s.heap.objs.size+3) .none .none->ItAt t1 h' s.heap.objs.size l1 0->ItAt t2 h' (s.heap.objs.size+1) l2 0->(∀c o,s.heap.get? c=some o->h'.get? c=some o)->Q (.ref (s.heap.objs.size+4)) { s with heap:=h'}):
  wpAny (model prog w) A (call (.type "zip") [.ref l1, .ref l2]) Q E s:=by
 refine callType_new F.called_zip (by decide) (F.typeCall_zip_2 _ _) (F.newCall_zip_2 _ _) (λobj=>F.args_object_init_3 obj _ _) F.entry_zip_new (jJQ t1 t2 l1 l2 xs ys) ⟨a1,a2,?_⟩
 have z1:(zp1 t1 s.heap l1).objs.size=s.heap.objs.size+1:=bR ..
 have z2:(zp2 t1 t2 s.heap l1 l2).objs.size=s.heap.objs.size+2:=(bR ..).trans (bQ (· +1) z1)
 have z3:(zp3 t1 t2 s.heap l1 l2).objs.size=s.heap.objs.size+3:=(bR ..).trans (bQ (· +1) z2)
 have z4:(zp4 t1 t2 s.heap l1 l2).objs.size=s.heap.objs.size+4:=(bR ..).trans (bQ (· +1) z3)
 have y5:(zp5 t1 t2 s.heap l1 l2).get? (zp4 t1 t2 s.heap l1 l2).objs.size=some { cls:= .type "zip",data:= .fields #[.none, .bool false, .bool false, .ref (zp2 t1 t2 s.heap l1 l2).objs.size, .ref (zp3 t1 t2 s.heap l1 l2).objs.size]} :=ao _ rfl
 have y4:(zp5 t1 t2 s.heap l1 l2).get? (zp3 t1 t2 s.heap l1 l2).objs.size=some { cls:= .type "tuple",data:= .seq #[.none, .none]} :=ab _ (ao _ rfl)
 have y3:(zp5 t1 t2 s.heap l1 l2).get? (zp2 t1 t2 s.heap l1 l2).objs.size=some { cls:= .type "tuple",data:= .seq #[.ref s.heap.objs.size, .ref (zp1 t1 s.heap l1).objs.size]} :=ab _ (ab _ (ao _ rfl))
 have y2:(zp5 t1 t2 s.heap l1 l2).get? (zp1 t1 s.heap l1).objs.size=some (qM t2 l2):=ab _ (ab _ (ab _ (ao _ (jCQ _ _))))
 have y1:(zp5 t1 t2 s.heap l1 l2).get? s.heap.objs.size=some (qM t1 l1):=ab _ (ab _ (ab _ (ab _ (ao _ (jCQ _ _)))))
 have up:∀c o,s.heap.get? c=some o->(zp5 t1 t2 s.heap l1 l2).get? c=some o:=λc o e=>ab _ (ab _ (ab _ (ab _ (ab _ e))))
 rw[z2,z3,z4] at y5
 rw[z1,z2] at y3
 rw[z3] at y4
 rw[z1] at y2
 show _/\_
 rw[z4]
 exact⟨⟨_,y5,rfl⟩,k _ y5 y3 y4 (.new t1 y1) (.new t2 y2) up⟩
def Sq (tp:Bool)(K:W.Frag)(H:Hp)(a:Addr)(xs:List V):Prop:=match tp with
 | false=>SqL K H a xs
 | true=>SqT K H a xs
theorem Inv.sq {X:Cx}{lF:List (Addr×Obj)}{σ:St}{H:Hp}{s:Shared}{tp:Bool}{a:Addr}{xs:List V}(I:Inv X lF σ H s)(h:Sq tp X.K H a xs):∃its:List Value,Vals xs its/\ObAt tp s.heap a its.toArray/\xs.length<=sizeLine:=by
 cases tp with
 | false=>
  obtain⟨its,r,p,z⟩:=I.list h
  exact⟨its,r,p.isList,z⟩
 | true=>exact I.tuple h
theorem Inv.sq_inj {X:Cx}{lF:List (Addr×Obj)}{σ:St}{H:Hp}{s:Shared}{tp:Bool}{a:Addr}{xs ys:List V}(I:Inv X lF σ H s)(h:Sq tp X.K H a xs)(h':Sq tp X.K H a ys):xs=ys:=by
 cases tp with
 | false=>exact I.list_inj h h'
 | true=>exact I.tuple_inj h h'
def Itz (t1 t2:Bool)(K:W.Frag)(l1 l2:Addr):It:=
 ⟨λi H=>∃xs ys x y,Sq t1 K H l1 xs/\Sq t2 K H l2 ys/\xs[i]?=some x/\ys[i]?=some y,
  λi H v H'=>∃T x y,H T=none/\v= .ref T/\H'=upd H T (.tup [x,y])/\∀xs ys,Sq t1 K H l1 xs->Sq t2 K H l2 ys->xs[i]?=some x/\ys[i]?=some y,
  λi H=>∃xs ys,Sq t1 K H l1 xs/\Sq t2 K H l2 ys/\(xs.length<=i\/ys.length<=i)⟩
theorem jNI {P:Program}{w:World}{K:W.Frag}{elts:List Expr}{x1:Nat}{tp:Pos}(t1 t2:Bool)(l1 l2 z TI TO i1 i2:Addr)(D:ZipApart z TI TO i1 i2 l1 l2):
  Turn P w K (.Tuple elts x1 tp) (Itz t1 t2 K l1 l2) [z,TO,i1,i2,TI] z (λi h=>IsZip h z TI TO .none/\IsPair h TI (.ref i1) (.ref i2)/\(∃a b,IsPair h TO a b)/\ItAt t1 h i1 l1 i/\ItAt t2 h i2 l2 i) where
 mem:=by simp
 obj:=λi h st b hb=>by
  obtain⟨hz,hTI,⟨a,c,hTO⟩,y1,y2⟩:=st
  simp only [aF,bA,dv] at hb
  rcases hb with rfl | rfl | rfl | rfl | rfl
  ·exact⟨_,hz,λv q=>by cases q⟩
  ·exact⟨_,hTO,λv q=>by cases q⟩
  ·exact y1.obj
  ·exact y2.obj
  ·exact⟨_,hTI,λv q=>by cases q⟩
 keep:=λi h h' st k=>by
  obtain⟨hz,hTI,⟨a,c,hTO⟩,h1,h2⟩:=st
  exact⟨k z (by simp) _ hz,k TI (by simp) _ hTI,⟨a,c,k TO (by simp) _ hTO⟩,h1.at λo e=>k i1 (by simp) o e,h2.at λo e=>k i2 (by simp) o e⟩
 item:=by
  intro X hP hw hK hc i lF s σ H E I hf st hg
  subst hP hw hK
  obtain⟨xs,ys,x,y,hq1,hq2,hx,hy⟩:=hg
  obtain⟨hz,hTI,⟨a,c,hTO⟩,h1,h2⟩:=st
  obtain⟨its1,r1,p1,_⟩:=I.sq hq1
  obtain⟨its2,r2,p2,_⟩:=I.sq hq2
  obtain⟨u,hu,ru⟩:=r1.get hx
  obtain⟨v,hv,rv⟩:=r2.get hy
  refine jHF D hz hTI hTO h1 h2 p1 p2 (x:=u) (y:=v) (by simpa using hu) (by simpa using hv) λh' a1 a2 a3 a4 a5 a6 a7=>?_
  refine⟨_,rfl,wpAny_letOwnedTupleGo_zip (s:= { s with heap:=h'}) a1 λh'' b1 sb=>?_⟩
  have fresh:H s.heap.objs.size=none:=I.fresh
  have nch:∀b∈([z,TO,i1,i2]:List Addr),FpOk X lF H b:=λb hb=>hf b (by
   simp only [aF,bA,dv] at hb ⊢
   rcases hb with q | q | q | q
   ·exact .inl q
   ·exact .inr (.inl q)
   ·exact .inr (.inr (.inl q))
   ·exact .inr (.inr (.inr (.inl q))))
  have ntr:∀b o,H b=some o->b∉([z,TO,i1,i2]:List Addr):=λb o e hb=>by
   have:=(nch b hb).1
   rw[e] at this; cases this
  have kp:∀b o,b∉([z,TO,i1,i2]:List Addr)->s.heap.get? b=some o->h''.get? b=some o:=λb o hb e=>by
   simp only [aF,bA,dv,lx] at hb
   exact(sb.2 b hb.1).trans (a7 b o hb.1 hb.2.1 hb.2.2.1 hb.2.2.2 e)
  have nz:s.heap.objs.size≠z:=cK (aq hz)
  have hT2:h''.get? s.heap.objs.size=some { cls:= .type "tuple",data:= .seq #[u,v]} :=(sb.2 _ nz).trans a5
  have I2:Inv X lF σ (upd H s.heap.objs.size (.tup [x,y])) { s with heap:=h''} :=by
   refine I.step (g':=s.gens) (d':=s.drawn) (t':=s.toks) (ch:=[z,TO,i1,i2]) (λb hb=>?_) (λb o _ _ hb e _=>kp b o hb e) (λb o _ _ hb e _=>⟨o.slots,kp b o hb e⟩)
    (λb o _ e n=>by rw[j7 (aO (aq e))]; exact n) (λb o hb e=>⟨o,kp b o hb e⟩) (λb ws e=>by rw[j7 (jA e fresh)]; exact e) (λb o ws e=>by rw[j7 (jA e fresh)]; exact e)
    (λb ps e=>⟨#[],by rw[j7 (jA e fresh),e]; simp⟩) (λm hm=>?_) (λb o e=>?_) I.bare
   ·obtain⟨f0,f1,f2,f3,f4,f5⟩:=nch b hb
    exact⟨f3,f1,f4,f5⟩
   ·obtain⟨o,es,ep,ho,r⟩:=hm
    exact⟨o,es,ep,kp _ o (λhb=>(nch _ hb).2.1 rfl) ho,r⟩
   ·by_cases hb:b=s.heap.objs.size
    ·subst hb
     rw[j6] at e
     cases e
     exact⟨by rw[fc]; show 2<=_; decide,[u,v], .cons ru (.cons rv .nil),0,hT2⟩
    ·rw[j7 hb] at e
     refine(I.hok b o e).stay (λc w hc q=>kp c w ?_ q) (λc q=>by rw[j7 (jA q fresh)]; exact q) (λc ws q=>by rw[j7 (jA q fresh)]; exact q)
     rcases hc with rfl | hc
     ·exact ntr _ _ e
     ·exact ntr _ _ hc
  refine⟨.ref s.heap.objs.size,_,I2,rfl,⟨_,x,y,fresh,rfl,rfl,λxs' ys' q1 q2=>⟨by rw[I.sq_inj q1 hq1]; exact hx,by rw[I.sq_inj q2 hq2]; exact hy⟩⟩,⟨b1,?_,⟨u,v,?_⟩,?_,?_⟩,λb hb=>?_⟩
  ·exact kp TI _ (by simp [D.TIz,D.TITO,D.TIi1,D.TIi2]) hTI
  ·exact(sb.2 TO D.TOz).trans a2
  ·exact a3.at λo e=>(sb.2 i1 D.i1z).trans e
  ·exact a4.at λo e=>(sb.2 i2 D.i2z).trans e
  ·rw[j7 (λq=>by
    obtain⟨o,eo⟩:∃o,s.heap.get? b=some o:=by
     simp only [aF,bA,dv] at hb
     rcases hb with rfl | rfl | rfl | rfl | rfl
     ·exact⟨_,hz⟩
     ·exact⟨_,hTO⟩
     ·obtain⟨o,e,_⟩:=h1.obj; exact⟨o,e⟩
     ·obtain⟨o,e,_⟩:=h2.obj; exact⟨o,e⟩
     ·exact⟨_,hTI⟩
    exact absurd (aq eo) (by rw[q]; exact cJ _))]
   exact(hf b hb).1
 done:=by
  intro X hP hw hK hc i lF s σ H E I hf st hg
  subst hP hw hK
  obtain⟨xs,ys,hq1,hq2,hend⟩:=hg
  obtain⟨hz,hTI,⟨a,c,hTO⟩,h1,h2⟩:=st
  obtain⟨its1,r1,p1,_⟩:=I.sq hq1
  obtain⟨its2,r2,p2,_⟩:=I.sq hq2
  have e1:=r1.length
  have e2:=r2.length
  refine jHG (I.ok.hd hc) D hz hTI hTO h1 h2 p1 p2 (by
   rcases hend with q | q
   ·exact .inl (by simp; lia)
   ·exact .inr (by simp; lia)) λh' kp=>⟨rfl,?_⟩
  have nch:∀b∈([z,TO,i1,i2]:List Addr),FpOk X lF H b:=λb hb=>hf b (by
   simp only [aF,bA,dv] at hb ⊢
   rcases hb with q | q | q | q
   ·exact .inl q
   ·exact .inr (.inl q)
   ·exact .inr (.inr (.inl q))
   ·exact .inr (.inr (.inr (.inl q))))
  have kp2:∀b o,b∉([z,TO,i1,i2]:List Addr)->s.heap.get? b=some o->h'.get? b=some o:=λb o hb e=>by
   simp only [aF,bA,dv,lx] at hb
   exact kp b o hb.1 hb.2.1 hb.2.2.1 hb.2.2.2 e
  have ntr:∀b o,H b=some o->b∉([z,TO,i1,i2]:List Addr):=λb o e hb=>by
   have:=(nch b hb).1
   rw[e] at this; cases this
  refine I.step (g':=s.gens) (d':=s.drawn) (t':=s.toks) (ch:=[z,TO,i1,i2]) (λb hb=>?_) (λb o _ _ hb e _=>kp2 b o hb e) (λb o _ _ hb e _=>⟨o.slots,kp2 b o hb e⟩)
   (λb o _ e n=>n) (λb o hb e=>⟨o,kp2 b o hb e⟩) (λb ws e=>e) (λb o ws e=>e) (λb ps e=>⟨#[],by rw[e]; simp⟩) (λm hm=>?_) (λb o e=>?_) I.bare
  ·obtain⟨f0,f1,f2,f3,f4,f5⟩:=nch b hb
   exact⟨f3,f1,f4,f5⟩
  ·obtain⟨o,es,ep,ho,r⟩:=hm
   exact⟨o,es,ep,kp2 _ o (λhb=>(nch _ hb).2.1 rfl) ho,r⟩
  ·refine(I.hok b o e).stay (λc w hc q=>kp2 c w ?_ q) (λ_ q=>q) λ_ _ q=>q
   rcases hc with rfl | hc
   ·exact ntr _ _ e
   ·exact ntr _ _ hc
 self:=λ_ _ _ _ _ st h=>wpAny_pyIter_zip st.1 h
def iZip (K:W.Frag)(ta:TA):TI:=λσ H R=>ta σ H λvs H1=>∃t1 t2 l1 l2,vs=[.ref l1, .ref l2]/\(∃xs,Sq t1 K H1 l1 xs)/\(∃ys,Sq t2 K H1 l2 ys)/\R (Itz t1 t2 K l1 l2) H1
theorem jSY {a b:Expr}{ta:TA}{p pos:Pos}{elts:List Expr}{x1:Nat}{tp:Pos}(hg:Gl X "zip")(hm:X.mg "zip" =none)(ha:PA X [a,b] ta)(hv:bootBuiltins "zip" =some (.type "zip"):=by decide+kernel)
  (he:starEach [a,b] X.env=(false,eval a X.env)::starEach [b] X.env:=by rfl) (hpl:(backTo pos (starEach [b] X.env)).any (·.1)=false:=by rfl):
  PI X (.Tuple elts x1 tp) (.Call (.Name "zip" p) [a,b] [] pos) (iZip X.K ta):=by
 intro lF s σ H R I h
 refine Call_ (jD4 I hg hm hv (cO (lJ (ha pos lF s σ H _ I h) λus s1 ⟨vs,H1,I1,r1,q1⟩=>?_) he hpl))
 obtain⟨t1,t2,l1,l2,rfl,⟨xs,hq1⟩,⟨ys,hq2⟩,q⟩:=q1
 obtain⟨u,v,rfl,ru,rv⟩:=r1.two
 cases ru
 cases rv
 obtain⟨its1,_,p1,_⟩:=I1.sq hq1
 obtain⟨its2,_,p2,_⟩:=I1.sq hq2
 have lt1:l1<s1.heap.objs.size:=p1.lt
 have lt2:l2<s1.heap.objs.size:=p2.lt
 refine jMS p1 p2 λh' a1 a2 a3 a4 a5 kp=>?_
 have I2:Inv X lF σ H1 { s1 with heap:=h'} :=I1.kept (t':=s1.toks) kp
 have D:ZipApart (s1.heap.objs.size+4) (s1.heap.objs.size+2) (s1.heap.objs.size+3) s1.heap.objs.size (s1.heap.objs.size+1) l1 l2:=zipApart_new lt1 lt2
 refine wpAny_pyIter_zip a1 ⟨s1.heap.objs.size+4,[s1.heap.objs.size+4,s1.heap.objs.size+3,s1.heap.objs.size,s1.heap.objs.size+1,s1.heap.objs.size+2],_,Itz t1 t2 X.K l1 l2,H1,rfl,I2,jNI t1 t2 l1 l2 _ _ _ _ _ D,⟨a1,a2,⟨_,_,a3⟩,a4,a5⟩,λb hb=>?_,q⟩
 have hge:s1.heap.objs.size<=b:=by
  simp only [aF,bA,dv] at hb
  rcases hb with rfl | rfl | rfl | rfl | rfl
  ·exact dI _ 4
  ·exact dI _ 3
  ·exact aj _
  ·exact dI _ 1
  ·exact dI _ 2
 exact I1.fpOk hge (I1.hok.fresh hge)
structure JE (X:Cx)(e:Expr)(t:TE):Prop where
 h:PE X e t
structure JA (X:Cx)(es:List Expr)(t:TA):Prop where
 h:PA X es t
structure JT (X:Cx)(e:Expr)(t:TT):Prop where
 h:PT X e t
structure JTs (X:Cx)(e:List Expr)(t:TT):Prop where
 h:PTs X e t
structure JS (X:Cx)(e:Stmt)(t:TS):Prop where
 h:PS X e t
structure JSs (X:Cx)(e:List Stmt)(t:TS):Prop where
 h:PSs X e t
structure JG (X:Cx)(e:Expr)(t:TG):Prop where
 h:PG X e t
structure JGs (X:Cx)(e:List Expr)(t:TGs):Prop where
 h:PGs X e t
structure JI (X:Cx)(tg e:Expr)(t:TI):Prop where
 h:PI X tg e t
structure JO (X:Cx)(e:Option Expr)(t:TO):Prop where
 h:PO X e t
structure Loc1 (X:Cx)(x:Str):Prop where
 a:Loc X.env.scope x
 b:X.fn x=true\/X.env.scope.names.lookup x=some .local
structure Vis1 (X:Cx)(x:Str):Prop where
 a:Vis X.env.scope x
structure Gl1 (X:Cx)(x:Str):Prop where
 a:Gl X x
section
variable {o:Option Expr}{l:Nat}
structure SwOk (e:Expr)(o:Option Expr):Prop where
 h:∀l env,swapsWith e o l env=pure false
theorem jG0 {op:Operator} :SwOk (.BinOp a op b pos) o:=⟨λ_ _=>rfl⟩
theorem kE {kw:List Keyword} :SwOk (.Call a xs kw pos) o:=⟨λ_ _=>rfl⟩
theorem jI3:SwOk (.Subscript a b pos) o:=⟨λ_ _=>rfl⟩
theorem jSK {x1} :SwOk (.Tuple xs x1 pos) o:=⟨λ_ _=>rfl⟩
theorem jFZ:SwOk (.List xs pos) o:=⟨λ_ _=>rfl⟩
theorem jDF {c k} :SwOk (.Constant c k pos) o:=⟨λ_ _=>rfl⟩
theorem jP9 {op:Operator} :jB3 (.BinOp a op b pos):=λ_ _=>rfl
theorem jCL {kw:List Keyword} :jB3 (.Call a xs kw pos):=λ_ _=>rfl
theorem jK {i:Int}{k} :jB3 (.Constant (.int i) k pos):=λ_ _=>rfl
theorem jAX {x:Str} :jB3 (.Name x pos):=λ_ _=>rfl
theorem jSQ:jB3 (.Subscript a b pos):=λ_ _=>rfl
structure FoOk (iter:Expr):Prop where
 h:∀env x,foldedSetIterable iter env x=pure x
theorem yO {kw:List Keyword} :FoOk (.Call a xs kw pos):=⟨λ_ _=>rfl⟩
theorem qF {x:Str} :FoOk (.Name x pos):=⟨λ_ _=>rfl⟩
theorem jPZ:FoOk (.Subscript a b pos):=⟨λ_ _=>rfl⟩
structure TvOk (e:Expr):Prop where
 h:∀env whole,isTrue e env whole=(do let v <- whole; standAt e.pos; holding [v] (truthy v))
theorem kN {kw:List Keyword} :TvOk (.Call a xs kw pos):=⟨λ_ _=>rfl⟩
end
variable {te:TE}{x:Str}
section
variable {e o:Expr}{ta tb to:TE}{t:TA}{p cpos apos:Pos}{T:String}{id:String}
theorem jv (i:Nat)(hN:X.N[i]?=some x)(hv:Vis1 X x)(hd:(x==("__debug__" :Str))=false:=by decide)(hcd:(x==("__classdict__" :Str))=false:=by decide):JE X (.Name x pos) (tVar i):=⟨jPD hN hv.a hd hcd⟩
theorem j9 {i j} :JE X (.Constant (.int i) j pos) (tC (.int i)):=⟨jR⟩
theorem je_bl {i j} :JE X (.Constant (.bool i) j pos) (tC (.bl i)):=⟨pe_bl⟩
theorem yX {j} :JE X (.Constant .none j pos) (tC .non):=⟨jT6⟩
theorem jTS {i j} :JE X (.Constant (.str i) j pos) (tC (.str i)):=⟨jT3⟩
theorem kQ {v:V}{u:Value}(hg:Gl1 X x)(hm:X.mg x=none)(hv:bootBuiltins x=some u)(r:RelV v u)(hn:x≠ "__name__" :=by decide)(hd:(x==("__debug__" :Str))=false:=by decide):JE X (.Name x pos) (tC v):=⟨jR1 hg.a hm hv r hn hd⟩
theorem jS {op:Operator}{r:R2}(ho:OpR X (binaryOp op) r)(ha:JE X a ta)(hb:JE X b tb):JE X (.BinOp a op b pos) (tOp r ta tb):=⟨kX ho ha.h hb.h⟩
theorem qS {op:UnaryOp}{r:V->Hp->VK->Prop}(ho:UnR X (unaryOp op) r)(ha:JE X a ta):JE X (.UnaryOp op a pos) (tUn r ta):=⟨pe_un ho ha.h⟩
theorem jPT (ha:JE X a ta):JE X (.UnaryOp .Not a pos) (tNotV ta):=⟨jT5 ha.h⟩
theorem yN {op:CmpOp}{r:R2}(ho:OpR X (compareOp op) r)(ha:JE X a ta)(hb:JE X b tb)(hm:behindInMarks op b=false):JE X (.Compare a [op] [b] pos) (tOp r ta tb):=⟨jQY ho ha.h hb.h hm⟩
theorem jC6 {rest:List Expr}(ha:JE X a ta)(hb:JE X (.BoolOp .And (b::rest) pos) tb):JE X (.BoolOp .And (a::b::rest) pos) (tAndV ta tb):=⟨jTA ha.h hb.h⟩
theorem je_or {rest:List Expr}(ha:JE X a ta)(hb:JE X (.BoolOp .Or (b::rest) pos) tb):JE X (.BoolOp .Or (a::b::rest) pos) (tOrV ta tb):=⟨pe_or ha.h hb.h⟩
theorem jBM {op}(ha:JE X a ta):JE X (.BoolOp op [a] pos) ta:=⟨jT4 ha.h⟩
theorem jLX (h:JA X es t):JE X (.List es pos) (tLst t):=⟨jIC h.h⟩
theorem jIK {x1}(h:JA X es t):JE X (.Tuple es x1 pos) (tTup t):=⟨jT2 h.h⟩
theorem jY {lo hi:Option Expr}{tl th:TO}{r:V->Option Int->Option Int->Hp->VK->Prop}(hr:SlR X r)(he:JE X e te)(hl:JO X lo tl)(hu:JO X hi th):JE X (.Subscript e (.Slice lo hi none p2) pos) (tSl r te tl th):=⟨jNT hr he.h hl.h hu.h⟩
theorem jT {r:R2}(hr:IxR X r)(ha:JE X a ta)(hb:JE X b tb)(hs:jB3 b):JE X (.Subscript a b pos) (tOp r ta tb):=⟨pe_ix hr ha.h hb.h hs⟩
theorem kU {T}{r:List V->Hp->VK->Prop}(hc:yT X (.type T) r)(hg:Gl1 X x)(hm:X.mg x=none)(hv:bootBuiltins x=some (.type T))(ha:JA X (e::es) t)(he:starEach (e::es) X.env=(false,eval e X.env)::starEach es X.env)(hn:x≠ "__name__" :=by decide)(hdb:(x==("__debug__" :Str))=false:=by decide)
  (hpl:(backTo pos (starEach es X.env)).any (·.1)=false:=by rfl):JE X (.Call (.Name x p) (e::es) [] pos) (tCB r t):=⟨jBZ hc hg.a hm hv ha.h hn hdb he hpl⟩
theorem jC {id}{r:List V->Hp->VK->Prop}(hc:yT X (.builtin id) r)(hg:Gl1 X x)(hm:X.mg x=none)(hv:bootBuiltins x=some (.builtin id))(ha:JA X (e::es) t)(he:starEach (e::es) X.env=(false,eval e X.env)::starEach es X.env)(hn:x≠ "__name__" :=by decide)(hdb:(x==("__debug__" :Str))=false:=by decide)
  (hpl:(backTo pos (starEach es X.env)).any (·.1)=false:=by rfl):JE X (.Call (.Name x p) (e::es) [] pos) (tCB r t):=⟨jF3 hc hg.a hm hv ha.h hn hdb he hpl⟩
theorem j5:JA X [] tNil:=⟨yQ⟩
theorem j3 (ha:JE X e te)(hr:JA X es t)(hs:starEach (e::es) X.env=(false,eval e X.env)::starEach es X.env):JA X (e::es) (tCons te t):=⟨kI ha.h hr.h hs⟩
theorem jO {op:CmpOp}{r:R2}(ho:OpR X (compareOp op) r)(ha:JE X a ta)(hb:JE X b tb)(hm:behindInMarks op b=false):JT X (.Compare a [op] [b] pos) (tTest (tOp r ta tb)):=⟨jDU ho ha.h hb.h hm⟩
theorem y8 (h:JE X e te)(he:TvOk e):JT X e (tB te):=⟨jSU h.h (he.h _)⟩
theorem yI {tA:TT}(ha:JT X a tA):JT X (.UnaryOp .Not a pos) (tNot tA):=⟨jSV ha.h⟩
theorem yM:JTs X [] qG:=⟨jKU⟩
theorem jFE {t:TT}(h:JT X e t):JTs X [e] t:=⟨jKT h.h⟩
theorem jZ {i:Nat}(hN:X.N.Nodup)(hi:X.N[i]?=some x)(hx:Loc1 X x):JG X (.Name x pos) (yA i):=⟨jF2 hN hi hx.a hx.b⟩
theorem jAT {tg:Expr}(hg:Gl1 X "range")(hm:X.mg "range" =none)(ha:JA X [a] t)(hs:starEach [a] X.env=(false,eval a X.env)::starEach [] X.env):JI X tg (.Call (.Name "range" p) [a] [] pos) (iRng1 t):=⟨jBY hg.a hm ha.h hs⟩
theorem jB0 {tg:Expr}(hl:JE X a ta):JI X tg a (iList X.K ta):=⟨jQS hl.h⟩
theorem jC4 {tg:Expr}(hl:JE X a ta):JI X tg a (iTup X.K ta):=⟨jSZ hl.h⟩
theorem jPR {elts:List Expr}{x1:Nat}{tp:Pos}(hg:Gl1 X "zip")(hm:X.mg "zip" =none)(ha:JA X [a,b] t)(he:starEach [a,b] X.env=(false,eval a X.env)::starEach [b] X.env)(hv:bootBuiltins "zip" =some (.type "zip"):=by decide+kernel)
  (hpl:(backTo pos (starEach [b] X.env)).any (·.1)=false:=by rfl):JI X (.Tuple elts x1 tp) (.Call (.Name "zip" p) [a,b] [] pos) (iZip X.K t):=⟨jSY hg.a hm ha.h hv he hpl⟩
theorem kO:JO X none jB4:=⟨jQP⟩
theorem kJ (h:JE X e te):JO X (some e) (tPart te):=⟨jQO h.h⟩
theorem jQ {i:Nat}{pos':Pos}(hN:X.N.Nodup)(hi:X.N[i]?=some x)(hx:Loc1 X x)(he:JE X e te)(hs:SwOk e (some (.Name x pos'))):JS X (.Assign [.Name x pos'] e pos) (tAsg te (yA i)):=⟨qL hN hi hx.a he.h (hs.h _ _) hx.b⟩
theorem jI (he:JE X e te):JS X (.Return (some e) pos) (tRet te):=⟨jD3 he.h⟩
theorem jFF (he:JE X e te)(hs:SwOk e none):JS X (.Expr e pos) (tDrop te):=⟨jQM he.h (hs.h _ _)⟩
theorem jH:JSs X [] tNext:=⟨jF1⟩
theorem jD {st:Stmt}{t:TS}(h1:JS X st t):JSs X [st] t:=⟨jAZ h1.h⟩
theorem j8 {st:Stmt}{rest:List Stmt}{t u:TS}(h1:JS X st t)(h2:JSs X rest u):JSs X (st::rest) (tSeq t u):=⟨y6 h1.h h2.h⟩
theorem kL {c:Expr}{a b:List Stmt}{tc:TT}{t u:TS}(hc:JT X c tc)(ha:JSs X a t)(hb:JSs X b u):JS X (.If c a b pos) (tIfS tc t u):=⟨ps_if hc.h ha.h hb.h⟩
theorem jBL {tg iter:Expr}{body:List Stmt}{wi:TI}{g:TG}{tb:TS}(hp:PassesOwn (model X.prog X.w) X.A X.env X.xe)(hc:X.calm=true)(hi:JI X tg iter wi)(hg:JG X tg g)(hb:JSs X body tb)(hs:FoOk iter):JS X (.For tg iter body [] pos) (tFor wi g tb):=⟨jPB hp hc hi.h hg.h hb.h (hs.h _)⟩
theorem je_bm {T:String}{name:Str}{r}(pa:PlainAttrs T)(slot:Slot T name id)(hty:typeOf (.builtin id)=pure (.type "method_descriptor"))(hm:MtR X id r)(ho:JE X o to)(ha:JA X (e::es) t)
  (hs:starEach (e::es) X.env=(false,eval e X.env)::starEach es X.env)
  (hbase:attributeBase o name X.env (eval o X.env)=eval o X.env:=by rfl)
  (hfew:((backTo cpos (starEach (e::es) X.env)).all (λx=>!x.1)&&(backToKw cpos (keywordEach [] X.env)).all (λx=>x.1.isSome)
   &&decide ((e::es).length+([]:List Keyword).length+(if ([]:List Keyword).isEmpty then 0 else 1)<30))=true:=by rfl)
  (hline:(apos.endLine==cpos.line)=true:=by rfl) (hplain:(backTo cpos (starEach es X.env)).any (·.1)=false:=by rfl):
  JE X (.Call (.Attribute o name apos) (e::es) [] cpos) (tBM X.K T r to t):=⟨pe_bm pa slot hty hm ho.h ha.h hbase hfew hline hs hplain⟩
theorem y9 {tg iter elt:Expr}{ifs:List Expr}{sc:Scope}{wi:TI}{g:TG}{tt:TT}{m:List (Option Nat)}{Nc:List Str}(hc:X.calm=true)(hi:JI X tg iter wi)(hkind:sc.kind= .function)(hcell:∀y∈sc.names,y.2≠ .cell)(hnames:∀y∈sc.names,y.2= .local->sc.names.lookup y.1=some .local)
  (hfree:∀y∈sc.names,y.2= .free->X.env.scope.names.lookup y.1=some .cell\/X.env.scope.names.lookup y.1=some .free) (hm:jD8 X sc Nc m)
  (hg:∀cl C fp s H,JG (blk X sc cl C Nc fp s H) tg g) (ht:∀cl C fp s H,JTs (blk X sc cl C Nc fp s H) ifs tt) (he:∀cl C fp s H,JE (blk X sc cl C Nc fp s H) elt te)
  (hs:FoOk iter):JE X (.ListComp elt [⟨tg,iter,ifs,0⟩] sc pos) (tComp m wi g tt te):=⟨jHH hc hi.h hkind hcell hnames hfree hm (λcl C fp s H=>(hg cl C fp s H).h) (λcl C fp s H=>(ht cl C fp s H).h) (λcl C fp s H=>(he cl C fp s H).h) (hs.h _)⟩
theorem jTV {p1 p2 p3 p4 p5 p6 p7:Pos}{k1 k2 k3 k4:Nat} :JE X (.BinOp (.BinOp (.Constant (.int 2) k1 p1) .Mult (.BinOp (.Constant (.int 10) k2 p2) .Pow (.Constant (.int 12) k3 p3) p4) p5) .Add (.Constant (.int 1) k4 p6) p7) (tC (.int 2000000000001)):=⟨jT9⟩
end
variable {P:Program}{mg:Str->Option Value}{lG:Heap}{N:List Str}{qual:Str}{sc:Scope}{f:Addr}{lH:Value}{outer:List Env}{H:Hp}{E:XK}
section
variable {K:W.Frag}
theorem gl_d (h:sc.names.lookup x=some .globalImplicit):Gl1 (cxOf CX0 P w K mg lG N qual sc f lH A outer s H E).nox x:=⟨h⟩
theorem gD (h:sc.names.lookup x=some .globalImplicit:=by decide+kernel):Gl1 (cxOf CX0 P w K mg lG N qual sc f lH A outer s H E).nox x:=gl_d h
theorem vis_l (h:sc.names.lookup x=some .local):Vis1 (cxOf CX0 P w K mg lG N qual sc f lH A outer s H E).nox x:=⟨.inl h⟩
theorem vL (h:sc.names.lookup x=some .local:=by decide+kernel):Vis1 (cxOf CX0 P w K mg lG N qual sc f lH A outer s H E).nox x:=vis_l h
theorem vis_c (h:sc.names.lookup x=some .cell):Vis1 (cxOf CX0 P w K mg lG N qual sc f lH A outer s H E).nox x:=⟨.inr (.inl h)⟩
theorem vC (h:sc.names.lookup x=some .cell:=by decide+kernel):Vis1 (cxOf CX0 P w K mg lG N qual sc f lH A outer s H E).nox x:=vis_c h
end
theorem jAS {env:Env}{x:Str}{k:NameKind}(hk:k≠ .free):∀{l:List (Str×NameKind)},l.lookup x=some k->
  (l.map λ(n,k)=>if (k==NameKind.free&&env.scope.kind== .function&&env.kindOf n==some .cell) then (n,NameKind.cell) else (n,k)).lookup x=some k
 | [],h=>by cases h
 | (n,k')::r,h=>by
  have ih:= @jAS env x k hk r
  rw[bF] at h
  rw[bg]
  dsimp only
  by_cases hb:(k'==NameKind.free&&env.scope.kind== .function&&env.kindOf n==some .cell)=true
  ·rw[am hb,bF]
   cases hx:x==n with
   | true=>
    rw[hx] at h
    have e:k'=k:=bG h
    simp only [bE] at hb
    exact absurd (e.symm.trans (eq_of_beq hb.1.1)) hk
   | false=>rw[hx] at h; exact ih h
  ·rw[ai hb,bF]
   cases hx:x==n with
   | true=>rw[hx] at h; exact h
   | false=>rw[hx] at h; exact ih h
variable {cl:List (Str×Addr)}{C:Addr}{Nc:List Str}{fp:List Addr}
theorem gl_b (h:sc.names.lookup x=some .globalImplicit:=by decide+kernel):Gl1 (blk X sc cl C Nc fp s H) x:=⟨jAS (by decide) h⟩
theorem kR (h:sc.names.lookup x=some .local:=by decide+kernel):Vis1 (blk X sc cl C Nc fp s H) x:=⟨.inl (jAS (by decide) h)⟩
theorem qD (h:sc.names.lookup x=some .free:=by decide+kernel):Vis1 (blk X sc cl C Nc fp s H) x:=⟨.inr (jCU h)⟩
theorem qH (h:sc.names.lookup x=some .local:=by decide+kernel):Loc1 (blk X sc cl C Nc fp s H) x:=⟨.inl (jAS (by decide) h), .inr (jAS (by decide) h)⟩
section
variable {K:W.Frag}
theorem loc_l (h:sc.names.lookup x=some .local):Loc1 (cxOf CX0 P w K mg lG N qual sc f lH A outer s H E).nox x:=⟨.inl h, .inl rfl⟩
theorem lL (h:sc.names.lookup x=some .local:=by decide+kernel):Loc1 (cxOf CX0 P w K mg lG N qual sc f lH A outer s H E).nox x:=loc_l h
theorem loc_c (h:sc.names.lookup x=some .cell:=by decide+kernel):Loc1 (cxOf CX0 P w K mg lG N qual sc f lH A outer s H E).nox x:=⟨.inr h, .inl rfl⟩
end
structure JW (X:Cx)(e:Expr)(t:TT):Prop where
 h:PW X e t
section
variable {rest:List Expr}{tA tB':TT}
theorem jRV (ha:JT X a tA):JW X (.BoolOp .And [a] pos) tA:=⟨jQK ha.h⟩
theorem jBK (ha:JT X a tA):JW X (.BoolOp .Or [a] pos) tA:=⟨jSR ha.h⟩
theorem jTP (ha:JT X a tA)(hb:JW X (.BoolOp .And (b::rest) pos) tB'):JW X (.BoolOp .And (a::b::rest) pos) (tAnd tA tB'):=⟨jST ha.h hb.h⟩
theorem qU (ha:JT X a tA)(hb:JW X (.BoolOp .Or (b::rest) pos) tB'):JW X (.BoolOp .Or (a::b::rest) pos) (tOr tA tB'):=⟨pw_or ha.h hb.h⟩
theorem jt_w (h:JW X a tA):JT X a tA:=⟨h.h.pt⟩
theorem jLW:JGs X [] gNil:=⟨jQU⟩
structure AsOk (e:Expr):Prop where
 h:∀es env,assignEach (e::es) env=(false,assign e env)::assignEach es env
theorem jFS {x:Str} :AsOk (.Name x pos):=⟨λ_ _=>rfl⟩
theorem jDJ {e:Expr}{es:List Expr}{t:TG}{u:TGs}(h1:JG X e t)(h2:JGs X es u)(hs:AsOk e):JGs X (e::es) (gCons t u):=⟨jNS h1.h h2.h (by rw[hs.h]; rfl)⟩
theorem jPS {es:List Expr}{k:Nat}{t:TGs}{n:Nat}(hc:X.calm=true)(h:JGs X es t)(hn:(assignEach es X.env).length=n:=by rfl)(hst:(assignEach es X.env).findIdx? (·.1)=none:=by rfl):JG X (.Tuple es k pos) (gTup X.K n t):=⟨jT0 hc h.h hn hst⟩
theorem jF5 {op:CmpOp}{x:Str} :behindInMarks op (.Name x pos)=false:=by cases op <;> rfl
end
theorem jGL {X:Cx}{sc:Scope}{cl:List (Str×Addr)}{C:Addr}{Nc:List Str}{fp:List Addr}{s:Shared}{H:Hp}{x y:Str}{p1 p2 pos:Pos}{k:Nat}{i j:Nat}(hc:X.calm=true)(hN:Nc.Nodup)(hi:Nc[i]?=some x)(hj:Nc[j]?=some y)(hx:sc.names.lookup x=some .local)(hy:sc.names.lookup y=some .local):
  JG (blk X sc cl C Nc fp s H) (.Tuple [.Name x p1, .Name y p2] k pos) (gTup X.K 2 (gCons (yA i) (gCons (yA j) gNil))):=
 jPS (X:=blk X sc cl C Nc fp s H) hc (jDJ (jZ hN hi (qH hx)) (jDJ (jZ hN hj (qH hy)) jLW jFS) jFS)
variable {m:List (Option Nat)}{g:TG}{tt:TT}{H1:Hp}{Q:VK}
section
variable {K:W.Frag}{σ:St}
theorem jIZ {t1 t2:Bool}{l1 l2:Addr}{xs ys:List V}(hn:xs.length<sizeLine)(Pv:Addr->Nat->St->Hp->List V->Prop)(h0:∀D,H1 D=none->Pv D 0 (blkσ m σ) (upd H1 D (.lst [])) [])
  (hD:∀D i σ' H' zs,H1 D=none->Pv D i σ' H' zs->Sq t1 K H' l1 xs/\Sq t2 K H' l2 ys/\H' D=some (.lst zs)/\zs.length<=i)
  (hs:∀D i σ' H' zs x y T,H1 D=none->xs[i]?=some x->ys[i]?=some y->H' T=none->Pv D i σ' H' zs->g (.ref T) σ' (upd H' T (.tup [x,y])) λσ2 H2=>tt σ2 H2 λb H3=>if b=true then te σ2 H3 λv H4=>H4 D=some (.lst zs)/\Pv D (i+1) σ2 (upd H4 D (.lst (zs++[v]))) (zs++[v]) else Pv D (i+1) σ2 H3 zs)
  (hd:∀D σ' H' zs,H1 D=none->Pv D (min xs.length ys.length) σ' H' zs->Q (.ref D) H'):qX m g tt te σ Q (Itz t1 t2 K l1 l2) H1:=by
 intro D hDn
 refine⟨λi k σ' H' zs=>k=min xs.length ys.length - i/\i<=min xs.length ys.length/\Pv D i σ' H' zs,⟨_,rfl,aS _,h0 D hDn⟩,?_⟩
 rintro i k σ' H' zs ⟨rfl,hi,p⟩
 obtain⟨s1,s2,q1,q2⟩:=hD D i σ' H' zs hDn p
 refine⟨q1,by lia,?_⟩
 by_cases hlt:i<min xs.length ys.length
 ·have a1:i<xs.length:=by lia
  have a2:i<ys.length:=by lia
  refine .inr ⟨⟨xs,ys,xs[i],ys[i],s1,s2,by simp [a1],by simp [a2]⟩,Pv D (i+1),λσ2 H2 zs z=>⟨min xs.length ys.length - (i+1),by lia,rfl,hlt,z⟩,λv H'' y=>?_⟩
  obtain⟨T,x,y,e1,e2,e3,e4⟩:=y
  subst e2 e3
  obtain⟨z1,z2⟩:=e4 xs ys s1 s2
  exact hs D i σ' _ zs x y T hDn z1 z2 e1 p
 ·have e:i=min xs.length ys.length:=by lia
  subst e
  exact .inl ⟨⟨xs,ys,s1,s2,by lia⟩,hd D σ' H' zs hDn p⟩
end
theorem jL4:OpR (blk X sc cl C Nc fp s H) (compareOp .In) (rIn X.K false):=jDY
theorem jJL:OpR (blk X sc cl C Nc fp s H) (compareOp .NotIn) (rIn X.K true):=jGD
theorem jC7:IxR (blk X sc cl C Nc fp s H) (rIxT X.K):=jX
def Ext (H H':Hp):Prop:=∀b o,H b=some o->H' b=some o
theorem Ext.refl (H:Hp):Ext H H:=λ_ _ h=>h
theorem Ext.trans {H H1 H2:Hp}(a:Ext H H1)(b:Ext H1 H2):Ext H H2:=λc o h=>b c o (a c o h)
theorem Ext.new {H H1:Hp}{l:Addr}(a:Ext H H1)(hl:H1 l=none)(o:HO):Ext H (upd H1 l o):=λc u h=>by
 have:=a c u h
 rw[j7 (jA this hl)]
 exact this
theorem Ext.updNew {H H1:Hp}{l:Addr}(a:Ext H H1)(hl:H l=none)(o:HO):Ext H (upd H1 l o):=λc u h=>by
 rw[j7 (jA h hl)]
 exact a c u h
def TupR (H:Hp)(xs:List V)(Q:VK):Prop:=∀r H',H' r=some (.tup xs)->Ext H H'->Q (.ref r) H'
theorem TupR.new {H:Hp}{xs:List V}{Q:VK}(q:TupR H xs Q){p:Addr}(hp:H p=none):Q (.ref p) (upd H p (.tup xs)):=q p _ j6 ((Ext.refl H).new hp _)
theorem TupR.old {H:Hp}{xs:List V}{Q:VK}(q:TupR H xs Q){p:Addr}(hp:H p=some (.tup xs)):Q (.ref p) H:=q p H hp (Ext.refl H)
def rCatU:R2:=λx y H Q=>∃a b xs ys,x= .ref a/\y= .ref b/\H a=some (.tup xs)/\H b=some (.tup ys)/\xs.length+ys.length<=sizeLine/\TupR H (xs++ys) Q
theorem jF4:OpR X (binaryOp .Add) rCatU:=by
 intro lF s σ H x y v u Q I rx ry h
 obtain⟨a,b,xs,ys,rfl,rfl,ha,hb,hz,q⟩:=h
 by_cases hx:xs=[]
 ·subst hx
  cases rx
  cases ry
  obtain⟨_,its,r1,n1,e1⟩:=I.hok a _ ha
  obtain⟨_,its2,r2,n2,e2⟩:=I.hok b _ hb
  cases r1
  exact concat_meets ⟨_,e1,rfl⟩ ⟨_,e2,rfl⟩ i7 seq_tuple_add gq gl (fO _ _) (AutoSeq1.tuple___add___tuple_tuple_0 a _ n1 b its2.toArray n2 (by simp)) ⟨e1,e2, .ref b,H,I,rfl,q.old hb⟩
 ·refine jR3 lF s σ H _ _ v u Q I rx ry ⟨a,b,xs,ys,rfl,rfl,SqT.of ha,SqT.of hb,hx,hz,λe=>?_,λ_ p hp=>q.new hp⟩
  subst e
  rw[bI] at q
  exact q.old ha
section
variable (l:Addr)(items:Array Value)(n:Nat)(x:Int)(u:Tok)(h1:¬(decide (x< -(2 ^ 63)) || decide (x ≥ 2 ^ 63))=true)
include h1
end
theorem jCT {prog:Program}{w:World}{A:Around}{E:Value->Shared->Prop}{s:Shared}{t sl:Addr}{items:Array Value}{n:Nat}{vl vu:Value}{lo hi:Option Int}{Q:Value->Shared->Prop}
  (e0:s.heap.get? t=some { cls:= .type "tuple",data:= .seq items n}) (hs:s.heap.IsSliceOf sl vl vu .none) (pl:IsPart vl lo) (pu:IsPart vu hi)
  (hw:HT.sIx items.size 0 lo=0/\HT.sIx items.size items.size hi=items.size) (h:Q (.ref t) s):wpAny (model prog w) A (getItem (.ref t) (.ref sl)) Q E s:=by
 have ht:IsTup s.heap t items:=⟨_,e0,rfl,n,rfl⟩
 obtain⟨os,hos,hcs,hds⟩:=id hs
 have hTs:s.TypeIs (.ref sl) "slice" :=⟨os,hos,hcs⟩
 unfold getItem
 try with_reducible refine bD ?_
 first | refine aa (ae ?_) | skip
 refine aa (gw ht.typeIs (by decide) (aa (bh (name:=Str.ofString "__getitem__") ht.typeIs aU
  (bo aU ht.typeIs fz (?_:wpAny (model prog w) _ (Builtin.Tuple.tupleItemsOf (.ref t) >>= _) _ _ s) (gd _ _)))))
 refine aa (iX ht (aa (dq hTs ?_)))
 rw[am (by decide)]
 refine aa (HT.sliceApplied_gen hs pl pu ?_)
 have yes:(((HT.sIx items.size 0 lo:Nat):Int)==0&&(1:Int)==1&&(HT.sIx items.size items.size hi - HT.sIx items.size 0 lo)==items.size)=true:=by
  rw[hw.1,hw.2]
  simp
 show wpAny (model prog w) _ (if (((HT.sIx items.size 0 lo:Nat):Int)==0&&(1:Int)==1&&(HT.sIx items.size items.size hi - HT.sIx items.size 0 lo)==items.size)=true then _ else _) _ _ s
 rw[am yes]
 have ex:∀{A:Around}{Q:Bool->Shared->Prop},Q true s->wpAny (model prog w) A (Builtin.Tuple.tupleIsExact (.ref t)) Q E s:=λq=>by
  unfold Builtin.Tuple.tupleIsExact
  exact aa (dq ⟨_,e0,rfl⟩ (ae q))
 refine aa (ex ?_)
 rw[am rfl]
 exact aa (cx (ae ⟨_,rfl,ae h⟩))
def rSlU:V->Option Int->Option Int->Hp->VK->Prop:=λx lo hi H Q=>∃a xs,x= .ref a/\H a=some (.tup xs)/\TupR H (cutV xs lo hi) Q
theorem jHC:SlR X rSlU:=by
 intro lF s σ H x v vl vu lo hi sl Q I rx hs pl pu h
 obtain⟨a,xs,rfl,hx,q⟩:=h
 by_cases hw:HT.sIx xs.length 0 lo=0/\HT.sIx xs.length xs.length hi=xs.length
 ·cases rx
  obtain⟨_,its,r,n,e⟩:=I.hok a _ hx
  have hlen:its.toArray.size=xs.length:=by rw[ak]; exact r.length.symm
  refine⟨"tuple",_,aU.lookup,⟨_,e,rfl⟩,jCT e hs pl pu (by rw[hlen]; exact hw) ⟨.ref a,H,I,rfl,q.old ?_⟩⟩
  rw[hx]
  congr 2
  unfold cutV
  rw[hw.1,hw.2]
  simp
 ·exact jSL lF s σ H _ v vl vu lo hi sl Q I rx hs pl pu ⟨a,xs,rfl,SqT.of hx,hw,λp hp=>q.new hp⟩
theorem Inv.big' {lF:List (Addr×Obj)}{σ:St}{H:Hp}{s:Shared}(I:Inv X lF σ H s):sysModules<s.heap.objs.size:=gx (by decide) (I.mod.glob.keeps I.bk).lt
def jSJ:TE:=λ_ H Q=>∀p,H p=none->Q (.ref p) (upd H p (.dK []))
theorem jIL {pos:Pos} :JE X (.Dict [] [] pos) jSJ:=⟨λlF s σ H Q I h=>
 wpAny_Dict_empty ⟨.ref s.heap.objs.size,_,I.laid (a:=s.heap.objs.size) (o:= .dK []) (t':=s.toks) (λ_ _ q=>ab _ q) (aj _)
  ⟨aS _,dG.mpr (dh (aO I.big')),[], .nil,Heap.DictOf.new s.heap⟩,rfl,h _ (I.hok.fresh (aj _))⟩⟩
theorem jOA {a b c:Expr}{ta tb tc:TE}{pos:Pos}{op op':CmpOp}{r r':R2}(ho:OpR X (compareOp op) r)(ho':OpR X (compareOp op') r')(ha:JE X a ta)(hb:JE X b tb)(hc:JE X c tc)
  (hm:lastMarks [op,op'] [b,c]=false:=by with_unfolding_all rfl):JE X (.Compare a [op,op'] [b,c] pos) (jP2 r r' ta tb tc):=⟨jNW ho ho' ha.h hb.h hc.h hm⟩
theorem jLV {tg a b:Expr}{t:TA}{p pos:Pos}(hg:Gl1 X "range")(hm:X.mg "range" =none)(ha:JA X [a,b] t)(hs:starEach [a,b] X.env=(false,eval a X.env)::starEach [b] X.env)(hs2:starEach [b] X.env=(false,eval b X.env)::starEach [] X.env):
  JI X tg (.Call (.Name "range" p) [a,b] [] pos) (iRng2 t):=⟨jKY hg.a hm ha.h (by rw[hs,hs2]; rfl) hs2⟩
theorem jTR {tg e:Expr}{te:TE}{g:TG}{pos:Pos}(he:JE X e te)(hg:JG X tg g)(hs:swapsWithSole [tg] e pos.line X.env=pure false:=by rfl)(hw:swappedStores [tg] e X.env=pure none:=by rfl)
  (h1:(assignEach [tg] X.env).map (·.2)=[assign tg X.env]:=by rfl):JS X (.Assign [tg] e pos) (tAsg te g):=⟨jPC he.h hg.h hs hw h1⟩
section
variable {K:W.Frag}{σ:St}
theorem jFQ {a:Addr}{xs:List V}(hn:xs.length<sizeLine)(Pv:Addr->Nat->St->Hp->List V->Prop)(h0:∀D,H1 D=none->Pv D 0 (blkσ m σ) (upd H1 D (.lst [])) [])
  (hD:∀D i σ' H' zs,H1 D=none->Pv D i σ' H' zs->H' a=some (.tup xs)/\H' D=some (.lst zs)/\zs.length<=i)
  (hs:∀D i σ' H' zs x,H1 D=none->xs[i]?=some x->Pv D i σ' H' zs->g x σ' H' λσ2 H2=>tt σ2 H2 λb H3=>if b=true then te σ2 H3 λv H4=>H4 D=some (.lst zs)/\Pv D (i+1) σ2 (upd H4 D (.lst (zs++[v]))) (zs++[v]) else Pv D (i+1) σ2 H3 zs)
  (hd:∀D σ' H' zs,H1 D=none->Pv D xs.length σ' H' zs->Q (.ref D) H'):qX m g tt te σ Q (Itt K a) H1:=by
 intro D hDn
 refine⟨λi k σ' H' zs=>k=xs.length - i/\i<=xs.length/\Pv D i σ' H' zs,⟨_,rfl,aS _,h0 D hDn⟩,?_⟩
 rintro i k σ' H' zs ⟨rfl,hi,p⟩
 obtain⟨s1,q1,q2⟩:=hD D i σ' H' zs hDn p
 refine⟨q1,by lia,?_⟩
 by_cases hlt:i<xs.length
 ·refine .inr ⟨⟨xs,xs[i],SqT.of s1,by simp [hlt]⟩,Pv D (i+1),λσ2 H2 zs z=>⟨xs.length - (i+1),by lia,rfl,hlt,z⟩,λv H'' y=>?_⟩
  obtain⟨e1,e2⟩:=y
  subst e1
  exact hs D i σ' _ zs v hDn (e2 xs (SqT.of s1)) p
 ·have e:i=xs.length:=by lia
  subst e
  exact .inl ⟨⟨xs,SqT.of s1,aj _⟩,hd D σ' H' zs hDn p⟩
end
inductive Tr where
 | non
 | bl (b:Bool)
 | int (i:Int)
 | str (x:Str)
 | lst (ts:List Tr)
 | tup (ts:List Tr)
mutual
def TAt (H:Hp):Tr->V->Prop
 | .non,v=>v= .non
 | .bl b,v=>v= .bl b
 | .int i,v=>v= .int i
 | .str x,v=>v= .str x
 | .lst ts,v=>∃a vs,v= .ref a/\H a=some (.lst vs)/\TsAt H ts vs
 | .tup ts,v=>∃a vs,v= .ref a/\H a=some (.tup vs)/\TsAt H ts vs
def TsAt (H:Hp):List Tr->List V->Prop
 | [],vs=>vs=[]
 | t::ts,vs=>∃v r,vs=v::r/\TAt H t v/\TsAt H ts r
end
mutual
def dep:Tr->Nat
 | .lst ts=>deps ts+1
 | .tup ts=>deps ts+1
 | _=>0
def deps:List Tr->Nat
 | []=>0
 | t::ts=>max (dep t) (deps ts)
end
mutual
def eqT:Tr->Tr->Bool
 | .non, .non=>true
 | .bl a, .bl b=>a==b
 | .bl a, .int b=>(if a then 1 else 0)==b
 | .int a, .bl b=>a==(if b then 1 else 0)
 | .int a, .int b=>a==b
 | .str a, .str b=>a==b
 | .lst a, .lst b=>eqTs a b
 | .tup a, .tup b=>eqTs a b
 | _,_=>false
def eqTs:List Tr->List Tr->Bool
 | [],[]=>true
 | a::as,b::bs=>eqT a b&&eqTs as bs
 | _,_=>false
end
mutual
theorem jFM:∀t:Tr,eqT t t=true
 | .non=>by simp [eqT]
 | .bl b=>by simp [eqT]
 | .int i=>by simp [eqT]
 | .str x=>by simp [eqT]
 | .lst ts=>by rw[eqT]; exact jE8 ts
 | .tup ts=>by rw[eqT]; exact jE8 ts
theorem jE8:∀ts:List Tr,eqTs ts ts=true
 | []=>by simp [eqTs]
 | t::ts=>by rw[eqTs,jFM t,jE8 ts]; rfl
end
mutual
theorem TAt.ext {H H':Hp}(e:Ext H H'):∀{t:Tr}{v:V},TAt H t v->TAt H' t v
 | .non,_,h=>h
 | .bl _,_,h=>h
 | .int _,_,h=>h
 | .str _,_,h=>h
 | .lst ts,_,⟨a,vs,q,h,r⟩=>⟨a,vs,q,e _ _ h,TsAt.ext e r⟩
 | .tup ts,_,⟨a,vs,q,h,r⟩=>⟨a,vs,q,e _ _ h,TsAt.ext e r⟩
theorem TsAt.ext {H H':Hp}(e:Ext H H'):∀{ts:List Tr}{vs:List V},TsAt H ts vs->TsAt H' ts vs
 | [],_,h=>h
 | t::ts,_,⟨v,r,q,h,s⟩=>⟨v,r,q,TAt.ext e h,TsAt.ext e s⟩
end
mutual
theorem TAt.inj {H:Hp} :∀{t u:Tr}{v:V},TAt H t v->TAt H u v->t=u
 | .non,u,_,h,h'=>by
  cases (show _=V.non from h)
  cases u with
  | non=>rfl
  | bl b=>cases (show V.non=_ from h')
  | int b=>cases (show V.non=_ from h')
  | str b=>cases (show V.non=_ from h')
  | lst ts=>obtain⟨_,_,q,_⟩:=h'; cases q
  | tup ts=>obtain⟨_,_,q,_⟩:=h'; cases q
 | .bl b,u,_,h,h'=>by
  cases (show _=V.bl b from h)
  cases u with
  | non=>cases (show V.bl b=_ from h')
  | bl b=>cases (show V.bl _=V.bl b from h'); rfl
  | int i=>cases (show V.bl b=V.int i from h')
  | str i=>cases (show V.bl b=V.str i from h')
  | lst ts=>obtain⟨_,_,q,_⟩:=h'; cases q
  | tup ts=>obtain⟨_,_,q,_⟩:=h'; cases q
 | .int b,u,_,h,h'=>by
  cases (show _=V.int b from h)
  cases u with
  | non=>cases (show V.int b=_ from h')
  | bl i=>cases (show V.int b=V.bl i from h')
  | int b=>cases (show V.int _=V.int b from h'); rfl
  | str i=>cases (show V.int b=V.str i from h')
  | lst ts=>obtain⟨_,_,q,_⟩:=h'; cases q
  | tup ts=>obtain⟨_,_,q,_⟩:=h'; cases q
 | .str b,u,_,h,h'=>by
  cases (show _=V.str b from h)
  cases u with
  | non=>cases (show V.str b=_ from h')
  | bl i=>cases (show V.str b=V.bl i from h')
  | int i=>cases (show V.str b=V.int i from h')
  | str b=>cases (show V.str _=V.str b from h'); rfl
  | lst ts=>obtain⟨_,_,q,_⟩:=h'; cases q
  | tup ts=>obtain⟨_,_,q,_⟩:=h'; cases q
 | .lst ts,u,_,⟨a,vs,q,h,r⟩,h'=>by
  subst q
  cases u with
  | non=>cases (show V.ref a=_ from h')
  | bl i=>cases (show V.ref a=V.bl i from h')
  | int i=>cases (show V.ref a=V.int i from h')
  | str i=>cases (show V.ref a=V.str i from h')
  | lst us=>
   obtain⟨a',vs',q',h2,r'⟩:=h'
   cases q'
   rw[h] at h2
   cases h2
   rw[TsAt.inj r r']
  | tup us=>
   obtain⟨a',vs',q',h2,r'⟩:=h'
   cases q'
   rw[h] at h2
   cases h2
 | .tup ts,u,_,⟨a,vs,q,h,r⟩,h'=>by
  subst q
  cases u with
  | non=>cases (show V.ref a=_ from h')
  | bl i=>cases (show V.ref a=V.bl i from h')
  | int i=>cases (show V.ref a=V.int i from h')
  | str i=>cases (show V.ref a=V.str i from h')
  | lst us=>
   obtain⟨a',vs',q',h2,r'⟩:=h'
   cases q'
   rw[h] at h2
   cases h2
  | tup us=>
   obtain⟨a',vs',q',h2,r'⟩:=h'
   cases q'
   rw[h] at h2
   cases h2
   rw[TsAt.inj r r']
theorem TsAt.inj {H:Hp} :∀{ts us:List Tr}{vs:List V},TsAt H ts vs->TsAt H us vs->ts=us
 | [],us,_,h,h'=>by
  cases (show _=[] from h)
  cases us with
  | nil=>rfl
  | cons u us=>obtain⟨_,_,q,_⟩:=h'; cases q
 | t::ts,us,_,⟨v,r,q,h,s⟩,h'=>by
  subst q
  cases us with
  | nil=>cases (show v::r=[] from h')
  | cons u us=>
   obtain⟨v',r',q,h2,s2⟩:=h'
   cases q
   rw[TAt.inj h h2,TsAt.inj s s2]
end
theorem TsAt.len {H:Hp} :∀{ts:List Tr}{vs:List V},TsAt H ts vs->vs.length=ts.length
 | [],_,h=>by cases (show _=[] from h); rfl
 | t::ts,_,⟨v,r,q,_,s⟩=>by rw[q,aP,aP,TsAt.len s]
theorem TsAt.get {H:Hp} :∀{ts:List Tr}{vs:List V},TsAt H ts vs->∀{i:Nat}{v:V},vs[i]?=some v->∃t,ts[i]?=some t/\TAt H t v
 | [],_,h,i,v,e=>by cases (show _=[] from h); cases e
 | t::ts,_,⟨v,r,q,h,s⟩,0,v',e=>by subst q; cases e; exact⟨t,rfl,h⟩
 | t::ts,_,⟨v,r,q,h,s⟩,i+1,v',e=>by subst q; exact TsAt.get s (i:=i) e
theorem jHT:∀ts us:List Tr,eqTs ts us=((List.range (min ts.length us.length)).all (λj=>eqT (ts.getD j .non) (us.getD j .non))&&ts.length==us.length)
 | [],[]=>by simp [eqTs]
 | [],u::us=>by simp [eqTs]
 | t::ts,[]=>by simp [eqTs]
 | t::ts,u::us=>by
  rw[eqTs,jHT ts us,aP,aP,show min (ts.length+1) (us.length+1)=min ts.length us.length+1 by lia,List.range_succ_eq_map,eW,im]
  have e:(ts.length+1==us.length+1)=(ts.length==us.length):=by
   rw[bH]
   simp
  rw[e,Bool.and_assoc]
  rfl
theorem jFO {ts:List Tr}{t:Tr}(h:t∈ts):dep t<=deps ts:=by
 induction ts with
 | nil=>cases h
 | cons a r ih=>
  rw[deps]
  rcases aF.mp h with q | q
  ·subst q; lia
  ·have:=ih q; lia
def flatT:Tr->Bool
 | .lst _=>false
 | .tup _=>false
 | _=>true
theorem jMD {H:Hp}{t:Tr}{x:V}(h:TAt H t x)(f:flatT t=true):flatV x=true:=by
 cases t with
 | non=>cases (show x=_ from h); rfl
 | bl b=>cases (show x=V.bl b from h); rfl
 | int b=>cases (show x=V.int b from h); rfl
 | str b=>cases (show x=V.str b from h); rfl
 | lst ts=>cases f
 | tup ts=>cases f
theorem jS4 {H:Hp}{t u:Tr}{x y:V}(h:TAt H t x)(h':TAt H u y)(f:flatT t=true)(f':flatT u=true):eqV x y=eqT t u:=by
 cases t with
 | non=>
  cases (show x=_ from h)
  cases u with
  | non=>cases (show y=_ from h'); simp [eqV,eqT]
  | bl b=>cases (show y=V.bl b from h'); simp [eqV,eqT]
  | int b=>cases (show y=V.int b from h'); simp [eqV,eqT]
  | str b=>cases (show y=V.str b from h'); simp [eqV,eqT]
  | lst ts=>cases f'
  | tup ts=>cases f'
 | bl c=>
  cases (show x=V.bl c from h)
  cases u with
  | non=>cases (show y=_ from h'); simp [eqV,eqT]
  | bl b=>cases (show y=V.bl b from h'); simp [eqV,eqT]
  | int b=>cases (show y=V.int b from h'); simp [eqV,eqT]
  | str b=>cases (show y=V.str b from h'); simp [eqV,eqT]
  | lst ts=>cases f'
  | tup ts=>cases f'
 | int c=>
  cases (show x=V.int c from h)
  cases u with
  | non=>cases (show y=_ from h'); simp [eqV,eqT]
  | bl b=>cases (show y=V.bl b from h'); simp [eqV,eqT]
  | int b=>cases (show y=V.int b from h'); simp [eqV,eqT]
  | str b=>cases (show y=V.str b from h'); simp [eqV,eqT]
  | lst ts=>cases f'
  | tup ts=>cases f'
 | str c=>
  cases (show x=V.str c from h)
  cases u with
  | non=>cases (show y=_ from h'); simp [eqV,eqT]
  | bl b=>cases (show y=V.bl b from h'); simp [eqV,eqT]
  | int b=>cases (show y=V.int b from h'); simp [eqV,eqT]
  | str b=>cases (show y=V.str b from h'); simp [eqV,eqT]
  | lst ts=>cases f'
  | tup ts=>cases f'
 | lst ts=>cases f
 | tup ts=>cases f
section
variable {lF:List (Addr×Obj)}{σ:St}
theorem TsAt.both {ts us:List Tr}{vs ws:List V}{its its2:List Value}(h1:TsAt H ts vs)(h2:TsAt H us ws)(r1:Vals vs its)(r2:Vals ws its2){j:Nat}(a1:j<its.toArray.size)(a2:j<its2.toArray.size):
  ∃t u x y,ts.getD j .non=t/\us.getD j .non=u/\t∈ts/\TAt H t x/\TAt H u y/\RelV x its.toArray[j]/\RelV y its2.toArray[j]:=by
 have l1:=r1.length
 have l2:=r2.length
 rw[ak] at a1 a2
 obtain⟨x,hx⟩:∃x,vs[j]?=some x:=⟨vs[j]'(by lia),by simp [show j<vs.length by lia]⟩
 obtain⟨y,hy⟩:∃y,ws[j]?=some y:=⟨ws[j]'(by lia),by simp [show j<ws.length by lia]⟩
 obtain⟨t,ht,hxt⟩:=h1.get hx
 obtain⟨u,hu,hyu⟩:=h2.get hy
 obtain⟨v,hv,rv⟩:=r1.get hx
 obtain⟨w,hw,rw'⟩:=r2.get hy
 have e1:its.toArray[j]=v:=by
  have:its[j]?=some its[j]:=by simp [a1]
  rw[hv] at this
  simpa using (bG this).symm
 have e2:its2.toArray[j]=w:=by
  have:its2[j]?=some its2[j]:=by simp [a2]
  rw[hw] at this
  simpa using (bG this).symm
 refine⟨t,u,x,y,by rw[aB,ht]; rfl,by rw[aB,hu]; rfl,az ht,hxt,hyu,by rw[e1]; exact rv,by rw[e2]; exact rw'⟩
theorem jU2 (I:Inv X lF σ H s):∀(n:Nat) (t u:Tr) (x y:V) (vx vy:Value) (A:Around),dep t=n->TAt H t x->TAt H u y->RelV x vx->RelV y vy->A.units+n<cLine->SeqAt.EqAt A s vx vy (eqT t u):=by
 intro n
 induction n using strongRecOn with
 | ind n ih=>
  intro t u x y vx vy A hn ht hu rx ry hc
  have hcu:A.units<cLine:=by lia
  cases ft:flatT t with
  | true=>
   cases fu:flatT u with
   | true=>
    rw[<- jS4 ht hu ft fu]
    exact jQ4 rx ry (jMD ht ft) (jMD hu fu)
   | false=>
    cases u with
    | lst us=>
     obtain⟨b,ws,rfl,hb,_⟩:=hu
     cases ry
     obtain⟨its,_,pl,_⟩:=I.list (SqL.of hb)
     cases t with
     | non=>cases (show x=_ from ht); cases rx; rw[show eqT .non (.lst us)=false by simp [eqT]]; exact .none_list pl.isList hcu
     | bl c=>cases (show x=V.bl c from ht); cases rx; rw[show eqT (.bl c) (.lst us)=false by simp [eqT]]; exact .bool_list c pl.isList hcu
     | int c=>cases (show x=V.int c from ht); obtain⟨k,rfl⟩:=rx; rw[show eqT (.int c) (.lst us)=false by simp [eqT]]; exact .int_list c k pl.isList hcu
     | str c=>cases (show x=V.str c from ht); obtain⟨k,rfl⟩:=rx; rw[show eqT (.str c) (.lst us)=false by simp [eqT]]; exact .str_list c k pl.isList hcu
     | lst ts=>cases ft
     | tup ts=>cases ft
    | tup us=>
     obtain⟨b,ws,rfl,hb,_⟩:=hu
     cases ry
     obtain⟨its,_,pl,_⟩:=I.tuple (SqT.of hb)
     cases t with
     | non=>cases (show x=_ from ht); cases rx; rw[show eqT .non (.tup us)=false by simp [eqT]]; exact .none_tuple pl hcu
     | bl c=>cases (show x=V.bl c from ht); cases rx; rw[show eqT (.bl c) (.tup us)=false by simp [eqT]]; exact .bool_tuple c pl hcu
     | int c=>cases (show x=V.int c from ht); obtain⟨k,rfl⟩:=rx; rw[show eqT (.int c) (.tup us)=false by simp [eqT]]; exact .int_tuple c k pl hcu
     | str c=>cases (show x=V.str c from ht); obtain⟨k,rfl⟩:=rx; rw[show eqT (.str c) (.tup us)=false by simp [eqT]]; exact .str_tuple c k pl hcu
     | lst ts=>cases ft
     | tup ts=>cases ft
    | non=>cases fu
    | bl c=>cases fu
    | int c=>cases fu
    | str c=>cases fu
  | false=>
   cases t with
   | non=>cases ft
   | bl c=>cases ft
   | int c=>cases ft
   | str c=>cases ft
   | lst ts=>
    have ht0:=ht
    obtain⟨a,vs,rfl,ha,hts⟩:=ht
    cases rx
    obtain⟨its,r1,pl,_⟩:=I.list (SqL.of ha)
    cases u with
    | non=>cases (show y=_ from hu); cases ry; rw[show eqT (.lst ts) .non=false by simp [eqT]]; exact .list_none pl.isList hcu
    | bl c=>cases (show y=V.bl c from hu); cases ry; rw[show eqT (.lst ts) (.bl c)=false by simp [eqT]]; exact .list_bool c pl.isList hcu
    | int c=>cases (show y=V.int c from hu); obtain⟨k,rfl⟩:=ry; rw[show eqT (.lst ts) (.int c)=false by simp [eqT]]; exact .list_int c k pl.isList hcu
    | str c=>cases (show y=V.str c from hu); obtain⟨k,rfl⟩:=ry; rw[show eqT (.lst ts) (.str c)=false by simp [eqT]]; exact .list_str c k pl.isList hcu
    | tup us=>
     obtain⟨b,ws,rfl,hb,_⟩:=hu
     cases ry
     obtain⟨its2,_,pl2,_⟩:=I.tuple (SqT.of hb)
     rw[show eqT (.lst ts) (.tup us)=false by simp [eqT]]
     exact .list_tuple pl.isList pl2 hcu
    | lst us=>
     have hu0:=hu
     obtain⟨b,ws,rfl,hb,hus⟩:=hu
     cases ry
     by_cases e:a=b
     ·subst e
      rw[<- TAt.inj ht0 hu0,jFM]
      exact .same _
     ·obtain⟨its2,r2,pl2,_⟩:=I.list (SqL.of hb)
      refine .of_refs e ?_
      have l1:=r1.length
      have l2:=r2.length
      have m1:=hts.len
      have m2:=hus.len
      rw[eqT,jHT]
      by_cases hl:ts.length=us.length
      ·have key:=SeqAt.RcAt.lists (e:=λj=>eqT (ts.getD j .non) (us.getD j .non)) pl.isList pl2.isList (by rw[ak,ak]; lia) hcu λj a1 a2=>by
        obtain⟨t',u',x',y',e1,e2,hm,q1,q2,q3,q4⟩:=TsAt.both hts hus r1 r2 a1 a2
        rw[e1,e2]
        have hd:=jFO hm
        have hn':deps ts+1=n:=by rw[<- hn,dep]
        exact ih (dep t') (by lia) t' u' x' y' _ _ _ rfl q1 q2 q3 q4 (by rw[cE]; lia)
       have ez:its.toArray.size=min ts.length us.length:=by rw[ak]; lia
       rw[ez] at key
       rw[show (ts.length==us.length)=true by simp [hl],i4]
       exact key
      ·rw[show (ts.length==us.length)=false by simp [hl],bV]
       refine SeqAt.RcAt.lists_lengths pl.isList pl2.isList ?_ hcu
       rw[ak,ak]
       simp
       lia
   | tup ts=>
    have ht0:=ht
    obtain⟨a,vs,rfl,ha,hts⟩:=ht
    cases rx
    obtain⟨its,r1,pl,_⟩:=I.tuple (SqT.of ha)
    cases u with
    | non=>cases (show y=_ from hu); cases ry; rw[show eqT (.tup ts) .non=false by simp [eqT]]; exact .tuple_none pl hcu
    | bl c=>cases (show y=V.bl c from hu); cases ry; rw[show eqT (.tup ts) (.bl c)=false by simp [eqT]]; exact .tuple_bool c pl hcu
    | int c=>cases (show y=V.int c from hu); obtain⟨k,rfl⟩:=ry; rw[show eqT (.tup ts) (.int c)=false by simp [eqT]]; exact .tuple_int c k pl hcu
    | str c=>cases (show y=V.str c from hu); obtain⟨k,rfl⟩:=ry; rw[show eqT (.tup ts) (.str c)=false by simp [eqT]]; exact .tuple_str c k pl hcu
    | lst us=>
     obtain⟨b,ws,rfl,hb,_⟩:=hu
     cases ry
     obtain⟨its2,_,pl2,_⟩:=I.list (SqL.of hb)
     rw[show eqT (.tup ts) (.lst us)=false by simp [eqT]]
     exact .tuple_list pl pl2.isList hcu
    | tup us=>
     have hu0:=hu
     obtain⟨b,ws,rfl,hb,hus⟩:=hu
     cases ry
     by_cases e:a=b
     ·subst e
      rw[<- TAt.inj ht0 hu0,jFM]
      exact .same _
     ·obtain⟨its2,r2,pl2,_⟩:=I.tuple (SqT.of hb)
      refine .of_refs e ?_
      have l1:=r1.length
      have l2:=r2.length
      have m1:=hts.len
      have m2:=hus.len
      rw[eqT,jHT]
      have key:=SeqAt.RcAt.tuples (e:=λj=>eqT (ts.getD j .non) (us.getD j .non)) pl pl2 hcu λj a1 a2=>by
       obtain⟨t',u',x',y',e1,e2,hm,q1,q2,q3,q4⟩:=TsAt.both hts hus r1 r2 a1 a2
       rw[e1,e2]
       have hd:=jFO hm
       have hn':deps ts+1=n:=by rw[<- hn,dep]
       exact ih (dep t') (by lia) t' u' x' y' _ _ _ rfl q1 q2 q3 q4 (by rw[cE]; lia)
      have z1:its.toArray.size=ts.length:=by rw[ak]; lia
      have z2:its2.toArray.size=us.length:=by rw[ak]; lia
      rw[z1,z2] at key
      exact key
theorem Room.units101 {k:Nat}{A:Around}(r:Room k A):A.units+101<cLine:=by have:=r.un; lia
end
section
variable {tg iter elt:Expr}{ifs:List Expr}{wi:TI}
end
section
variable {sc2:Scope}{cl2:List (Str×Addr)}{C2:Addr}{Nc2:List Str}{fp2:List Addr}{s2:Shared}{H2:Hp}
end
def rAny (K:W.Frag):List V->Hp->VK->Prop:=λxs H Q=>∃(p:Addr) (bs:List Bool),xs=[.ref p]/\SqL K H p (bs.map V.bl)/\Q (.bl (bs.any id)) H
theorem jMY (hc:X.calm=true):yT X (.builtin "any") (rAny X.K):=by
 intro lF s σ H xs us Q I r h
 obtain⟨p,bs,rfl,hq,q⟩:=h
 obtain⟨u,rfl,rx⟩:=r.one
 cases rx
 obtain⟨its,r',pl,hz⟩:=I.list hq
 have hlen:=r'.length
 rw[af] at hlen
 refine call_any_walk (cU pl.isList ?_)
 have hne:p≠s.heap.objs.size:=by
  obtain⟨o,ho,_⟩:=pl.isList
  exact aO (aq ho)
 refine⟨s.heap.objs.size,_,_,_,_,_,λi=>bs.getD i true,rfl,iw (by simpa using I.ok.hd hc) _ p hne its.toArray,⟨⟨_,ao _ rfl,rfl,rfl⟩,pl.isList.push _⟩,λi v z Q' E' hP hQ'=>?_,λh' tk hk=>?_⟩
 ·have hi:its[i]?=some v:=by simpa using hP
  have hb:i<bs.length:=by
   rw[hlen]
   exact(ah.mp hi).1
  obtain⟨u,hu,ru⟩:=r'.get (i:=i) (x:= .bl (bs[i])) (by simp [hb])
  rw[hi] at hu
  cases hu
  cases ru
  have e:bs.getD i true=bs[i]:=by simp [List.getD,hb]
  have hQ2:Q' (bs.getD i true) z:=hQ'
  rw[e] at hQ2
  exact ae hQ2
 ·have e:(List.range its.toArray.size).any (λi=>bs.getD i true)=bs.any id:=by
   rw[ak,<- hlen]
   rw[bH,df,df]
   constructor
   ·rintro ⟨i,hi,hb⟩
    have hi:=be.mp hi
    exact⟨bs[i],de hi,by simpa [List.getD,hi] using hb⟩
   ·rintro ⟨b,hb,hq⟩
    obtain⟨i,hi,rfl⟩:=cr hb
    exact⟨i,be.mpr hi,by simpa [List.getD,hi] using hq⟩
  rw[e]
  exact⟨.bl _,H,I.kept (t':=tk) λb o e=>hk b o (by
   intro z
   have z:b=s.heap.objs.size:=by simpa using z
   exact absurd (aq e) (by rw[z]; exact cJ _)) (ab _ e),rfl,q⟩
theorem jR2 (hu:X.A.units<cLine):OpR X (compareOp .NotEq) (λx y H Q=>∃p q xs,x= .ref p/\y= .ref q/\H p=some (.lst xs)/\H q=some (.lst [])/\Q (.bl (!decide (xs=[]))) H):=by
 intro lF s σ H x y v u Q I rx ry h
 obtain⟨p,q,xs,rfl,rfl,hp,hq,k⟩:=h
 cases rx
 cases ry
 obtain⟨its,r1,p1,_⟩:=I.list (SqL.of hp)
 obtain⟨its2,r2,p2,_⟩:=I.list (SqL.of hq)
 have l1:=r1.length
 have l2:its2.length=0:=r2.length.symm
 by_cases hl:xs=[]
 ·subst hl
  have l1:its.length=0:=r1.length.symm
  refine SeqAt.RcNeAt.lists (e:=λ_=>true) p1.isList p2.isList (by rw[ak,ak]; lia) hu (λj a1 a2=>absurd a2 (by rw[ak]; lia)) _ _ _ _ ⟨.bl _,H,I,rfl,?_⟩
  have ez:its.toArray.size=0:=by rw[ak]; lia
  rw[ez]
  exact k
 ·refine SeqAt.RcNeAt.lists_lengths p1.isList p2.isList ?_ hu _ _ _ _ ⟨.bl _,H,I,rfl,?_⟩
  ·rw[ak,ak]
   have:xs.length≠0:=λe=>hl (cz.mp e)
   simp
   lia
  ·rw[aI hl] at k
   exact k
theorem jD9 {prog:Program}{w:World}{A:Around}{E:Value->Shared->Prop}{s:Shared}{sl:Addr}{vs:Value}{n:Nat}{Q:Int×Int×Nat->Shared->Prop}(hs:s.heap.IsSliceOf sl .none .none vs)(ps:IsPart vs (some (-1)))
  (h:Q (((n:Int) - 1), -1,n) s):wpAny (model prog w) A (Builtin.Slice.sliceApplied (.ref sl) (pure (n:Int))) Q E s:=by
 obtain⟨os,hos,hcs,hds⟩:=id hs
 unfold Builtin.Slice.sliceApplied Builtin.Slice.sliceFields
 refine aa (aa (bC hos hds (x:= .none) rfl (aa (bC hos hds (x:= .none) rfl (aa (bC hos hds (x:=vs) rfl (ae ?_)))))))
 refine aa (HT.slicePart_ ps ?_)
 show wpAny _ _ (if ((-1:Int)==0)=true then _ else _) _ _ s
 rw[ai (by decide)]
 refine aa (fe (aa (fe (aa (ae ?_)))))
 show wpAny _ _ (pure (((n:Int) - 1),(-1:Int),Builtin.Slice.slicePlaces ((n:Int) - 1) (-1) (-1))) _ _ s
 have e:Builtin.Slice.slicePlaces ((n:Int) - 1) (-1) (-1)=n:=by
  unfold Builtin.Slice.slicePlaces
  rw[ai (by decide)]
  have:(-(-1:Int))=1:=rfl
  rw[this]
  split <;> lia
 rw[e]
 exact ae h
theorem jBN {α β:Type}{f:α->Option β}{g:α->β} :∀{l:List α},(∀k∈l,f k=some (g k))->l.filterMap f=l.map g
 | [],_=>rfl
 | a::r,h=>by
  rw[cI,h a ax,bg,jBN λk hk=>h k (ay _ hk)]
theorem jNO (xs:List Value):((List.range xs.length).filterMap λ(k:Nat)=>xs.toArray[(((xs.length:Int) - 1)+(k:Int)*(-1)).toNat]?)=xs.reverse:=by
 rw[jBN (g:=λk=>xs.reverse.getD k .none) λk hk=>?_]
 ·apply List.ext_getElem
  ·simp
  ·intro i h1 h2
   have h3:i<xs.length:=by simpa using h2
   simp [List.getD,h3]
 ·have hk:=be.mp hk
  have e1:(((xs.length:Int) - 1)+(k:Int)*(-1)).toNat=xs.length - 1 - k:=by lia
  rw[e1]
  have h1:xs.length - 1 - k<xs.length:=by lia
  simp [List.getD,hk,h1]
theorem jAU {prog:Program}{w:World}{A:Around}{E:Value->Shared->Prop}{s:Shared}{t sl:Addr}{its:List Value}{n:Nat}{vs:Value}{Q:Value->Shared->Prop}
  (e0:s.heap.get? t=some { cls:= .type "tuple",data:= .seq its.toArray n}) (hs:s.heap.IsSliceOf sl .none .none vs) (ps:IsPart vs (some (-1))) (hz:its.length<=sizeLine)
  (h:Q (.ref s.heap.objs.size) { s with heap:=s.heap.push { cls:= .type "tuple",data:= .seq its.reverse.toArray}}):wpAny (model prog w) A (getItem (.ref t) (.ref sl)) Q E s:=by
 have ht:IsTup s.heap t its.toArray:=⟨_,e0,rfl,n,rfl⟩
 obtain⟨os,hos,hcs,hds⟩:=id hs
 have hTs:s.TypeIs (.ref sl) "slice" :=⟨os,hos,hcs⟩
 have htake:sizeOk (.seq its.reverse.toArray):=by
  show its.reverse.toArray.size<=sizeLine
  rw[ak,fB]
  exact hz
 unfold getItem
 try with_reducible refine bD ?_
 first | refine aa (ae ?_) | skip
 refine aa (gw ht.typeIs (by decide) (aa (bh (name:=Str.ofString "__getitem__") ht.typeIs aU
  (bo aU ht.typeIs fz (?_:wpAny (model prog w) _ (Builtin.Tuple.tupleItemsOf (.ref t) >>= _) _ _ s) (gd _ _)))))
 refine aa (iX ht (aa (dq hTs ?_)))
 rw[am (by decide)]
 refine aa (jD9 (n:=its.toArray.size) hs ps ?_)
 have hno:¬((((its.toArray.size:Int) - 1)==0&&(-1:Int)==1&&its.toArray.size==its.toArray.size)=true):=by
  intro q
  rw[bE,bE] at q
  exact absurd q.1.2 (by decide)
 show wpAny _ _ (if (((its.toArray.size:Int) - 1)==0&&(-1:Int)==1&&its.toArray.size==its.toArray.size)=true then _ else _) _ _ s
 rw[ai hno,ak,jNO]
 first
  | exact aa (m:=Builtin.Tuple.tupleExact _) (bj (ae ⟨_,rfl,ae h⟩) htake)
  | exact aa (m:=Builtin.Tuple.tupleExact _) (bj (aa (ae (ae ⟨_,rfl,ae h⟩))) htake)
  | exact aa (aa (m:=Builtin.Tuple.tupleExact _) (bj (ae (ae ⟨_,rfl,ae h⟩)) htake))
  | exact aa (aa (m:=Builtin.Tuple.tupleExact _) (bj (ae ⟨_,rfl,ae h⟩) htake))
def tRev (te:TE)(ts:TO):TE:=λσ H Q=>te σ H λx H1=>ts σ H1 λo H2=>o=some (-1)/\∃a xs,x= .ref a/\H2 a=some (.tup xs)/\TupR H2 xs.reverse Q
theorem jTT {e st:Expr}{te:TE}{ts:TO}{p2 pos:Pos}(he:JE X e te)(hst:JO X (some st) ts):JE X (.Subscript e (.Slice none none (some st) p2) pos) (tRev te ts):=⟨by
 intro lF s σ H Q I h
 refine jn (lJ (he.h lF s σ H _ I h) λv s1 ⟨x,H1,I1,r1,q1⟩=>?_)
 refine wpAny_Slice ?_
 rw[iY]
 refine ae (ae (lJ (hst.h lF s1 σ H1 _ I1 q1) λvst s2 ⟨o,H2,I2,ps,eo,a,xs,ex,hx,q⟩=>?_))
 subst eo
 subst ex
 cases r1
 have I4:Inv X lF σ H2 { s2 with heap:=s2.heap.push { cls:= .type "slice",data:= .fields #[.none, .none,vst]}} :=I2.kept (t':=s2.toks) λb ob q=>ab _ q
 obtain⟨hz,its,r,n,e0⟩:=I4.hok a _ hx
 have hlen:=r.length
 show wpAny (model X.prog X.w) X.A (subscriptTail e (.Slice none none (some st) p2) (.ref a) (.ref s2.heap.objs.size)) (EP X lF σ Q) X.xe { s2 with heap:=s2.heap.push { cls:= .type "slice",data:= .fields #[.none, .none,vst]}}
 refine tail_any (ops:=[.ref a, .ref s2.heap.objs.size]) ⟨_,e0,rfl⟩ aU.lookup ?_ (by with_unfolding_all rfl)
 refine jAU e0 (ge ..) ps (by lia) ?_
 refine⟨.ref _,_,I4.laid (t':=s2.toks) (o:= .tup xs.reverse) (λb ob q=>ab _ q) (aj _) ⟨by rw[fB]; exact hz,its.reverse,r.reverse,TupO.new _ _⟩,rfl,q.new (I4.hok.fresh (aj _))⟩⟩
theorem jO9 {c:Expr}{body:List Stmt}{tc:TT}{tb:TS}{pos:Pos}(hp:PassesOwn (model X.prog X.w) X.A X.env X.xe)(hc:JT X c tc)(hb:JSs X body tb):JS X (.While c body [] pos) (jP0 tc tb):=⟨jNQ hp hc.h hb.h⟩
theorem jPK {op:CmpOp}{a b:Expr}{pos:Pos} :behindInMarks op (.Subscript a b pos)=false:=by cases op <;> rfl
theorem jU1 {xs:List Expr}{pos:Pos} :FoOk (.List xs pos):=⟨λ_ _=>rfl⟩
end L2
namespace L2
open PySem
theorem jQE {es:List Expr}{env:Env}{pos:Pos}{ks:List (Option Expr)}{vs:List Expr} :starEach (.Dict ks vs pos::es) env=(false,eval (.Dict ks vs pos) env)::starEach es env:=rfl
def LstR (H:Hp)(xs:List V)(Q:VK):Prop:=∀r H',H' r=some (.lst xs)->Ext H H'->H r=none->Q (.ref r) H'
theorem LstR.new {H:Hp}{xs:List V}{Q:VK}(q:LstR H xs Q){p:Addr}(hp:H p=none):Q (.ref p) (upd H p (.lst xs)):=q p _ j6 ((Ext.refl H).new hp _) hp
def tTupU (t:TA):TE:=λσ H Q=>t σ H λxs H1=>xs.length<=sizeLine/\TupR H1 xs Q
def tLstU (t:TA):TE:=λσ H Q=>t σ H λxs H1=>xs.length<=sizeLine/\LstR H1 xs Q
section
variable {X:Cx}{es:List Expr}{t:TA}{pos:Pos}
theorem kZ {x1}(h:JA X es t):JE X (.Tuple es x1 pos) (tTupU t):=⟨λlF s σ H Q I hq=>by
 refine wpAny_Tuple_spliced (lJ (h.h pos lF s σ H _ I hq) λus s1 ⟨xs,H1,I1,r,z,q⟩=>⟨by rw[<- r.length]; exact z,?_⟩)
 have hf:H1 s1.heap.objs.size=none:=I1.hok.fresh (aj _)
 exact⟨.ref s1.heap.objs.size,upd H1 s1.heap.objs.size (.tup xs),I1.laid (t':=s1.toks) (λb u e=>ab _ e) (aj _) ⟨z,us,r,TupO.new _ _⟩,rfl,q.new hf⟩⟩
theorem yB (h:JA X es t):JE X (.List es pos) (tLstU t):=⟨λlF s σ H Q I hq=>by
 refine wpAny_List_spliced (lJ (h.h pos lF s σ H _ I hq) λus s1 ⟨xs,H1,I1,r,z,q⟩=>⟨by rw[<- r.length]; exact z,?_⟩)
 have hf:H1 s1.heap.objs.size=none:=I1.hok.fresh (aj _)
 exact⟨.ref s1.heap.objs.size,upd H1 s1.heap.objs.size (.lst xs),I1.laid (t':=s1.toks) (λb u e=>ab _ e) (aj _) ⟨z,us,0,r,ao _ rfl⟩,rfl,q.new hf⟩⟩
theorem jK3:yT X (.type "list") (λxs H Q=>∃p ys,xs=[.ref p]/\H p=some (.tup ys)/\LstR H ys Q):=by
 intro lF s σ H xs us Q I r h
 obtain⟨p,ys,rfl,hp,q⟩:=h
 exact jGV lF s σ H _ us Q I r ⟨p,ys,rfl, .inr (SqT.of hp),λl hl=>q.new hl⟩
theorem yG:OpR X (binaryOp .Add) (λx y H Q=>∃l b xs zs,x= .ref l/\y= .ref b/\H l=some (.lst xs)/\H b=some (.lst zs)/\xs.length+zs.length<=sizeLine/\LstR H (xs++zs) Q):=by
 intro lF s σ H x y v u Q I rx ry h
 obtain⟨l,b,xs,zs,rfl,rfl,h1,h2,h3,q⟩:=h
 exact jTC lF s σ H _ _ v u Q I rx ry ⟨l,b,xs,zs,rfl,rfl,h1,h2,h3,λp hp=>q.new hp⟩
end
end L2
namespace L2
open PySem PySem.Spec PyProof.Rows
variable {X:Cx}
theorem jHV {prog:Program}{w:World}{A:Around}{E:Value->Shared->Prop}{s:Shared}{l:Addr}{vs:List Value}{n:Nat}{Q:List Value->Shared->Prop}(ho:s.heap.get? l=some { cls:= .type "tuple",data:= .seq vs.toArray n})
  (h:Q vs { s with heap:=(s.heap.push (seqObj "list" #[] 0)).update s.heap.objs.size (Obj.mapSeq (· ++vs.toArray))}) (hsz:vs.length<=sizeLine):
  wpAny (model prog w) A (collect (.ref l)) Q E s:=by
 unfold collect
 refine aa (gz (bZ entry_proto_collect' ?_))
 show wpAny _ _ (do again (.builtin "list.__iadd__" ⟨[<- newList [], .ref l],[]⟩)) _ _ s
 refine aa (eY (ae ⟨iu _ (by decide+kernel),bZ entry_list_iadd' ?_⟩))
 show wpAny _ _ (Builtin.List.listExtendWith (.ref s.heap.objs.size) (.ref l) (.ref s.heap.objs.size)) _ _ { s with heap:=s.heap.push (seqObj "list" #[] 0)}
 unfold Builtin.List.listExtendWith
 have ho':(s.heap.push (seqObj "list" #[] 0)).get? l=some { cls:= .type "tuple",data:= .seq vs.toArray n} :=ab _ ho
 refine aa (dq (T:= "tuple") ⟨_,ho',rfl⟩ ?_)
 have ht:(Value.type "tuple" ==Value.type "tuple")=true:=by rfl
 rw[am (by rw[ht,Bool.or_true])]
 refine aa (gA ho' rfl ?_)
 refine aa (gA (xs:=#[]) (n:=0) (ao _ rfl) rfl ?_)
 rw[ai (by simp)]
 refine aa (d0 (xs:=#[]) (n:=0) (ao _ rfl) rfl ?_ (aS _) (by show (#[]++vs.toArray).size<=sizeLine+1; simp only [Array.size_append,ak,dF]; lia))
 refine ae ?_
 show wpAny (model prog w) A (do
   let o <- load s.heap.objs.size
   match o.data with
   | .seq xs _=>pure xs.toList
   | _=>unsupported "internal:collect") Q E { s with heap:=(s.heap.push (seqObj "list" #[] 0)).update s.heap.objs.size (Obj.mapSeq (· ++vs.toArray))}
 refine aa (ga (fY (ao _ rfl) _) ?_)
 show wpAny _ _ (pure ((#[]:Array Value)++vs.toArray).toList) Q E _
 rw[show ((#[]:Array Value)++vs.toArray).toList=vs by simp]
 exact ae h
theorem jJE {prog:Program}{w:World}{A:Around}{E:Value->Shared->Prop}{s:Shared}{l:Addr}{vs:List Value}{ns:List Int}{n:Nat}{Q:Value->Shared->Prop}(ho:s.heap.get? l=some { cls:= .type "tuple",data:= .seq vs.toArray n})(hI:IntsAre vs ns)(h64:vs.length<64)
  (h:∀(out:Array Value) (ns':List Int),IntsAre out.toList ns'->ns'.Perm ns->ns'.Pairwise (· <= ·)->Q (.ref (s.heap.objs.size+1)) { s with heap:=sortedAll s.heap vs out}):
  wpAny (model prog w) A (call (.builtin "sorted") [.ref l]) Q E s:=by
 refine fo kind_sorted plain_sorted entry_sorted (args_sorted1 _) ?_
 unfold Builtin.«sorted»
 refine aa (m:=checkCount "sorted" 1 1 _) (ae ?_)
 refine aa (jHV ho ?_ (by rw[fc]; lia))
 refine aa (eY ?_ (by rw[fc]; lia))
 have hsz:((s.heap.push (seqObj "list" #[] 0)).update s.heap.objs.size (Obj.mapSeq (· ++vs.toArray))).objs.size=s.heap.objs.size+1:=by
  rw[jd,iA]
 have hoL:(((s.heap.push (seqObj "list" #[] 0)).update s.heap.objs.size (Obj.mapSeq (· ++vs.toArray))).push (seqObj "list" vs.toArray 0)).get? (s.heap.objs.size+1)=some (seqObj "list" vs.toArray 0):=by
  rw[<- hsz]; exact ao _ rfl
 show wpAny _ _ _ _ _ { s with heap:=((s.heap.push (seqObj "list" #[] 0)).update s.heap.objs.size (Obj.mapSeq (· ++vs.toArray))).push (seqObj "list" vs.toArray 0)}
 rw[hsz]
 refine aa (bD (bo iy ⟨_,hoL,rfl⟩ hV (list_sort_tree hoL hI h64 λout ns' a1 a2 a3=>⟨_,rfl,?_⟩) (args_list_sort _)))
 exact ae ⟨_,rfl,h out ns' a1 a2 a3⟩
theorem jD6:yT X (.builtin "sorted") (λxs H Q=>∃(p:Addr) (ks:List Int),xs=[.ref p]/\H p=some (.tup (ks.map V.int))/\ks.length<64/\
  ∀(l:Addr) (ns:List Int),H l=none->ns.Pairwise (· <= ·)->ns.Perm ks->Q (.ref l) (upd H l (.lst (ns.map V.int)))):=by
 intro lF s σ H xs us Q I r h
 obtain⟨p,ks,rfl,hp,hn,q⟩:=h
 obtain⟨u,rfl,rx⟩:=r.one
 cases rx
 obtain⟨_,its,r',n,e0⟩:=I.hok p _ hp
 have hlen:=r'.length
 rw[af] at hlen
 refine jJE e0 (jCZ r') (by lia) λout ns' a1 a2 a3=>?_
 obtain⟨e,he⟩:=sortedAll_at s.heap its out
 have hz:(ns'.map V.int).length<=sizeLine:=by
  rw[af,a2.length_eq,fc]
  lia
 have I2:Inv X lF σ (upd H (s.heap.objs.size+1) (.lst (ns'.map V.int))) { s with heap:=sortedAll s.heap its out} :=I.laid (t':=s.toks) (λb o e=>sortedAll_old e) (g0 _) ⟨hz,out.toList,e,jB7 a1,by rw[dU]; exact he⟩
 exact⟨.ref _,_,I2,rfl,q _ ns' (I.hok.fresh (g0 _)) a3 a2⟩
theorem jDV (ns:List Int):∀j,preSum (λi=>ns.getD i 0) j=(ns.take j).sum
 | 0=>rfl
 | j+1=>by
  rw[preSum,jDV ns j,bN,List.sum_append]
  congr 1
  rw[aB]
  cases ns[j]? with
  | none=>rfl
  | some z=>simp
section
def rSum (K:W.Frag):List V->Hp->VK->Prop:=λxs H Q=>∃(p:Addr) (ns:List Int),xs=[.ref p]/\(SqL K H p (ns.map V.int))/\Q (.int ns.sum) H
theorem jCC (hc:X.calm=true):yT X (.builtin "sum") (rSum X.K):=by
 intro lF s σ H xs us Q I r h
 obtain⟨p,ns,rfl,hq,q⟩:=h
 obtain⟨u,rfl,rx⟩:=r.one
 cases rx
 obtain⟨its,r',pl,hz⟩:=I.list hq
 have hlen:=r'.length
 rw[af] at hlen
 refine call_sum_walkG (cU pl.isList ?_)
 have hne:p≠s.heap.objs.size:=by
  obtain⟨o,ho,_⟩:=pl.isList
  exact aO (aq ho)
 refine⟨s.heap.objs.size,_,_,_,_,_,λi=>ns.getD i 0,rfl,iw (by simpa using I.ok.hd hc) _ p hne its.toArray,⟨⟨_,ao _ rfl,rfl,rfl⟩,pl.isList.push _⟩,(λb hb=>?_),(λi v hP=>?_),λh' tk t' hk=>?_⟩
 ·show b<(s.heap.push _).objs.size
  rw[bR]
  obtain⟨o,ho,_⟩:=pl.isList
  have:=aq ho
  rcases aF.mp hb with rfl | hb
  ·exact gP _
  ·rcases aF.mp hb with rfl | hb
   ·exact bK this
   ·cases hb
 ·have hi:its[i]?=some v:=by simpa using hP
  have hb:i<ns.length:=by
   rw[hlen]
   exact(ah.mp hi).1
  obtain⟨u,hu,ru⟩:=r'.get (i:=i) (x:= .int (ns[i])) (by simp [hb])
  rw[hi] at hu
  cases hu
  obtain⟨t,rfl⟩:=ru
  exact⟨t,by simp [List.getD,hb]⟩
 ·have e:preSum (λi=>ns.getD i 0) its.toArray.size=ns.sum:=by
   rw[jDV,ak,<- hlen,cF]
  rw[e]
  exact⟨.int _,H,I.kept (t':=tk) λb o e=>hk b o (by
   intro z
   have z:b=s.heap.objs.size:=by simpa using z
   exact absurd (aq e) (by rw[z]; exact cJ _)) (ab _ e),⟨_,rfl⟩,q⟩
variable {sc:Scope}{cl:List (Str×Addr)}{C:Addr}{Nc:List Str}{fp:List Addr}{s:Shared}{H:Hp}
end
theorem jK4 (a b:Nat):Builtin.bitAnd (a:Int) (b:Int)=((a&&&b:Nat):Int):=by
 unfold Builtin.bitAnd
 rw[ar (gb a),ar (gb b)]
 rfl
theorem jN4 (a b:Nat):Builtin.bitOr (a:Int) (b:Int)=((a|||b:Nat):Int):=by
 unfold Builtin.bitOr
 have ha:Builtin.bitNot (a:Int)= -(a:Int) - 1:=by unfold Builtin.bitNot; lia
 have hb:Builtin.bitNot (b:Int)= -(b:Int) - 1:=by unfold Builtin.bitNot; lia
 have na:¬(0<=Builtin.bitNot (a:Int)):=by rw[ha]; lia
 have nb:¬(0<=Builtin.bitNot (b:Int)):=by rw[hb]; lia
 unfold Builtin.bitAnd
 rw[aI na,aI nb]
 have ea:Builtin.bitNot (Builtin.bitNot (a:Int))=(a:Int):=by rw[ha]; unfold Builtin.bitNot; lia
 have eb:Builtin.bitNot (Builtin.bitNot (b:Int))=(b:Int):=by rw[hb]; unfold Builtin.bitNot; lia
 show Builtin.bitNot (Builtin.bitNot _)=_
 rw[ea,eb]
 unfold Builtin.bitNot
 simp
 lia
def maskN (ts:List Int):Nat:=(ts.map λt=>2 ^ t.toNat).sum
theorem jIH:∀(ts:List Int) (lo:Nat),ts.Pairwise (· < ·)->(∀t∈ts,(lo:Int)<=t)->maskN ts % 2 ^ lo=0
 | [],_,_,_=>by simp [maskN]
 | t::r,lo,hp,hl=>by
  have ih:=jIH r lo (eG.mp hp).2 λx hx=>hl x (ay _ hx)
  have h0:=hl t (ax ..)
  have e:maskN (t::r)=2 ^ t.toNat+maskN r:=by simp [maskN]
  have d:2 ^ t.toNat % 2 ^ lo=0:=Nat.mod_eq_zero_of_dvd (Nat.pow_dvd_pow 2 (by lia))
  rw[e,Nat.add_mod,ih,d]
  simp
theorem jAE:∀(ts:List Int) (n:Nat),ts.Pairwise (· < ·)->(∀t∈ts,0<=t)->(maskN ts).testBit n=decide ((n:Int)∈ts)
 | [],n,_,_=>by simp [maskN]
 | t::r,n,hp,h0=>by
  obtain⟨h1,h2⟩:=eG.mp hp
  have ih:=jAE r n h2 λx hx=>h0 x (ay _ hx)
  have ht:=h0 t (ax ..)
  obtain⟨k,rfl⟩:∃k:Nat,t=(k:Int):=⟨t.toNat,by lia⟩
  have e:maskN ((k:Int)::r)=2 ^ k+maskN r:=by simp [maskN]
  have m0:maskN r % 2 ^ (k+1)=0:=jIH r (k+1) h2 λx hx=>by have:=h1 x hx; lia
  obtain⟨c,hc⟩:∃c,maskN r=2 ^ (k+1)*c:=(Nat.dvd_of_mod_eq_zero m0)
  have hor:2 ^ k+maskN r=maskN r|||2 ^ k:=by
   rw[hc,Nat.mul_comm,<- Nat.shiftLeft_eq,Nat.shiftLeft_add_eq_or_of_lt (b:=2 ^ k) (i:=k+1) (ko (by decide) (by lia)) c |>.symm,jo]
  rw[e,hor,gB,ih,ic]
  by_cases hk:k=n
  ·subst hk
   simp
  ·have:¬((n:Int)=(k:Int)):=by lia
   simp [hk,this]
end L2
namespace L2
open PySem
variable {X:Cx}
section
variable {tg iter elt:Expr}{ifs:List Expr}{sc:Scope}{pos:Pos}{wi:TI}{g:TG}{tt:TT}{te:TE}{m:List (Option Nat)}{Nc:List Str}
theorem jOI (hc:X.calm=true)(hi:PI X tg iter wi)(hkind:sc.kind= .function)(hcell:∀y∈sc.names,y.2≠ .cell)(hnames:∀y∈sc.names,y.2= .local->sc.names.lookup y.1=some .local)
  (hfree:∀y∈sc.names,y.2= .free->X.env.scope.names.lookup y.1=some .cell\/X.env.scope.names.lookup y.1=some .free) (hm:jD8 X sc Nc m)
  (hg:∀cl C fp s H,PG (blk X sc cl C Nc fp s H) tg g) (ht:∀cl C fp s H,PTs (blk X sc cl C Nc fp s H) ifs tt) (he:∀cl C fp s H,PE (blk X sc cl C Nc fp s H) elt te)
  (hs:∀x,foldedSetIterable iter X.env x=pure x) {fpos:Pos}{use:Option (Value->Sem Unit)}{R:Value->Shared->Prop}{lF:List (Addr×Obj)}{s:Shared}{σ:St}{H:Hp}{Q:VK}(I:Inv X lF σ H s) (h:tComp m wi g tt te σ H Q)
  (fin:∀(D C:Addr) (H5:Hp) (z1:Shared) (r:Flow),(∃mm,z1.heap.Ns C mm)->FpOk X lF H5 C->(∀h',Heap.SameBut C z1.heap h'->Inv X lF σ H5 { z1 with heap:=h'})->Q (.ref D) H5->compPost (model X.prog X.w) X.A X.xe use R (.ref D) C (.ok r) z1):
  wpAny (model X.prog X.w) X.A (comprehension (.ListComp elt [⟨tg,iter,ifs,0⟩] sc pos) sc X.env fpos (newList []) false (eval iter X.env) use) R X.xe s:=
 jJ1 (tf:=λ_=>te) hc hi hkind hcell hnames hfree hm hg ht (λcl C fp s H _ _ _ _=>he cl C fp s H) hs I h fin
theorem jQL {i:Nat}{x:Str}{pos' spos:Pos}(hN:X.N.Nodup)(hi':X.N[i]?=some x)(hx:Loc X.env.scope x)(hf:X.fn x=true\/X.env.scope.names.lookup x=some .local)(hsw:swapsWith (.ListComp elt [⟨tg,iter,ifs,0⟩] sc pos) (some (.Name x pos')) spos.line X.env=pure true)
  (hc:X.calm=true) (hi:PI X tg iter wi) (hkind:sc.kind= .function) (hcell:∀y∈sc.names,y.2≠ .cell) (hnames:∀y∈sc.names,y.2= .local->sc.names.lookup y.1=some .local)
  (hfree:∀y∈sc.names,y.2= .free->X.env.scope.names.lookup y.1=some .cell\/X.env.scope.names.lookup y.1=some .free) (hm:jD8 X sc Nc m)
  (hg:∀cl C fp s H,PG (blk X sc cl C Nc fp s H) tg g) (ht:∀cl C fp s H,PTs (blk X sc cl C Nc fp s H) ifs tt) (he:∀cl C fp s H,PE (blk X sc cl C Nc fp s H) elt te)
  (hs:∀x,foldedSetIterable iter X.env x=pure x):PS X (.Assign [.Name x pos'] (.ListComp elt [⟨tg,iter,ifs,0⟩] sc pos) spos) (tAsg (tComp m wi g tt te) (yA i)):=by
 intro lF s σ H D I h
 rw[exec_Assign_Name_used _ _ _ _ hsw]
 refine aa (iW (aa ?_))
 show wpAny _ _ (do let _ <- comprehension (.ListComp elt [⟨tg,iter,ifs,0⟩] sc pos) sc X.env _ (newList []) false (eval iter X.env) (some (assign (.Name x pos') X.env))) _ _ _
 refine aa (cw (jOI (R:=λ_ s'=>SP X lF D .next s') hc hi hkind hcell hnames hfree hm hg ht he hs ⟨I.ok,I.os,I.bare,I.lG,I.loc,I.cell,I.free,I.freeC,I.pin,I.hok,I.len⟩ h ?_) (λ_ s' hq=>ae (ae hq)) λ_ _ e=>e)
 intro D' C H5 z1 r ⟨mm,hn⟩ fC sb q
 have I1:=sb _ (iM C z1.heap)
 refine wpAny_assign_Name (jG1 (v:= .ref D') I1 hN hi' hx rfl (λs2 I2 ⟨a,sa,ha⟩=>?_) hf)
 obtain⟨f0,f1,f2,f3,f4,f5⟩:=fC
 have hCa:C≠a:=by
  rcases ha with rfl | ha
  ·exact f1
  ·exact(f4 _ _ ha).symm
 refine⟨mm,hn.sameBut sa hCa,λh' sb2=>⟨_,H5,?_,q⟩⟩
 refine I2.call' (s':= { s2 with heap:=h'}) (ch:=[C]) rfl ?_ (I2.hok.sameBut sb2 f0) I2.bare (λb hb=>?_)
 ·have ne:∀{b:Addr},b∉ [C]->b≠C:=λh e=>h (by rw[e]; exact aN.mpr rfl)
  refine⟨λb o e n hf hx=>(sb2.2 b (ne hx)).trans e,λb o e n hf hx=>⟨o.slots,(sb2.2 b (ne hx)).trans e⟩,λb o e n hx=>n,λb o e hx=>⟨o,(sb2.2 b (ne hx)).trans e⟩,λb xs e=>e,λb o u e=>e,λb ps e=>⟨#[],by rw[Array.append_empty]; exact e⟩⟩
 ·cases aN.mp hb
  exact⟨f3,f1,f4,f5⟩
end
structure SwC (e:Expr)(x:Str)(pos' spos:Pos)(X:Cx):Prop where
 h:swapsWith e (some (.Name x pos')) spos.line X.env=pure true
theorem jRW {i:Nat}{x:Str}{pos' spos pos:Pos}{tg iter elt:Expr}{ifs:List Expr}{sc:Scope}{wi:TI}{g:TG}{tt:TT}{te:TE}{m:List (Option Nat)}{Nc:List Str}(hN:X.N.Nodup)(hi':X.N[i]?=some x)(hx:Loc1 X x)(hsw:SwC (.ListComp elt [⟨tg,iter,ifs,0⟩] sc pos) x pos' spos X)
  (hc:X.calm=true) (hi:JI X tg iter wi) (hkind:sc.kind= .function) (hcell:∀y∈sc.names,y.2≠ .cell) (hnames:∀y∈sc.names,y.2= .local->sc.names.lookup y.1=some .local)
  (hfree:∀y∈sc.names,y.2= .free->X.env.scope.names.lookup y.1=some .cell\/X.env.scope.names.lookup y.1=some .free) (hm:jD8 X sc Nc m)
  (hg:∀cl C fp s H,JG (blk X sc cl C Nc fp s H) tg g) (ht:∀cl C fp s H,JTs (blk X sc cl C Nc fp s H) ifs tt) (he:∀cl C fp s H,JE (blk X sc cl C Nc fp s H) elt te)
  (hs:FoOk iter):JS X (.Assign [.Name x pos'] (.ListComp elt [⟨tg,iter,ifs,0⟩] sc pos) spos) (tAsg (tComp m wi g tt te) (yA i)):=
 ⟨jQL hN hi' hx.a hx.b hsw.h hc hi.h hkind hcell hnames hfree hm (λcl C fp s H=>(hg cl C fp s H).h) (λcl C fp s H=>(ht cl C fp s H).h) (λcl C fp s H=>(he cl C fp s H).h) (hs.h _)⟩
end L2
namespace L2
open PySem PySem.Spec PyProof.Rows
variable {prog:Program}{w:World}{A:Around}{E:Value->Shared->Prop}
variable {X:Cx}
variable {s:Shared}
variable {x:Str}{C:Addr}{e:Expr}{np cpos pos:Pos}
section
variable {W:Hp->Prop}{t:TA}
end
variable {M:Model}{h:Heap}
section
variable {g:Array GenState}{d:Drawn}{tk:Nat}{os:OsState}
end
variable {lF:List (Addr×Obj)}{H H':Hp}
section
variable {σ:List (Option V)}{h':Heap}
end
section
variable {σ:St}{h2:Heap}{x T T':Addr}
end
section
variable {σ:St}{x:Addr}
end
section
variable {x T:Addr}{Q:Unit->Shared->Prop}
end
variable {c:Str}{i j:Nat}{f B:Addr}{fd:FuncData}{ps:List Str}{sp:Sp}{es:List Expr}{yp gp cp ap rp hp tp:Pos}
section
variable {y n g:Str}{k:Nat}{r:Expr}{t:TA}{te:Addr->TE}
end
variable {tg:Expr}
variable {g:TG}{iter elt:Expr}{ifs:List Expr}{sc:Scope}{wi:TI}{tt:TT}{te:TE}{m:List (Option Nat)}{Nc:List Str}
variable {a:Addr}{p:Pos}
section
variable {k:Nat}{sp:Addr->Sp}{t:TA}
end
variable {P:Program}{mg:Str->Option Value}{lG:Heap}{N:List Str}{qual:Str}{outer:List Env}
section
variable {CX:CXT}{K:W.Frag}{lH:Value}{E:XK}
end
section
variable {t:TA}
end
section
variable {y n g:Str}{k:Nat}{t:TA}{te t1:TEX}
end
def ncP (q:Str)(c:Addr):Heap->Prop:=λh=>h.CodeRec (.ref c) q
noncomputable abbrev onePs (pos:Pos)(c:Addr):Array Value:=#[rawInt pos.line,rawInt pos.col, .ref c]
def ExtT (T:Addr)(H H':Hp):Prop:=∀b o,H b=some o->b≠T->H' b=some o
def BltAt (lG:Heap)(mg:Str->Option Value):Prop:=∃bm o,mg "__builtins__" =some (.ref bm)/\bm≠builtinsNs/\bm≠mainGlobals/\lG.get? bm=some o/\o.cls= .type "module" /\o.dict=some builtinsNs/\o.data= .plain
theorem ncP.stay {q:Str}{c:Addr}(h1 h2:Heap)(p:ncP q c h1)(k:∀o,h1.get? c=some o->h2.get? c=some o):ncP q c h2:=by
 obtain⟨c',o,vs,t,e,g,r⟩:=p
 cases e
 exact⟨c,o,vs,t,rfl,k _ g,r⟩
theorem ncP.is {q:Str}{c:Addr}{h:Heap}(p:ncP q c h):∃o,h.get? c=some o:=by
 obtain⟨c',o,vs,t,e,g,r⟩:=p
 cases e
 exact⟨o,g⟩
section
variable {σ:St}
theorem Inv.laidX {h':Heap}{t':Nat}{φ:Heap->Prop}{a:Addr}(I:Inv X lF σ H s)(k:∀b u,s.heap.get? b=some u->h'.get? b=some u)(hp:s.heap.objs.size<=a)(p:φ h')(ho:∃o,h'.get? a=some o)(st:∀h1 h2:Heap,φ h1->(∀o,h1.get? a=some o->h2.get? a=some o)->φ h2):Inv X lF σ (upd H a (.ext φ)) { s with heap:=h',toks:=t'} :=
 I.laid k hp ⟨p,ho,st⟩
theorem Inv.grown {h':Heap}{t':Nat}{T c:Addr}{ps more:Array Value}{φ:Heap->Prop}(I:Inv X lF σ H s)(hT:H T=some (.tbl ps))(k:Heap.ExtBut T s.heap h')(e:h'.get? T=some { cls:= .none,data:= .fields (ps++more)})
  (hc:s.heap.objs.size<=c) (p:φ h') (ho:∃o,h'.get? c=some o) (st:∀h1 h2:Heap,φ h1->(∀o,h1.get? c=some o->h2.get? c=some o)->φ h2):Inv X lF σ (upd (upd H T (.tbl (ps++more))) c (.ext φ)) { s with heap:=h',toks:=t'} :=by
 have hcn:H c=none:=I.hok.fresh hc
 have nT:∀{b:Addr},H b=none->b≠T:=λn z=>by rw[z,hT] at n; cases n
 have cT:T≠c:=λz=>by rw[z,hcn] at hT; cases hT
 have nc:∀{b:Addr}{o:Obj},s.heap.get? b=some o->b≠c:=λq z=>absurd (aq q) (by rw[z]; exact Nat.not_lt.mpr hc)
 have mc:∀{b:Addr}{o:HO},H b=some o->b≠c:=λq=>jA q hcn
 refine I.un ⟨λb o q n _ _=>k b o (nT n) q,λb o q n _ _=>⟨o.slots,k b o (nT n) q⟩,λb o q n _=>by rw[j7 (nc q),j7 (nT n)]; exact n,λb o q _=>?_,λb xs q=>?_,λb o u q=>?_,λb qs q=>?_⟩ λb o q=>?_
 ·by_cases hb:b=T
  ·rw[hb]; exact⟨_,e⟩
  ·exact⟨o,k b o hb q⟩
 ·rw[j7 (mc q),j7 (λz=>by rw[z,hT] at q; cases q)]; exact q
 ·rw[j7 (mc q),j7 (λz=>by rw[z,hT] at q; cases q)]; exact q
 ·by_cases hb:b=T
  ·subst hb
   rw[hT] at q
   cases q
   exact⟨more,by rw[j7 cT,j6]⟩
  ·exact⟨#[],by rw[j7 (mc q),j7 hb,q]; simp⟩
 ·by_cases hb1:b=c
  ·subst hb1
   rw[j6] at q
   cases q
   exact⟨p,ho,st⟩
  rw[j7 hb1] at q
  by_cases hb:b=T
  ·subst hb
   rw[j6] at q
   cases q
   exact e
  ·rw[j7 hb] at q
   refine(I.hok b o q).stay (λd u hd z=>k d u ?_ z) (λd z=>?_) λd xs z=>?_
   ·rcases hd with rfl | hd
    ·exact hb
    ·exact λy=>by rw[y,hT] at hd; cases hd
   ·rw[j7 (mc z),j7 (λy=>by rw[y,hT] at z; cases z)]; exact z
   ·rw[j7 (mc z),j7 (λy=>by rw[y,hT] at z; cases z)]; exact z
end
theorem jGG {β:Type}{x:Str} :∀{l:List (Str×β)},(∀v,(x,v)∉l)->l.lookup x=none
 | [],_=>rfl
 | (y,v)::r,h=>by
  rw[bF,dG.mpr (λe=>h v (by rw[e]; exact ax))]
  exact jGG λw hw=>h w (ay _ hw)
theorem jCO {β:Type}{x:Str} :∀{l m:List (Str×β)},(l++m).lookup x=(l.lookup x).or (m.lookup x)
 | [],_=>rfl
 | (y,v)::r,m=>by
  rw[i8,bF,bF,jCO]
  cases x==y <;> rfl
theorem jEI:∀{ps:List Str}{us:List Value}{i:Nat}{x:Str}{u:Value},ps.Nodup->ps[i]?=some x->us[i]?=some u->(ps.zip us).reverse.lookup x=some u
 | [],_,_,_,_,_,h,_=>by simp at h
 | _::_,[],_,_,_,_,_,h=>by simp at h
 | p::ps,w::us,0,x,u,nd,h1,h2=>by
  simp at h1 h2
  subst h1 h2
  rw[dJ,dQ,jCO,jGG λv hv=>(dE.mp nd).1 (eQ (List.mem_reverse.mp hv)).1,bF,beq_self_eq_true]
  rfl
 | p::ps,w::us,i+1,x,u,nd,h1,h2=>by
  rw[dJ,dQ,jCO,jEI (i:=i) (dE.mp nd).2 (by simpa using h1) (by simpa using h2)]
  rfl
noncomputable def cxN (P:Program)(w:World)(K:W.Frag)(mg:Str->Option Value)(lG:Heap)(N:List Str)(qual:Str)(scope:Scope)(f:Addr)(cd:Value)(cl:List (Str×Addr))(A:Around)(outer:List Env)(s:Shared)(H:Hp):Cx where
 prog:=P
 w:=w
 K:=K
 mg:=mg
 lG:=lG
 A:=A.deeper (envX qual scope s.heap.objs.size f cd cl)
 N:=N
 s₀:=s
 H₀:=H
 env:=envX qual scope s.heap.objs.size f cd cl
 outer:=outer
 stack:=envX qual scope s.heap.objs.size f cd cl::outer
 ex:=[]
 calm:=true
 fn:=λ_=>false
 pn:=[]
 xe:=λ_ _=>False
structure ClOk (cl:List (Str×Addr))(s:Shared)(H:Hp):Prop where
 inj:∀x y c,cl.lookup x=some c->cl.lookup y=some c->x=y
 cell:∀x c,cl.lookup x=some c->(∃v,s.heap.IsCell c v)/\H c=none
def FvOk (fs:List Str)(fv:List V)(cl:List (Str×Addr))(s:Shared):Prop:=fv.length=fs.length/\∀(i:Nat) (x:Str) (v:V),fs[i]?=some x->fv[i]?=some v->∃c u,cl.lookup x=some c/\RelV v u/\s.heap.IsCell c (some u)
structure NScope (N ps fs:List Str)(sc:Scope):Prop where
 kind:sc.kind= .function
 co:sc.isCoroutine=false
 gen:sc.isGenerator=false
 nd:N.Nodup
 pre:N.take (ps.length+fs.length)=ps++fs
 par:∀x∈ps,sc.names.lookup x=some .local
 fre:∀x∈fs,sc.names.lookup x=some .free
 all:∀x,sc.names.lookup x=some .free->x∈fs
 nocell:∀y∈sc.names,y.2≠ .cell
def jDN (N:List Str)(vs fv:List V):St:=yV N (vs++fv)
variable {scope:Scope}{cd:Value}{cl:List (Str×Addr)}{fv:List V}
section
variable {K:W.Frag}{fs:List Str}{us:List Value}{vs:List V}
theorem jJW {h1:Heap}{tk:Nat}(S:NScope N ps fs scope)(hd:A.handled=none)(e0:Env0 P w K mg lG A outer s H)(hl:us.length=ps.length)(r:Vals vs us)(C:ClOk cl s H)(Fv:FvOk fs fv cl s)
  (ns:h1.Ns s.heap.objs.size λx=>(ps.zip us).reverse.lookup x) (hk:∀b o,s.heap.get? b=some o->h1.get? b=some o):
  Inv (cxN P w K mg lG N qual scope f cd cl A outer s H) [] (jDN N vs fv) H { s with heap:=h1,toks:=tk} :=by
 have hpl:ps.length+fs.length<=N.length:=by have:=bQ List.length S.pre; rw[aY,aJ] at this; lia
 have noA:∀b:Addr,b∉(cxN P w K mg lG N qual scope f cd cl A outer s H).ex:=λb z=>absurd (show b∈([]:List Addr) from z) (by simp)
 have vl:vs.length=ps.length:=r.length.trans hl
 refine⟨⟨e0.mod,S.kind,rfl,rfl,aj _,C.inj,λy hy=>?_,λy c z=>(nomatch z),λ_=>hd,Around.frames_deeper e0.frames, .inr ⟨rfl,rfl⟩,λb z=>absurd z (noA b),e0.bs,e0.bsz,λb _ _=>noA b,λb z=>absurd z (noA b),e0.funs,e0.frf⟩,
  rfl,e0.bare,Un.kept hk,⟨_,ns,λi y v h1' h2 h3=>?_⟩,λy c h=>?_,e0.hok.fresh (aj _),λy c h=>(C.cell y c h).2,λp hp=>absurd (show p∈([]:List (Addr×Obj)) from hp) (by simp),e0.hok.kept hk,?_⟩
 ·have hy:scope.names.lookup y=some .cell\/scope.names.lookup y=some .free:=hy
  rcases hy with hy | hy
  ·exact absurd rfl (S.nocell _ (cq hy))
  ·have m:=S.all y hy
   obtain⟨i,hi⟩:=bw m
   have hi2:i<fv.length:=by rw[Fv.1]; exact(ah.mp hi).1
   obtain⟨c,u,e,_⟩:=Fv.2 i y fv[i] hi (by simp [hi2])
   exact⟨c,e⟩
 ·have h1':N[i]?=some y:=h1'
  have hlen:(vs++fv).length=ps.length+fs.length:=by rw[aJ,vl,Fv.1]
  have hi:i<(vs++fv).length:=by
   unfold jDN yV at h2
   by_cases hi:i<(vs++fv).length
   ·exact hi
   ·rw[bx (by simpa using hi)] at h2
    rw[i5] at h2
    split at h2 <;> cases h2
  have hv:(vs++fv)[i]?=some v:=by
   unfold jDN yV at h2
   rw[bS (by simpa using hi),aW] at h2
   cases e:(vs++fv)[i]? with
   | none=>rw[e] at h2; cases h2
   | some a=>rw[e] at h2; cases h2; rfl
  have hy:(ps++fs)[i]?=some y:=by
   rw[<- S.pre,cn (by lia)]
   exact h1'
  by_cases hi1:i<ps.length
  ·rw[bS hi1] at hy
   rw[bS (by lia)] at hv
   obtain⟨u,hu,rv⟩:=r.get hv
   have ndP:ps.Nodup:=by
    have:(ps++fs).Nodup:=by rw[<- S.pre]; exact S.nd.sublist (fb _ _)
    exact(iR.mp this).1
   exact⟨u,rv, .inl ⟨S.par y (az hy),jEI ndP hy hu⟩⟩
  ·rw[bx (by lia)] at hy
   rw[bx (by lia),vl] at hv
   obtain⟨c,u,e,rv,o,ho,hd⟩:=Fv.2 _ y v hy hv
   exact⟨u,rv, .inr ⟨.inr (S.fre y (az hy)),c,e,o,hk _ _ ho,hd⟩⟩
 ·obtain⟨⟨v,o,ho,hd⟩,_⟩:=C.cell y c h
  exact⟨v,o,hk _ _ ho,hd⟩
 ·unfold jDN yV
  show _=N.length
  rw[aJ,af,gI,aJ,vl,Fv.1]
  lia
end
def jI5 (σ:St)(is:List Nat)(fv:List V):Prop:=is.map (λi=>(σ[i]?).getD none)=fv.map some
section
variable {σ:St}{fs:List Str}{is:List Nat}
def FsAt (X:Cx)(fs:List Str)(is:List Nat):Prop:=is.length=fs.length/\∀(k:Nat) (x:Str),fs[k]?=some x->∃i,is[k]?=some i/\X.N[i]?=some x/\(X.env.scope.names.lookup x=some .cell\/X.env.scope.names.lookup x=some .free)
theorem Inv.clOk (I:Inv X lF σ H s)(hfree:∀y∈scope.names,y.2= .free->X.env.scope.names.lookup y.1=some .cell\/X.env.scope.names.lookup y.1=some .free):ClOk (kD X.env.cells scope.names []) s H:=by
 have sub:∀x c,(kD X.env.cells scope.names []).lookup x=some c->X.env.cells.lookup x=some c:=jAV scope.names [] (λy hy hf=>I.ok.has y.1 (hfree y hy hf)) (λx c e=>by cases e)
 exact⟨λx y c h1 h2=>I.ok.inj x y c (sub x c h1) (sub y c h2),λx c h=>⟨I.cell x c (sub x c h),I.freeC x c (sub x c h)⟩⟩
theorem Inv.fvOk (I:Inv X lF σ H s)(hfree:∀y∈scope.names,y.2= .free->X.env.scope.names.lookup y.1=some .cell\/X.env.scope.names.lookup y.1=some .free)(hfs:∀x∈fs,scope.names.lookup x=some .free)(ha:FsAt X fs is)(hs:jI5 σ is fv):FvOk fs fv (kD X.env.cells scope.names []) s:=by
 have hl:fv.length=fs.length:=by
  have:=bQ List.length hs
  rw[af,af] at this
  rw[<- this,ha.1]
 refine⟨hl,λk x v h1 h2=>?_⟩
 obtain⟨i,hi,hN,hk⟩:=ha.2 k x h1
 have e:(σ[i]?).getD none=some v:=by
  have:=bQ (λl=>l[k]?) hs
  simp only [aW,hi,h2,fZ] at this
  exact bG this
 have e2:σ[i]?=some (some v):=by
  cases q:σ[i]? with
  | none=>rw[q] at e; cases e
  | some z=>rw[q] at e; exact bQ some e
 obtain⟨m,hn,hl⟩:=I.loc
 obtain⟨u,r,l⟩:=hl i x v hN e2 (.inr hk)
 obtain⟨c,hc⟩:=jAW (cells:=X.env.cells) (x:=x) scope.names [] (.inl (jAR (hfs x (az h1))))
 have sub:=jAV (cells:=X.env.cells) scope.names [] (λy hy hf=>I.ok.has y.1 (hfree y hy hf)) (λx c e=>by cases e) x c hc
 rcases l with ⟨lk,_⟩ | ⟨_,c',hc',z⟩
 ·have lk':X.env.scope.names.lookup x=some .local:=lk
  rcases hk with z | z <;> rw[lk'] at z <;> cases z
 ·rw[sub] at hc'
  cases hc'
  exact⟨c,u,hc,r,z⟩
end
section
variable {k:Nat}{q:Str}{args:Arguments}{body:List Stmt}{fs:List Str}{is:List Nat}{sp:List V->Sp}{t:TA}
end
section
variable {te:St->TE}
end
def jUA (Ts:List Addr)(H:Hp):Prop:=∀b,H b=none\/(∃o xs,H b=some (.frz o (.lst xs)))\/b∈Ts
theorem jJV {cts:List (Addr×Addr)}{P:Program}{w:World}{K:W.Frag}{mg mb:Str->Option Value}{CX:CXT}{k:Nat}{fa a:Addr}{fd:FuncData}{x:Str}{sp:Sp}{s₁:Shared}{vs:List Value}{ns:List Int}
  (KX:K.In s₁.heap) (hns:s₁.heap.Ns mainGlobals mg) (hb:s₁.heap.Ns builtinsNs mb) (hbb:∀x:Str,x≠ "__name__" ->mb x=bootBuiltins x) (hlim:s₁.heap.NoLimit) (hg:s₁.gens=#[])
  (ha:s₁.heap.get? a=some { cls:= .type "list",data:= .seq vs.toArray}) (hi:IntsAre vs ns) (hl:ns.length<=sizeLine) (hr:Room k callerA) (hT:∀T∈cts.map (·.2),s₁.heap.get? T=some (tabObj #[])) (CH:∀p∈cts,PySem.W.CodeHd s₁.heap p.1 p.2) (hKT:∀T∈cts.map (·.2),K.lookup T=none)
  (F:∀lG:Heap,K.In lG->lG.Ns mainGlobals mg->FnOk P w K mg lG CX k fa fd [x] sp) (hbind:∀(s:Shared) (u:Value),BindsTo s fd ⟨[u],[]⟩ [(x,u)])
  (hsp:∀H:Hp,(∀T∈cts.map (·.2),H T=some (.tbl #[]))->SqL K H a (ns.map V.int)->sp [.ref a] H (λv _=>v= .bl true) λ_ _ _=>False)
  (hCX:∀H e s',CX [] H s₁ (λ_ _ _=>False) e s'->False):
  codeAny (model P w) callerA (.call (.ref fa) ⟨[.ref a],[]⟩) (λr s'=>r= .ok (.ret (.bool true))/\OldK s₁.heap s'.heap/\s'.os=s₁.os/\AllBare s'.gens) s₁:=by
 have rv:=jFV hi
 have lenV:=hi.length
 have core:∀H:Hp,jUA (cts.map (·.2)) H->(∀T∈cts.map (·.2),H T=some (.tbl #[]))->SqL K H a (ns.map V.int)->HOk P w H s₁.heap->(∀b,H b≠none->b=a\/b∈cts.map (·.2))->(H a≠none->K.lookup a=none)->
   codeAny (model P w) callerA (.call (.ref fa) ⟨[.ref a],[]⟩) (λr s'=>r= .ok (.ret (.bool true))/\OldK s₁.heap s'.heap/\s'.os=s₁.os/\AllBare s'.gens) s₁:=by
  intro H hO hHT hS hok hA hK
  have base_of:∀{b:Addr}{o:Obj},s₁.heap.get? b=some o->H b=none->(hidT s₁.heap H).get? b=some o:=λe n=>jOC e n
  have noA:∀{b:Addr}{o:Obj}{es:Array DictEntry}{ep:Nat},s₁.heap.get? b=some o->o.data= .dict es ep->H b=none:=λ{b o es ep} e d=>by
   cases q:H b with
   | none=>rfl
   | some u=>
    rcases hA b (by rw[q]; simp) with e' | e'
    ·subst e'
     rw[ha] at e; cases e
     have d':Data.seq vs.toArray _=Data.dict es ep:=d
     cases d'
    ·rw[hT b e'] at e; cases e
     have d':Data.fields _=Data.dict es ep:=d
     cases d'
  have nsK:∀{b:Addr}{m:Str->Option Value},s₁.heap.Ns b m->(hidT s₁.heap H).Ns b m:=λ{b m} ⟨o,es,ep,e,d,r⟩=>⟨o,es,ep,base_of e (noA e d),d,r⟩
  have hKb:K.In (hidT s₁.heap H):=λb o e=>base_of (KX b o e) (by
   cases q:H b with
   | none=>rfl
   | some u=>
    rcases hA b (by rw[q]; simp) with e' | e'
    ·subst e'
     rw[hK (by rw[q]; simp)] at e; cases e
    ·rw[hKT b e'] at e; cases e)
  have hM:Mod K mg (hidT s₁.heap H):=⟨hKb,nsK hns,⟨mb,nsK hb,hbb⟩,let ⟨mc,h1,h2⟩:=hlim; ⟨mc,nsK h1,h2⟩⟩
  have e0:Env0 P w K mg (hidT s₁.heap H) callerA [] s₁ H:=⟨rfl,hM,λb o e=>jRI e,Nat.le_of_eq (jM4 _ _),trivial,λb hb=>absurd (show b∈([]:List Addr) from hb) (by simp),hok, .of_eq hg⟩
  refine eE ((F _ hKb (nsK hns)).run callerA [] s₁ H ⟨[.ref a],[]⟩ [.ref a] [.ref a] _ _ hr e0 (hbind s₁ (.ref a)) (.cons rfl .nil) (hsp H hHT hS)) λr s' h=>?_
  cases r with
  | error e=>exact(hCX H e s' h).elim
  | ok fl=>
   cases fl with
   | next=>exact False.elim h
   | brk=>exact False.elim h
   | cont=>exact False.elim h
   | ret u=>
    obtain⟨v,H',os,bare,un,hok',r',q⟩:=h
    have q':v= .bl true:=q
    subst q'
    obtain rfl:u=Value.bool true:=r'
    have gr:∀T∈cts.map (·.2),∃more,s'.heap.get? T=some (tabObj (#[]++more)):=λT hTm=>by
     obtain⟨more,z⟩:=un.tbls T _ (hHT T hTm)
     exact⟨more,hok' T _ z⟩
    have kp:∀b o,b∉cts.map (·.2)->s₁.heap.get? b=some o->s'.heap.get? b=some o:=λb o hbT e=>?_
    ·refine⟨rfl,⟨λb o e=>?_,λb o e=>?_⟩,os,bare⟩
     ·by_cases hb:b∈cts.map (·.2)
      ·obtain⟨p,hp,rfl⟩:=bW.mp hb
       have q:=hT _ hb
       rw[q] at e
       cases e
       obtain⟨more,z⟩:=gr _ hb
       exact .inr (.inl ⟨((CH p hp).tab q).isCodeTable,rfl,#[],more,rfl,z⟩)
      ·exact .inl (kp b o hb e)
     ·by_cases hb:b∈cts.map (·.2)
      ·obtain⟨more,z⟩:=gr _ hb
       exact⟨_,z⟩
      ·exact⟨o,kp b o hb e⟩
    cases q:H b with
    | none=>exact un.keep b o e q (by intro z; exact absurd (show b∈([]:List Addr) from z) (by simp)) (by simp)
    | some u=>
     rcases hO b with z | ⟨ob,xs,z⟩ | z
     ·rw[q] at z; cases z
     ·have z2:=un.frzs b ob _ z
      obtain⟨e1,_⟩:=hok b _ z
      obtain⟨e2,_⟩:=hok' b _ z2
      rw[e] at e1; cases e1
      exact e2
     ·exact absurd z hbT
 have aT:a∉cts.map (·.2):=λz=>by rw[hT a z] at ha; cases ha
 cases hk:K.lookup a with
 | some o=>
  have e:=KX a o hk
  rw[ha] at e
  cases e
  refine core (λb=>if b∈cts.map (·.2) then some (.tbl #[]) else none) (λb=>?_) (λT hm=>am hm) (.inr ⟨_,vs.toArray,_,hk,rfl,rfl,rfl,by rw[ak,lenV]; exact hl,by simpa using rv⟩) (λb u z=>?_) (λb z=>?_) λz=>absurd (ai aT) z
  ·by_cases hb:b∈cts.map (·.2)
   ·exact .inr (.inr hb)
   ·exact .inl (ai hb)
  ·by_cases hb:b∈cts.map (·.2)
   ·have z':=(am hb).symm.trans z
    cases z'
    exact hT b hb
   ·have z':=(ai hb).symm.trans z
    cases z'
  ·by_cases hb:b∈cts.map (·.2)
   ·exact .inr hb
   ·exact absurd (ai hb) z
 | none=>
  refine core (λb=>if b∈cts.map (·.2) then some (.tbl #[]) else if b=a then some (.frz { cls:= .type "list",data:= .seq vs.toArray} (.lst (ns.map V.int))) else none) (λb=>?_) (λT hm=>am hm) (.inl (.inr ⟨{ cls:= .type "list",data:= .seq vs.toArray},by dsimp only; rw[ai aT,am rfl]⟩)) (λb u z=>?_) (λb z=>?_) λ_=>hk
  ·by_cases hT':b∈cts.map (·.2)
   ·exact .inr (.inr hT')
   ·by_cases hb:b=a
    ·exact .inr (.inl ⟨_,_,by dsimp only; rw[ai hT',am hb]⟩)
    ·exact .inl (by dsimp only; rw[ai hT',ai hb])
  ·dsimp only at z
   by_cases hT':b∈cts.map (·.2)
   ·rw[am hT'] at z
    cases z
    exact hT b hT'
   ·rw[ai hT'] at z
    by_cases hb:b=a
    ·rw[am hb] at z
     cases z
     subst hb
     exact⟨ha,by rw[af]; exact hl,vs,_,rv,ha⟩
    ·rw[ai hb] at z
     cases z
  ·replace z:(if b∈cts.map (·.2) then some (HO.tbl #[]) else if b=a then some (HO.frz { cls:= .type "list",data:= .seq vs.toArray} (.lst (ns.map V.int))) else none)≠none:=z
   by_cases hT':b∈cts.map (·.2)
   ·exact .inr hT'
   ·by_cases hb:b=a
    ·exact .inl hb
    ·rw[ai hT',ai hb] at z
     exact absurd rfl z
theorem walk_ofTs {cts:List (Addr×Addr)}{l:PySem.W.OpenLaw}{n k:Nat}{q:Program}{loose:List Str}{XP:(Str->Option Value)->Heap->Prop}{YP:World->Heap->Prop}{d:DefRec}{K:Params->W.Frag}{CX:World->CXT}{sp:World->Sp}{x:Str}
  (hn:l.most=some n) (hn2:n<=sizeLine) (hdf:d.params.defaults=[]) (hr:Room k callerA)
  (hY:∀(w:World) (h:Heap),YP w h->(K w.params).In h/\∀T∈cts.map (·.2),h.get? T=some (tabObj #[])) (hcd:∀w:World,∀p∈cts,codeHdIn (K w.params) p.1 p.2=true) (hKT:∀w:World,∀T∈cts.map (·.2),(K w.params).lookup T=none)
  (F:∀(w:World) (mg:Str->Option Value) (fa:Addr) (h:Heap),(K w.params).In h->h.Ns mainGlobals mg->mg d.name=some (.ref fa)->
   ∃fd:FuncData,(∀(s:Shared) (u:Value),BindsTo s fd ⟨[u],[]⟩ [(x,u)])/\
    ∀lG:Heap,(K w.params).In lG->lG.Ns mainGlobals mg->FnOk l.prog w (K w.params) mg lG (CX w) k fa fd [x] (sp w))
  (hsp:∀(w:World) (H:Hp) (a:Addr) (ns:List Int),ns.length<=n->(∀T∈cts.map (·.2),H T=some (.tbl #[]))->SqL (K w.params) H a (ns.map V.int)->sp w [.ref a] H (λv _=>v= .bl true) λ_ _ _=>False)
  (hCX:∀(w:World) (H:Hp) (s:Shared) (e:Value) (s':Shared),CX w [] H s (λ_ _ _=>False) e s'->False):
  PySem.W.WalkO q loose XP YP l.row.toRowW d [] (λf vs=>PySem.call f vs):=by
 refine Att.attach_call hn hdf λw s₀ s₁ mg mb fa o pm cd doc a vs ns G Y ho hd _ hmg hobj hints hlen hg=>?_
 obtain⟨KX,hT⟩:=hY w _ Y
 obtain⟨fd,hb,hF⟩:=F w mg fa _ KX G.T.g hmg
 exact jJV KX G.T.g G.T.b G.T.builtins G.T.nolimit hg hobj hints (bM hlen hn2) hr hT (λp hp=>kz KX (hcd w p hp)) (hKT w) hF hb (λH hO hS=>hsp w H a ns hlen hO hS) λH e s'=>hCX w H s₁ e s'
open PySem.AutoSeq1 (wpAny_loadPart')
theorem jOF {tp:Bool}{e it l:Addr}{i:Nat}{xs:Array Value}{x old:Value}{Q:Value->Shared->Prop}(ee:IsEnum s.heap e it i old)(g1:ItAt tp s.heap it l i)(o1:ObAt tp s.heap l xs)(hx:xs[i]?=some x)(ne:e≠it)
  (k:∀h',IsEnumOut h' e it ((i:Int)+1) x s.heap.objs.size->ItAt tp h' it l (i+1)->h'.get? s.heap.objs.size=some { cls:= .type "tuple",data:= .seq #[.int i s.toks,x]} ->h'.objs.size=s.heap.objs.size+1->
   (∀c o,c≠e->c≠it->s.heap.get? c=some o->h'.get? c=some o)->Q (.ref s.heap.objs.size) { s with heap:=h',toks:=s.toks+1}):
  wpAny (model prog w) A (Builtin.«enumerate.__next__» ⟨[.ref e],[]⟩) (λfin s'=>∃v,fin= .done (.ret v)/\Q v s') E s:=by
 obtain⟨hp,g,d,tk,os⟩:=s
 show wpAny (model prog w) A (field (.ref e) 2 >>= _) _ _ _
 refine aa (bC ee rfl (x:= .ref it) rfl (aa (next1 g1 o1 hx λp1 r1 q1=>?_)))
 have q1:Heap.SameBut it hp p1:=q1
 have e1:IsEnum p1 e it i old:=(q1.2 e ne).trans ee
 show wpAny (model prog w) A (field (.ref e) 3 >>= _) _ _ ⟨p1,g,d,tk,os⟩
 refine aa (bC e1 rfl (x:=rawInt i) rfl (?_:wpAny (model prog w) A (field (.ref e) 4 >>= _) _ _ ⟨p1,g,d,tk,os⟩))
 refine aa (bC e1 rfl (x:= .none) rfl (?_:wpAny (model prog w) A (mkInt i >>= _) _ _ ⟨p1,g,d,tk,os⟩))
 refine aa (wpAny_mkInt (?_:wpAny (model prog w) A (setField (.ref e) 3 (rawInt ((i:Int)+1)) >>= _) _ _ ⟨p1,g,d,tk+1,os⟩))
 refine aa (bq e1 (by simp) λp2 e2 q2=>?_)
 have q2:Heap.SameBut e p1 p2:=q2
 have e2:IsEnum p2 e it ((i:Int)+1) old:=e2
 show wpAny (model prog w) A (setField (.ref e) 4 .none >>= _) _ _ ⟨p2,g,d,tk+1,os⟩
 refine aa (bq e2 (by simp) λp3 e3 q3=>?_)
 have q3:Heap.SameBut e p2 p3:=q3
 have e3:IsEnum p3 e it ((i:Int)+1) old:=e3
 show wpAny (model prog w) A (newTuple [.int i tk,x] >>= _) _ _ ⟨p3,g,d,tk+1,os⟩
 refine aa (iB ?_)
 have e4:IsEnum (p3.push { cls:= .type "tuple",data:= .seq #[.int i tk,x]}) e it ((i:Int)+1) old:=ab _ e3
 have sz:p3.objs.size=hp.objs.size:=by rw[q3.1,q2.1,q1.1]
 have lt:e<hp.objs.size:=aq ee
 have t4:(p3.push { cls:= .type "tuple",data:= .seq #[.int i tk,x]}).get? hp.objs.size=some { cls:= .type "tuple",data:= .seq #[.int i tk,x]} :=by rw[<- sz]; exact ao _ rfl
 have z4:(p3.push { cls:= .type "tuple",data:= .seq #[.int i tk,x]}).objs.size=hp.objs.size+1:=by rw[bR,sz]
 have k4:∀c o,c≠e->c≠it->hp.get? c=some o->(p3.push { cls:= .type "tuple",data:= .seq #[.int i tk,x]}).get? c=some o:=λc o n1 n2 v=>ab _ (q3.extBut c o n1 (q2.extBut c o n1 (q1.extBut c o n2 v)))
 have r4:ItAt tp (p3.push { cls:= .type "tuple",data:= .seq #[.int i tk,x]}) it l (i+1):=((r1.but q2.extBut ne.symm).but q3.extBut ne.symm).at λo v=>ab _ v
 generalize p3.push { cls:= .type "tuple",data:= .seq #[.int i tk,x]} =p4 at e4 t4 z4 k4 r4 ⊢
 show wpAny (model prog w) A (Builtin.SmallTypes.ownedTupleIsFree (.ref e) >>= _) _ _ ⟨p4,g,d,tk+1,os⟩
 rw[sz]
 refine aa (by
  unfold Builtin.SmallTypes.ownedTupleIsFree
  refine aa (bC e4 rfl (x:= .none) rfl (ae ?_))
  simp only [gu]
  refine aa (cx (aa (bC e4 rfl (x:=old) rfl (aa (bq e4 (by simp) λp5 e5 q5=>?_)))))
  have q5:Heap.SameBut e p4 p5:=q5
  have e5:IsEnum p5 e it ((i:Int)+1) x:=e5
  refine aa (m:=Builtin.SmallTypes.ownedTupleHandOut (.ref e) (.ref hp.objs.size)) ?_
  unfold Builtin.SmallTypes.ownedTupleHandOut
  refine aa (bq e5 (by simp) λp6 e6 q6=>?_)
  have q6:Heap.SameBut e p5 p6:=q6
  have e6:IsEnumOut p6 e it ((i:Int)+1) x hp.objs.size:=e6
  refine bq e6 (by simp) λp7 e7 q7=>?_
  have q7:Heap.SameBut e p6 p7:=q7
  have e7:IsEnumOut p7 e it ((i:Int)+1) x hp.objs.size:=e7
  have up:∀c o,c≠e->p4.get? c=some o->p7.get? c=some o:=λc o n v=>q7.extBut _ _ n (q6.extBut _ _ n (q5.extBut _ _ n v))
  exact aa (iQ (ae ⟨_,rfl,k p7 e7 (r4.at λo v=>up _ o ne.symm v) (up _ _ (cK lt) t4) (by rw[q7.1,q6.1,q5.1,z4]) λc o n1 n2 v=>up c o n1 (k4 c o n1 n2 v)⟩)))
theorem jJI {tp:Bool}{e it l:Addr}{i:Nat}{xs:Array Value}{x old:Value}{Q:Option Value->Shared->Prop}(ee:IsEnum s.heap e it i old)(g1:ItAt tp s.heap it l i)(o1:ObAt tp s.heap l xs)(hx:xs[i]?=some x)(ne:e≠it)
  (k:∀h',IsEnumOut h' e it ((i:Int)+1) x s.heap.objs.size->ItAt tp h' it l (i+1)->h'.get? s.heap.objs.size=some { cls:= .type "tuple",data:= .seq #[.int i s.toks,x]} ->h'.objs.size=s.heap.objs.size+1->
   (∀c o,c≠e->c≠it->s.heap.get? c=some o->h'.get? c=some o)->Q (some (.ref s.heap.objs.size)) { s with heap:=h',toks:=s.toks+1}):
  wpAny (model prog w) A (pyNext (.ref e)) Q E s:=by
 have ty:s.TypeIs (.ref e) "enumerate" :=⟨_,ee,rfl⟩
 unfold pyNext
 exact aa (cP (bh (name:=Str.ofString "__next__") ty F.slot_enumerate_next (bo F.slot_enumerate_next ty F.entry_enumerate_next (jOF ee g1 o1 hx ne λh' b1 b2 b3 b4 b5=>ae (k h' b1 b2 b3 b4 b5)) (F.args_enumerate_next_1 _))))
theorem jJJ {tp:Bool}{e it l:Addr}{i:Nat}{xs:Array Value}{old:Value}{Q:Option Value->Shared->Prop}(hh:A.handled=none)(ee:IsEnum s.heap e it i old)(g1:ItAt tp s.heap it l i)(o1:ObAt tp s.heap l xs)(hx:xs[i]?=none)
  (k:∀h',(∀c o,c≠e->c≠it->s.heap.get? c=some o->h'.get? c=some o)->Q none { s with heap:=h'}):wpAny (model prog w) A (pyNext (.ref e)) Q E s:=by
 have ty:s.TypeIs (.ref e) "enumerate" :=⟨_,ee,rfl⟩
 unfold pyNext
 refine aa (cP (bh (name:=Str.ofString "__next__") ty F.slot_enumerate_next (bo F.slot_enumerate_next ty F.entry_enumerate_next (?_:wpAny (model prog w) _ (field (.ref e) 2 >>= _) _ _ _) (F.args_enumerate_next_1 _))))
 refine aa (bC ee rfl (x:= .ref it) rfl (aa (next0 hh g1 o1 hx λh' x kp ⟨u,eu,cu⟩=>?_)))
 exact aa (fj (T:= "StopIteration") (b:=true) ⟨u,eu,cu⟩ ix (ae (k _ λc o _ n v=>kp c o n v)))
set_option maxHeartbeats 2000000 in
theorem jLF (tp:Bool)(l:Addr)(xs:Array Value)(u:Obj):
  Meets (Builtin.«enumerate.__new__» ⟨[.type "enumerate", .ref l],[]⟩) (λ_ R s=>s.heap.get? l=some u/\ObAt tp s.heap l xs/\
   R (.ok (.ret (.ref (s.heap.push (qM tp l)).objs.size))) { s with heap:=(s.heap.push (qM tp l)).push { cls:= .type "enumerate",data:= .fields #[.none, .bool false, .ref s.heap.objs.size,rawInt 0, .none, .none]}}):=
 .of_wp λprog w A R s h=>by
  obtain⟨hp,g,d,tk,os⟩:=s
  obtain⟨a0,a1,q⟩:=h
  have sub:=sub_enumerate
  have e1:ObAt tp (Shared.heap ⟨hp,g,d,tk,os⟩) l xs:=a1
  obtain⟨c,dct,dt,sl⟩:=u
  obtain⟨n,hc,hd⟩:∃n,c=(if tp then .type "tuple" else .type "list")/\dt= .seq xs n:=by
   cases tp with
   | false=>obtain⟨o,e,hc,n,hd⟩:=a1; cases (a0.symm.trans e); exact⟨n,hc,hd⟩
   | true=>obtain⟨o,e,hc,n,hd⟩:=a1; cases (a0.symm.trans e); exact⟨n,hc,hd⟩
  subst hd
  cases tp with
  | false=>
   subst hc
   wp_walk using cC a0
   refine wpAny_stack_any λ_=>ae ?_
   split
   ·rename_i c _ _ _ _ _
    cases hcc:(c==Value.type "enumerate")
    all_goals (wp_walk using cC a0,jCK e1; exact⟨_,rfl,q⟩)
   ·wp_walk using cC a0,jCK e1
    exact⟨_,rfl,q⟩
  | true=>
   subst hc
   wp_walk using cC a0
   refine wpAny_stack_any λ_=>ae ?_
   split
   ·rename_i c _ _ _ _ _
    cases hcc:(c==Value.type "enumerate")
    all_goals (wp_walk using cC a0,jCK e1; exact⟨_,rfl,q⟩)
   ·wp_walk using cC a0,jCK e1
    exact⟨_,rfl,q⟩
theorem jOP {prog:Program}{w:World}{A:Around}{E:Value->Shared->Prop}{s:Shared}{tp:Bool}{l:Addr}{xs:Array Value}{Q:Value->Shared->Prop}(a1:ObAt tp s.heap l xs)
  (k:∀h',IsEnum h' (s.heap.objs.size+1) s.heap.objs.size 0 .none->ItAt tp h' s.heap.objs.size l 0->(∀c o,s.heap.get? c=some o->h'.get? c=some o)->Q (.ref (s.heap.objs.size+1)) { s with heap:=h'}):
  wpAny (model prog w) A (call (.type "enumerate") [.ref l]) Q E s:=by
 obtain⟨u,eu⟩:∃u,s.heap.get? l=some u:=by
  cases tp with
  | false=>obtain⟨o,e,_⟩:=a1; exact⟨o,e⟩
  | true=>obtain⟨o,e,_⟩:=a1; exact⟨o,e⟩
 refine callType_new F.called_enumerate (by decide) (F.typeCall_enumerate_1 _) (F.newCall_enumerate_1 _) (λobj=>F.args_object_init_2 obj _) F.entry_enumerate_new (jLF tp l xs u) ⟨eu,a1,?_⟩
 have z1:(s.heap.push (qM tp l)).objs.size=s.heap.objs.size+1:=bR ..
 have y2:IsEnum ((s.heap.push (qM tp l)).push { cls:= .type "enumerate",data:= .fields #[.none, .bool false, .ref s.heap.objs.size,rawInt 0, .none, .none]}) (s.heap.push (qM tp l)).objs.size s.heap.objs.size 0 .none:=ao _ rfl
 have y1:((s.heap.push (qM tp l)).push { cls:= .type "enumerate",data:= .fields #[.none, .bool false, .ref s.heap.objs.size,rawInt 0, .none, .none]}).get? s.heap.objs.size=some (qM tp l):=ab _ (ao _ (jCQ _ _))
 show _/\_
 rw[z1] at y2 ⊢
 exact⟨⟨_,y2,rfl⟩,k _ y2 (.new tp y1) λc o e=>ab _ (ab _ e)⟩
def Ite (tp:Bool)(K:W.Frag)(l:Addr):It:=
 ⟨λi H=>∃xs x,Sq tp K H l xs/\xs[i]?=some x,
  λi H v H'=>∃T x,H T=none/\v= .ref T/\H'=upd H T (.tup [.int (i:Int),x])/\∀xs,Sq tp K H l xs->xs[i]?=some x,
  λi H=>∃xs,Sq tp K H l xs/\xs.length<=i⟩
theorem jKC {P:Program}{w:World}{K:W.Frag}{elts:List Expr}{x1:Nat}{tps:Pos}(tp:Bool)(l e it:Addr)(ne:e≠it):
  Turn P w K (.Tuple elts x1 tps) (Ite tp K l) [e,it] e (λi h=>(∃old,IsEnum h e it ((i:Nat):Int) old)/\ItAt tp h it l i) where
 mem:=by simp
 obj:=λi h st b hb=>by
  obtain⟨⟨old,he⟩,y1⟩:=st
  simp only [aF,bA,dv] at hb
  rcases hb with rfl | rfl
  ·exact⟨_,he,λv q=>by cases q⟩
  ·exact y1.obj
 keep:=λi h h' st k=>by
  obtain⟨⟨old,he⟩,h1⟩:=st
  exact⟨⟨old,k e (by simp) _ he⟩,h1.at λo z=>k it (by simp) o z⟩
 item:=by
  intro X hP hw hK hc i lF s σ H E I hf st hg
  subst hP hw hK
  obtain⟨xs,x,hq1,hx⟩:=hg
  obtain⟨⟨old,he⟩,h1⟩:=st
  obtain⟨its1,r1,p1,_⟩:=I.sq hq1
  obtain⟨u,hu,ru⟩:=r1.get hx
  refine jJI he h1 p1 (x:=u) (by simpa using hu) ne λh' a1 a2 a3 a4 a5=>?_
  refine⟨_,rfl,wpAny_letOwnedTupleGo_enum (s:= { s with heap:=h',toks:=s.toks+1}) a1 λh'' b1 sb=>?_⟩
  have fresh:H s.heap.objs.size=none:=I.fresh
  have ntr:∀b o,H b=some o->b∉([e,it]:List Addr):=λb o z hb=>by
   have:=(hf b hb).1
   rw[z] at this; cases this
  have kp:∀b o,b∉([e,it]:List Addr)->s.heap.get? b=some o->h''.get? b=some o:=λb o hb z=>by
   simp only [aF,bA,dv,lx] at hb
   exact(sb.2 b hb.1).trans (a5 b o hb.1 hb.2 z)
  have nz:s.heap.objs.size≠e:=cK (aq he)
  have hT2:h''.get? s.heap.objs.size=some { cls:= .type "tuple",data:= .seq #[.int i s.toks,u]} :=(sb.2 _ nz).trans a3
  have I2:Inv X lF σ (upd H s.heap.objs.size (.tup [.int (i:Int),x])) { s with heap:=h'',toks:=s.toks+1} :=by
   refine I.step (g':=s.gens) (d':=s.drawn) (t':=s.toks+1) (ch:=[e,it]) (λb hb=>?_) (λb o _ _ hb z _=>kp b o hb z) (λb o _ _ hb z _=>⟨o.slots,kp b o hb z⟩)
    (λb o _ z n=>by rw[j7 (aO (aq z))]; exact n) (λb o hb z=>⟨o,kp b o hb z⟩) (λb ws z=>by rw[j7 (jA z fresh)]; exact z) (λb o ws z=>by rw[j7 (jA z fresh)]; exact z)
    (λb ps z=>⟨#[],by rw[j7 (jA z fresh),z]; simp⟩) (λm hm=>?_) (λb o z=>?_) I.bare
   ·obtain⟨f0,f1,f2,f3,f4,f5⟩:=hf b hb
    exact⟨f3,f1,f4,f5⟩
   ·obtain⟨o,es,ep,ho,r⟩:=hm
    exact⟨o,es,ep,kp _ o (λhb=>(hf _ hb).2.1 rfl) ho,r⟩
   ·by_cases hb:b=s.heap.objs.size
    ·subst hb
     rw[j6] at z
     cases z
     exact⟨by rw[fc]; show 2<=_; decide,[.int i s.toks,u], .cons ⟨_,rfl⟩ (.cons ru .nil),0,hT2⟩
    ·rw[j7 hb] at z
     refine(I.hok b o z).stay (λc w hc q=>kp c w ?_ q) (λc q=>by rw[j7 (jA q fresh)]; exact q) (λc ws q=>by rw[j7 (jA q fresh)]; exact q)
     rcases hc with rfl | hc
     ·exact ntr _ _ z
     ·exact ntr _ _ hc
  refine⟨.ref s.heap.objs.size,_,I2,rfl,⟨_,x,fresh,rfl,rfl,λxs' q1=>by rw[I.sq_inj q1 hq1]; exact hx⟩,⟨⟨_,b1⟩,?_⟩,λb hb=>?_⟩
  ·exact a2.at λo z=>(sb.2 it ne.symm).trans z
  ·rw[j7 (λq=>by
    obtain⟨o,eo⟩:∃o,s.heap.get? b=some o:=by
     simp only [aF,bA,dv] at hb
     rcases hb with rfl | rfl
     ·exact⟨_,he⟩
     ·obtain⟨o,z,_⟩:=h1.obj; exact⟨o,z⟩
    exact absurd (aq eo) (by rw[q]; exact cJ _))]
   exact(hf b hb).1
 done:=by
  intro X hP hw hK hc i lF s σ H E I hf st hg
  subst hP hw hK
  obtain⟨xs,hq1,hend⟩:=hg
  obtain⟨⟨old,he⟩,h1⟩:=st
  obtain⟨its1,r1,p1,_⟩:=I.sq hq1
  have e1:=r1.length
  refine jJJ (I.ok.hd hc) he h1 p1 (by simp; lia) λh' kp=>⟨rfl,?_⟩
  have kp2:∀b o,b∉([e,it]:List Addr)->s.heap.get? b=some o->h'.get? b=some o:=λb o hb z=>by
   simp only [aF,bA,dv,lx] at hb
   exact kp b o hb.1 hb.2 z
  have ntr:∀b o,H b=some o->b∉([e,it]:List Addr):=λb o z hb=>by
   have:=(hf b hb).1
   rw[z] at this; cases this
  refine I.step (g':=s.gens) (d':=s.drawn) (t':=s.toks) (ch:=[e,it]) (λb hb=>?_) (λb o _ _ hb z _=>kp2 b o hb z) (λb o _ _ hb z _=>⟨o.slots,kp2 b o hb z⟩)
   (λb o _ z n=>n) (λb o hb z=>⟨o,kp2 b o hb z⟩) (λb ws z=>z) (λb o ws z=>z) (λb ps z=>⟨#[],by rw[z]; simp⟩) (λm hm=>?_) (λb o z=>?_) I.bare
  ·obtain⟨f0,f1,f2,f3,f4,f5⟩:=hf b hb
   exact⟨f3,f1,f4,f5⟩
  ·obtain⟨o,es,ep,ho,r⟩:=hm
   exact⟨o,es,ep,kp2 _ o (λhb=>(hf _ hb).2.1 rfl) ho,r⟩
  ·refine(I.hok b o z).stay (λc w hc q=>kp2 c w ?_ q) (λ_ q=>q) λ_ _ q=>q
   rcases hc with rfl | hc
   ·exact ntr _ _ z
   ·exact ntr _ _ hc
 self:=λ_ _ _ _ _ st h=>wpAny_pyIter_enum st.1.choose_spec h
def iEnum (K:W.Frag)(ta:TA):TI:=λσ H R=>ta σ H λvs H1=>∃tp l,vs=[.ref l]/\(∃xs,Sq tp K H1 l xs)/\R (Ite tp K l) H1
theorem jQT {a:Expr}{ta:TA}{p pos:Pos}{elts:List Expr}{x1:Nat}{tp:Pos}(hg:Gl X "enumerate")(hm:X.mg "enumerate" =none)(ha:PA X [a] ta)(hv:bootBuiltins "enumerate" =some (.type "enumerate"):=by decide+kernel)
  (he:starEach [a] X.env=(false,eval a X.env)::starEach [] X.env:=by rfl) (hpl:(backTo pos (starEach [] X.env)).any (·.1)=false:=by rfl):
  PI X (.Tuple elts x1 tp) (.Call (.Name "enumerate" p) [a] [] pos) (iEnum X.K ta):=by
 intro lF s σ H R I h
 refine Call_ (jD4 I hg hm hv (cO (lJ (ha pos lF s σ H _ I h) λus s1 ⟨vs,H1,I1,r1,q1⟩=>?_) he hpl))
 obtain⟨t1,l1,rfl,⟨xs,hq1⟩,q⟩:=q1
 obtain⟨u,rfl,ru⟩:=r1.one
 cases ru
 obtain⟨its1,_,p1,_⟩:=I1.sq hq1
 refine jOP p1 λh' a1 a2 kp=>?_
 have I2:Inv X lF σ H1 { s1 with heap:=h'} :=I1.kept (t':=s1.toks) kp
 refine wpAny_pyIter_enum a1 ⟨s1.heap.objs.size+1,[s1.heap.objs.size+1,s1.heap.objs.size],_,Ite t1 X.K l1,H1,rfl,I2,jKC t1 l1 _ _ (Nat.succ_ne_self _),⟨⟨_,a1⟩,a2⟩,λb hb=>?_,q⟩
 have hge:s1.heap.objs.size<=b:=by
  simp only [aF,bA,dv] at hb
  rcases hb with rfl | rfl
  ·exact dI _ 1
  ·exact aj _
 exact I1.fpOk hge (I1.hok.fresh hge)
theorem jRX {a:Expr}{t:TA}{p pos:Pos}{elts:List Expr}{x1:Nat}{tp:Pos}(hg:Gl1 X "enumerate")(hm:X.mg "enumerate" =none)(ha:JA X [a] t)(he:starEach [a] X.env=(false,eval a X.env)::starEach [] X.env)(hv:bootBuiltins "enumerate" =some (.type "enumerate"):=by decide+kernel)
  (hpl:(backTo pos (starEach [] X.env)).any (·.1)=false:=by rfl):JI X (.Tuple elts x1 tp) (.Call (.Name "enumerate" p) [a] [] pos) (iEnum X.K t):=⟨jQT hg.a hm ha.h hv he hpl⟩
variable {H1:Hp}{Q:VK}
section
variable {K:W.Frag}{σ:St}
end
section
variable {κ:Type} [DecidableEq κ]
def valV (lI:List (κ×V))(k:κ):Option V:=(lI.find? λkv=>decide (kv.1=k)).map (·.2)
def putK (lI:List (κ×V))(k:κ)(v:V):List (κ×V):=
 if (lI.any λkv=>decide (kv.1=k))=true then lI.map (λkv=>if kv.1=k then (kv.1,v) else kv) else lI++[(k,v)]
theorem yD {p:κ×V}{r:List (κ×V)}{k:κ}(e:p.1=k):valV (p::r) k=some p.2:=by simp [valV,eU,e]
theorem yE {p:κ×V}{r:List (κ×V)}{k:κ}(e:¬p.1=k):valV (p::r) k=valV r k:=by simp [valV,eU,e]
theorem jBU (k:κ):∀lI:List (κ×V),(lI.any λkv=>decide (kv.1=k))=(valV lI k).isSome
 | []=>rfl
 | p::r=>by
  rw[gU]
  by_cases e:p.1=k
  ·simp only [yD e,ar e,Bool.true_or,Option.isSome_some]
  ·rw[yE e,aI e,Bool.false_or]; exact jBU k r
theorem jHZ (k j:κ)(y:V):∀lI:List (κ×V),valV (lI.map λkv=>if kv.1=k then (kv.1,y) else kv) j=(valV lI j).map λx=>if j=k then y else x
 | []=>rfl
 | p::r=>by
  have ih:=jHZ k j y r
  rw[bg]
  by_cases h:p.1=k
  ·rw[am h]
   by_cases e:p.1=j
   ·rw[yD (p:=(p.1,y)) e,yD e,fZ,am (e.symm.trans h)]
   ·rw[yE (p:=(p.1,y)) e,yE e,ih]
  ·rw[ai h]
   by_cases e:p.1=j
   ·rw[yD (p:=p) e,yD e,fZ,ai (λz=>h (e.trans z))]
   ·rw[yE (p:=p) e,yE e,ih]
theorem jFW (k j:κ)(y:V):∀lI:List (κ×V),valV lI k=none->valV (lI++[(k,y)]) j=if j=k then some y else valV lI j
 | [],_=>by
  by_cases e:k=j
  ·rw[am e.symm]; exact yD (p:=(k,y)) e
  ·rw[ai (λz=>e z.symm)]; exact yE (p:=(k,y)) e
 | p::r,hn=>by
  rw[i8]
  have hk:¬p.1=k:=λz=>by rw[yD z] at hn; cases hn
  rw[yE hk] at hn
  have ih:=jFW k j y r hn
  by_cases e:p.1=j
  ·rw[yD e,yD e,ai (λz=>hk (e.trans z))]
  ·rw[yE e,yE e,ih]
theorem jNG (lI:List (κ×V))(k j:κ)(y:V):valV (putK lI k y) j=if j=k then some y else valV lI j:=by
 unfold putK
 by_cases a:(lI.any λkv=>decide (kv.1=k))=true
 ·rw[am a,jHZ]
  rw[jBU] at a
  by_cases e:j=k
  ·obtain⟨x,hx⟩:=fJ.mp a
   rw[am e,e,hx,fZ,am rfl]
  ·rw[ai e]
   cases valV lI j with
   | none=>rfl
   | some x=>rw[fZ,ai e]
 ·rw[ai a]
  refine jFW k j y lI ?_
  rw[jBU] at a
  cases q:valV lI k with
  | none=>rfl
  | some x=>rw[q] at a; exact(a rfl).elim
theorem jE3 (lI:List (κ×V))(k:κ)(v:V):(putK lI k v).length<=lI.length+1:=by
 unfold putK
 split
 ·rw[af]; lia
 ·rw[aJ,aP,dF]; lia
theorem jIA {lI:List (κ×V)}{k:κ}(v:V)(h:valV lI k=none):putK lI k v=lI++[(k,v)]:=by
 unfold putK
 rw[jBU,h]
 exact ai (by decide)
theorem RelO.isSome_eq {o:Option V}{u:Option Value}(r:RelO o u):o.isSome=u.isSome:=by
 cases o with
 | none=>cases u with
  | none=>rfl
  | some _=>exact(show False from r).elim
 | some _=>cases u with
  | none=>exact(show False from r).elim
  | some _=>rfl
theorem KV.val {lI:List (κ×V)}{vs:List (κ×Value)}(r:KV lI vs)(k:κ):RelO (valV lI k) (valueAt vs k):=by
 unfold KV at r
 induction r with
 | nil=>exact True.intro
 | @cons p q ps qs h t ih=>
  obtain⟨h1,h2⟩:=h
  by_cases e:p.1=k
  ·have e':q.1=k:=h1.symm.trans e
   have b:valueAt (q::qs) k=some q.2:=by simp [valueAt,eU,e']
   rw[yD e,b]; exact h2
  ·have e':¬q.1=k:=λz=>e (h1.trans z)
   have b:valueAt (q::qs) k=valueAt qs k:=by simp [valueAt,eU,e']
   rw[yE e,b]; exact ih
theorem KV.any {lI:List (κ×V)}{vs:List (κ×Value)}(r:KV lI vs)(k:κ):(lI.any λkv=>decide (kv.1=k))=vs.any λkv=>decide (kv.1=k):=by
 unfold KV at r
 induction r with
 | nil=>rfl
 | cons h t ih=>rw[gU,gU,ih,h.1]
theorem KV.repl {lI:List (κ×V)}{vs:List (κ×Value)}(r:KV lI vs)(k:κ){y:V}{u:Value}(ry:RelV y u):
  KV (lI.map λkv=>if kv.1=k then (kv.1,y) else kv) (vs.map λkv=>if kv.1=k then (kv.1,u) else kv):=by
 unfold KV at r ⊢
 induction r with
 | nil=>exact .nil
 | @cons p q ps qs h t ih=>
  rw[bg,bg]
  refine .cons ?_ ih
  obtain⟨h1,h2⟩:=h
  by_cases e:p.1=k
  ·rw[am e,am (h1.symm.trans e)]; exact⟨h1,ry⟩
  ·rw[ai e,ai (λz=>e (h1.trans z))]; exact⟨h1,h2⟩
theorem KV.put {lI:List (κ×V)}{vs:List (κ×Value)}(r:KV lI vs)(k:κ){y:V}{u:Value}(ry:RelV y u):KV (putK lI k y) (stored vs k u):=by
 unfold putK stored
 rw[r.any k]
 by_cases e:(vs.any λkv=>decide (kv.1=k))=true
 ·rw[am e,am e]; exact r.repl k ry
 ·rw[ai e,ai e]; exact Paired.snoc r ⟨rfl,ry⟩
theorem KV.length {lI:List (κ×V)}{vs:List (κ×Value)}(r:KV lI vs):lI.length=vs.length:=fH r
end
theorem kV_is {P:Program}{w:World}{k:Key}{u:Value}(r:RelV (kV k) u):(yU P w).is k u=true:=by
 cases k with
 | inl i=>obtain⟨t,e⟩:=(show ∃t,u=Value.int i t from r); subst e; exact jHJ P w i t
 | inr x=>obtain⟨t,e⟩:=(show ∃t,u=Value.str x t from r); subst e; exact jHI P w x t
theorem jGO {P:Program}{w:World} :∀{ks:List Key}{us:List Value},Vals (ks.map kV) us->ItemsAre (yU P w) ks us
 | [],_,r=>by rw[jm] at r; cases r; exact .nil
 | k::ks,_,r=>by
  rw[bg] at r
  cases r with
  | cons h t=>exact .cons (kV_is h) (jGO t)
abbrev KT (H:Hp):List (List Key×V)->List (List Key×Addr×Value)->Prop:=Paired λp q=>p.1=q.1/\H q.2.1=some (.tup (p.1.map kV))/\RelV p.2 q.2.2
theorem KT.val {H:Hp}{lI:List (List Key×V)}{xs:List (List Key×Addr×Value)}(r:KT H lI xs)(k:List Key):RelO (valV lI k) ((atKey xs k).map (·.2)):=by
 induction r with
 | nil=>exact True.intro
 | @cons p q ps qs h t ih=>
  obtain⟨h1,_,h2⟩:=h
  by_cases e:p.1=k
  ·have e':q.1=k:=h1.symm.trans e
   have b:atKey (q::qs) k=some q.2:=by simp [atKey,eU,e']
   rw[yD e,b]; exact h2
  ·have e':¬q.1=k:=λz=>e (h1.trans z)
   have b:atKey (q::qs) k=atKey qs k:=by simp [atKey,eU,e']
   rw[yE e,b]; exact ih
theorem KT.repl {H:Hp}{lI:List (List Key×V)}{xs:List (List Key×Addr×Value)}(r:KT H lI xs)(k:List Key){y:V}{u:Value}(ry:RelV y u):
  KT H (lI.map λkv=>if kv.1=k then (kv.1,y) else kv) (xs.map (putAt k u)):=by
 induction r with
 | nil=>exact .nil
 | @cons p q ps qs h t ih=>
  rw[bg,bg]
  refine .cons ?_ ih
  obtain⟨h1,h2,h3⟩:=h
  unfold putAt
  by_cases e:p.1=k
  ·rw[am e,am (h1.symm.trans e)]; exact⟨h1,h2,ry⟩
  ·rw[ai e,ai (λz=>e (h1.trans z))]; exact⟨h1,h2,h3⟩
theorem KT.put {H:Hp}{lI:List (List Key×V)}{xs:List (List Key×Addr×Value)}(r:KT H lI xs)(k:List Key){b:Addr}{y:V}{u:Value}(hb:H b=some (.tup (k.map kV)))(ry:RelV y u):
  KT H (putK lI k y) (storedH xs k b u):=by
 have e:(lI.any λkv=>decide (kv.1=k))=(atKey xs k).isSome:=by
  rw[jBU,(r.val k).isSome_eq,gC]
 unfold putK storedH
 rw[e]
 by_cases q:(atKey xs k).isSome=true
 ·rw[am q,am q]; exact r.repl k ry
 ·rw[ai q,ai q]; exact Paired.snoc r ⟨rfl,hb,ry⟩
theorem KT.keeps {H H':Hp}{lI:List (List Key×V)}{xs:List (List Key×Addr×Value)}(r:KT H lI xs)(ht:∀b ys,H b=some (.tup ys)->H' b=some (.tup ys)):KT H' lI xs:=
 Paired.mapP r λ_ _ z=>⟨z.1,ht _ _ z.2.1,z.2.2⟩
theorem rd_of {u:HO}(ok:HOk P w H h)(e:Rd H a u):ObjOk P w H h a u:=e.ok ok
theorem dk_rd {lI:List (Key×V)}(ok:HOk P w H h)(e:Rd H a (.dK lI)):lI.length<=sizeLine/\(a==sysModules)=false/\∃vs,KV lI vs/\h.DictOf (yU P w) a vs:=
 show ObjOk P w H h a (.dK lI) from rd_of ok e
theorem dk_of {lI:List (Key×V)}(ok:HOk P w H h)(e:H a=some (.dK lI)):lI.length<=sizeLine/\(a==sysModules)=false/\∃vs,KV lI vs/\h.DictOf (yU P w) a vs:=dk_rd ok (.inl e)
theorem jGI {ks:List Key}(ok:HOk P w H h)(e:H a=some (.tup (ks.map kV))):(tupleKind (yU P w)).is h ks a:=by
 obtain⟨_,its,r,p⟩:=(show ObjOk P w H h a (.tup (ks.map kV)) from ok a _ e)
 obtain⟨o,h1,h2,n,h3⟩:=p.isTup
 exact⟨o,its.toArray,n,h1,h2,h3,by simpa using jGO r⟩
theorem dt_rd {lI:List (List Key×V)}(ok:HOk P w H h)(e:Rd H a (.dT lI)):lI.length<=sizeLine/\(a==sysModules)=false/\
  ∃xs,KT H lI xs/\h.DictOfH (tupleKind (yU P w)) a xs:=by
 obtain⟨z,y,xs,r,o,es,ep,h1,h2,h3,h4,h5⟩:=(show ObjOk P w H h a (.dT lI) from rd_of ok e)
 refine⟨z,y,xs,r,o,es,ep,h1,h2,h3,h4,λx hx=>?_,h5⟩
 have all:∀{l:List (List Key×V)}{m:List (List Key×Addr×Value)},KT H l m->∀x∈m,(tupleKind (yU P w)).is h x.1 x.2.1:=by
  intro l m q
  induction q with
  | nil=>intro x hx; exact nomatch hx
  | @cons p q ps qs hq t ih=>
   intro x hx
   rcases aF.mp hx with e | hx
   ·subst e
    exact jGI ok (by rw[<- hq.1]; exact hq.2.1)
   ·exact ih x hx
 exact all r x hx
theorem dt_of {lI:List (List Key×V)}(ok:HOk P w H h)(e:H a=some (.dT lI)):lI.length<=sizeLine/\(a==sysModules)=false/\
  ∃xs,KT H lI xs/\h.DictOfH (tupleKind (yU P w)) a xs:=dt_rd ok (.inl e)
def DGet (H:Hp)(a:Addr)(y:V)(r:Option V):Prop:=
 (∃lI k,Rd H a (.dK lI)/\y=kV k/\r=valV lI k)\/∃lI k b,Rd H a (.dT lI)/\y= .ref b/\H b=some (.tup (k.map kV))/\r=valV lI k
def DPut (H:Hp)(a:Addr)(y v:V)(H':Hp):Prop:=
 (∃lI k,H a=some (.dK lI)/\y=kV k/\lI.length<sizeLine/\H'=upd H a (.dK (putK lI k v)))\/
 ∃lI k b,H a=some (.dT lI)/\y= .ref b/\H b=some (.tup (k.map kV))/\lI.length<sizeLine/\H'=upd H a (.dT (putK lI k v))
theorem DGet.k {H:Hp}{a:Addr}{lI:List (Key×V)}{k:Key}(e:H a=some (.dK lI)):DGet H a (kV k) (valV lI k):= .inl ⟨lI,k, .inl e,rfl,rfl⟩
theorem DGet.t {H:Hp}{a b:Addr}{lI:List (List Key×V)}{k:List Key}(e:H a=some (.dT lI))(eb:H b=some (.tup (k.map kV))):DGet H a (.ref b) (valV lI k):= .inr ⟨lI,k,b, .inl e,rfl,eb,rfl⟩
theorem DPut.k {H:Hp}{a:Addr}{lI:List (Key×V)}{k:Key}{v:V}(e:H a=some (.dK lI))(hl:lI.length<sizeLine):DPut H a (kV k) v (upd H a (.dK (putK lI k v))):= .inl ⟨lI,k,e,rfl,hl,rfl⟩
theorem DPut.t {H:Hp}{a b:Addr}{lI:List (List Key×V)}{k:List Key}{v:V}(e:H a=some (.dT lI))(eb:H b=some (.tup (k.map kV)))(hl:lI.length<sizeLine):
  DPut H a (.ref b) v (upd H a (.dT (putK lI k v))):= .inr ⟨lI,k,b,e,rfl,eb,hl,rfl⟩
variable {y:V}{u r:Value}
section
variable {σ:St}{v:V}{o:Option V}
theorem Inv.big (I:Inv X lF σ H s):sysModules<s.heap.objs.size:=by
 have h:mainGlobals<s.heap.objs.size:=(I.mod.glob.keeps I.bk).lt
 exact gx (by decide) h
theorem jML {Q:Value->Shared->Prop}(hu:A.units+1<cLine)(I:Inv X lF σ H s)(g:DGet H a y (some v))(ry:RelV y u)(h:∀w' s',Inv X lF σ H s'->RelV v w'->Q w' s'):
  wpAny (model X.prog X.w) A (getItem (.ref a) u) Q E s:=by
 rcases g with ⟨lI,k,e,ey,l⟩ | ⟨lI,k,b,e,ey,eb,l⟩
 ·subst ey
  obtain⟨z,hd,vs,rel,dd⟩:=dk_rd I.hok e
  obtain⟨w',hw,rw'⟩:=RelO.some_of (v:=v) (o:=valueAt vs k) (by rw[l]; exact rel.val k)
  exact wpAny_getItem_of (kV_is ry) dd.mapOf hw (h w' _ (I.tok _) rw')
 ·subst ey
  cases (show u=Value.ref b from ry)
  obtain⟨z,hd,xs,rel,dd⟩:=dt_rd I.hok e
  obtain⟨w',hw,rw'⟩:=RelO.some_of (v:=v) (o:=(atKey xs k).map (·.2)) (by rw[l]; exact rel.val k)
  obtain⟨p,hp,hp2⟩:=Option.map_eq_some_iff.mp hw
  refine wpAny_getItem_heap (gf hu) (jGI I.hok eb) dd hp ?_
  rw[hp2]
  exact h w' _ (I.tok _) rw'
theorem d_in {Q:Value->Shared->Prop}(hu:A.units+1<cLine)(I:Inv X lF σ H s)(g:DGet H a y o)(ry:RelV y u)(h:∀s',Inv X lF σ H s'->Q (.bool o.isSome) s'):
  wpAny (model X.prog X.w) A (compareOp .In u (.ref a)) Q E s:=by
 rcases g with ⟨lI,k,e,ey,l⟩ | ⟨lI,k,b,e,ey,eb,l⟩
 ·subst ey
  obtain⟨z,hd,vs,rel,dd⟩:=dk_rd I.hok e
  refine wpAny_in_of (kV_is ry) hd dd.mapOf ?_
  rw[<- (rel.val k).isSome_eq,<- l]
  exact h _ (I.tok _)
 ·subst ey
  cases (show u=Value.ref b from ry)
  obtain⟨z,hd,xs,rel,dd⟩:=dt_rd I.hok e
  refine wpAny_in_heap (gf hu) (jGI I.hok eb) hd dd ?_
  have q:=(rel.val k).isSome_eq
  rw[gC] at q
  rw[<- q,<- l]
  exact h _ (I.tok _)
theorem jS5 {Q:Value->Shared->Prop}(hu:A.units+1<cLine)(I:Inv X lF σ H s)(g:DGet H a y o)(ry:RelV y u)(h:∀s',Inv X lF σ H s'->Q (.bool (!o.isSome)) s'):
  wpAny (model X.prog X.w) A (compareOp .NotIn u (.ref a)) Q E s:=by
 rcases g with ⟨lI,k,e,ey,l⟩ | ⟨lI,k,b,e,ey,eb,l⟩
 ·subst ey
  obtain⟨z,hd,vs,rel,dd⟩:=dk_rd I.hok e
  refine wpAny_notIn_of (kV_is ry) hd dd.mapOf ?_
  rw[<- (rel.val k).isSome_eq,<- l]
  exact h _ (I.tok _)
 ·subst ey
  cases (show u=Value.ref b from ry)
  obtain⟨z,hd,xs,rel,dd⟩:=dt_rd I.hok e
  refine wpAny_notIn_heap (gf hu) (jGI I.hok eb) hd dd ?_
  have q:=(rel.val k).isSome_eq
  rw[gC] at q
  rw[<- q,<- l]
  exact h _ (I.tok _)
theorem jMJ {h':Heap}{t':Nat}{ob:HO}(I:Inv X lF σ H s)(mu:Mut (H a))(hs:Heap.SameBut a s.heap h')(he:∃q,h'.get? a=some q)(new:ObjOk X.prog X.w (upd H a ob) h' a ob):
  Inv X lF σ (upd H a ob) { s with heap:=h',toks:=t'} :=
 I.write (x:=a) (e:=a) mu (.inl rfl) (λb q hb z=>(hs.2 b hb).trans z) he new
theorem jU3 {P:Program}{w:World}{H':Hp}{h':Heap}{lI:List (Key×V)}{vs:List (Key×Value)}(z:lI.length<=sizeLine)(hd:(a==sysModules)=false)(rel:KV lI vs)(dd:h'.DictOf (yU P w) a vs):
  ObjOk P w H' h' a (.dK lI):=⟨z,hd,vs,rel,dd⟩
theorem jMK {H':Hp}{Q:Unit->Shared->Prop}(hu:A.units+1<cLine)(I:Inv X lF σ H s)(g:DPut H a y v H')(ry:RelV y u)(rv:RelV v r)(h:∀s',Inv X lF σ H' s'->Q () s'):
  wpAny (model X.prog X.w) A (setItem (.ref a) u r) Q E s:=by
 rcases g with ⟨lI,k,e,ey,l,eH⟩ | ⟨lI,k,b,e,ey,eb,l,eH⟩
 ·subst ey eH
  obtain⟨z,hd,vs,rel,dd⟩:=dk_of I.hok e
  have hz:vs.length<=sizeLine:=by rw[<- rel.length]; exact z
  have hl:(putK lI k v).length<=sizeLine:=by have:=jE3 lI k v; lia
  refine wpAny_setItem_pairs (hsz:=hz) (kV_is ry) dd λh' dd' hs=>h _ ?_
  have he:∃q,h'.get? a=some q:=let ⟨q,_,_,hq,_⟩:=dd'; ⟨q,hq⟩
  exact jMJ I (by rw[e]; exact True.intro) hs he (jU3 hl hd (rel.put k rv) dd')
 ·subst ey eH
  cases (show u=Value.ref b from ry)
  obtain⟨z,hd,xs,rel,dd⟩:=dt_of I.hok e
  have hz:xs.length<=sizeLine:=by rw[<- fH rel]; exact z
  have hl:(putK lI k v).length<=sizeLine:=by have:=jE3 lI k v; lia
  refine wpAny_setItem_heap (hsz:=hz) (gf hu) (jGI I.hok eb) dd λh' dd' hs=>h _ ?_
  obtain⟨q,es,ep,hq,h2,h3,h4,_,h5⟩:=dd'
  refine jMJ I (by rw[e]; exact True.intro) hs ⟨q,hq⟩ ⟨hl,hd,_,(rel.put k eb rv).keeps λc ys ec=>?_,q,es,ep,hq,h2,h3,h4,h5⟩
  rw[j7 (ne_of ec e (λz=>nomatch z))]
  exact ec
end
variable {lI:List (Key×V)}
section
variable {σ:St}{k:Key}
end
def NoSl (i:Expr):Prop:=∀ov iv,subscripted i false ov iv=operate [ov,iv] (getItem ov iv)
theorem jQC {prog:Program}{w:World}{A:Around}{E:Value->Shared->Prop}{s:Shared}{env:Env}{value slice:Expr}{pos:Pos}{T id:String}{Q:Value->Shared->Prop}
  (hl:typeLookup (.type T) "__getitem__" =pure (some (.builtin id))) (hs:NoSl slice)
  (h:wpAny (model prog w) A (eval value env) (λo s₁=>wpAny (model prog w) A (eval slice env) (λi s₂=>s₂.TypeIs o T/\wpAny (model prog w) A (getItem o i) Q E s₂) E s₁) E s):
  wpAny (model prog w) A (eval (.Subscript value slice pos) env) Q E s:=by
 refine jn (cw h (λo s₁ h₁=>cw h₁ (λi s₂ h₂=>?_) λ_ _ x=>x) λ_ _ x=>x)
 obtain⟨hT,h₂⟩:=h₂
 unfold subscriptTail
 refine aa ?_
 rw[getitemInPython_of_ne hT.not_modules]
 refine aa (jx hT hl ?_)
 have fin:wpAny (model prog w) A (subscripted slice false o i) (λr s₃=>wpAny (model prog w) A (letTemporaryGo value o r >>= λ_=>pure r) Q E s₃) E s₂:=by
  rw[hs o i]
  exact wpAny_operating (cw h₂ (λr s₃ h₃=>aa (wpAny_letTemporaryGo (ae h₃))) λ_ _ x=>x)
 first
  | exact ae (aa fin)
  | exact aa (ae (aa fin))
  | exact aa fin
theorem jHU {X:Cx}{lF:List (Addr×Obj)}{σ:St}{H:Hp}{s:Shared}{a:Addr}{y:V}{o:Option V}(I:Inv X lF σ H s)(g:DGet H a y o):s.TypeIs (.ref a) "dict" :=by
 rcases g with ⟨lI,k,e,_,_⟩ | ⟨lI,k,b,e,_,_,_⟩
 ·obtain⟨_,_,vs,_,dd⟩:=dk_rd I.hok e
  exact dd.typeIs
 ·obtain⟨_,_,xs,_,dd⟩:=dt_rd I.hok e
  exact dd.typeIs
def tDGet (td ty:TE):TE:=λσ H Q=>td σ H λx H1=>ty σ H1 λy H2=>∃a v,x= .ref a/\DGet H2 a y (some v)/\Q v H2
def tDIn (ty td:TE):TE:=λσ H Q=>ty σ H λy H1=>td σ H1 λx H2=>∃a o,x= .ref a/\DGet H2 a y o/\Q (.bl o.isSome) H2
def jKE (ty td:TE):TE:=λσ H Q=>ty σ H λy H1=>td σ H1 λx H2=>∃a o,x= .ref a/\DGet H2 a y o/\Q (.bl (!o.isSome)) H2
def sDPut (td ty tv:TE):TS:=λD σ H=>tv σ H λv H1=>td σ H1 λx H2=>ty σ H2 λy H3=>∃a H4,x= .ref a/\DPut H3 a y v H4/\D.nx σ H4
variable {value:Expr}{pos':Pos}{td tv:TE}
section
variable {o i:Expr}{tpos:Pos}{ty:TE}
theorem jQV (hu:X.A.units+1<cLine)(ho:PE X o td)(hi:PE X i ty)(hs:NoSl i):PE X (.Subscript o i pos) (tDGet td ty):=by
 intro lF s σ H Q I h
 refine jQC PySem.F.slot_dict_getitem.lookup hs (lJ (ho lF s σ H _ I h) λu s1 ⟨x,H1,I1,rx,q1⟩=>lJ (hi lF s1 σ H1 _ I1 q1) λiv s2 ⟨y,H2,I2,ry,a,v,ex,g,q2⟩=>?_)
 subst ex
 obtain rfl:u=Value.ref a:=rx
 exact⟨jHU I2 g,jML hu I2 g ry λw' s3 I3 rw'=>⟨v,H2,I3,rw',q2⟩⟩
theorem jPF (hu:X.A.units+1<cLine)(hi:PE X i ty)(ho:PE X o td):PC X .In i o (tDIn ty td):=by
 intro lF s σ H Q I h
 refine lJ (hi lF s σ H _ I h) λiv s1 ⟨y,H1,I1,ry,q1⟩=>lJ (ho lF s1 σ H1 _ I1 q1) λu s2 ⟨x,H2,I2,rx,a,ov,ex,g,q2⟩=>?_
 subst ex
 obtain rfl:u=Value.ref a:=rx
 exact d_in hu I2 g ry λs3 I3=>⟨.bl ov.isSome,H2,I3,rfl,q2⟩
theorem jKZ (hu:X.A.units+1<cLine)(hi:PE X i ty)(ho:PE X o td):PC X .NotIn i o (jKE ty td):=by
 intro lF s σ H Q I h
 refine lJ (hi lF s σ H _ I h) λiv s1 ⟨y,H1,I1,ry,q1⟩=>lJ (ho lF s1 σ H1 _ I1 q1) λu s2 ⟨x,H2,I2,rx,a,ov,ex,g,q2⟩=>?_
 subst ex
 obtain rfl:u=Value.ref a:=rx
 exact jS5 hu I2 g ry λs3 I3=>⟨.bl (!ov.isSome),H2,I3,rfl,q2⟩
theorem jQN (hu:X.A.units+1<cLine)(ho:PE X o td)(hi:PE X i ty)(hv:PE X value tv)(hs:swapsWith value (some (.Subscript o i pos')) pos.line X.env=pure false):
  PS X (.Assign [.Subscript o i pos'] value pos) (sDPut td ty tv):=by
 intro lF s σ H D I h
 refine wpAny_Assign_Subscript (lJ (hv lF s σ H _ I h) λr s1 ⟨v,H1,I1,rv,q1⟩=>lJ (ho lF s1 σ H1 _ I1 q1) λu s2 ⟨x,H2,I2,rx,q2⟩=>lJ (hi lF s2 σ H2 _ I2 q2) λiv s3 ⟨y,H3,I3,ry,a,H4,ex,g,q3⟩=>?_) hs
 subst ex
 obtain rfl:u=Value.ref a:=rx
 exact jMK hu I3 g ry rv λs4 I4=>⟨σ,H4,I4,q3⟩
end
theorem jOG {P:Program}{w:World}{H:Hp}(h:Heap)(hb:sysModules<h.objs.size):ObjOk P w H (h.push { cls:= .type "dict",data:= .dict #[]}) h.objs.size (.dT []):=
 ⟨aS _,dG.mpr (dh (aO hb)),[], .nil,_,#[],0,ao _ rfl,⟨rfl,rfl,rfl⟩,rfl,rfl,ki⟩
def jP1:TE:=λ_ H Q=>∀p,H p=none->Q (.ref p) (upd H p (.dT []))
theorem jNV:PE X (.Dict [] [] pos) jP1:=λlF s σ H Q I h=>
 wpAny_Dict_empty ⟨.ref s.heap.objs.size,_,I.laid (a:=s.heap.objs.size) (o:= .dT []) (t':=s.toks) (λ_ _ q=>ab _ q) (aj _) (jOG s.heap I.big),rfl,h _ (I.hok.fresh (aj _))⟩
section
variable {σ:St}{d:V}{o:Option V}
end
variable {apos:Pos}{tx:TE}
section
variable {o f:Expr}{ty:TE}
end
section
variable {σ:St}
end
section
variable {σ:St}
end
section
variable {κ:Type} [DecidableEq κ]
end
section
variable {d:Addr}{lI:List (Key×Value)}
end
section
variable {o i f:Expr}{ty:TE}
theorem jFH (hu:X.A.units+1<cLine)(ho:JE X o td)(hi:JE X i ty)(hs:jB3 i):JE X (.Subscript o i pos) (tDGet td ty):=⟨jQV hu ho.h hi.h hs⟩
theorem jFG (hu:X.A.units+1<cLine)(ho:JE X o td)(hi:JE X i ty)(hv:JE X value tv)(hs:SwOk value (some (.Subscript o i pos'))):JS X (.Assign [.Subscript o i pos'] value pos) (sDPut td ty tv):=⟨jQN hu ho.h hi.h hv.h (hs.h _ _)⟩
end
section
variable {prog:Program}{w:World}{K:Type} [DecidableEq K]{knd:KeyKind prog w K}{A:Around}{R:Result->Shared->Prop}{I:Addr}{fp wr:List Addr}{n:Nat}{P:Nat->Value->Prop}{St:Nat->Shared->Prop}
end
section
variable {prog:Program}{w:World}{K:Type} [DecidableEq K]{knd:KeyKind prog w K}{A:Around}{E:Value->Shared->Prop}{s:Shared}
end
section
variable {K:W.Frag}
theorem gl_n (h:sc.names.lookup x=some .globalImplicit:=by decide+kernel):Gl1 (cxN P w K mg lG N qual sc f cd cl A outer s H) x:=⟨h⟩
theorem vis_n (h:sc.names.lookup x=some .local:=by decide+kernel):Vis1 (cxN P w K mg lG N qual sc f cd cl A outer s H) x:=⟨.inl h⟩
theorem jSG (h:sc.names.lookup x=some .free):Vis1 (cxN P w K mg lG N qual sc f cd cl A outer s H) x:=⟨.inr (.inr h)⟩
end
def AtS (tp:Bool)(H:Hp)(a:Addr)(xs:List V):Prop:=match tp with
 | false=>H a=some (.lst xs)
 | true=>H a=some (.tup xs)
theorem jPV {i o:Expr}{ty td:TE}{pos:Pos}(hu:X.A.units+1<cLine)(hi:JE X i ty)(ho:JE X o td)(h1:behindInMarks .In o=false):JT X (.Compare i [.In] [o] pos) (tB (tDIn ty td)):=⟨jPA (jPF hu hi.h ho.h) h1⟩
section
variable {K:W.Frag}{σ:St}
theorem jMN {a:Addr}{xs:List V}(hn:xs.length<sizeLine)(Pv:Addr->Nat->St->Hp->List V->Prop)(h0:∀D,H1 D=none->Pv D 0 (blkσ m σ) (upd H1 D (.lst [])) [])
  (hD:∀D i σ' H' zs,H1 D=none->Pv D i σ' H' zs->H' a=some (.lst xs)/\H' D=some (.lst zs)/\zs.length<=i)
  (hs:∀D i σ' H' zs x,H1 D=none->xs[i]?=some x->Pv D i σ' H' zs->g x σ' H' λσ2 H2=>tt σ2 H2 λb H3=>if b=true then te σ2 H3 λv H4=>H4 D=some (.lst zs)/\Pv D (i+1) σ2 (upd H4 D (.lst (zs++[v]))) (zs++[v]) else Pv D (i+1) σ2 H3 zs)
  (hd:∀D σ' H' zs,H1 D=none->Pv D xs.length σ' H' zs->Q (.ref D) H'):qX m g tt te σ Q (Itl K a) H1:=by
 intro D hDn
 refine⟨λi k σ' H' zs=>k=xs.length - i/\i<=xs.length/\Pv D i σ' H' zs,⟨_,rfl,aS _,h0 D hDn⟩,?_⟩
 rintro i k σ' H' zs ⟨rfl,hi,p⟩
 obtain⟨s1,q1,q2⟩:=hD D i σ' H' zs hDn p
 refine⟨q1,by lia,?_⟩
 by_cases hlt:i<xs.length
 ·refine .inr ⟨⟨xs,xs[i],SqL.of s1,by simp [hlt]⟩,Pv D (i+1),λσ2 H2 zs z=>⟨xs.length - (i+1),by lia,rfl,hlt,z⟩,λv H'' y=>?_⟩
  obtain⟨e1,e2⟩:=y
  subst e1
  exact hs D i σ' _ zs v hDn (e2 xs (SqL.of s1)) p
 ·have e:i=xs.length:=by lia
  subst e
  exact .inl ⟨⟨xs,SqL.of s1,aj _⟩,hd D σ' H' zs hDn p⟩
end
theorem ExtT.of {T:Addr}{H H':Hp}(e:Ext H H'):ExtT T H H':=λb o h _=>e b o h
theorem ExtT.refl {T:Addr}(H:Hp):ExtT T H H:=λb o h _=>h
theorem ExtT.trans {T:Addr}{H H' H'':Hp}(a:ExtT T H H')(b:ExtT T H' H''):ExtT T H H'':=λc o h n=>b c o (a c o h n) n
structure FunC (K:W.Frag)(x qual:Str)(st:Stmt)(f:Addr)(fd:FuncData)(c0:Addr):Prop where
 ex:∃(oc:Value) (od:Option Addr) (kV doc pm:Value) (an:Option Addr) (ct:Value) (osl:Array (Option Value)),fd=PySem.W.fnOf x qual (q0 st) (jE st) (jB st) .none kV doc pm an (.ref c0) ct/\K.lookup f=some ⟨oc,od, .func fd,osl⟩/\PySem.W.codeIn K (.ref c0) qual=true
theorem FunC.ok {P:Program}{w:World}{K:W.Frag}{mg:Str->Option Value}{lG:Heap}{x qual:Str}{st:Stmt}{f c0:Addr}{fd:FuncData}{N ps:List Str}{k:Nat}{sp:Sp}(F:FunC K x qual st f fd c0)(S:FnScope N ps (jB st))(len:∀vs H Q E,sp vs H Q E->vs.length=ps.length)
  (hbody:∀(A:Around) (outer:List Env) (s:Shared) (H:Hp) (vs:List V) (Q:VK) (E:XK),Room k (A.deeper (envOfC qual (jB st) s.heap.objs.size f (.ref c0)))->sp vs H Q E->
   ∃t,PSs (cxOf CX0 P w K mg lG N qual (jB st) f (.ref c0) A outer s H E).nox (jE st) t/\t { nx:=λ_ H'=>Q .non H',rt:=Q} (yV N vs) H):FnOk P w K mg lG CX0 (k+1) f fd ps sp:=by
 obtain⟨oc,od,kV,doc,pm,an,ct,osl,rfl,lk,hcd⟩:=F.ex
 refine fn_of lk hcd S len λA outer s H vs Q E hr hsp=>?_
 obtain⟨t,ht,hq⟩:=hbody A outer s H vs Q E hr hsp
 exact⟨t,ht.nox,hq⟩
variable {fp:List Addr}
section
variable {sc2:Scope}{cl2:List (Str×Addr)}{C2:Addr}{Nc2:List Str}{fp2:List Addr}{s2:Shared}{H2:Hp}
end
section
variable {K:W.Frag}{σ:St}
abbrev TupsK (H H':Hp):Prop:=∀b xs,H b=some (.tup xs)->H' b=some (.tup xs)
structure ZOk (Z:Hp->List V->Nat->Prop):Prop where
 z0:∀H,Z H [] 0
 mono:∀H H' zs j,TupsK H H'->Z H zs j->Z H' zs j
 len:∀H zs j,Z H zs j->zs.length<=j
theorem jFX {H:Hp}{D:Addr}{zs:List V}(h:H D=some (.lst zs))(o:HO):TupsK H (upd H D o):=λb xs hb=>by
 rw[j7 (λe=>by rw[e,h] at hb; cases hb)]
 exact hb
def TurnZ (g:TG)(tt:TT)(te:TE)(σP:St->Prop)(Z:Hp->List V->Nat->Prop)(x:V)(j:Nat)(σ':St)(H':Hp)(zs:List V):Prop:=
 ∀(R:St->V->Hp->Prop) (S:St->Hp->Prop),(∀σ2 v H2,σP σ2->Ext H' H2->Z H2 (zs++[v]) (j+1)->R σ2 v H2)->(∀σ2 H2,σP σ2->Ext H' H2->Z H2 zs (j+1)->S σ2 H2)->
  g x σ' H' λσ2 H2=>tt σ2 H2 λb H3=>if b=true then te σ2 H3 (R σ2) else S σ2 H3
theorem jMO {tp:Bool}{a:Addr}{xs:List V}(σP:St->Prop)(Z:Hp->List V->Nat->Prop)(zo:ZOk Z)(ha:AtS tp H a xs)(hn:xs.length<sizeLine)(h0:σP (blkσ m σ))
  (step:∀j x σ' H' zs,xs[j]?=some x->σP σ'->Ext H H'->Z H' zs j->TurnZ g tt te σP Z x j σ' H' zs)
  (hd:∀D H' zs,H' D=some (.lst zs)->Ext H H'->H D=none->Z H' zs xs.length->Q (.ref D) H'):qX m g tt te σ Q (match tp with | false=>Itl K a | true=>Itt K a) H:=by
 have turn:∀D j σ' H' zs x,H D=none->xs[j]?=some x->(σP σ'/\Ext H H'/\H' D=some (.lst zs)/\H D=none/\Z H' zs j)->g x σ' H' λσ2 H2=>tt σ2 H2 λb H3=>if b=true then te σ2 H3 λv H4=>H4 D=some (.lst zs)/\(σP σ2/\Ext H (upd H4 D (.lst (zs++[v])))/\(upd H4 D (.lst (zs++[v]))) D=some (.lst (zs++[v]))/\H D=none/\Z (upd H4 D (.lst (zs++[v]))) (zs++[v]) (j+1)) else (σP σ2/\Ext H H3/\H3 D=some (.lst zs)/\H D=none/\Z H3 zs (j+1)):=by
  rintro D j σ' H' zs x hD hx ⟨p,e,h2,hn,hz⟩
  exact step j x σ' H' zs hx p e hz _ _ (λσ2 v H2 p2 e2 z2=>⟨e2 _ _ h2,p2,(e.trans e2).updNew hn _,j6,hn,zo.mono _ _ _ _ (jFX (e2 _ _ h2) _) z2⟩) λσ2 H2 p2 e2 z2=>⟨p2,e.trans e2,e2 _ _ h2,hn,z2⟩
 cases tp with
 | false=>exact jMN (xs:=xs) hn (λD j σ' H' zs=>σP σ'/\Ext H H'/\H' D=some (.lst zs)/\H D=none/\Z H' zs j) (λD hD=>⟨h0,(Ext.refl _).new hD _,j6,hD,zo.z0 _⟩) (λD j σ' H' zs hD ⟨_,e,h2,_,hz⟩=>⟨e _ _ ha,h2,zo.len _ _ _ hz⟩) turn λD σ' H' zs hD ⟨_,e,h2,hn,hz⟩=>hd D H' zs h2 e hn hz
 | true=>exact jFQ (xs:=xs) hn (λD j σ' H' zs=>σP σ'/\Ext H H'/\H' D=some (.lst zs)/\H D=none/\Z H' zs j) (λD hD=>⟨h0,(Ext.refl _).new hD _,j6,hD,zo.z0 _⟩) (λD j σ' H' zs hD ⟨_,e,h2,_,hz⟩=>⟨e _ _ ha,h2,zo.len _ _ _ hz⟩) turn λD σ' H' zs hD ⟨_,e,h2,hn,hz⟩=>hd D H' zs h2 e hn hz
theorem jJ0 {a:Addr}{xs:List V}(σP:St->Prop)(Z:Hp->List V->Nat->Prop)(zo:ZOk Z)(ha:H a=some (.tup xs))(hn:xs.length<sizeLine)(h0:σP (blkσ m σ))
  (step:∀j x σ' H' zs,xs[j]?=some x->σP σ'->Ext H H'->Z H' zs j->TurnZ g tt te σP Z x j σ' H' zs)
  (hd:∀D H' zs,H' D=some (.lst zs)->Ext H H'->H D=none->Z H' zs xs.length->Q (.ref D) H'):qX m g tt te σ Q (Itt K a) H:=jMO (tp:=true) σP Z zo ha hn h0 step hd
theorem jBH {a:Addr}{xs:List V}(σP:St->Prop)(Z:Hp->List V->Nat->Prop)(zo:ZOk Z)(ha:H a=some (.lst xs))(hn:xs.length<sizeLine)(h0:σP (blkσ m σ))
  (step:∀j x σ' H' zs,xs[j]?=some x->σP σ'->Ext H H'->Z H' zs j->TurnZ g tt te σP Z x j σ' H' zs)
  (hd:∀D H' zs,H' D=some (.lst zs)->Ext H H'->H D=none->Z H' zs xs.length->Q (.ref D) H'):qX m g tt te σ Q (Itl K a) H:=jMO (tp:=false) σP Z zo ha hn h0 step hd
theorem jOJ {n:Nat}(σP:St->Prop)(Z:Hp->List V->Nat->Prop)(zo:ZOk Z)(hn:n<sizeLine)(h0:σP (blkσ m σ))
  (step:∀j σ' H' zs,j<n->σP σ'->Ext H H'->Z H' zs j->TurnZ g tt te σP Z (.int (0+j)) j σ' H' zs)
  (hd:∀D H' zs,H' D=some (.lst zs)->Ext H H'->H D=none->Z H' zs n->Q (.ref D) H'):qX m g tt te σ Q (Itr 0 n) H:=by
 refine jBG (lo:=0) (n:=n) hn (λD j σ' H' zs=>σP σ'/\Ext H H'/\H' D=some (.lst zs)/\H D=none/\Z H' zs j) (λD hD=>⟨h0,(Ext.refl _).new hD _,j6,hD,zo.z0 _⟩) (λD j σ' H' zs hD hj ⟨_,e,h2,_,hz⟩=>⟨h2,zo.len _ _ _ hz⟩) ?_ λD σ' H' zs hD ⟨_,e,h2,hn,hz⟩=>hd D H' zs h2 e hn hz
 rintro D j σ' H' zs hD hj ⟨p,e,h2,hn,hz⟩
 exact step j σ' H' zs hj p e hz _ _ (λσ2 v H2 p2 e2 z2=>⟨e2 _ _ h2,p2,(e.trans e2).updNew hn _,j6,hn,zo.mono _ _ _ _ (jFX (e2 _ _ h2) _) z2⟩) λσ2 H2 p2 e2 z2=>⟨p2,e.trans e2,e2 _ _ h2,hn,z2⟩
end
def outZ {α:Type}(l:List α)(p:α->Bool)(f:α->V):Hp->List V->Nat->Prop:=λ_ zs j=>zs=((l.take j).filter p).map f
theorem outZ.ok {α:Type}(l:List α)(p:α->Bool)(f:α->V):ZOk (outZ l p f):=⟨λ_=>rfl,λ_ _ _ _ _ h=>h,λ_ zs j h=>by
 rw[show zs=_ from h,af]
 exact bM (bP _ _) (ef _ _)⟩
theorem outZ.yes {α:Type}{l:List α}{p:α->Bool}{f:α->V}{H H':Hp}{zs:List V}{j:Nat}{x:α}(h:outZ l p f H zs j)(hx:l[j]?=some x)(hp:p x=true):outZ l p f H' (zs++[f x]) (j+1):=by
 show _=_
 rw[bN,hx,ci,aR,<- show zs=_ from h]
 simp [hp]
theorem outZ.no {α:Type}{l:List α}{p:α->Bool}{f:α->V}{H H':Hp}{zs:List V}{j:Nat}{x:α}(h:outZ l p f H zs j)(hx:l[j]?=some x)(hp:p x=false):outZ l p f H' zs (j+1):=by
 show _=_
 rw[bN,hx,ci,aR,<- show zs=_ from h]
 simp [hp]
theorem outZ.all {α:Type}{l:List α}{p:α->Bool}{f:α->V}{H:Hp}{zs:List V}{n:Nat}(h:outZ l p f H zs n)(hn:l.length<=n):zs=(l.filter p).map f:=by
 rw[show zs=_ from h,bL hn]
def mapZ {α:Type}(l:List α)(f:α->V):Hp->List V->Nat->Prop:=λ_ zs j=>zs=(l.take j).map f
theorem mapZ.ok {α:Type}(l:List α)(f:α->V):ZOk (mapZ l f):=⟨λ_=>rfl,λ_ _ _ _ _ h=>h,λ_ zs j h=>by
 rw[show zs=_ from h,af]
 exact ef _ _⟩
theorem mapZ.yes {α:Type}{l:List α}{f:α->V}{H H':Hp}{zs:List V}{j:Nat}{x:α}(h:mapZ l f H zs j)(hx:l[j]?=some x):mapZ l f H' (zs++[f x]) (j+1):=by
 show _=_
 rw[bN,hx,aR,<- show zs=_ from h]
 rfl
theorem mapZ.all {α:Type}{l:List α}{f:α->V}{H:Hp}{zs:List V}{n:Nat}(h:mapZ l f H zs n)(hn:l.length<=n):zs=l.map f:=by
 rw[show zs=_ from h,bL hn]
theorem int_at {l:List Int}{j:Nat}{x:V}(h:(l.map V.int)[j]?=some x):∃z:Int,l[j]?=some z/\x=V.int z:=by
 rw[aW] at h
 cases hq:l[j]? with
 | none=>rw[hq] at h; cases h
 | some z=>rw[hq] at h; cases h; exact⟨z,rfl,rfl⟩
section
variable {st:Stmt}{sts:List Stmt}{t:TS}
end
end L2
namespace L2
open PySem
end L2
namespace L2
open PySem PySem.Spec PyProof.Rows
section
variable {m:List (Option Nat)}{g:TG}{tt:TT}{te:TE}{σ:St}{H1:Hp}{Q:VK}
end
open PySem.AutoSeq1 (wpAny_loadPart')
variable {w:World}{s:Shared}
section
variable {prog:Program}{A:Around}{E:Value->Shared->Prop}
end
variable {X:Cx}
section
variable {sc:Scope}{cl:List (Str×Addr)}{C:Addr}{Nc:List Str}{fp:List Addr}{H:Hp}
end
def rMinL (K:W.Frag):List V->Hp->VK->Prop:=λxs H Q=>∃(p:Addr) (ns:List Int),xs=[.ref p]/\(SqL K H p (ns.map V.int))/\0<ns.length/\∀m,m∈ns->(∀a∈ns,m<=a)->Q (.int m) H
theorem jMV (hc:X.calm=true):yT X (.builtin "min") (rMinL X.K):=by
 intro lF s σ H xs us Q I r h
 obtain⟨p,ns,rfl,hq,hn,q⟩:=h
 obtain⟨u,rfl,rx⟩:=r.one
 cases rx
 obtain⟨its,r',pl,hz⟩:=I.list hq
 have hlen:=r'.length
 rw[af] at hlen
 have val:∀(i:Nat) (v:Value),its[i]?=some v->∃t,v=Value.int (ns.getD i 0) t:=λi v hi=>by
  have hb:i<ns.length:=by
   rw[hlen]
   exact(ah.mp hi).1
  obtain⟨u,hu,ru⟩:=r'.get (i:=i) (x:= .int (ns[i])) (by simp [hb])
  rw[hi] at hu
  cases hu
  obtain⟨t,rfl⟩:=ru
  exact⟨t,by simp [List.getD,hb]⟩
 refine call_min_walk (cU pl.isList ?_)
 have hne:p≠s.heap.objs.size:=by
  obtain⟨o,ho,_⟩:=pl.isList
  exact aO (aq ho)
 refine⟨s.heap.objs.size,_,_,_,_,_,_,rfl,iw (by simpa using I.ok.hd hc) _ p hne its.toArray,⟨⟨_,ao _ rfl,rfl,rfl⟩,pl.isList.push _⟩,(λb hb=>?_),by rw[ak]; lia,CmpOf.ints_lt (λi=>ns.getD i 0) (λi v hP=>val i v (by simpa using hP)),λv h' tk hP hk=>?_⟩
 ·show b<(s.heap.push _).objs.size
  rw[bR]
  obtain⟨o,ho,_⟩:=pl.isList
  have:=aq ho
  rcases aF.mp hb with rfl | hb
  ·exact gP _
  ·rcases aF.mp hb with rfl | hb
   ·exact bK this
   ·cases hb
 ·obtain⟨h1,h2⟩:=argBest_lt (λi=>ns.getD i 0) (its.toArray.size - 1)
  rw[ak] at h1 h2 hP
  rw[List.getElem?_toArray] at hP
  obtain⟨t,rfl⟩:=val _ v hP
  refine⟨.int _,H,I.kept (t':=tk) λb o e=>hk b o (by
   intro z
   have z:b=s.heap.objs.size:=by simpa using z
   exact absurd (aq e) (by rw[z]; exact cJ _)) (ab _ e),⟨_,rfl⟩,q _ ?_ λa ha=>?_⟩
  ·generalize argBest _ _=j at h1
   have hj:j<ns.length:=by lia
   rw[aB,aG hj]
   exact de hj
  ·obtain⟨j,hj⟩:=List.mem_iff_getElem?.mp ha
   have hjl:=(ah.mp hj).1
   have:=h2 j (by lia)
   have e:ns.getD j 0=a:=by rw[aB,hj]; rfl
   rw[e] at this
   exact this
abbrev ZT:Shared->Hp->Prop:=λ_ _=>True
section
variable {P:Program}{K:W.Frag}{mg:Str->Option Value}{lG:Heap}
end
structure Callee (P:Program)(w:World)(K:W.Frag)(mg:Str->Option Value)(lG:Heap)(Z:Shared->Hp->Prop)(zh:Hp->Prop)(k:Nat)(a:Addr)(sp:Sp):Prop where
 fn:∀(A:Around) (outer:List Env) (s:Shared) (H:Hp),Env0 P w K mg lG A outer s H->zh H->PySem.W.FnAt a s.heap
 run:∀(A:Around) (outer:List Env) (s:Shared) (H:Hp) (us:List Value) (vs:List V) (Q:VK) (E:XK),Room k A->Env0 P w K mg lG A outer s H->Z s H->zh H->Vals vs us->sp vs H Q E->codeAny (model P w) A (.call (.ref a) ⟨us,[]⟩) (CR CX0 outer P w H s Q E) s
section
variable {Z:Shared->Hp->Prop}{zh:Hp->Prop}{k:Nat}{a:Addr}{sp:Sp}{x:Str}{p pos:Pos}{e:Expr}{es:List Expr}{t:TA}{j:Nat}
end
def nlP (q:Str)(args:Arguments)(body:Expr)(scope:Scope)(cl:List (Str×Addr))(a c:Addr):Heap->Prop:=λh=>∃pm ctv,h.get? a=some (kla_obj "<lambda>" q args body scope cl pm c ctv)
theorem nlP.stay {q:Str}{args:Arguments}{body:Expr}{scope:Scope}{cl:List (Str×Addr)}{a c:Addr}(h1 h2:Heap)(p:nlP q args body scope cl a c h1)(k:∀o,h1.get? a=some o->h2.get? a=some o):nlP q args body scope cl a c h2:=by
 obtain⟨m,t,e⟩:=p
 exact⟨m,t,k _ e⟩
theorem jMC {P:Program}{w:World}{K:W.Frag}{mg:Str->Option Value}{lG:Heap}{k:Nat}{q:Str}{args:Arguments}{body:Expr}{scope:Scope}{N ps fs:List Str}{sp:Sp}{cl:List (Str×Addr)}{fv:List V}{a c:Addr}(S:NScope N ps fs scope)(len:∀vs H Q E,sp vs H Q E->vs.length=ps.length)
  (hb:∀pm ctv (us:List Value),us.length=ps.length->bindArgs (PySem.W.kla_fn "<lambda>" q args body scope cl pm (.ref c) ctv) ⟨us,[]⟩=pure (ps.zip us))
  (hbody:∀(A:Around) (outer:List Env) (s:Shared) (H:Hp) (vs:List V) (Q:VK) (E:XK),Room k (A.deeper (envX q scope s.heap.objs.size a (.ref c) cl))->sp vs H Q E->
   ∃t,PE (cxN P w K mg lG N q scope a (.ref c) cl A outer s H) body t/\t (jDN N vs fv) H Q):
  Callee P w K mg lG (λs H=>ClOk cl s H/\FvOk fs fv cl s) (λH=>H a=some (.ext (nlP q args body scope cl a c))/\H c=some (.ext (ncP q c))) (k+1) a sp:=by
 refine⟨λA outer s H e z=>?_,λA outer s H us vs Q E hr e0 hz zh r hsp=>?_⟩
 ·obtain⟨⟨m,t,g⟩,_,_⟩:=(show ObjOk P w H s.heap a (.ext _) from e.hok a _ z.1)
  exact⟨_,_,_,_,g⟩
 obtain⟨C,Fv⟩:=hz
 obtain⟨⟨pm,ctv,ho⟩,_,_⟩:=(show ObjOk P w H s.heap a (.ext _) from e0.hok a _ zh.1)
 obtain⟨hc,_,_⟩:=(show ObjOk P w H s.heap c (.ext _) from e0.hok c _ zh.2)
 have hl:us.length=ps.length:=r.length.symm.trans (len _ _ _ _ hsp)
 have lim:s.heap.NoLimit:=e0.mod.nolimit.keeps λb o e=>(e0.bs b o e).1
 refine PySem.W.kla_callFunE hr.depth ho rfl S.co S.gen rfl hc ?_
 rw[hb pm ctv us hl]
 refine ae (wpAny_newFunctionEnv S.nocell (λy hy=>S.par y.1 (eQ hy).1) (λh₁ hns hsb=>⟨lim.fresh _ hsb,?_⟩) S.kind)
 show codeAny _ _ (.expr body (envX q scope s.heap.objs.size a (.ref c) cl)) _ _
 have hk:∀b o,s.heap.get? b=some o->h₁.get? b=some o:=λb o e=>hsb.extBut b o (aO (aq e)) (ab _ e)
 obtain⟨t,ht,hq⟩:=hbody A outer s H vs Q E (hr.deeper _) hsp
 have I:Inv (cxN P w K mg lG N q scope a (.ref c) cl A outer s H) [] (jDN N vs fv) H { s with heap:=h₁,toks:=s.toks+(ps.zip us).length} :=jJW S hr.hd e0 hl r C Fv hns hk
 refine PySem.W.kla_codeExpr (cw (ht [] _ (jDN N vs fv) H _ I hq) (λu s' hs=>?_) λe s' hs=>False.elim hs)
 obtain⟨v,H',J,rv,q⟩:=hs
 exact⟨v,H',J.os,J.bare,J.lG,J.hok,rv,q⟩
end L2
namespace TM
open PySem PyProof.Rows
class Od where
 kd:SortKind
 ky:Keyed->Int
 is:Keyed->Prop
abbrev key [Od]:Keyed->Int:=Od.ky
abbrev IsI [Od]:Keyed->Prop:=Od.is
class LtOk (prog:Program) (w:World) (A:Around) (s:Shared) [Od]:Prop where
 lt:∀{E:Value->Shared->Prop}{st:SortSt}{x y:Keyed}{Q:Option Bool->SortSt->Prop},kindOf st=Od.kd->IsI x->IsI y->Q (some (decide (key x<key y))) st->wpS (model prog w) A E s (lt' x y) Q st
variable [Od]
abbrev AllI (l:List Keyed):Prop:=∀p∈l,IsI p
abbrev LE (x y:Keyed):Prop:=key x<=key y
def jBT:Bool->Keyed->Array Keyed->Nat->Nat->Nat->StateT SortSt Sem (Option Nat):=sortPriv% PySem.Builtin.gallop
def gallopB: { g:Bool->Keyed->Array Keyed->Nat->Nat->Nat->StateT SortSt Sem (Option Nat) // jBT=g} :=⟨λ_ _ _ _ _ _=>bind _ _,rfl⟩
theorem elP:(sortPriv% PySem.Builtin.elem)=elem':=rfl
theorem ltP:(sortPriv% PySem.Builtin.lt)=lt':=rfl
theorem ltAtP:(sortPriv% PySem.Builtin.ltAt)=ltAt':=rfl
theorem jHQ:(sortPriv% PySem.Builtin.gallop)=jBT:=rfl
section
variable {prog:Program}{w:World}{A:Around}{E:Value->Shared->Prop}{s:Shared}
theorem jFT [LtOk prog w A s]{st:SortSt}{x y:Keyed}{Q:Option Bool->SortSt->Prop}(hk:kindOf st=Od.kd)(hx:IsI x)(hy:IsI y)(h:Q (some (decide (key x<key y))) st):wpS (model prog w) A E s (lt' x y) Q st:=LtOk.lt hk hx hy h
theorem jW {st:SortSt}{arr:Array Keyed}{i:Nat}{p:Keyed}{Q:Keyed->SortSt->Prop}(hi:arr[i]?=some p)(h:Q p st):wpS (model prog w) A E s (elem' arr i) Q st:=by
 rw[elem'_eq,hi]
 exact aC h
end
section
variable {prog:Program}{w:World}{A:Around}{E:Value->Shared->Prop}{s:Shared} [LtOk prog w A s]
theorem jBA {left:Bool}{ky:Keyed}{arr:Array Keyed}{lG n hint:Nat}{st:SortSt}{Q:Option Nat->SortSt->Prop}(hk:kindOf st=Od.kd)(hky:IsI ky)(hI:∀i,i<n->∃p,arr[lG+i]?=some p/\IsI p)(hh:hint<n)(B:Nat->Bool)
  (hB:∀i p,i<n->arr[lG+i]?=some p->B i=(if left=true then decide (key p<key ky) else !decide (key ky<key p))) (mono:∀i j,i<=j->j<n->B j=true->B i=true)
  (h:∀k,k<=n->(∀i,i<k->B i=true)->(∀i,k<=i->i<n->B i=false)->Q (some k) st):wpS (model prog w) A E s (jBT left ky arr lG n hint) Q st:=by
 rw[gallopB.2]
 delta gallopB
 dsimp only
 simp only [elP,ltP]
 have bey:∀i (R:Option Bool->SortSt->Prop),i<n->R (some (B i)) st->wpS (model prog w) A E s (do
   let x <- elem' arr (lG+i)
   if left=true then lt' x ky else do
    let r <- lt' ky x
    pure (r.map (!·))) R st:=λi R hi hR=>by
  obtain⟨p,hp,ip⟩:=hI i hi
  refine aA (jW hp ?_)
  have e:=hB i p hi hp
  cases left with
  | true=>
   rw[am rfl] at e ⊢
   rw[e] at hR
   exact jFT hk ip hky hR
  | false=>
   rw[ai ag] at e ⊢
   rw[e] at hR
   exact aA (jFT hk hky ip (aC hR))
 have down:∀i j,i<=j->j<n->B i=false->B j=false:=λi j hij hj hi=>by
  cases hb:B j with
  | false=>rfl
  | true=>rw[mono i j hij hj hb] at hi; cases hi
 refine aA (bey hint _ hh ?_)
 dsimp only
 cases hb:B hint with
 | true=>
  rw[am rfl]
  refine aA (dw (bX (I:=λx c st'=>st'=st/\∃l o,c=(none,l,o)/\l<o/\x+1<=o/\hint+l<n/\B (hint+l)=true)
   (Q:=λc st'=>st'=st/\∃l o,c=(none,l,o)/\l<o/\hint+l<n/\B (hint+l)=true/\(n - hint<=o\/(hint+o<n/\B (hint+o)=false))) ?step ?fin ⟨rfl,0,1,rfl,by lia,by lia,by lia,by rw[gE]; exact hb⟩) ?post)
  case post=>
   rintro c st' ⟨rfl,l,o,rfl,a1,a2,a3,a4⟩
   dsimp only
   have p3:∀i,i<hint+l+1->B i=true:=λi hi=>mono i (hint+l) (by lia) a2 a3
   have p4:∀i,hint+min o (n - hint)<=i->i<n->B i=false:=λi h1 h2=>by
    rcases a4 with a4 | ⟨a4,a5⟩
    ·lia
    ·exact down (hint+o) i (by lia) h2 a5
   refine aA (dw (bX (I:=λx c st''=>st''=st'/\∃lo hi,c=(none,lo,hi)/\lo<=hi/\hi<=n/\hi - lo<=n - x/\(∀i,i<lo->B i=true)/\(∀i,hi<=i->i<n->B i=false))
    (Q:=λc st''=>st''=st'/\∃k,c=(none,k,k)/\k<=n/\(∀i,i<k->B i=true)/\(∀i,k<=i->i<n->B i=false)) ?step2 ?fin2 ⟨rfl,hint+l+1,hint+min o (n - hint),rfl,by lia,by lia,by lia,p3,p4⟩) ?post2)
   case post2=>
    rintro c st'' ⟨rfl,k,rfl,k1,k2,k3⟩
    exact aC (h k k1 k2 k3)
   case fin2=>
    rintro c st'' ⟨rfl,lo,hi,rfl,a1,a2,a3,a4,a5⟩
    have:lo=hi:=by lia
    subst this
    exact⟨rfl,lo,rfl,a2,a4,a5⟩
   case step2=>
    rintro x c st'' _ hx ⟨rfl,lo,hi,rfl,a1,a2,a3,a4,a5⟩
    dsimp only
    by_cases hge:lo ≥ hi
    ·rw[am hge]
     have:lo=hi:=by lia
     subst this
     exact aC ⟨rfl,lo,rfl,a2,a4,a5⟩
    ·rw[ai hge]
     refine aA (bey _ _ (by lia) ?_)
     dsimp only
     cases hb:B (lo+(hi - lo) / 2) with
     | true=>
      rw[am rfl]
      exact aC ⟨rfl,lo+(hi - lo) / 2+1,hi,rfl,by lia,a2,by lia,λi hi'=>mono i _ (by lia) (by lia) hb,a5⟩
     | false=>
      rw[ai ag]
      exact aC ⟨rfl,lo,lo+(hi - lo) / 2,rfl,by lia,by lia,by lia,a4,λi h1 h2=>down _ i h1 h2 hb⟩
  case fin=>
   rintro c st' ⟨rfl,l,o,rfl,a1,a2,a3,a4⟩
   exact⟨rfl,l,o,rfl,a1,a3,a4, .inl (by lia)⟩
  case step=>
   rintro x c st' _ hx ⟨rfl,l,o,rfl,a1,a2,a3,a4⟩
   dsimp only
   by_cases hge:o ≥ n - hint
   ·rw[am hge]
    exact aC ⟨rfl,l,o,rfl,a1,a3,a4, .inl hge⟩
   ·rw[ai hge]
    refine aA (bey _ _ (by lia) ?_)
    dsimp only
    cases hb2:B (hint+o) with
    | true=>
     rw[ai (by decide)]
     exact aC ⟨rfl,o,2*o+1,rfl,by lia,by lia,by lia,hb2⟩
    | false=>
     rw[am (by decide)]
     exact aC ⟨rfl,l,o,rfl,a1,a3,a4, .inr ⟨by lia,hb2⟩⟩
 | false=>
  rw[ai ag]
  refine aA (dw (bX (I:=λx c st'=>st'=st/\∃l o,c=(none,l,o)/\l<o/\x+1<=o/\l<=hint/\B (hint - l)=false)
   (Q:=λc st'=>st'=st/\∃l o,c=(none,l,o)/\l<o/\l<=hint/\B (hint - l)=false/\(hint+1<=o\/(o<=hint/\B (hint - o)=true))) ?step ?fin ⟨rfl,0,1,rfl,by lia,by lia,by lia,by rw[Nat.sub_zero]; exact hb⟩) ?post)
  case post=>
   rintro c st' ⟨rfl,l,o,rfl,a1,a2,a3,a4⟩
   dsimp only
   have p3:∀i,i<hint+1 - min o (hint+1)->B i=true:=λi hi=>by
    rcases a4 with a4 | ⟨a4,a5⟩
    ·lia
    ·exact mono i (hint - o) (by lia) (by lia) a5
   have p4:∀i,hint - l<=i->i<n->B i=false:=λi h1 h2=>down (hint - l) i (by lia) h2 a3
   refine aA (dw (bX (I:=λx c st''=>st''=st'/\∃lo hi,c=(none,lo,hi)/\lo<=hi/\hi<=n/\hi - lo<=n - x/\(∀i,i<lo->B i=true)/\(∀i,hi<=i->i<n->B i=false))
    (Q:=λc st''=>st''=st'/\∃k,c=(none,k,k)/\k<=n/\(∀i,i<k->B i=true)/\(∀i,k<=i->i<n->B i=false)) ?step2 ?fin2 ⟨rfl,hint+1 - min o (hint+1),hint - l,rfl,by lia,by lia,by lia,p3,p4⟩) ?post2)
   case post2=>
    rintro c st'' ⟨rfl,k,rfl,k1,k2,k3⟩
    exact aC (h k k1 k2 k3)
   case fin2=>
    rintro c st'' ⟨rfl,lo,hi,rfl,a1,a2,a3,a4,a5⟩
    have:lo=hi:=by lia
    subst this
    exact⟨rfl,lo,rfl,a2,a4,a5⟩
   case step2=>
    rintro x c st'' _ hx ⟨rfl,lo,hi,rfl,a1,a2,a3,a4,a5⟩
    dsimp only
    by_cases hge:lo ≥ hi
    ·rw[am hge]
     have:lo=hi:=by lia
     subst this
     exact aC ⟨rfl,lo,rfl,a2,a4,a5⟩
    ·rw[ai hge]
     refine aA (bey _ _ (by lia) ?_)
     dsimp only
     cases hb:B (lo+(hi - lo) / 2) with
     | true=>
      rw[am rfl]
      exact aC ⟨rfl,lo+(hi - lo) / 2+1,hi,rfl,by lia,a2,by lia,λi hi'=>mono i _ (by lia) (by lia) hb,a5⟩
     | false=>
      rw[ai ag]
      exact aC ⟨rfl,lo,lo+(hi - lo) / 2,rfl,by lia,by lia,by lia,a4,λi h1 h2=>down _ i h1 h2 hb⟩
  case fin=>
   rintro c st' ⟨rfl,l,o,rfl,a1,a2,a3,a4⟩
   exact⟨rfl,l,o,rfl,a1,a3,a4, .inl (by lia)⟩
  case step=>
   rintro x c st' _ hx ⟨rfl,l,o,rfl,a1,a2,a3,a4⟩
   dsimp only
   by_cases hge:o ≥ hint+1
   ·rw[am hge]
    exact aC ⟨rfl,l,o,rfl,a1,a3,a4, .inl hge⟩
   ·rw[ai hge]
    refine aA (bey _ _ (by lia) ?_)
    dsimp only
    cases hb2:B (hint - o) with
    | true=>
     rw[am rfl]
     exact aC ⟨rfl,l,o,rfl,a1,a3,a4, .inr ⟨by lia,hb2⟩⟩
    | false=>
     rw[ai ag]
     exact aC ⟨rfl,o,2*o+1,rfl,by lia,by lia,by lia,hb2⟩
end
abbrev jG6 (st:SortSt)(g:Nat):SortSt:=SortSt.mk' (kindOf st) (arrOf st) (pendingOf st) g (failedOf st)
def jBX:Nat->StateT SortSt Sem Unit:=sortPriv% PySem.Builtin.setMinGallop
theorem jKK:(sortPriv% PySem.Builtin.setMinGallop)=jBX:=rfl
theorem jA7 (g:Nat):jBX g=modify λs=>jG6 s g:=rfl
def jF7:Array Keyed->Array Keyed->StateT SortSt Sem (Array Keyed):=sortPriv% PySem.Builtin.mergeLo
def mergeLoB: { g:Array Keyed->Array Keyed->StateT SortSt Sem (Array Keyed) // jF7=g} :=⟨λ_ _=>bind _ _,rfl⟩
theorem jO1:(sortPriv% PySem.Builtin.mergeLo)=jF7:=rfl
def jF8:Array Keyed->Array Keyed->StateT SortSt Sem (Array Keyed):=sortPriv% PySem.Builtin.mergeHi
def mergeHiB: { g:Array Keyed->Array Keyed->StateT SortSt Sem (Array Keyed) // jF8=g} :=⟨λ_ _=>bind _ _,rfl⟩
theorem jO2:(sortPriv% PySem.Builtin.mergeHi)=jF8:=rfl
abbrev Srt (l:List Keyed):Prop:=l.Pairwise LE
structure ML (a b out:List Keyed)(ia ib:Nat):Prop where
 perm:(out++(a.drop ia++b.drop ib)).Perm (a++b)
 srt:Srt out
 le:∀x∈out,∀y∈a.drop ia++b.drop ib,LE x y
theorem Srt.drop {l:List Keyed}(h:Srt l)(i:Nat):Srt (l.drop i):=h.sublist (iJ _ _)
theorem Srt.take {l:List Keyed}(h:Srt l)(i:Nat):Srt (l.take i):=h.sublist (fb _ _)
theorem qE {l m:List Keyed}(h1:Srt l)(h2:Srt m)(h:∀x∈l,∀y∈m,LE x y):Srt (l++m):=cA.mpr ⟨h1,h2,h⟩
theorem ML.takeA {a b out:List Keyed}{ia ib:Nat}(h:ML a b out ia ib)(sa:Srt a)(k:Nat)(hc:∀x∈(a.drop ia).take k,∀y∈b.drop ib,LE x y):ML a b (out++(a.drop ia).take k) (ia+k) ib:=by
 have e:a.drop (ia+k)=(a.drop ia).drop k:=by rw[iC]
 refine⟨?_,qE h.srt ((sa.drop ia).take k) λx hx y hy=>h.le x hx y (aQ _ (cg hy)),λx hx y hy=>?_⟩
 ·refine List.Perm.trans ?_ h.perm
  rw[e]
  refine jy ?_
  rw[aX,<- aX ((a.drop ia).take k),bB]
 ·rcases aK.mp hx with q | q
  ·refine h.le x q y ?_
   rcases aK.mp hy with z | z
   ·rw[e] at z
    exact aQ _ (cc z)
   ·exact au _ z
  ·rcases aK.mp hy with z | z
   ·rw[e] at z
    have s:=sa.drop ia
    rw[<- bB k (a.drop ia)] at s
    exact(cA.mp s).2.2 x q y z
   ·exact hc x q y z
theorem ML.takeB {a b out:List Keyed}{ia ib:Nat}(h:ML a b out ia ib)(sb:Srt b)(k:Nat)(hc:∀x∈(b.drop ib).take k,∀y∈a.drop ia,LE x y):ML a b (out++(b.drop ib).take k) ia (ib+k):=by
 have e:b.drop (ib+k)=(b.drop ib).drop k:=by rw[iC]
 refine⟨?_,qE h.srt ((sb.drop ib).take k) λx hx y hy=>h.le x hx y (au _ (cg hy)),λx hx y hy=>?_⟩
 ·refine List.Perm.trans ?_ h.perm
  rw[e,aX]
  refine db out ?_
  refine dN.trans ?_
  rw[aX]
  refine db _ ?_
  refine dN.trans ?_
  rw[bB]
 ·rcases aK.mp hx with q | q
  ·refine h.le x q y ?_
   rcases aK.mp hy with z | z
   ·exact aQ _ z
   ·rw[e] at z
    exact au _ (cc z)
  ·rcases aK.mp hy with z | z
   ·exact hc x q y z
   ·rw[e] at z
    have s:=sb.drop ib
    rw[<- bB k (b.drop ib)] at s
    exact(cA.mp s).2.2 x q y z
theorem ML.outA {a b out:List Keyed}{ia ib:Nat}(h:ML a b out ia ib)(sa:Srt a)(hb:b.length<=ib):(out++a.drop ia++b.drop ib).Perm (a++b)/\Srt (out++a.drop ia++b.drop ib):=by
 refine⟨by rw[aX]; exact h.perm,?_⟩
 rw[jp hb,bI]
 exact qE h.srt (sa.drop ia) λx hx y hy=>h.le x hx y (aQ _ hy)
theorem ML.outB {a b out:List Keyed}{ia ib:Nat}(h:ML a b out ia ib)(sb:Srt b)(ha:a.length<=ia):(out++a.drop ia++b.drop ib).Perm (a++b)/\Srt (out++a.drop ia++b.drop ib):=by
 refine⟨by rw[aX]; exact h.perm,?_⟩
 rw[jp ha,bI]
 exact qE h.srt (sb.drop ib) λx hx y hy=>h.le x hx y (au _ hy)
theorem ML.last {a b out:List Keyed}{ia ib:Nat}(h:ML a b out ia ib)(sa:Srt a)(sb:Srt b)(ha:∀x∈b,∀y∈a.drop ia,LE x y):(out++b.drop ib++a.drop ia).Perm (a++b)/\Srt (out++b.drop ib++a.drop ia):=by
 refine⟨?_,?_⟩
 ·rw[aX]
  exact(db out dN).trans h.perm
 ·refine qE (qE h.srt (sb.drop ib) λx hx y hy=>h.le x hx y (au _ hy)) (sa.drop ia) λx hx y hy=>?_
  rcases aK.mp hx with q | q
  ·exact h.le x q y (aQ _ hy)
  ·exact ha x (cc q) y hy
theorem jAG {l:List Keyed}{i:Nat}{p:Keyed}(h:l[i]?=some p):(l.drop i).take 1=[p]:=by
 obtain⟨hi,e⟩:=ah.mp h
 rw[<- List.getElem_cons_drop (h:=hi),e]
 rfl
theorem jEH {l:List Keyed}(h:Srt l){i j:Nat}{x y:Keyed}(hx:l[i]?=some x)(hy:l[j]?=some y)(hij:i<=j):LE x y:=by
 obtain⟨h1,rfl⟩:=ah.mp hx
 obtain⟨h2,rfl⟩:=ah.mp hy
 by_cases e:i=j
 ·subst e; exact dy _
 ·exact cH.mp h i j h1 h2 (by lia)
theorem jDI {l:List Keyed}{i:Nat}{y:Keyed}(h:y∈l.drop i):∃j,i<=j/\l[j]?=some y:=by
 obtain⟨k,hk⟩:=bw h
 rw[gh] at hk
 exact⟨i+k,by lia,hk⟩
theorem jA9 {l:List Keyed}{i k:Nat}{y:Keyed}(h:y∈(l.drop i).take k):∃j,i<=j/\j<i+k/\l[j]?=some y:=by
 obtain⟨n,hn⟩:=bw h
 have hlt:n<k:=by
  have:=(ah.mp hn).1
  rw[aY] at this
  lia
 rw[cn hlt,gh] at hn
 exact⟨i+n,by lia,by lia,hn⟩
theorem jCW {a:Array Keyed}{i:Nat} :(a.extract i a.size).toList=a.toList.drop i:=by
 rw[ff,dO]
 exact bL (by rw[cD,aw]; exact aj _)
theorem ext_k {a:Array Keyed}{i k:Nat} :(a.extract i (i+k)).toList=(a.toList.drop i).take k:=by
 rw[ff,dO,cN]
structure Two (a b:Array Keyed):Prop where
 ia:AllI a.toList
 ib:AllI b.toList
 sa:Srt a.toList
 sb:Srt b.toList
 na:0<a.size
 nb:0<b.size
 last:∀x∈b.toList,∀y,a.toList[a.size - 1]?=some y->key x<key y
 first:∀y∈a.toList,∀p,b.toList[0]?=some p->key p<key y
def yY (a b r:Array Keyed):Prop:=r.toList.Perm (a.toList++b.toList)/\Srt r.toList
structure SG (st st':SortSt):Prop where
 k:kindOf st'=kindOf st
 a:arrOf st'=arrOf st
 p:pendingOf st'=pendingOf st
 f:failedOf st'=failedOf st
theorem SG.refl (st:SortSt):SG st st:=⟨rfl,rfl,rfl,rfl⟩
theorem SG.gal {st st':SortSt}(h:SG st st')(g:Nat):SG st (jG6 st' g):=⟨h.k,h.a,h.p,h.f⟩
abbrev MA (a b out:Array Keyed)(ia ib:Nat):Prop:=ML a.toList b.toList out.toList ia ib
variable {a b:Array Keyed}{i j:Nat}
section
variable {out:Array Keyed}{k:Nat}
theorem at_list {p:Keyed} :a[i]?=some p↔a.toList[i]?=some p:=by rw[bO]
theorem qQ (h:i<a.size):∃p,a[i]?=some p/\a.toList[i]?=some p:=⟨a[i],by simp [h],by simp [h]⟩
theorem MA.doneA (T:Two a b)(h:MA a b out i j)(hj:b.size<=j):yY a b (out++a.extract i a.size++b.extract j b.size):=by
 unfold yY
 rw[br,br,jCW,jCW]
 exact ML.outA h T.sa (by rw[aw]; exact hj)
theorem MA.doneB (T:Two a b)(h:MA a b out i j)(hi:a.size<=i):yY a b (out++a.extract i a.size++b.extract j b.size):=by
 unfold yY
 rw[br,br,jCW,jCW]
 exact ML.outB h T.sb (by rw[aw]; exact hi)
theorem MA.doneL (T:Two a b)(h:MA a b out i j)(hi:i+1=a.size):yY a b (out++b.extract j b.size++a.extract i a.size):=by
 unfold yY
 rw[br,br,jCW,jCW]
 refine ML.last h T.sa T.sb λx hx y hy=>?_
 obtain⟨n,h1,h2⟩:=jDI hy
 have:n=a.size - 1:=by
  have:=(ah.mp h2).1
  rw[aw] at this
  lia
 subst this
 exact cG (T.last x hx y h2)
theorem MA.pushB (T:Two a b)(h:MA a b out i j){p q:Keyed}(hp:b[j]?=some p)(hc:∀y∈a.toList.drop i,LE p y):MA a b (out.push p) i (j+1):=by
 have:=ML.takeB h T.sb 1 (by
  rw[jAG (at_list.mp hp)]
  intro x hx
  rw[aN.mp hx]
  exact hc)
 rw[jAG (at_list.mp hp)] at this
 unfold MA
 rw[dS]
 exact this
theorem MA.pushA (T:Two a b)(h:MA a b out i j){p q:Keyed}(hp:a[i]?=some p)(hc:∀y∈b.toList.drop j,LE p y):MA a b (out.push p) (i+1) j:=by
 have:=ML.takeA h T.sa 1 (by
  rw[jAG (at_list.mp hp)]
  intro x hx
  rw[aN.mp hx]
  exact hc)
 rw[jAG (at_list.mp hp)] at this
 unfold MA
 rw[dS]
 exact this
theorem MA.appA (T:Two a b)(h:MA a b out i j)(k:Nat)(hc:∀n x,i<=n->n<i+k->a.toList[n]?=some x->∀y∈b.toList.drop j,LE x y):MA a b (out++a.extract i (i+k)) (i+k) j:=by
 unfold MA
 rw[br,ext_k]
 exact ML.takeA h T.sa k λx hx y hy=>by
  obtain⟨n,h1,h2,h3⟩:=jA9 hx
  exact hc n x h1 h2 h3 y hy
theorem MA.appB (T:Two a b)(h:MA a b out i j)(k:Nat)(hc:∀n x,j<=n->n<j+k->b.toList[n]?=some x->∀y∈a.toList.drop i,LE x y):MA a b (out++b.extract j (j+k)) i (j+k):=by
 unfold MA
 rw[br,ext_k]
 exact ML.takeB h T.sb k λx hx y hy=>by
  obtain⟨n,h1,h2,h3⟩:=jA9 hx
  exact hc n x h1 h2 h3 y hy
theorem Two.atA (T:Two a b)(h:i<a.size):∃p,a[i]?=some p/\IsI p:=by
 obtain⟨p,h1,h2⟩:=qQ h
 exact⟨p,h1,T.ia p (az h2)⟩
theorem Two.atB (T:Two a b)(h:i<b.size):∃p,b[i]?=some p/\IsI p:=by
 obtain⟨p,h1,h2⟩:=qQ h
 exact⟨p,h1,T.ib p (az h2)⟩
theorem jFD (s:Srt a.toList){p q:Keyed}(hp:a[i]?=some p)(h:LE q p):∀y∈a.toList.drop i,LE q y:=λy hy=>by
 obtain⟨n,h1,h2⟩:=jDI hy
 exact cW h (jEH s (at_list.mp hp) h2 h1)
end
section
variable {prog:Program}{w:World}{A:Around}{E:Value->Shared->Prop}{s:Shared} [LtOk prog w A s]
theorem jS2 {st:SortSt}{a:Array Keyed}{i:Nat}{p:Keyed}{Q:Option Nat->SortSt->Prop}(hk:kindOf st=Od.kd)(hp:IsI p)(ha:AllI a.toList)(sa:Srt a.toList)(hi:i<a.size)
  (h:∀k,i+k<=a.size->(∀n x,i<=n->n<i+k->a.toList[n]?=some x->LE x p)->(∀n x,i+k<=n->a.toList[n]?=some x->key p<key x)->Q (some k) st):
  wpS (model prog w) A E s (jBT false p a i (a.size - i) 0) Q st:=by
 refine jBA hk hp (λn hn=>?_) (by lia) (λn=>match a[i+n]? with | some x=>!decide (key p<key x) | none=>false) (λn x hn hx=>?_) (λn m hnm hm hb=>?_) λk hk1 hk2 hk3=>h k (by lia) (λn x h1 h2 h3=>?_) λn x h1 h2=>?_
 ·obtain⟨q,q1,q2⟩:=qQ (a:=a) (i:=i+n) (by lia)
  exact⟨q,q1,ha q (az q2)⟩
 ·rw[hx,ai ag]
 ·obtain⟨x,x1,x2⟩:=qQ (a:=a) (i:=i+n) (by lia)
  obtain⟨y,y1,y2⟩:=qQ (a:=a) (i:=i+m) (by lia)
  rw[y1] at hb
  rw[x1]
  have:=jEH sa x2 y2 (by lia)
  have hb:¬key p<key y:=by simpa using hb
  show (!decide (key p<key x))=true
  rw[iS,gm]
  have:key x<=key y:=this
  lia
 ·have:=hk2 (n - i) (by lia)
  rw[show i+(n - i)=n by lia,at_list.mpr h3] at this
  have this:¬key p<key x:=by simpa using this
  show key x<=key p
  lia
 ·have hn:=(ah.mp h2).1
  rw[aw] at hn
  have:=hk3 (n - i) (by lia) (by lia)
  rw[show i+(n - i)=n by lia,at_list.mpr h2] at this
  simpa using this
theorem jS3 {st:SortSt}{a:Array Keyed}{i:Nat}{p:Keyed}{Q:Option Nat->SortSt->Prop}(hk:kindOf st=Od.kd)(hp:IsI p)(ha:AllI a.toList)(sa:Srt a.toList)(hi:i<a.size)
  (h:∀k,i+k<=a.size->(∀n x,i<=n->n<i+k->a.toList[n]?=some x->key x<key p)->(∀n x,i+k<=n->a.toList[n]?=some x->LE p x)->Q (some k) st):
  wpS (model prog w) A E s (jBT true p a i (a.size - i) 0) Q st:=by
 refine jBA hk hp (λn hn=>?_) (by lia) (λn=>match a[i+n]? with | some x=>decide (key x<key p) | none=>false) (λn x hn hx=>?_) (λn m hnm hm hb=>?_) λk hk1 hk2 hk3=>h k (by lia) (λn x h1 h2 h3=>?_) λn x h1 h2=>?_
 ·obtain⟨q,q1,q2⟩:=qQ (a:=a) (i:=i+n) (by lia)
  exact⟨q,q1,ha q (az q2)⟩
 ·rw[hx,am rfl]
 ·obtain⟨x,x1,x2⟩:=qQ (a:=a) (i:=i+n) (by lia)
  obtain⟨y,y1,y2⟩:=qQ (a:=a) (i:=i+m) (by lia)
  rw[y1] at hb
  rw[x1]
  have:=jEH sa x2 y2 (by lia)
  have hb:key y<key p:=aE hb
  show decide (key x<key p)=true
  rw[bz]
  have:key x<=key y:=this
  lia
 ·have:=hk2 (n - i) (by lia)
  rw[show i+(n - i)=n by lia,at_list.mpr h3] at this
  exact aE this
 ·have hn:=(ah.mp h2).1
  rw[aw] at hn
  have:=hk3 (n - i) (by lia) (by lia)
  rw[show i+(n - i)=n by lia,at_list.mpr h2] at this
  have this:¬key x<key p:=gj this
  show key p<=key x
  lia
end
section
variable {prog:Program}{w:World}{A:Around}{E:Value->Shared->Prop}{s:Shared} [LtOk prog w A s]
theorem bp {a b:Nat}(h:a=b):(a==b)=true:=jq.mpr h
theorem bn {a b:Nat}(h:¬a=b):¬(a==b)=true:=λz=>h (jq.mp z)
structure LoI (a b:Array Keyed)(st:SortSt)(out:Array Keyed)(ia ib:Nat)(st':SortSt):Prop where
 m:MA a b out ia ib
 i:ia+1<a.size
 j:ib<b.size
 s:SG st st'
theorem jH7 {a b:Array Keyed}{st:SortSt}{Q:Array Keyed->SortSt->Prop}(hk:kindOf st=Od.kd)(T:Two a b)(h:∀r st',yY a b r->SG st st'->Q r st'):wpS (model prog w) A E s (jF7 a b) Q st:=by
 rw[mergeLoB.2]
 delta mergeLoB
 dsimp only
 simp only [elP,ltP,jHQ,jKK]
 have na:=T.na
 have nb:=T.nb
 refine aA (iE (cx ⟨rfl,?_⟩))
 obtain⟨p0,hp0,ip0⟩:=T.atB nb
 refine aA (jW hp0 ?_)
 have M0:MA a b #[p0] 0 1:=by
  have z:MA a b #[] 0 0:=⟨by show (([]:List Keyed)++(a.toList.drop 0++b.toList.drop 0)).Perm _; rw[List.nil_append,kq,kq],List.Pairwise.nil,λx hx=>by cases hx⟩
  have:=MA.pushB (q:=p0) T z hp0 λy hy=>cG (T.first y (cc hy) p0 (at_list.mp hp0))
  exact this
 by_cases e1:1=b.size
 ·rw[am (bp e1)]
  exact aC (h _ _ (MA.doneA T M0 (by lia)) (SG.refl _))
 rw[ai (bn e1)]
 by_cases e2:0+1=a.size
 ·rw[am (bp e2)]
  exact aC (h _ _ (MA.doneL T M0 e2) (SG.refl _))
 rw[ai (bn e2)]
 refine aA (gX ?_)
 refine aA (dw (bX (I:=λx c st'=>∃out ia ib mg,c=(none,out,ia,ib,mg)/\LoI a b st out ia ib st'/\x+1<=ia+ib)
  (Q:=λc st'=>∃r,c.1=some r/\yY a b r/\SG st st') ?step ?fin ⟨_,0,1,_,rfl,⟨M0,by lia,by lia,SG.refl _⟩,by lia⟩) ?post)
 case post=>
  rintro ⟨r0,c⟩ st' ⟨r,hr,d,g⟩
  have hr:r0=some r:=hr
  subst hr
  exact aC (h r st' d g)
 case fin=>
  rintro c st' ⟨out,ia,ib,mg,rfl,I0,hx⟩
  have:=I0.i
  have:=I0.j
  lia
 case step=>
  rintro x c st1 _ hx ⟨out,ia,ib,mg,rfl,I0,hxx⟩
  dsimp only
  refine aA (dw (bX (I:=λy c st'=>∃out' ia' ib' ac bc,c=(none,out',ia',ib',ac,bc)/\LoI a b st out' ia' ib' st'/\ia+ib<=ia'+ib'/\(y=0\/ia+ib<ia'+ib'))
   (Q:=λc st'=>(∃r,c.1=some r/\yY a b r/\SG st st')\/∃out' ia' ib' ac bc,c=(none,out',ia',ib',ac,bc)/\LoI a b st out' ia' ib' st'/\ia+ib<ia'+ib') ?step1 ?fin1 ⟨_,_,_,_,_,rfl,I0,by lia, .inl rfl⟩) ?post1)
  case fin1=>
   rintro c st' ⟨out',ia',ib',ac,bc,rfl,I1,h1,h2⟩
   exact .inr ⟨_,_,_,_,_,rfl,I1,by lia⟩
  case step1=>
   rintro y c st2 _ hy ⟨out',ia',ib',ac,bc,rfl,I1,h1,h2⟩
   dsimp only
   obtain⟨pb,hpb,ipb⟩:=T.atB I1.j
   obtain⟨pa,hpa,ipa⟩:=T.atA (i:=ia') (by have:=I1.i; lia)
   have ii:=I1.i
   have jj:=I1.j
   refine aA (jW hpb (aA (jW hpa (aA (jFT (I1.s.k.trans hk) ipb ipa ?_)))))
   dsimp only
   by_cases hlt:key pb<key pa
   ·rw[ar hlt,am rfl]
    refine aA (jW hpb ?_)
    have M2:=MA.pushB (q:=pb) T I1.m hpb (jFD T.sa hpa (cG hlt))
    by_cases f1:ib'+1=b.size
    ·rw[am (bp f1)]
     exact aC (.inl ⟨_,rfl,MA.doneA T M2 (by lia),I1.s⟩)
    rw[ai (bn f1)]
    split
    ·exact aC (.inr ⟨_,_,_,_,_,rfl,⟨M2,ii,by lia,I1.s⟩,by lia⟩)
    ·exact aC ⟨_,_,_,_,_,rfl,⟨M2,ii,by lia,I1.s⟩,by lia, .inr (by lia)⟩
   ·rw[aI hlt,ai ag]
    refine aA (jW hpa ?_)
    have M2:=MA.pushA (q:=pa) T I1.m hpa (jFD T.sb hpb (by show key pa<=key pb; lia))
    by_cases f1:ia'+1+1=a.size
    ·rw[am (bp f1)]
     exact aC (.inl ⟨_,rfl,MA.doneL T M2 f1,I1.s⟩)
    rw[ai (bn f1)]
    split
    ·exact aC (.inr ⟨_,_,_,_,_,rfl,⟨M2,by lia,jj,I1.s⟩,by lia⟩)
    ·exact aC ⟨_,_,_,_,_,rfl,⟨M2,by lia,jj,I1.s⟩,by lia, .inr (by lia)⟩
  case post1=>
   rintro c st2 (⟨r,hr,d,g⟩ | ⟨out1,ia1,ib1,ac,bc,rfl,I1,h1⟩)
   ·obtain⟨r0,c⟩:=c
    have hr:r0=some r:=hr
    subst hr
    exact aC ⟨r,rfl,d,g⟩
   dsimp only
   refine aA (iE (cx ⟨rfl,?_⟩))
   refine aA (dw (bX (I:=λy c st'=>∃out' ia' ib' mg' ac bc,c=(none,out',ia',ib',mg',ac,bc)/\LoI a b st out' ia' ib' st'/\ia+ib<ia'+ib')
    (Q:=λc st'=>(∃r,c.1=some r/\yY a b r/\SG st st')\/∃out' ia' ib' mg' ac bc,c=(none,out',ia',ib',mg',ac,bc)/\LoI a b st out' ia' ib' st'/\ia+ib<ia'+ib') ?step2 ?fin2 ⟨_,_,_,_,_,_,rfl,I1,h1⟩) ?post2)
   case fin2=>
    rintro c st' ⟨out',ia',ib',mg',ac,bc,rfl,I2,h2⟩
    exact .inr ⟨_,_,_,_,_,_,rfl,I2,h2⟩
   case post2=>
    rintro c st3 (⟨r,hr,d,g⟩ | ⟨out2,ia2,ib2,mg2,ac,bc,rfl,I2,h2⟩)
    ·obtain⟨r0,c⟩:=c
     have hr:r0=some r:=hr
     subst hr
     exact aC ⟨r,rfl,d,g⟩
    dsimp only
    rw[jA7]
    exact aA (eJ (aC ⟨_,_,_,_,rfl,⟨I2.m,I2.i,I2.j,I2.s.gal _⟩,by lia⟩))
   case step2=>
    clear I0 I1
    rintro y c st2 _ hy ⟨out,ia,ib,mg',ac,bc,rfl,I0,h2⟩
    dsimp only
    obtain⟨pb,hpb,ipb⟩:=T.atB I0.j
    by_cases hg:mg'>1
    case' pos=>
     rw[am hg]
     generalize hgg:mg' - 1=gg
    case' neg=>
     rw[ai hg]
     generalize hgg:mg'=gg
    all_goals
     rw[jA7]
     refine aA (eJ ?_)
     have G1:=I0.s.gal gg
     refine aA (jW hpb ?_)
     refine aA (jS2 (G1.k.trans hk) ipb T.ia T.sa (by have:=I0.i; lia) λk1 g1 g2 g3=>?_)
     dsimp only
     have M1:=MA.appA T I0.m k1 (λn x h1 h2 h3=>jFD T.sb hpb (g2 n x h1 h2 h3))
     have hgt:∀y∈a.toList.drop (ia+k1),LE pb y:=λy hy=>by
      obtain⟨n,h1,h2⟩:=jDI hy
      exact cG (g3 n y h1 h2)
     have jb:=I0.j
     by_cases e0:k1>0
     case' pos=>
      rw[am e0]
      by_cases f1:ia+k1+1=a.size
      ·rw[am (bp f1)]
       exact aC (.inl ⟨_,rfl,MA.doneL T M1 f1,G1⟩)
      rw[ai (bn f1)]
      by_cases f2:ia+k1=a.size
      ·rw[am (bp f2)]
       exact aC (.inl ⟨_,rfl,MA.doneB T M1 (by lia),G1⟩)
      rw[ai (bn f2)]
      obtain⟨pa,hpa,ipa⟩:=T.atA (i:=ia+k1) (by lia)
      have hz:ia+k1<a.size:=by lia
      generalize hiz:ia+k1=iz at*
     case' neg=>
      rw[ai e0]
      have e0':k1=0:=by lia
      subst e0'
      have M1:=I0.m
      obtain⟨pa,hpa,ipa⟩:=T.atA (i:=ia) (by have:=I0.i; lia)
      have hz:ia<a.size:=by have:=I0.i; lia
      rw[gE] at hgt
      have hia:=I0.i
      generalize hiz:ia=iz at*
     all_goals
      refine aA (jW hpb ?_)
      have M2:=MA.pushB (q:=pb) T M1 hpb hgt
      by_cases e1:ib+1=b.size
      ·rw[am (bp e1)]
       exact aC (.inl ⟨_,rfl,MA.doneA T M2 (by lia),G1⟩)
      rw[ai (bn e1)]
      refine aA (jW hpa ?_)
      refine aA (jS3 (G1.k.trans hk) ipa T.ib T.sb (by lia) λk2 l1 l2 l3=>?_)
      dsimp only
      have M3:=MA.appB T M2 k2 (λn x h1 h2 h3=>jFD T.sa hpa (cG (l2 n x h1 h2 h3)))
      have fin3:∀y∈b.toList.drop (ib+1+k2),LE pa y:=λy hy=>by
       obtain⟨n,h1,h2⟩:=jDI hy
       exact l3 n y h1 h2
      by_cases e2:k2>0
      ·rw[am e2]
       by_cases e3:ib+1+k2=b.size
       ·rw[am (bp e3)]
        exact aC (.inl ⟨_,rfl,MA.doneA T M3 (by lia),G1⟩)
       rw[ai (bn e3)]
       refine aA (jW hpa ?_)
       have M4:=MA.pushA (q:=pa) T M3 hpa fin3
       by_cases e4:iz+1+1=a.size
       ·rw[am (bp e4)]
        exact aC (.inl ⟨_,rfl,MA.doneL T M4 e4,G1⟩)
       rw[ai (bn e4)]
       split
       ·exact aC (.inr ⟨_,_,_,_,_,_,rfl,⟨M4,by lia,by lia,G1⟩,by lia⟩)
       ·exact aC ⟨_,_,_,_,_,_,rfl,⟨M4,by lia,by lia,G1⟩,by lia⟩
      ·rw[ai e2]
       have e0:k2=0:=by lia
       subst e0
       refine aA (jW hpa ?_)
       have M4:=MA.pushA (q:=pa) T M2 hpa fin3
       by_cases e4:iz+1+1=a.size
       ·rw[am (bp e4)]
        exact aC (.inl ⟨_,rfl,MA.doneL T M4 e4,G1⟩)
       rw[ai (bn e4)]
       split
       ·exact aC (.inr ⟨_,_,_,_,_,_,rfl,⟨M4,by lia,by lia,G1⟩,by lia⟩)
       ·exact aC ⟨_,_,_,_,_,_,rfl,⟨M4,by lia,by lia,G1⟩,by lia⟩
end
structure MHL (tot xa xb o:List Keyed):Prop where
 perm:(xa++xb++o).Perm tot
 srt:Srt o
 le:∀x∈o,∀y∈xa++xb,LE y x
theorem MHL.takeA {tot u v xb o:List Keyed}(h:MHL tot (u++v) xb o)(s:Srt (u++v))(hc:∀x∈v,∀y∈xb,LE y x):MHL tot u xb (v++o):=by
 have sp:=cA.mp s
 refine⟨?_,qE sp.2.1 h.srt λx hx y hy=>h.le y hy x (aQ _ (au _ hx)),λx hx y hy=>?_⟩
 ·refine List.Perm.trans ?_ h.perm
  rw[aX,aX,aX]
  refine db u ?_
  rw[<- aX,<- aX]
  exact gF o dN
 ·rcases aK.mp hx with q | q
  ·rcases aK.mp hy with z | z
   ·exact sp.2.2 y z x q
   ·exact hc x q y z
  ·refine h.le x q y ?_
   rcases aK.mp hy with z | z
   ·exact aQ _ (aQ _ z)
   ·exact au _ z
theorem MHL.takeB {tot u v xa o:List Keyed}(h:MHL tot xa (u++v) o)(s:Srt (u++v))(hc:∀x∈v,∀y∈xa,LE y x):MHL tot xa u (v++o):=by
 have sp:=cA.mp s
 refine⟨?_,qE sp.2.1 h.srt λx hx y hy=>h.le y hy x (au _ (au _ hx)),λx hx y hy=>?_⟩
 ·refine List.Perm.trans (jy ?_) h.perm
  simp only [aX]
 ·rcases aK.mp hx with q | q
  ·rcases aK.mp hy with z | z
   ·exact hc x q y z
   ·exact sp.2.2 y z x q
  ·refine h.le x q y ?_
   rcases aK.mp hy with z | z
   ·exact aQ _ z
   ·exact au _ (aQ _ z)
theorem MHL.out {tot xa xb o:List Keyed}(h:MHL tot xa xb o)(s:Srt (xa++xb)):(xa++xb++o).Perm tot/\Srt (xa++xb++o):=
 ⟨h.perm,qE s h.srt λx hx y hy=>h.le y hy x hx⟩
theorem MHL.outF {tot xa xb o:List Keyed}(h:MHL tot xa xb o)(s:Srt (xb++xa)):(xb++xa++o).Perm tot/\Srt (xb++xa++o):=
 ⟨(gF o dN).trans h.perm,qE s h.srt λx hx y hy=>h.le y hy x (by
  rcases aK.mp hx with z | z
  ·exact au _ z
  ·exact aQ _ z)⟩
theorem jI2 {l:List Keyed}{n:Nat}{p:Keyed}(hn:0<n)(h:l[n - 1]?=some p):l.take n=l.take (n - 1)++[p]:=by
 obtain⟨m,rfl⟩:∃m,n=m+1:=⟨n - 1,by lia⟩
 rw[Nat.add_sub_cancel] at h ⊢
 rw[List.take_succ,h]
 rfl
theorem jI1 {l:List Keyed}{k n:Nat}(hk:k<=n):l.take n=l.take k++(l.drop k).take (n - k):=by
 obtain⟨m,rfl⟩:∃m,n=k+m:=⟨n - k,by lia⟩
 rw[cN,List.take_add]
theorem jAO {a:Array Keyed}{k n:Nat} :(a.extract k n).toList=(a.toList.drop k).take (n - k):=by
 rw[ff,dO]
theorem jBF {a:Array Keyed}{n:Nat} :(a.extract 0 n).toList=a.toList.take n:=by
 rw[jAO,kq,Nat.sub_zero]
abbrev MH (a b out:Array Keyed)(na nb:Nat):Prop:=MHL (a.toList++b.toList) (a.toList.take na) (b.toList.take nb) out.toList.reverse
theorem jDH {l:List Keyed}{n:Nat}{y:Keyed}(h:y∈l.take n):∃j,j<n/\l[j]?=some y:=by
 obtain⟨k,hk⟩:=bw h
 have hlt:k<n:=by
  have:=(ah.mp hk).1
  rw[aY] at this
  lia
 rw[cn hlt] at hk
 exact⟨k,hlt,hk⟩
section
variable {out:Array Keyed}{k:Nat}
theorem jDG (s:Srt a.toList){p q:Keyed}(hp:a[i - 1]?=some p)(h:LE p q):∀y∈a.toList.take i,LE y q:=λy hy=>by
 obtain⟨n,h1,h2⟩:=jDH hy
 exact cW (jEH s h2 (at_list.mp hp) (by lia)) h
theorem MH.pushA (T:Two a b)(h:MH a b out i j){p:Keyed}(hi:0<i)(hp:a[i - 1]?=some p)(hc:∀y∈b.toList.take j,LE y p):MH a b (out.push p) (i - 1) j:=by
 have e:=jI2 hi (at_list.mp hp)
 have s:=T.sa.take i
 unfold MH at h ⊢
 rw[e] at h s
 rw[dS,fE]
 exact h.takeA s λx hx=>by rw[aN.mp hx]; exact hc
theorem MH.pushB (T:Two a b)(h:MH a b out i j){p:Keyed}(hj:0<j)(hp:b[j - 1]?=some p)(hc:∀y∈a.toList.take i,LE y p):MH a b (out.push p) i (j - 1):=by
 have e:=jI2 hj (at_list.mp hp)
 have s:=T.sb.take j
 unfold MH at h ⊢
 rw[e] at h s
 rw[dS,fE]
 exact h.takeB s λx hx=>by rw[aN.mp hx]; exact hc
theorem MH.appA (T:Two a b)(h:MH a b out i j)(hk:k<=i)(hc:∀n x,k<=n->n<i->a.toList[n]?=some x->∀y∈b.toList.take j,LE y x):MH a b (out++(a.extract k i).reverse) k j:=by
 have e:=jI1 (l:=a.toList) hk
 have s:=T.sa.take i
 unfold MH at h ⊢
 rw[e] at h s
 rw[br,dz,fE,ku,jAO]
 exact h.takeA s λx hx y hy=>by
  obtain⟨n,h1,h2,h3⟩:=jA9 hx
  exact hc n x h1 (by lia) h3 y hy
theorem MH.appB (T:Two a b)(h:MH a b out i j)(hk:k<=j)(hc:∀n x,k<=n->n<j->b.toList[n]?=some x->∀y∈a.toList.take i,LE y x):MH a b (out++(b.extract k j).reverse) i k:=by
 have e:=jI1 (l:=b.toList) hk
 have s:=T.sb.take j
 unfold MH at h ⊢
 rw[e] at h s
 rw[br,dz,fE,ku,jAO]
 exact h.takeB s λx hx y hy=>by
  obtain⟨n,h1,h2,h3⟩:=jA9 hx
  exact hc n x h1 (by lia) h3 y hy
theorem MH.doneA (T:Two a b)(h:MH a b out 0 j):yY a b (a.extract 0 0++b.extract 0 j++out.reverse):=by
 unfold yY
 rw[br,br,jBF,jBF,dz]
 exact h.out (by rw[fg]; exact T.sb.take j)
theorem MH.doneB (T:Two a b)(h:MH a b out i 0):yY a b (a.extract 0 i++b.extract 0 0++out.reverse):=by
 unfold yY
 rw[br,br,jBF,jBF,dz]
 exact h.out (by rw[fg,bI]; exact T.sa.take i)
theorem MH.doneF (T:Two a b)(h:MH a b out i 1):yY a b (b.extract 0 1++a.extract 0 i++out.reverse):=by
 unfold yY
 rw[br,br,jBF,jBF,dz]
 refine h.outF (qE (T.sb.take 1) (T.sa.take i) λx hx y hy=>?_)
 obtain⟨n,h1,h2⟩:=jDH hx
 have:n=0:=by lia
 subst this
 exact cG (T.first y (cg hy) x h2)
end
section
variable {prog:Program}{w:World}{A:Around}{E:Value->Shared->Prop}{s:Shared} [LtOk prog w A s]
theorem jIO {st:SortSt}{a:Array Keyed}{i len hint:Nat}{p:Keyed}{Q:Option Nat->SortSt->Prop}(hk:kindOf st=Od.kd)(hp:IsI p)(ha:AllI a.toList)
  (sa:∀n m x y,i<=n->n<=m->m<i+len->a[n]?=some x->a[m]?=some y->LE x y) (hh:hint<len) (hl:i+len<=a.size)
  (h:∀k,k<=len->(∀n x,i<=n->n<i+k->a[n]?=some x->LE x p)->(∀n x,i+k<=n->n<i+len->a[n]?=some x->key p<key x)->Q (some k) st):
  wpS (model prog w) A E s (jBT false p a i len hint) Q st:=by
 refine jBA hk hp (λn hn=>?_) hh (λn=>match a[i+n]? with | some x=>!decide (key p<key x) | none=>false) (λn x hn hx=>?_) (λn m hnm hm hb=>?_) λk hk1 hk2 hk3=>h k (by lia) (λn x h1 h2 h3=>?_) λn x h1 h2 h3=>?_
 ·obtain⟨q,q1,q2⟩:=qQ (a:=a) (i:=i+n) (by lia)
  exact⟨q,q1,ha q (az q2)⟩
 ·rw[hx,ai ag]
 ·obtain⟨x,x1,x2⟩:=qQ (a:=a) (i:=i+n) (by lia)
  obtain⟨y,y1,y2⟩:=qQ (a:=a) (i:=i+m) (by lia)
  rw[y1] at hb
  rw[x1]
  have:=sa (i+n) (i+m) x y (by lia) (by lia) (by lia) x1 y1
  have hb:¬key p<key y:=by simpa using hb
  show (!decide (key p<key x))=true
  rw[iS,gm]
  have:key x<=key y:=this
  lia
 ·have:=hk2 (n - i) (by lia)
  rw[show i+(n - i)=n by lia,h3] at this
  have this:¬key p<key x:=by simpa using this
  show key x<=key p
  lia
 ·have:=hk3 (n - i) (by lia) (by lia)
  rw[show i+(n - i)=n by lia,h3] at this
  simpa using this
theorem jIP {st:SortSt}{a:Array Keyed}{i len hint:Nat}{p:Keyed}{Q:Option Nat->SortSt->Prop}(hk:kindOf st=Od.kd)(hp:IsI p)(ha:AllI a.toList)
  (sa:∀n m x y,i<=n->n<=m->m<i+len->a[n]?=some x->a[m]?=some y->LE x y) (hh:hint<len) (hl:i+len<=a.size)
  (h:∀k,k<=len->(∀n x,i<=n->n<i+k->a[n]?=some x->key x<key p)->(∀n x,i+k<=n->n<i+len->a[n]?=some x->LE p x)->Q (some k) st):
  wpS (model prog w) A E s (jBT true p a i len hint) Q st:=by
 refine jBA hk hp (λn hn=>?_) hh (λn=>match a[i+n]? with | some x=>decide (key x<key p) | none=>false) (λn x hn hx=>?_) (λn m hnm hm hb=>?_) λk hk1 hk2 hk3=>h k (by lia) (λn x h1 h2 h3=>?_) λn x h1 h2 h3=>?_
 ·obtain⟨q,q1,q2⟩:=qQ (a:=a) (i:=i+n) (by lia)
  exact⟨q,q1,ha q (az q2)⟩
 ·rw[hx,am rfl]
 ·obtain⟨x,x1,x2⟩:=qQ (a:=a) (i:=i+n) (by lia)
  obtain⟨y,y1,y2⟩:=qQ (a:=a) (i:=i+m) (by lia)
  rw[y1] at hb
  rw[x1]
  have:=sa (i+n) (i+m) x y (by lia) (by lia) (by lia) x1 y1
  have hb:key y<key p:=aE hb
  show decide (key x<key p)=true
  rw[bz]
  have:key x<=key y:=this
  lia
 ·have:=hk2 (n - i) (by lia)
  rw[show i+(n - i)=n by lia,h3] at this
  exact aE this
 ·have:=hk3 (n - i) (by lia) (by lia)
  rw[show i+(n - i)=n by lia,h3] at this
  have this:¬key x<key p:=gj this
  show key p<=key x
  lia
end
section
variable {prog:Program}{w:World}{A:Around}{E:Value->Shared->Prop}{s:Shared} [LtOk prog w A s]
structure HiI (a b:Array Keyed)(st:SortSt)(out:Array Keyed)(na nb:Nat)(st':SortSt):Prop where
 m:MH a b out na nb
 i:0<na
 ia:na<=a.size
 j:1<nb
 jb:nb<=b.size
 s:SG st st'
theorem whole {a:Array Keyed}(s:Srt a.toList){len:Nat} :∀n m x y,0<=n->n<=m->m<0+len->a[n]?=some x->a[m]?=some y->LE x y:=λn m x y _ h _ hx hy=>jEH s (at_list.mp hx) (at_list.mp hy) h
theorem jH8 {a b:Array Keyed}{st:SortSt}{Q:Array Keyed->SortSt->Prop}(hk:kindOf st=Od.kd)(T:Two a b)(h:∀r st',yY a b r->SG st st'->Q r st'):wpS (model prog w) A E s (jF8 a b) Q st:=by
 rw[mergeHiB.2]
 delta mergeHiB
 dsimp only
 simp only [elP,ltP,jHQ,jKK]
 have na:=T.na
 have nb:=T.nb
 refine aA (iE (cx ⟨rfl,?_⟩))
 obtain⟨p0,hp0,ip0⟩:=T.atA (i:=a.size - 1) (by lia)
 refine aA (jW hp0 ?_)
 have M0:MH a b #[p0] (a.size - 1) b.size:=by
  have z:MH a b #[] a.size b.size:=⟨by
   rw[show a.toList.take a.size=a.toList from bL (by simp),show b.toList.take b.size=b.toList from bL (by simp)]
   show ((a.toList++b.toList)++([]:List Keyed)).Perm _
   rw[bI],List.Pairwise.nil,λx hx=>by cases hx⟩
  have:=MH.pushA T z (by lia) hp0 λy hy=>cG (T.last y (cg hy) p0 (at_list.mp hp0))
  exact this
 by_cases e1:a.size - 1=0
 ·rw[am (bp e1)]
  rw[e1] at M0 ⊢
  exact aC (h _ _ (MH.doneA T M0) (SG.refl _))
 rw[ai (bn e1)]
 by_cases e2:b.size=1
 ·rw[am (bp e2)]
  rw[e2] at M0 ⊢
  exact aC (h _ _ (MH.doneF T M0) (SG.refl _))
 rw[ai (bn e2)]
 refine aA (gX ?_)
 refine aA (dw (bX (I:=λx c st'=>∃out na nb mg,c=(none,na,nb,out,mg)/\HiI a b st out na nb st'/\x+1<=a.size - na+(b.size - nb))
  (Q:=λc st'=>∃r,c.1=some r/\yY a b r/\SG st st') ?step ?fin ⟨_,_,_,_,rfl,⟨M0,by lia,by lia,by lia,by lia,SG.refl _⟩,by lia⟩) ?post)
 case post=>
  rintro ⟨r0,c⟩ st' ⟨r,hr,d,g⟩
  have hr:r0=some r:=hr
  subst hr
  exact aC (h r st' d g)
 case fin=>
  rintro c st' ⟨out,na,nb,mg,rfl,I0,hx⟩
  have:=I0.i
  have:=I0.j
  lia
 case step=>
  rintro x c st1 _ hx ⟨out,na,nb,mg,rfl,I0,hxx⟩
  dsimp only
  refine aA (dw (bX (I:=λy c st'=>∃out' na' nb' ac bc,c=(none,na',nb',out',ac,bc)/\HiI a b st out' na' nb' st'/\na'+nb'<=na+nb/\(y=0\/na'+nb'<na+nb))
   (Q:=λc st'=>(∃r,c.1=some r/\yY a b r/\SG st st')\/∃out' na' nb' ac bc,c=(none,na',nb',out',ac,bc)/\HiI a b st out' na' nb' st'/\na'+nb'<na+nb) ?step1 ?fin1 ⟨_,_,_,_,_,rfl,I0,by lia, .inl rfl⟩) ?post1)
  case fin1=>
   rintro c st' ⟨out',na',nb',ac,bc,rfl,I1,h1,h2⟩
   exact .inr ⟨_,_,_,_,_,rfl,I1,by lia⟩
  case step1=>
   rintro y c st2 _ hy ⟨out',na',nb',ac,bc,rfl,I1,h1,h2⟩
   dsimp only
   have i0:=I1.i
   have i1:=I1.ia
   have j0:=I1.j
   have j1:=I1.jb
   obtain⟨pb,hpb,ipb⟩:=T.atB (i:=nb' - 1) (by lia)
   obtain⟨pa,hpa,ipa⟩:=T.atA (i:=na' - 1) (by lia)
   refine aA (jW hpb (aA (jW hpa (aA (jFT (I1.s.k.trans hk) ipb ipa ?_)))))
   dsimp only
   by_cases hlt:key pb<key pa
   ·rw[ar hlt,am rfl]
    refine aA (jW hpa ?_)
    have M2:=MH.pushA T I1.m i0 hpa (jDG T.sb hpb (cG hlt))
    by_cases f1:na' - 1=0
    ·rw[am (bp f1)]
     rw[f1] at M2 ⊢
     exact aC (.inl ⟨_,rfl,MH.doneA T M2,I1.s⟩)
    rw[ai (bn f1)]
    split
    ·exact aC (.inr ⟨_,_,_,_,_,rfl,⟨M2,by lia,by lia,j0,j1,I1.s⟩,by lia⟩)
    ·exact aC ⟨_,_,_,_,_,rfl,⟨M2,by lia,by lia,j0,j1,I1.s⟩,by lia, .inr (by lia)⟩
   ·rw[aI hlt,ai ag]
    refine aA (jW hpb ?_)
    have M2:=MH.pushB T I1.m (by lia) hpb (jDG T.sa hpa (by show key pa<=key pb; lia))
    by_cases f1:nb' - 1=1
    ·rw[am (bp f1)]
     rw[f1] at M2 ⊢
     exact aC (.inl ⟨_,rfl,MH.doneF T M2,I1.s⟩)
    rw[ai (bn f1)]
    split
    ·exact aC (.inr ⟨_,_,_,_,_,rfl,⟨M2,i0,i1,by lia,by lia,I1.s⟩,by lia⟩)
    ·exact aC ⟨_,_,_,_,_,rfl,⟨M2,i0,i1,by lia,by lia,I1.s⟩,by lia, .inr (by lia)⟩
  case post1=>
   rintro c st2 (⟨r,hr,d,g⟩ | ⟨out1,na1,nb1,ac,bc,rfl,I1,h1⟩)
   ·obtain⟨r0,c⟩:=c
    have hr:r0=some r:=hr
    subst hr
    exact aC ⟨r,rfl,d,g⟩
   dsimp only
   refine aA (iE (cx ⟨rfl,?_⟩))
   refine aA (dw (bX (I:=λy c st'=>∃out' na' nb' mg' ac bc,c=(none,na',nb',out',mg',ac,bc)/\HiI a b st out' na' nb' st'/\na'+nb'<na+nb)
    (Q:=λc st'=>(∃r,c.1=some r/\yY a b r/\SG st st')\/∃out' na' nb' mg' ac bc,c=(none,na',nb',out',mg',ac,bc)/\HiI a b st out' na' nb' st'/\na'+nb'<na+nb) ?step2 ?fin2 ⟨_,_,_,_,_,_,rfl,I1,h1⟩) ?post2)
   case fin2=>
    rintro c st' ⟨out',na',nb',mg',ac,bc,rfl,I2,h2⟩
    exact .inr ⟨_,_,_,_,_,_,rfl,I2,h2⟩
   case post2=>
    have q1:=I0.ia
    have q2:=I0.jb
    rintro c st3 (⟨r,hr,d,g⟩ | ⟨out2,na2,nb2,mg2,ac,bc,rfl,I2,h2⟩)
    ·obtain⟨r0,c⟩:=c
     have hr:r0=some r:=hr
     subst hr
     exact aC ⟨r,rfl,d,g⟩
    dsimp only
    rw[jA7]
    have q3:=I2.ia
    have q4:=I2.jb
    exact aA (eJ (aC ⟨_,_,_,_,rfl,⟨I2.m,I2.i,I2.ia,I2.j,I2.jb,I2.s.gal _⟩,by lia⟩))
   case step2=>
    clear I0 I1
    rename_i na00 nb00
    generalize hbd:na+nb=bd
    clear hxx h1
    rintro y c st2 _ hy ⟨out,na,nb,mg',ac,bc,rfl,I0,h2⟩
    dsimp only
    obtain⟨pb,hpb,ipb⟩:=T.atB (i:=nb - 1) (by have:=I0.j; have:=I0.jb; lia)
    by_cases hg:mg'>1
    case' pos=>
     rw[am hg]
     generalize hgg:mg' - 1=gg
    case' neg=>
     rw[ai hg]
     generalize hgg:mg'=gg
    all_goals
     rw[jA7]
     refine aA (eJ ?_)
     have G1:=I0.s.gal gg
     have na0:=I0.i
     have na1:=I0.ia
     have nb0:=I0.j
     have nb1:=I0.jb
     refine aA (jW hpb ?_)
     refine aA (jIO (G1.k.trans hk) ipb T.ia (whole T.sa) (by lia) (by lia) λk1 g1 g2 g3=>?_)
     dsimp only
     have M1:=MH.appA T I0.m g1 (λn x h1 h2 h3=>jDG T.sb hpb (cG (g3 n x (by lia) (by lia) (at_list.mpr h3))))
     have hle:∀y∈a.toList.take k1,LE y pb:=λy hy=>by
      obtain⟨n,h1,h2⟩:=jDH hy
      exact g2 n y (by lia) (by lia) (at_list.mpr h2)
     by_cases e0:na - k1>0
     case' pos=>
      rw[am e0]
      by_cases f1:k1=0
      ·rw[am (bp f1)]
       rw[f1] at M1 ⊢
       exact aC (.inl ⟨_,rfl,MH.doneA T M1,G1⟩)
      rw[ai (bn f1)]
      obtain⟨pa,hpa,ipa⟩:=T.atA (i:=k1 - 1) (by lia)
      have hz:0<k1:=by lia
      generalize hiz:k1=iz at*
     case' neg=>
      rw[ai e0]
      have e0':k1=na:=by lia
      subst e0'
      have M1:=I0.m
      obtain⟨pa,hpa,ipa⟩:=T.atA (i:=k1 - 1) (by lia)
      have hz:0<k1:=by lia
      generalize hiz:k1=iz at*
     all_goals
      refine aA (jW hpb ?_)
      have M2:=MH.pushB T M1 (by lia) hpb hle
      by_cases e1:nb - 1=1
      ·rw[am (bp e1)]
       rw[e1] at M2 ⊢
       exact aC (.inl ⟨_,rfl,MH.doneF T M2,G1⟩)
      rw[ai (bn e1)]
      refine aA (jW hpa ?_)
      refine aA (jIP (G1.k.trans hk) ipa T.ib (whole T.sb) (by lia) (by lia) λk2 l1 l2 l3=>?_)
      dsimp only
      have M3:=MH.appB T M2 l1 (λn x h1 h2 h3=>jDG T.sa hpa (l3 n x (by lia) (by lia) (at_list.mpr h3)))
      have fin3:∀y∈b.toList.take k2,LE y pa:=λy hy=>by
       obtain⟨n,h1,h2⟩:=jDH hy
       exact cG (l2 n y (by lia) (by lia) (at_list.mpr h2))
      by_cases e2:nb - 1 - k2>0
      ·rw[am e2]
       by_cases e3:k2=1
       ·rw[am (bp e3)]
        rw[e3] at M3 ⊢
        exact aC (.inl ⟨_,rfl,MH.doneF T M3,G1⟩)
       rw[ai (bn e3)]
       by_cases e5:k2=0
       ·rw[am (bp e5)]
        rw[e5] at M3 ⊢
        exact aC (.inl ⟨_,rfl,MH.doneB T M3,G1⟩)
       rw[ai (bn e5)]
       refine aA (jW hpa ?_)
       have M4:=MH.pushA T M3 hz hpa fin3
       by_cases e4:iz - 1=0
       ·rw[am (bp e4)]
        rw[e4] at M4 ⊢
        exact aC (.inl ⟨_,rfl,MH.doneA T M4,G1⟩)
       rw[ai (bn e4)]
       split
       ·exact aC (.inr ⟨_,_,_,_,_,_,rfl,⟨M4,by lia,by lia,by lia,by lia,G1⟩,by lia⟩)
       ·exact aC ⟨_,_,_,_,_,_,rfl,⟨M4,by lia,by lia,by lia,by lia,G1⟩,by lia⟩
      ·rw[ai e2]
       have e0:k2=nb - 1:=by lia
       subst e0
       refine aA (jW hpa ?_)
       have M4:=MH.pushA T M2 hz hpa fin3
       by_cases e4:iz - 1=0
       ·rw[am (bp e4)]
        rw[e4] at M4 ⊢
        exact aC (.inl ⟨_,rfl,MH.doneA T M4,G1⟩)
       rw[ai (bn e4)]
       split
       ·exact aC (.inr ⟨_,_,_,_,_,_,rfl,⟨M4,by lia,by lia,by lia,by lia,G1⟩,by lia⟩)
       ·exact aC ⟨_,_,_,_,_,_,rfl,⟨M4,by lia,by lia,by lia,by lia,G1⟩,by lia⟩
end
def KI (xs:Array Keyed)(i:Nat):Int:=match xs[i]? with
 | some p=>key p
 | none=>0
def STo (xs:Array Keyed)(k:Nat):Prop:=∀i j,i<=j->j<k->KI xs i<=KI xs j
structure SB (a₀:Array Keyed)(st:SortSt):Prop where
 perm:(arrOf st).Perm a₀
 kind:kindOf st=Od.kd
 failed:failedOf st=none
 pend:pendingOf st=#[]
theorem SB.size {a₀:Array Keyed}{st:SortSt}(h:SB a₀ st):(arrOf st).size=a₀.size:=h.perm.size_eq
theorem jBI {xs ys:Array Keyed}{i j:Nat}(h:xs[i]?=ys[j]?):KI xs i=KI ys j:=by unfold KI; rw[h]
theorem jNE {xs:Array Keyed}{src d:Nat}(hs:src<xs.size)(hd:d<=src)(k:Nat):
  KI (bubble xs src d) k=if k=src - d then KI xs src else if src - d<k/\k<=src then KI xs (k - 1) else KI xs k:=by
 have e:=getElem?_bubble hs d hd k
 by_cases h1:k=src - d
 ·rw[am h1] at e ⊢; exact jBI e
 ·rw[ai h1] at e ⊢
  by_cases h2:src - d<k/\k<=src
  ·rw[am h2] at e ⊢; exact jBI e
  ·rw[ai h2] at e ⊢; exact jBI e
theorem jCE {xs:Array Keyed}{i j:Nat}(hj:j<=xs.size)(k:Nat):
  KI (mirror xs i j ((j - i) / 2)) k=if i<=k/\k<j then KI xs (i+j - 1 - k) else KI xs k:=by
 have e:=getElem?_mirror_all (i:=i) hj k
 by_cases h1:i<=k/\k<j
 ·rw[am h1] at e
  rw[am h1]
  exact jBI e
 ·rw[ai h1] at e
  rw[ai h1]
  exact jBI e
theorem jA2 {xs:Array Keyed}{i j:Nat}(hj:j<=xs.size)(heq:∀k,i<=k->k<j->KI xs k=KI xs (j - 1))(k:Nat):
  KI (mirror xs i j ((j - i) / 2)) k=KI xs k:=by
 rw[jCE hj]
 split
 ·rename_i h
  rw[heq _ (by lia) (by lia),heq k h.1 h.2]
 ·rfl
def Up (xs:Array Keyed)(lo n:Nat):Prop:=∀i j,lo<=i->i<=j->j<lo+n->KI xs i<=KI xs j
def Dn (xs:Array Keyed)(lo n:Nat):Prop:=∀i j,lo<=i->i<=j->j<lo+n->KI xs j<=KI xs i
structure BB (a₀:Array Keyed)(p:Array (Nat×Nat×Nat))(F:Nat->Int)(lo:Nat)(st:SortSt):Prop where
 perm:(arrOf st).Perm a₀
 kind:kindOf st=Od.kd
 failed:failedOf st=none
 pend:pendingOf st=p
 low:∀k,k<lo->KI (arrOf st) k=F k
theorem jPP {a₀ xs:Array Keyed}(hp:xs.Perm a₀)(h0:AllI a₀.toList){i:Nat}(hi:i<a₀.size):∃q,xs[i]?=some q/\IsI q/\key q=KI xs i:=by
 have hi':i<xs.size:=by rw[hp.size_eq]; exact hi
 have hm:xs[i]∈a₀.toList:=(b8.mp hp).mem_iff.mp (by simp)
 have e:xs[i]?=some xs[i]:=lB _ i hi'
 exact⟨xs[i],e,h0 _ hm,by unfold KI; rw[e]⟩
section
variable {prog:Program}{w:World}{A:Around}{E:Value->Shared->Prop}{s:Shared} [LtOk prog w A s]{a₀:Array Keyed}{p:Array (Nat×Nat×Nat)}{F:Nat->Int}{lo:Nat}
theorem BB.sz {st:SortSt}(h:BB a₀ p F lo st):(arrOf st).size=a₀.size:=h.perm.size_eq
theorem BB.arr {st:SortSt}(h:BB a₀ p F lo st){xs:Array Keyed}(hp:xs.Perm (arrOf st))(hl:∀k,k<lo->KI xs k=KI (arrOf st) k):BB a₀ p F lo (setArr st xs):=
 ⟨hp.trans h.perm,h.kind,h.failed,h.pend,λk hk=>(hl k hk).trans (h.low k hk)⟩
theorem jCF {st:SortSt}{i j:Nat}{Q:Option Bool->SortSt->Prop}(hB:BB a₀ p F lo st)(h0:AllI a₀.toList)(hi:i<a₀.size)(hj:j<a₀.size)
  (h:Q (some (decide (KI (arrOf st) i<KI (arrOf st) j))) st):wpS (model prog w) A E s (ltAt' i j) Q st:=by
 obtain⟨x,e1,i1,k1⟩:=jPP hB.perm h0 hi
 obtain⟨y,e2,i2,k2⟩:=jPP hB.perm h0 hj
 rw[ltAt'_eq]
 refine aA (gX ?_)
 show wpS _ _ _ _ (do let x <- elem' (arrOf st) i; let y <- elem' (arrOf st) j; lt' x y) Q st
 rw[elem'_eq,elem'_eq,e1,e2]
 refine aA (aC (aA (aC (jFT hB.kind i1 i2 ?_))))
 rw[k1,k2]
 exact h
theorem Up.one {xs:Array Keyed} :Up xs lo 1:=λi j h1 h2 h3=>by
 have:i=j:=by lia
 rw[this]
 exact dy _
theorem Dn.one {xs:Array Keyed} :Dn xs lo 1:=λi j h1 h2 h3=>by
 have:i=j:=by lia
 rw[this]
 exact dy _
theorem Up.more {xs:Array Keyed}{n:Nat}(h:Up xs lo n)(hn:0<n)(hc:KI xs (lo+n - 1)<=KI xs (lo+n)):Up xs lo (n+1):=λi j h1 h2 h3=>by
 by_cases e:j<lo+n
 ·exact h i j h1 h2 e
 ·have ej:j=lo+n:=by lia
  subst ej
  by_cases ei:i=lo+n
  ·rw[ei]
   exact dy _
  ·exact cW (h i (lo+n - 1) h1 (by lia) (by lia)) hc
theorem Dn.more {xs:Array Keyed}{n:Nat}(h:Dn xs lo n)(hn:0<n)(hc:KI xs (lo+n)<=KI xs (lo+n - 1)):Dn xs lo (n+1):=λi j h1 h2 h3=>by
 by_cases e:j<lo+n
 ·exact h i j h1 h2 e
 ·have ej:j=lo+n:=by lia
  subst ej
  by_cases ei:i=lo+n
  ·rw[ei]
   exact dy _
  ·exact cW hc (h i (lo+n - 1) h1 (by lia) (by lia))
theorem Dn.congr {xs ys:Array Keyed}{n:Nat}(h:Dn xs lo n)(e:∀k,KI ys k=KI xs k):Dn ys lo n:=λi j h1 h2 h3=>by
 rw[e i,e j]
 exact h i j h1 h2 h3
theorem jES {st:SortSt}{nrem:Nat}{Q:Option Nat->SortSt->Prop}(h0:AllI a₀.toList)(hn:lo+nrem<=a₀.size)(hn1:1<=nrem)(hB:BB a₀ p F lo st)
  (h:∀m st',BB a₀ p F lo st'->1<=m->m<=nrem->Up (arrOf st') lo m->Q (some m) st'):wpS (model prog w) A E s (countRun' lo nrem) Q st:=by
 rw[countRun'_eq]
 dsimp only
 refine aA (dw (bX (I:=λx c st'=>st'=st/\c=(none,x)/\Up (arrOf st) lo x)
  (Q:=λc st'=>st'=st/\∃n,c=(none,n)/\1<=n/\n<=nrem/\Up (arrOf st) lo n/\(n=nrem\/KI (arrOf st) (lo+n)<KI (arrOf st) (lo+n - 1))) ?step ?fin ⟨rfl,rfl,Up.one⟩) ?post)
 case fin=>
  rintro c st' ⟨rfl,rfl,hu⟩
  rw[show max 1 nrem=nrem by lia] at hu ⊢
  exact⟨rfl,nrem,rfl,hn1,aj _,hu, .inl rfl⟩
 case step=>
  rintro x c st' h1 h2 ⟨rfl,rfl,hu⟩
  dsimp only
  refine aA (jCF hB h0 (by lia) (by lia) ?_)
  dsimp only
  by_cases hl:KI (arrOf st') (lo+x)<KI (arrOf st') (lo+x - 1)
  ·rw[ar hl,am rfl]
   exact aC ⟨rfl,x,rfl,by lia,by lia,hu, .inr hl⟩
  ·rw[aI hl,ai ag]
   exact aC ⟨rfl,rfl,hu.more (by lia) (by lia)⟩
 case post=>
  rintro c st' ⟨rfl,n,rfl,n1,n2,hu,hor⟩
  dsimp only
  by_cases hnn:n=nrem
  ·rw[am (bp hnn)]
   exact aC (h n st' hB n1 n2 hu)
  rw[ai (bn hnn)]
  have hlt:=hor.resolve_left hnn
  have hz:lo+n<=(arrOf st').size:=by rw[hB.sz]; lia
  by_cases hgt:n>1
  case' pos=>
   rw[am hgt]
   refine aA (jCF hB h0 (by lia) (by lia) ?_)
   dsimp only
   by_cases hr:KI (arrOf st') lo<KI (arrOf st') (lo+n - 1)
   ·rw[ar hr,am rfl]
    exact aC (h n st' hB n1 n2 hu)
   rw[aI hr,ai ag]
   have hall:∀k,lo<=k->k<lo+n->KI (arrOf st') k=KI (arrOf st') (lo+n - 1):=λk h1 h2=>by
    have a1:=hu lo k (by lia) h1 h2
    have a2:=hu k (lo+n - 1) h1 (by lia) (by lia)
    lia
   refine aA (wpS_reverse ?_)
   have hB1:=hB.arr (xs:=mirror (arrOf st') lo (lo+n) ((lo+n - lo) / 2)) (mirror_perm _ _ _ _) λk _=>jA2 hz hall k
   have hs0:Dn (arrOf st') lo n:=λi j h1 h2 h3=>by
    rw[hall i h1 (by lia),hall j (by lia) h3]
    exact dy _
   have hs1:Dn (arrOf (setArr st' (mirror (arrOf st') lo (lo+n) ((lo+n - lo) / 2)))) lo (n+1):=(hs0.more (by lia) (cG hlt)).congr (jA2 hz hall)
   generalize setArr st' (mirror (arrOf st') lo (lo+n) ((lo+n - lo) / 2))=st1 at*
  case' neg=>
   rw[ai hgt]
   have en:n=1:=by lia
   have hB1:=hB
   have hs1:Dn (arrOf st') lo (n+1):=by
    rw[en] at hlt ⊢
    exact Dn.one.more (by lia) (cG hlt)
  all_goals
   refine aA (iE (cx ⟨rfl,?_⟩))
   refine aA (dw (bX (I:=λx c st'=>∃q,c=(none,x,q)/\BB a₀ p F lo st'/\Dn (arrOf st') lo x/\q+1<=x/\∀i,lo+x - (q+1)<=i->i<lo+x->KI (arrOf st') i=KI (arrOf st') (lo+x - 1))
    (Q:=λc st'=>∃m q,c=(none,m,q)/\1<=m/\m<=nrem/\BB a₀ p F lo st'/\Dn (arrOf st') lo m/\q+1<=m/\∀i,lo+m - (q+1)<=i->i<lo+m->KI (arrOf st') i=KI (arrOf st') (lo+m - 1)) ?dstep ?dfin ⟨0,rfl,hB1,hs1,by lia,λi h1 h2=>by congr 1; lia⟩) ?dpost)
   case dfin=>
    rintro c st' ⟨q,rfl,hb,hd,hq,he⟩
    rw[show max (n+1) nrem=nrem by lia] at hd hq he ⊢
    exact⟨nrem,q,rfl,by lia,by lia,hb,hd,hq,he⟩
   case dstep=>
    rintro x c st' h1 h2 ⟨q,rfl,hb,hd,hq,he⟩
    dsimp only
    have hz:lo+x<=(arrOf st').size:=by rw[hb.sz]; lia
    refine aA (jCF hb h0 (by lia) (by lia) ?_)
    dsimp only
    by_cases hl:KI (arrOf st') (lo+x)<KI (arrOf st') (lo+x - 1)
    ·rw[ar hl,am rfl]
     have d1:=hd.more (by lia) (cG hl)
     by_cases hq0:q>0
     ·rw[am hq0]
      refine aA (wpS_reverse (aC ⟨0,rfl,hb.arr (mirror_perm _ _ _ _) λk _=>jA2 hz he k,d1.congr (jA2 hz he),by lia,λi h1 h2=>by congr 1; lia⟩))
     ·rw[ai hq0]
      exact aC ⟨0,rfl,hb,d1,by lia,λi h1 h2=>by congr 1; lia⟩
    ·rw[aI hl,ai ag]
     refine aA (jCF hb h0 (by lia) (by lia) ?_)
     dsimp only
     by_cases hg:KI (arrOf st') (lo+x - 1)<KI (arrOf st') (lo+x)
     ·rw[ar hg,am rfl]
      exact aC ⟨x,q,rfl,by lia,by lia,hb,hd,hq,he⟩
     ·rw[aI hg,ai ag]
      have ex:KI (arrOf st') (lo+x)=KI (arrOf st') (lo+x - 1):=by lia
      refine aC ⟨q+1,rfl,hb,hd.more (by lia) (by lia),by lia,λi h1 h2=>?_⟩
      rw[show lo+(x+1) - 1=lo+x by lia]
      by_cases hix:i=lo+x
      ·rw[hix]
      ·rw[ex]
       exact he i (by lia) (by lia)
   case dpost=>
    rintro c st2 ⟨m,q,rfl,m1,m2,hB2,hs2,hq,he⟩
    dsimp only
    have hz2:lo+m<=(arrOf st2).size:=by rw[hB2.sz]; lia
    by_cases hq0:q>0
    case' pos=>
     rw[am hq0]
     refine aA (wpS_reverse ?_)
     have hB3:=hB2.arr (xs:=mirror (arrOf st2) (lo+m - (q+1)) (lo+m) ((lo+m - (lo+m - (q+1))) / 2)) (mirror_perm _ _ _ _) λk _=>jA2 hz2 he k
     have hs3:Dn (arrOf (setArr st2 (mirror (arrOf st2) (lo+m - (q+1)) (lo+m) ((lo+m - (lo+m - (q+1))) / 2)))) lo m:=hs2.congr (jA2 hz2 he)
     generalize setArr st2 (mirror (arrOf st2) (lo+m - (q+1)) (lo+m) ((lo+m - (lo+m - (q+1))) / 2))=st3 at*
    case' neg=>
     rw[ai hq0]
     have hB3:=hB2
     have hs3:=hs2
     generalize st2=st3 at*
    all_goals
     have hz3:lo+m<=(arrOf st3).size:=by rw[hB3.sz]; lia
     refine aA (wpS_reverse ?_)
     have hB4:=hB3.arr (xs:=mirror (arrOf st3) lo (lo+m) ((lo+m - lo) / 2)) (mirror_perm _ _ _ _) λk hk=>by
      rw[jCE hz3,ai (by lia)]
     have hU:Up (mirror (arrOf st3) lo (lo+m) ((lo+m - lo) / 2)) lo m:=λi j h1 h2 h3=>by
      rw[jCE hz3,jCE hz3,am ⟨h1,by lia⟩,am ⟨by lia,h3⟩]
      exact hs3 _ _ (by lia) (by lia) (by lia)
     generalize mirror (arrOf st3) lo (lo+m) ((lo+m - lo) / 2)=xs4 at*
     refine aA (dw (bX (I:=λx c st'=>st'=setArr st3 xs4/\c=(none,x)/\Up xs4 lo x)
      (Q:=λc st'=>st'=setArr st3 xs4/\∃n,c=(none,n)/\1<=n/\n<=nrem/\Up xs4 lo n) ?tstep ?tfin ⟨rfl,rfl,hU⟩) ?tpost)
     case tfin=>
      rintro c st' ⟨rfl,rfl,hu⟩
      rw[show max m nrem=nrem by lia] at hu ⊢
      exact⟨rfl,nrem,rfl,by lia,by lia,hu⟩
     case tstep=>
      rintro x c st' h1 h2 ⟨rfl,rfl,hu⟩
      dsimp only
      refine aA (jCF hB4 h0 (by lia) (by lia) ?_)
      dsimp only
      by_cases hl:KI xs4 (lo+x)<KI xs4 (lo+x - 1)
      ·rw[ar hl,am rfl]
       exact aC ⟨rfl,x,rfl,by lia,by lia,hu⟩
      ·rw[aI hl,ai ag]
       exact aC ⟨rfl,rfl,hu.more (by lia) (by lia)⟩
     case tpost=>
      rintro c st' ⟨rfl,n,rfl,n1,n2,hu⟩
      exact aC (h n _ hB4 n1 n2 hu)
theorem jDL {st:SortSt}{n ok:Nat}{Q:Bool->SortSt->Prop}(h0:AllI a₀.toList)(hn:lo+n<=a₀.size)(hok:ok<=n)(hB:BB a₀ p F lo st)(hs:Up (arrOf st) lo ok)
  (h:∀st',BB a₀ p F lo st'->Up (arrOf st') lo n->Q true st'):wpS (model prog w) A E s (binarySort' lo n ok) Q st:=by
 rw[binarySort'_eq]
 dsimp only
 refine aA (dw (bX (I:=λk c st'=>c=(none,())/\BB a₀ p F lo st'/\Up (arrOf st') lo (min k n))
  (Q:=λc st'=>c=(none,())/\BB a₀ p F lo st'/\Up (arrOf st') lo n) ?step ?fin ⟨rfl,hB,?init⟩) ?post)
 case post=>
  rintro c st' ⟨rfl,hb,hu⟩
  exact aC (h st' hb hu)
 case init=>
  by_cases e:ok=0
  ·intro i j h1 h2 h3
   have:i=j:=by lia
   rw[this]
   exact dy _
  ·exact λi j h1 h2 h3=>hs i j h1 h2 (by lia)
 case fin=>
  rintro c st' ⟨hc,hb,hu⟩
  rw[show min (max (max ok 1) n) n=n by lia] at hu
  exact⟨hc,hb,hu⟩
 case step=>
  rintro k c st1 hk1 hk2 ⟨rfl,hb,hu⟩
  rw[show min k n=k by lia] at hu
  refine aA (dw (bX (I:=λx c st'=>st'=st1/\∃l r,c=(none,l,r)/\l<=r/\r<=k/\r - l<=k - x/\
    (∀i,i<l->KI (arrOf st1) (lo+i)<=KI (arrOf st1) (lo+k))/\∀i,r<=i->i<k->KI (arrOf st1) (lo+k)<KI (arrOf st1) (lo+i))
   (Q:=λc st'=>st'=st1/\∃l r,c=(none,l,r)/\l<=k/\
    (∀i,i<l->KI (arrOf st1) (lo+i)<=KI (arrOf st1) (lo+k))/\∀i,l<=i->i<k->KI (arrOf st1) (lo+k)<KI (arrOf st1) (lo+i)) ?step1 ?fin1 ⟨rfl,0,k,rfl,by lia,by lia,by lia,λi hi=>by lia,λi h1 h2=>by lia⟩) ?post1)
  case fin1=>
   rintro c st' ⟨rfl,l,r,rfl,b1,b2,b3,b4,b5⟩
   have:l=r:=by lia
   subst this
   exact⟨rfl,l,l,rfl,b2,b4,b5⟩
  case step1=>
   rintro x c st' _ hx ⟨rfl,l,r,rfl,b1,b2,b3,b4,b5⟩
   dsimp only
   by_cases hge:l ≥ r
   ·rw[am hge]
    have:l=r:=by lia
    subst this
    exact aC ⟨rfl,l,l,rfl,b2,b4,b5⟩
   rw[ai hge]
   refine aA (jCF hb h0 (by lia) (by lia) ?_)
   dsimp only
   by_cases hl:KI (arrOf st') (lo+k)<KI (arrOf st') (lo+(l+r) / 2)
   ·rw[ar hl,am rfl]
    exact aC ⟨rfl,l,(l+r) / 2,rfl,by lia,by lia,by lia,b4,λi h1 h2=>Int.lt_of_lt_of_le hl (hu _ _ (by lia) (by lia) (by lia))⟩
   ·rw[aI hl,ai ag]
    exact aC ⟨rfl,(l+r) / 2+1,r,rfl,by lia,by lia,by lia,λi h1=>cW (hu (lo+i) (lo+(l+r) / 2) (by lia) (by lia) (by lia)) (Int.not_lt.mp hl),b5⟩
  case post1=>
   rintro c st' ⟨rfl,l,r,rfl,hlk,b4,b5⟩
   dsimp only
   rw[moveDown'_eq]
   have hks:lo+k<(arrOf st').size:=by rw[hb.sz]; lia
   have kb:∀x,KI (bubble (arrOf st') (lo+k) (lo+k - (lo+l))) x=if x=lo+l then KI (arrOf st') (lo+k) else if lo+l<x/\x<=lo+k then KI (arrOf st') (x - 1) else KI (arrOf st') x:=λx=>by
    have:=jNE hks (d:=lo+k - (lo+l)) (by lia) x
    rw[show lo+k - (lo+k - (lo+l))=lo+l by lia] at this
    exact this
   refine aA (eJ (aC ⟨rfl,hb.arr (bubble_perm _ _ _) λx hx=>?_,?_⟩))
   ·rw[kb,ai (by lia),ai (by lia)]
   rw[show min (k+1) n=k+1 by lia]
   intro i j h1 h2 h3
   show KI (bubble _ _ _) i<=KI (bubble _ _ _) j
   rw[kb,kb]
   have lo1:∀i,lo<=i->i<lo+l->KI (arrOf st') i<=KI (arrOf st') (lo+k):=λi h1 h2=>by
    have:=b4 (i - lo) (by lia)
    rw[show lo+(i - lo)=i by lia] at this
    exact this
   have hi1:∀i,lo+l<=i->i<lo+k->KI (arrOf st') (lo+k)<=KI (arrOf st') i:=λi h1 h2=>by
    have:=b5 (i - lo) (by lia) (by lia)
    rw[show lo+(i - lo)=i by lia] at this
    exact cG this
   repeat' split
   all_goals first
    | (exfalso; lia)
    | exact dy _
    | exact lo1 _ (by lia) (by lia)
    | exact hi1 _ (by lia) (by lia)
    | exact hu _ _ (by lia) (by lia) (by lia)
end
def mergeAtB: { g:Nat->StateT SortSt Sem Bool // mergeAt'=g} :=⟨λ_=>bind _ _,rfl⟩
theorem KI_key {xs:Array Keyed}{i:Nat}{p:Keyed}(h:xs[i]?=some p):KI xs i=key p:=by
 unfold KI
 rw[h]
theorem jI9 (s1:Nat):∀(l:List Keyed) (j0:Nat) (a:Array Keyed) (P M S:List Keyed),P.length=s1+j0->M.length=l.length->a.toList=P++(M++S)->
  ((l.zipIdx j0).foldl (λ(a:Array Keyed) (x:Keyed×Nat)=>a.setIfInBounds (s1+x.2) x.1) a).toList=P++(l++S)
 | [],j0,a,P,M,S,h1,h2,h3=>by
  rw[g5 h2] at h3
  exact h3
 | q::l,j0,a,P,[],S,h1,h2,h3=>by cases h2
 | q::l,j0,a,P,m::M,S,h1,h2,h3=>by
  rw[jc,List.foldl_cons]
  have:=jI9 s1 l (j0+1) (a.setIfInBounds (s1+j0) q) (P++[q]) M S (by rw[aJ,h1]; rfl) (Nat.succ.inj h2) (by
   rw[fh,h3,<- h1,kf _ _ (aj _),lC,aX]
   rfl)
  rw[this,aX]
  rfl
theorem jRM {P m1 m2 S:List Keyed}(e:m1.length=m2.length){k:Nat}(h:k<P.length\/P.length+m1.length<=k):(P++(m1++S))[k]?=(P++(m2++S))[k]?:=by
 rcases h with h | h
 ·rw[bS h,bS h]
 ·rw[bx (by lia),bx (by lia),bx (by lia),bx (by lia),e]
theorem jTH {P m S:List Keyed}{k:Nat}(h1:P.length<=k)(h2:k<P.length+m.length):(P++(m++S))[k]?=m[k - P.length]?:=by
 rw[bx h1,bS (by lia)]
theorem jIU {xs:Array Keyed}{i j t:Nat}(h:t<j - i):(xs.extract i j).toList[t]?=xs[i+t]?:=by
 rw[jAO,cn h,gh,bO]
theorem jCV {xs:Array Keyed}{i j:Nat}{p:Keyed}(h:p∈(xs.extract i j).toList):∃t,i<=t/\t<j/\xs[t]?=some p:=by
 rw[jAO] at h
 obtain⟨t,h1,h2,h3⟩:=jA9 h
 exact⟨t,h1,by lia,at_list.mpr h3⟩
theorem jE7 {xs:Array Keyed}{i j:Nat}(h:j<=xs.size):(xs.extract i j).size=j - i:=by
 rw[Array.size_extract]
 lia
theorem jME {xs:Array Keyed}{i j:Nat}(h:∀n m x y,i<=n->n<=m->m<j->xs[n]?=some x->xs[m]?=some y->LE x y):Srt (xs.extract i j).toList:=by
 refine cH.mpr λa b ha hb hab=>?_
 have hl:(xs.extract i j).toList.length<=j - i:=by rw[jAO,aY]; lia
 have e1:=jIU (xs:=xs) (i:=i) (j:=j) (t:=a) (by lia)
 have e2:=jIU (xs:=xs) (i:=i) (j:=j) (t:=b) (by lia)
 rw[aG ha] at e1
 rw[aG hb] at e2
 exact h (i+a) (i+b) _ _ (by lia) (by lia) (by lia) e1.symm e2.symm
theorem KI_at {xs ys:Array Keyed}{i j:Nat}(h:xs.toList[i]?=ys.toList[j]?):KI xs i=KI ys j:=jBI (by rw[<- bO,<- bO]; exact h)
theorem jJP {xs r R:Array Keyed}{sa na sb nb k1 k2:Nat}(hsb:sb=sa+na)(hk1:k1<na)(hk2:0<k2)(hk2':k2<=nb)(hz:sb+nb<=xs.size)
  (u1:Up xs sa na) (u2:Up xs sb nb) (g2:∀t,sa<=t->t<sa+k1->KI xs t<=KI xs sb) (l3:∀t,sb+k2<=t->t<sb+nb->KI xs (sb - 1)<=KI xs t)
  (D:yY (xs.extract (sa+k1) sb) (xs.extract sb (sb+k2)) r)
  (hR:R.toList=xs.toList.take (sa+k1)++(r.toList++xs.toList.drop (sb+k2))):
  R.Perm xs/\(∀k,k<sa\/sa+(na+nb)<=k->KI R k=KI xs k)/\Up R sa (na+nb):=by
 have lr:r.toList.length=sb+k2 - (sa+k1):=by
  rw[D.1.length_eq,aJ,aw,aw,jE7 (by lia),jE7 (by lia)]
  lia
 have lP:(xs.toList.take (sa+k1)).length=sa+k1:=by rw[aY,aw]; lia
 have hX:xs.toList=xs.toList.take (sa+k1)++(((xs.extract (sa+k1) sb).toList++(xs.extract sb (sb+k2)).toList)++xs.toList.drop (sb+k2)):=by
  have a1:=bB (sa+k1) xs.toList
  have a2:=bB (sb - (sa+k1)) (xs.toList.drop (sa+k1))
  have a3:=bB k2 (xs.toList.drop sb)
  rw[iC] at a2 a3
  rw[show sa+k1+(sb - (sa+k1))=sb by lia] at a2
  rw[jAO,jAO,cN,aX,a3,a2,a1]
 have lm:((xs.extract (sa+k1) sb).toList++(xs.extract sb (sb+k2)).toList).length=r.toList.length:=D.1.length_eq.symm
 have out:∀k,k<sa+k1\/sb+k2<=k->KI R k=KI xs k:=λk hk=>KI_at (by
  have:=jRM (P:=xs.toList.take (sa+k1)) (S:=xs.toList.drop (sb+k2)) lm.symm (k:=k) (by rw[lP,lr]; lia)
  exact(bQ (·[k]?) hR).trans (this.trans (bQ (·[k]?) hX).symm))
 have inn:∀k,sa+k1<=k->k<sb+k2->R.toList[k]?=r.toList[k - (sa+k1)]?:=λk h1 h2=>by
  rw[hR,jTH (by rw[lP]; exact h1) (by rw[lP,lr]; lia),lP]
 have mem:∀k,sa+k1<=k->k<sb+k2->∃t,sa+k1<=t/\t<sb+k2/\KI R k=KI xs t:=λk h1 h2=>by
  have hk:k - (sa+k1)<r.toList.length:=by lia
  have e:=inn k h1 h2
  rw[aG hk] at e
  have hm:=D.1.mem_iff.mp (de hk)
  rcases aK.mp hm with q | q
  ·obtain⟨t,t1,t2,t3⟩:=jCV q
   exact⟨t,t1,by lia,(KI_key (at_list.mpr e)).trans (KI_key t3).symm⟩
  ·obtain⟨t,t1,t2,t3⟩:=jCV q
   exact⟨t,by lia,t2,(KI_key (at_list.mpr e)).trans (KI_key t3).symm⟩
 have srt:∀i j,sa+k1<=i->i<=j->j<sb+k2->KI R i<=KI R j:=λi j h1 h2 h3=>by
  have hi:i - (sa+k1)<r.toList.length:=by lia
  have hj:j - (sa+k1)<r.toList.length:=by lia
  have e1:=inn i h1 (by lia)
  have e2:=inn j (by lia) h3
  rw[aG hi] at e1
  rw[aG hj] at e2
  rw[KI_key (at_list.mpr e1),KI_key (at_list.mpr e2)]
  exact jEH D.2 (aG hi) (aG hj) (by lia)
 have low:∀t u,sa<=t->t<sa+k1->t<=u->u<sb+nb->KI xs t<=KI xs u:=λt u h1 h2 h3 h4=>by
  by_cases e:u<sb
  ·exact u1 t u h1 h3 (by lia)
  ·exact cW (g2 t h1 h2) (u2 sb u (aj _) (by lia) h4)
 have high:∀t u,sa<=t->t<=u->sb+k2<=u->u<sb+nb->KI xs t<=KI xs u:=λt u h1 h2 h3 h4=>by
  by_cases e:t<sb
  ·exact cW (u1 t (sb - 1) h1 (by lia) (by lia)) (l3 u h3 h4)
  ·exact u2 t u (by lia) h2 h4
 refine⟨?_,λk hk=>out k (by lia),λi j h1 h2 h3=>?_⟩
 ·refine b8.mpr ?_
  rw[hR]
  refine List.Perm.trans ?_ (jy hX.symm)
  exact db _ (gF _ D.1)
 ·have h3:j<sb+nb:=by lia
  by_cases i1:i<sa+k1
  ·rw[out i (.inl i1)]
   by_cases j1:j<sa+k1
   ·rw[out j (.inl j1)]
    exact low i j h1 i1 h2 h3
   by_cases j2:j<sb+k2
   ·obtain⟨t,t1,t2,t3⟩:=mem j (by lia) j2
    rw[t3]
    exact low i t h1 i1 (by lia) (by lia)
   ·rw[out j (.inr (by lia))]
    exact low i j h1 i1 h2 h3
  by_cases i2:i<sb+k2
  ·by_cases j2:j<sb+k2
   ·exact srt i j (by lia) h2 j2
   ·obtain⟨t,t1,t2,t3⟩:=mem i (by lia) i2
    rw[t3,out j (.inr (by lia))]
    exact high t j (by lia) (by lia) (by lia) h3
  ·rw[out i (.inr (by lia)),out j (.inr (by lia))]
   exact high i j h1 h2 (by lia) h3
section
variable {prog:Program}{w:World}{A:Around}{E:Value->Shared->Prop}{s:Shared} [LtOk prog w A s]
theorem jQ8 {st st':SortSt}{Q:PUnit->SortSt->Prop}(h:Q ⟨⟩ st'):wpS (model prog w) A E s (set st':StateT SortSt Sem PUnit) Q st:=eJ (f:=λ_=>st') h
theorem jK8 {α:Type}{a b:α}{Q:α->SortSt->Prop}{st:SortSt}(e:a=b)(h:Q b st):wpS (model prog w) A E s (pure a:StateT SortSt Sem α) Q st:=aC (e ▸ h)
structure Merged (st st':SortSt)(i sa na sb nb pw:Nat):Prop where
 perm:(arrOf st').Perm (arrOf st)
 kind:kindOf st'=Od.kd
 failed:failedOf st'=none
 pend:pendingOf st'=((pendingOf st).setIfInBounds i (sa,na+nb,pw)).eraseIdxIfInBounds (i+1)
 out:∀k,k<sa\/sa+(na+nb)<=k->KI (arrOf st') k=KI (arrOf st) k
 up:Up (arrOf st') sa (na+nb)
theorem jH9 {st:SortSt}{i sa na pw sb nb w2:Nat}{Q:Bool->SortSt->Prop}(hk:kindOf st=Od.kd)(hf:failedOf st=none)(hI:AllI (arrOf st).toList)
  (h1:(pendingOf st)[i]?=some (sa,na,pw)) (h2:(pendingOf st)[i+1]?=some (sb,nb,w2)) (hsb:sb=sa+na) (hna:0<na) (hnb:0<nb) (hz:sb+nb<=(arrOf st).size)
  (u1:Up (arrOf st) sa na) (u2:Up (arrOf st) sb nb) (h:∀st',Merged st st' i sa na sb nb pw->Q true st'):wpS (model prog w) A E s (mergeAt' i) Q st:=by
 rw[mergeAtB.2]
 delta mergeAtB
 dsimp only
 simp only [elP,ltP,ltAtP,jHQ,jO1,jO2]
 refine aA (gX ?_)
 rw[h1,h2]
 dsimp only
 refine aA (jQ8 ?_)
 generalize hpp:((pendingOf st).setIfInBounds i (sa,na+nb,pw)).eraseIdxIfInBounds (i+1)=pp
 show wpS _ _ _ _ _ _ (SortSt.mk' (kindOf st) (arrOf st) pp (gallopOf st) (failedOf st))
 generalize hst1:SortSt.mk' (kindOf st) (arrOf st) pp (gallopOf st) (failedOf st)=st1
 have G1:kindOf st1=kindOf st/\arrOf st1=arrOf st/\pendingOf st1=pp/\failedOf st1=failedOf st:=by rw[<- hst1]; exact⟨rfl,rfl,rfl,rfl⟩
 have at_:∀t,t<(arrOf st).size->∃q,(arrOf st)[t]?=some q/\IsI q:=λt ht=>by
  obtain⟨q,q1,q2⟩:=qQ ht
  exact⟨q,q1,hI q (az q2)⟩
 have m1:∀n m x y,sa<=n->n<=m->m<sa+na->(arrOf st)[n]?=some x->(arrOf st)[m]?=some y->LE x y:=λn m x y a1 a2 a3 hx hy=>by
  have:=u1 n m a1 a2 a3
  rw[KI_key hx,KI_key hy] at this
  exact this
 have m2:∀n m x y,sb<=n->n<=m->m<sb+nb->(arrOf st)[n]?=some x->(arrOf st)[m]?=some y->LE x y:=λn m x y a1 a2 a3 hx hy=>by
  have:=u2 n m a1 a2 a3
  rw[KI_key hx,KI_key hy] at this
  exact this
 obtain⟨pb,hpb,ipb⟩:=at_ sb (by lia)
 refine aA (jW hpb ?_)
 refine aA (jIO (G1.1.trans hk) ipb hI m1 hna (show sa+na<=(arrOf st).size by lia) λk1 g1 g2 g3=>?_)
 dsimp only
 have g2:∀t,sa<=t->t<sa+k1->KI (arrOf st) t<=KI (arrOf st) sb:=λt t1 t2=>by
  obtain⟨q,hq,_⟩:=at_ t (by lia)
  rw[KI_key hq,KI_key hpb]
  exact g2 t q t1 t2 hq
 by_cases e1:na - k1=0
 ·rw[am (bp e1)]
  refine aC (h _ ⟨?_,G1.1.trans hk,G1.2.2.2.trans hf,G1.2.2.1.trans hpp.symm,λk _=>?_,?_⟩)
  ·rw[G1.2.1]
  ·rw[G1.2.1]
  ·rw[G1.2.1]
   intro i j i1 i2 i3
   by_cases a:i<sb
   ·by_cases b:j<sb
    ·exact u1 i j i1 i2 (by lia)
    ·exact cW (g2 i i1 (by lia)) (u2 sb j (aj _) (by lia) (by lia))
   ·exact u2 i j (by lia) i2 (by lia)
 rw[ai (bn e1)]
 obtain⟨pa,hpa,ipa⟩:=at_ (sa+k1+(na - k1) - 1) (by lia)
 refine aA (jW hpa ?_)
 refine aA (jIP (G1.1.trans hk) ipa hI m2 (by lia) (show sb+nb<=(arrOf st).size by lia) λk2 l1 l2 l3=>?_)
 dsimp only
 have epa:sa+k1+(na - k1) - 1=sb - 1:=by lia
 rw[epa] at hpa
 have l3':∀t,sb+k2<=t->t<sb+nb->KI (arrOf st) (sb - 1)<=KI (arrOf st) t:=λt t1 t2=>by
  obtain⟨q,hq,_⟩:=at_ t (by lia)
  rw[KI_key hq,KI_key hpa]
  exact l3 t q t1 t2 hq
 by_cases e2:k2=0
 ·rw[am (bp e2)]
  refine aC (h _ ⟨?_,G1.1.trans hk,G1.2.2.2.trans hf,G1.2.2.1.trans hpp.symm,λk _=>?_,?_⟩)
  ·rw[G1.2.1]
  ·rw[G1.2.1]
  ·rw[G1.2.1]
   intro i j i1 i2 i3
   by_cases a:i<sb
   ·by_cases b:j<sb
    ·exact u1 i j i1 i2 (by lia)
    ·exact cW (u1 i (sb - 1) i1 (by lia) (by lia)) (l3' j (by lia) (by lia))
   ·exact u2 i j (by lia) i2 (by lia)
 rw[ai (bn e2)]
 have T:Two ((arrOf st).extract (sa+k1) sb) ((arrOf st).extract sb (sb+k2)):=by
  refine⟨λq hq=>?_,λq hq=>?_,jME λn m x y a1 a2 a3=>m1 n m x y (by lia) a2 (by lia),jME λn m x y a1 a2 a3=>m2 n m x y (by lia) a2 (by lia),?_,?_,λx hx y hy=>?_,λy hy q hq=>?_⟩
  ·obtain⟨t,_,_,t3⟩:=jCV hq
   exact hI q (az (at_list.mp t3))
  ·obtain⟨t,_,_,t3⟩:=jCV hq
   exact hI q (az (at_list.mp t3))
  ·rw[jE7 (by lia)]; lia
  ·rw[jE7 (by lia)]; lia
  ·obtain⟨t,t1,t2,t3⟩:=jCV hx
   rw[jE7 (by lia),jIU (by lia),show sa+k1+(sb - (sa+k1) - 1)=sb - 1 by lia,hpa] at hy
   cases hy
   exact l2 t x t1 t2 t3
  ·obtain⟨t,t1,t2,t3⟩:=jCV hy
   rw[jIU (by lia),gE,hpb] at hq
   cases hq
   exact g3 t y t1 (by lia) t3
 by_cases e3:na - k1<=k2
 case' pos=>
  rw[am e3]
  refine aA (jH7 (G1.1.trans hk) T λr st2 D G0=>?_)
  have G:SG (SortSt.mk' (kindOf st) (arrOf st) pp (gallopOf st) (failedOf st)) st2:=by rw[hst1]; exact G0
  subst hpp
 case' neg=>
  rw[ai e3]
  refine aA (jH8 (G1.1.trans hk) T λr st2 D G0=>?_)
  have G:SG (SortSt.mk' (kindOf st) (arrOf st) pp (gallopOf st) (failedOf st)) st2:=by rw[hst1]; exact G0
  subst hpp
 all_goals
  refine aA (eJ (aA (gX ?_)))
  have ea:arrOf st2=arrOf st:=G.a
  have W:=jJP (R:=((r.toList.zipIdx 0).foldl (λ(a:Array Keyed) (x:Keyed×Nat)=>a.setIfInBounds (sa+k1+x.2) x.1) (arrOf st))) hsb (by lia) (by lia) l1 hz u1 u2 g2 l3' D (jI9 (sa+k1) r.toList 0 (arrOf st) ((arrOf st).toList.take (sa+k1)) (((arrOf st).extract (sa+k1) sb).toList++((arrOf st).extract sb (sb+k2)).toList) ((arrOf st).toList.drop (sb+k2)) (by rw[aY,aw]; lia) D.1.length_eq.symm (by
   have a1:=bB (sa+k1) (arrOf st).toList
   have a2:=bB (sb - (sa+k1)) ((arrOf st).toList.drop (sa+k1))
   have a3:=bB k2 ((arrOf st).toList.drop sb)
   rw[iC] at a2 a3
   rw[show sa+k1+(sb - (sa+k1))=sb by lia] at a2
   rw[jAO,jAO,cN,aX,a3,a2,a1]))
  rw[<- ea] at W
  refine jK8 (by show (failedOf st2).isNone=true; rw[G.f]; show (failedOf st).isNone=true; rw[hf]; rfl) (h _ ⟨?_,G.k.trans hk,G.f.trans hf,G.p,?_,?_⟩)
  ·rw[<- ea]
   exact W.1
  ·rw[<- ea]
   exact W.2.1
  ·exact W.2.2
end
def Runs (xs:Array Keyed):List (Nat×Nat×Nat)->Nat->Nat->Prop
 | [],a,b=>a=b
 | (s,n,_)::t,a,b=>s=a/\0<n/\Up xs s n/\Runs xs t (a+n) b
section
variable {xs ys:Array Keyed}
theorem Runs.le:∀{l:List (Nat×Nat×Nat)}{a b:Nat},Runs xs l a b->a+l.length<=b
 | [],a,b,h=>by have:a=b:=h; rw[dF]; lia
 | (s,n,_)::t,a,b,⟨_,h2,_,h4⟩=>by
  have:=Runs.le h4
  rw[aP]
  lia
theorem Runs.app:∀{l m:List (Nat×Nat×Nat)}{a b:Nat},Runs xs (l++m) a b->∃c,Runs xs l a c/\Runs xs m c b
 | [],m,a,b,h=>⟨a,rfl,h⟩
 | (s,n,_)::t,m,a,b,⟨h1,h2,h3,h4⟩=>by
  obtain⟨c,c1,c2⟩:=Runs.app h4
  exact⟨c,⟨h1,h2,h3,c1⟩,c2⟩
theorem Runs.put:∀{l m:List (Nat×Nat×Nat)}{a b c:Nat},Runs xs l a c->Runs xs m c b->Runs xs (l++m) a b
 | [],m,a,b,c,h,g=>by have:a=c:=h; subst this; exact g
 | (s,n,_)::t,m,a,b,c,⟨h1,h2,h3,h4⟩,g=>⟨h1,h2,h3,Runs.put h4 g⟩
theorem Up.same {lo n:Nat}(h:Up xs lo n)(e:∀k,lo<=k->k<lo+n->KI ys k=KI xs k):Up ys lo n:=λi j h1 h2 h3=>by
 rw[e i h1 (by lia),e j (by lia) h3]
 exact h i j h1 h2 h3
theorem Runs.same:∀{l:List (Nat×Nat×Nat)}{a b:Nat},Runs xs l a b->(∀k,a<=k->k<b->KI ys k=KI xs k)->Runs ys l a b
 | [],a,b,h,_=>h
 | (s,n,_)::t,a,b,⟨h1,h2,h3,h4⟩,e=>by
  have:=Runs.le h4
  exact⟨h1,h2,h3.same λk k1 k2=>e k (by lia) (by lia),Runs.same h4 λk k1 k2=>e k (by lia) k2⟩
theorem Runs.mod {f:Nat×Nat×Nat->Nat×Nat×Nat}(hf:∀x,(f x).1=x.1/\(f x).2.1=x.2.1):∀{l:List (Nat×Nat×Nat)}{i a b:Nat},Runs xs l a b->Runs xs (l.modify i f) a b
 | [],i,a,b,h=>by rw[List.modify_nil]; exact h
 | (s,n,w)::t,0,a,b,⟨h1,h2,h3,h4⟩=>by
  rw[List.modify_zero_cons]
  obtain⟨e1,e2⟩:=hf (s,n,w)
  generalize f (s,n,w)=v at e1 e2 ⊢
  obtain⟨s',n',w'⟩:=v
  have e1:s'=s:=e1
  have e2:n'=n:=e2
  subst e1 e2
  exact⟨h1,h2,h3,h4⟩
 | (s,n,w)::t,i+1,a,b,⟨h1,h2,h3,h4⟩=>by
  rw[List.modify_succ_cons]
  exact⟨h1,h2,h3,Runs.mod hf h4⟩
end
structure RI (a₀:Array Keyed)(lo:Nat)(st:SortSt):Prop where
 perm:(arrOf st).Perm a₀
 kind:kindOf st=Od.kd
 failed:failedOf st=none
 runs:Runs (arrOf st) (pendingOf st).toList 0 lo
theorem jG2:∀(l:List (Nat×Nat×Nat)) (i:Nat),i+1<l.length->∃u x y t,l=u++x::y::t/\u.length=i
 | [],i,h=>absurd h (cL _)
 | [x],i,h=>by rw[gL] at h; lia
 | x::y::t,0,h=>⟨[],x,y,t,rfl,rfl⟩
 | x::y::t,i+1,h=>by
  obtain⟨u,x',y',t',e,hu⟩:=jG2 (y::t) i (by rw[aP] at h; lia)
  exact⟨x::u,x',y',t',by rw[e]; rfl,by rw[aP,hu]⟩
theorem jSE {a₀ xs:Array Keyed}(h0:AllI a₀.toList)(hp:xs.Perm a₀):AllI xs.toList:=λp hp'=>h0 p ((b8.mp hp).mem_iff.mp hp')
section
variable {prog:Program}{w:World}{A:Around}{E:Value->Shared->Prop}{s:Shared} [LtOk prog w A s]{a₀:Array Keyed}
theorem jDK {st:SortSt}{i lo:Nat}{Q:Bool->SortSt->Prop}(h0:AllI a₀.toList)(R:RI a₀ lo st)(hlo:lo<=a₀.size)(hi:i+1<(pendingOf st).size)
  (h:∀st',RI a₀ lo st'->(pendingOf st').size+1=(pendingOf st).size->(∀k,lo<=k->KI (arrOf st') k=KI (arrOf st) k)->Q true st'):wpS (model prog w) A E s (mergeAt' i) Q st:=by
 obtain⟨u,⟨sa,na,pw⟩,⟨sb,nb,w2⟩,t,e,hu⟩:=jG2 (pendingOf st).toList i (by rw[aw]; exact hi)
 have rr:=R.runs
 rw[e] at rr
 obtain⟨c,r1,a1,a2,a3,a4,a5,a6,a7⟩:=Runs.app rr
 have r2:=Runs.le a7
 have r3:=Runs.le r1
 subst a1
 have e1:(pendingOf st)[i]?=some (sa,na,pw):=by
  rw[<- bO,e,bx (by lia),hu,lC]
  rfl
 have e2:(pendingOf st)[i+1]?=some (sb,nb,w2):=by
  rw[<- bO,e,bx (by lia),hu,cN]
  rfl
 have z:=R.perm.size_eq
 refine jH9 R.kind R.failed (jSE h0 R.perm) e1 e2 a4 a2 a5 (by lia) a3 a6 λst' M=>?_
 have ep:(pendingOf st').toList=u++(sa,na+nb,pw)::t:=by
  rw[M.pend,Array.toList_eraseIdxIfInBounds,fh,e,kf _ _ (by lia),hu,lC,List.set_cons_zero,List.eraseIdx_append_of_length_le (by lia),hu,cN]
  rfl
 refine h st' ⟨M.perm.trans R.perm,M.kind,M.failed,?_⟩ ?_ λk hk=>M.out k (by lia)
 ·rw[ep]
  refine Runs.put (Runs.same r1 λk k1 k2=>M.out k (by lia)) ⟨rfl,by lia,M.up,?_⟩
  have:=Runs.same (ys:=arrOf st') a7 λk k1 k2=>M.out k (by lia)
  rw[Nat.add_assoc] at this
  exact this
 ·have q1:=bQ List.length ep
  have q2:=bQ List.length e
  rw[aw,aJ,aP] at q1
  rw[aw,aJ,aP,aP] at q2
  lia
theorem RI.of {st:SortSt}{F:Nat->Int}{lo:Nat}{p:Array (Nat×Nat×Nat)}{xs:Array Keyed}(h:BB a₀ p F lo st)(hr:Runs xs p.toList 0 lo)(hF:∀k,F k=KI xs k):RI a₀ lo st:=
 ⟨h.perm,h.kind,h.failed,by rw[h.pend]; exact hr.same λk _ hk=>(h.low k hk).trans (hF k)⟩
theorem wpS_sortRunsAny {st:SortSt}{Q:Unit->SortSt->Prop}(h0:AllI a₀.toList)(hB:SB a₀ st)(h1:1<=a₀.size)
  (h:∀st',(arrOf st').Perm a₀->failedOf st'=none->STo (arrOf st') a₀.size->Q () st'):wpS (model prog w) A E s sortRuns' Q st:=by
 rw[sortRuns'_eq]
 refine aA (gX ?_)
 try dsimp only
 have hz:=hB.size
 rw[hz]
 generalize minRun' a₀.size a₀.size 0=mr
 refine aA (dw (bX (I:=λx c st'=>∃lo,c=(none,lo)/\x<=lo/\lo<=a₀.size/\RI a₀ lo st')
  (Q:=λc st'=>c=(none,a₀.size)/\RI a₀ a₀.size st') ?step ?fin ⟨0,rfl,aj _,aS _,hB.perm,hB.kind,hB.failed,by rw[hB.pend]; rfl⟩) ?post)
 case fin=>
  rintro c st' ⟨lo,rfl,l1,l2,R⟩
  have:lo=a₀.size:=by lia
  subst this
  exact⟨rfl,R⟩
 case step=>
  rintro x c st1 _ hx ⟨lo,rfl,l1,l2,R1⟩
  try dsimp only
  by_cases hl:lo ≥ a₀.size
  ·rw[am hl]
   have:lo=a₀.size:=by lia
   subst this
   exact aC ⟨rfl,R1⟩
  rw[ai hl]
  refine aA (jES (F:=λk=>KI (arrOf st1) k) (p:=pendingOf st1) h0 (by lia) (by lia) ⟨R1.perm,R1.kind,R1.failed,rfl,λ_ _=>rfl⟩ λm st2 B2 m1 m2 U2=>?_)
  try dsimp only
  by_cases hm:m<mr
  case' pos=>
   rw[am hm]
   refine aA (iE (cx ⟨rfl,?_⟩))
   refine aA (jDL h0 (by lia) (by lia) B2 U2 λst4 B4 U4=>?_)
   have R4:=RI.of B4 R1.runs λ_=>rfl
   have n0:0<min (a₀.size - lo) mr:=by lia
   have n9:min (a₀.size - lo) mr<=a₀.size - lo:=by lia
   generalize min (a₀.size - lo) mr=n at*
  case' neg=>
   rw[ai hm]
   have R4:=RI.of B2 R1.runs λ_=>rfl
   have U4:=U2
   generalize st2=st4 at*
   generalize m=n at*
  all_goals
   refine aA (gX ?_)
   have last:∀st5:SortSt,RI a₀ lo st5->Up (arrOf st5) lo n->∃lo',(none,lo+n)=((none:Option PUnit),lo')/\x+1<=lo'/\lo'<=a₀.size/\RI a₀ lo' (setPending st5 ((pendingOf st5).push (lo,n,0))):=λst5 R5 U5=>
    ⟨lo+n,rfl,by lia,by lia,R5.perm,R5.kind,R5.failed,by
     show Runs (arrOf st5) ((pendingOf st5).push (lo,n,0)).toList 0 (lo+n)
     rw[dS]
     exact R5.runs.put ⟨rfl,by lia,U5,rfl⟩⟩
   cases hb:(pendingOf st4).back? with
   | none=>
    try dsimp only
    exact aA (eJ (aC (last st4 R4 U4)))
   | some v=>
    obtain⟨s1,n1,w1⟩:=v
    try dsimp only
    refine aA (dw (bX (I:=λ_ c st'=>c=(none,())/\RI a₀ lo st'/\Up (arrOf st') lo n) (Q:=λc st'=>c=(none,())/\RI a₀ lo st'/\Up (arrOf st') lo n) ?mstep (λ_ _ z=>z) ⟨rfl,R4,U4⟩) ?mpost)
    case mstep=>
     rintro y c st5 _ _ ⟨rfl,R5,U5⟩
     try dsimp only
     refine aA (gX ?_)
     by_cases hs:(pendingOf st5).size>1
     ·rw[am hs]
      obtain⟨v,hv⟩:∃v,(pendingOf st5)[(pendingOf st5).size - 2]?=some v:=⟨_,fq (by lia)⟩
      rw[hv]
      obtain⟨v1,v2,older⟩:=v
      try dsimp only
      by_cases ho:older<=power' a₀.size (2*s1+n1) (2*s1+n1+n1+n) a₀.size
      ·rw[am ho]
       exact aC ⟨rfl,R5,U5⟩
      rw[ai ho]
      refine aA (jDK h0 R5 (by lia) (by lia) λst6 R6 _ E6=>?_)
      exact aC ⟨rfl,R6,U5.same λk k1 _=>E6 k k1⟩
     ·rw[ai hs]
      exact aC ⟨rfl,R5,U5⟩
    case mpost=>
     rintro c st5 ⟨rfl,R5,U5⟩
     try dsimp only
     refine aA (eJ (aA (eJ (aC (last (setPending st5 ((pendingOf st5).modify ((pendingOf st5).size - 1) λx=>(x.1,x.2.1,power' a₀.size (2*s1+n1) (2*s1+n1+n1+n) a₀.size))) ⟨R5.perm,R5.kind,R5.failed,?_⟩ U5)))))
     show Runs (arrOf st5) (Array.modify _ _ _).toList 0 lo
     rw[Array.toList_modify]
     exact Runs.mod (f:=λx=>(x.1,x.2.1,power' a₀.size (2*s1+n1) (2*s1+n1+n1+n) a₀.size)) (λ_=>⟨rfl,rfl⟩) R5.runs
 case post=>
  rintro c st1 ⟨rfl,R1⟩
  try dsimp only
  refine aA (dw (bX (I:=λx c st'=>c=(none,())/\RI a₀ a₀.size st'/\1<=(pendingOf st').size/\(pendingOf st').size+x<=a₀.size)
   (Q:=λc st'=>c=(none,())/\RI a₀ a₀.size st'/\(pendingOf st').size=1) ?step2 ?fin2 ⟨rfl,R1,?a1,?a2⟩) ?post2)
  case a1=>
   have:=R1.runs
   cases hp:(pendingOf st1).toList with
   | nil=>
    rw[hp] at this
    have:0=a₀.size:=this
    lia
   | cons v t=>
    have:=bQ List.length hp
    rw[aw,aP] at this
    lia
  case a2=>
   have:=R1.runs.le
   rw[aw] at this
   lia
  case fin2=>
   rintro c st2 ⟨_,_,h2,h3⟩
   lia
  case post2=>
   rintro c st2 ⟨rfl,R2,h2⟩
   try dsimp only
   refine aC (h st2 R2.perm R2.failed ?_)
   have rr:=R2.runs
   cases hp:(pendingOf st2).toList with
   | nil=>
    rw[<- aw,hp] at h2
    cases h2
   | cons v t=>
    have:=bQ List.length hp
    rw[aw,h2,aP] at this
    have:t=[]:=g5 (by lia)
    subst this
    rw[hp] at rr
    obtain⟨v1,v2,v3⟩:=v
    obtain⟨q1,q2,q3,q4⟩:=rr
    have q4:0+v2=a₀.size:=q4
    subst q1
    exact λi j hij hj=>q3 i j (aS _) hij (by lia)
  case step2=>
   rintro x c st2 _ hx ⟨rfl,R2,h2,h3⟩
   try dsimp only
   refine aA (gX ?_)
   by_cases hs:(pendingOf st2).size<=1
   ·rw[am hs]
    exact aC ⟨rfl,R2,by lia⟩
   rw[ai hs]
   refine aA (jDK h0 R2 (aj _) ?_ λst3 R3 e3 _=>?_)
   ·have ite_le:∀(c:Prop) [Decidable c] (a b:Nat),(if c then a else b)<=max a b:=λc _ a b=>by
     by_cases z:c
     ·rw[am z]; lia
     ·rw[ai z]; lia
    refine lv (Nat.add_le_add_right (ite_le _ _ _) 1) ?_
    lia
   ·exact aC ⟨rfl,R3,by lia,by lia⟩
end
end TM
namespace TM
open PySem PySem.Spec PyProof.Rows
section
variable {prog:Program}{w:World}{A:Around}{E:Value->Shared->Prop}{s:Shared}
abbrev turned (b:Bool)(xs:Array Value):Array Value:=if b then xs.reverse else xs
theorem jHA {b:Bool}{xs:Array Value} :(turned b xs).size=xs.size:=by
 cases b
 ·rfl
 ·exact Array.size_reverse
theorem jCH (b:Bool)(vs:List Value):(if b=true then (vs.toArray.zip vs.toArray).reverse else vs.toArray.zip vs.toArray).Perm (pairsOf vs):=by
 cases b with
 | false=>exact jz _
 | true=>exact b8.mpr (by show ((vs.toArray.zip vs.toArray).reverse).toList.Perm _; rw[dz]; exact List.reverse_perm _)
def AskOk [Od](prog:Program)(w:World)(A:Around)(s:Shared)(a:Addr)(vs:List Value):Prop:=
 ∀h6:Heap,(∀c o,s.heap.get? c=some o->c≠a->h6.get? c=some o)->
  (∀(Q:SortKind->Shared->Prop) (E:Value->Shared->Prop),Q Od.kd { s with heap:=h6} ->wpAny (model prog w) A (keyKind' vs.toArray) Q E { s with heap:=h6})/\LtOk prog w A { s with heap:=h6}
theorem jNK [Od]{a:Addr}{vs:List Value}{n:Nat}{b:Bool}{P:Fin->Shared->Prop}(ho:s.heap.get? a=some (seqObj "list" vs.toArray n))(hz:vs.length<=sizeLine)(hI:AllI (pairsOf vs).toList)(hk:2<=vs.length->AskOk prog w A s a vs)
  (h:∀xs:Array Keyed,xs.Perm (pairsOf vs)->STo xs (pairsOf vs).size->P (.done (.ret .none)) { s with heap:=sortedHeap s.heap a vs (turned b (xs.map (·.2)))}):
  wpAny (model prog w) A (Builtin.«list.sort» ⟨[.ref a],[(Str.ofString "reverse", .bool b)]⟩) P E s:=by
 rw[list_sort_rev]
 have ha:=aq ho
 have hz':vs.toArray.size<=sizeLine:=by rw[ak]; exact hz
 refine aa (gA ho rfl (aa (d0 ho rfl ?_ hz' (aS _))))
 obtain⟨e1,ho1⟩:∃e1,(s.heap.update a (Obj.mapSeq λ_=>#[])).get? a=some (seqObj "list" #[] e1):=⟨_,fY ho _⟩
 refine aa (iT ho1 rfl (aa (iB ?_ hz)))
 refine aa (eY (bD ?_))
 generalize hh6:((s.heap.update a (Obj.mapSeq λ_=>#[])).push (seqObj "tuple" vs.toArray 0)).push (seqObj "list" #[] 0)=h6
 have ho6:h6.get? a=some (seqObj "list" #[] e1):=by
  rw[<- hh6]
  exact ab _ (ab _ ho1)
 have k6:∀c o,s.heap.get? c=some o->c≠a->h6.get? c=some o:=λc o q ne=>by
  rw[<- hh6]
  exact ab _ (ab _ ((bf _ _ (dh ne)).trans q))
 have sh:∀out,sortedHeap s.heap a vs out=h6.update a (Obj.mapSeq λ_=>out):=λout=>by rw[<- hh6]; rfl
 have go:∀X:Sem Fin,wpAny (model prog w) A X P E { s with heap:=h6} ->wpAny (model prog w) A (if b=true then (do let _ <- rule "list.sort.reverse"; X) else X) P E { s with heap:=h6} :=λX hX=>by
  cases b with
  | false=>exact hX
  | true=>exact aa (cx hX)
 have hend:∀st':SortSt,(arrOf st').Perm (pairsOf vs)->STo (arrOf st') (pairsOf vs).size->P (.done (.ret .none)) { s with heap:=h6.update a (Obj.mapSeq λ_=>turned b ((arrOf st').map (·.2)))} :=λst' p1 p2=>by
  rw[<- sh]
  exact h _ p1 p2
 have hfit:∀st':SortSt,(arrOf st').Perm (pairsOf vs)->(turned b ((arrOf st').map (·.2))).size<=sizeLine+1:=λst' p1=>by
  rw[jHA,kx,p1.size_eq,pairsOf_size]
  lia
 dsimp only
 refine go _ ?_
 by_cases few:vs.toArray.size<2
 ·rw[am few,am few]
  refine aa (ae ?_)
  rw[StateT.run_pure]
  refine aa (ae ?_)
  dsimp only
  refine aa (iT ho6 rfl (aa (d0 ho6 rfl ?_ (aS _) (hfit (SortSt.mk' general' _ #[] 7 none) (jCH b vs)))))
  rw[iU,ai ag]
  refine ae (hend (SortSt.mk' general' _ #[] 7 none) (jCH b vs) λi j hij hj=>?_)
  have:i=j:=by
   rw[pairsOf_size] at hj
   rw[ak] at few
   lia
  rw[this]
  exact dy _
 ·rw[ai few,ai few]
  rw[ak] at few
  obtain⟨kk,ll⟩:=hk (by lia) h6 k6
  refine aa (kk _ _ (aa (cw (wpS_sortRunsAny (a₀:=pairsOf vs) (st:=SortSt.mk' Od.kd _ #[] 7 none)
   (Q:=λ_ st'=>(arrOf st').Perm (pairsOf vs)/\failedOf st'=none/\STo (arrOf st') (pairsOf vs).size)
   hI ⟨jCH b _,rfl,rfl,rfl⟩ (by rw[pairsOf_size]; lia) λst' a1 a2 a3=>⟨a1,a2,a3⟩) ?_ λ_ _ e=>e)))
  rintro ⟨⟨⟩,st'⟩ s' ⟨rfl,p1,p2,p3⟩
  dsimp only
  refine aa (iT ho6 rfl (aa (d0 ho6 rfl ?_ (aS _) (hfit st' p1))))
  rw[p2]
  dsimp only
  rw[iU,ai ag]
  exact ae (hend st' p1 p3)
theorem jKX (a:Addr):Builtin.«list.sort» ⟨[.ref a],[]⟩=Builtin.«list.sort» ⟨[.ref a],[(Str.ofString "reverse", .bool false)]⟩:=by
 rw[list_sort_plain,list_sort_rev]
 rfl
end
end TM
namespace L2
open PySem PySem.Spec PyProof.Rows
section
variable {prog:Program}{w:World}{A:Around}{E:Value->Shared->Prop}{s:Shared}{d:Addr}{lI:List (Key×Value)}
end
structure JK (X:Cx)(kws:List Keyword)(t:TA):Prop where
 h:PK X kws t
variable {X:Cx}
section
variable {x:Str}{p pos kpos:Pos}{e:Expr}{es:List Expr}{kws:List Keyword}{t tk:TA}{te:TE}{nm:Option Str}{ks:List Str}{id:String}{r:List V->List V->Hp->VK->Prop}
theorem jLU:JK X [] tNil:=⟨jSX⟩
theorem jHM (ha:JE X e te)(hr:JK X kws t):JK X (⟨nm,e,kpos⟩::kws) (tCons te t):=⟨jQQ ha.h hr.h⟩
end
theorem jTU {o:Expr}{to:TE}{name:Str}{apos cpos:Pos}{T id:String}{r:V->List V->Hp->VK->Prop}(pa:PlainAttrs T)(slot:Slot T name id)(hty:typeOf (.builtin id)=pure (.type "method_descriptor"))(hm:MtR X id r)(ho:JE X o to)
  (hbase:attributeBase o name X.env (eval o X.env)=eval o X.env:=by rfl) (hline:(apos.endLine==cpos.line)=true:=by rfl):JE X (.Call (.Attribute o name apos) [] [] cpos) (tBM0 X.K T r to):=⟨jT8 pa slot hty hm ho.h hbase hline⟩
def rBits:V->List V->Hp->VK->Prop:=λx vs H Q=>∃i,x= .int i/\vs=[]/\Q (.int (Builtin.Int.intBits i)) H
theorem jRK:MtR X "int.bit_length" rBits:=by
 intro lF s σ H x vs v us Q I rx rv h
 obtain⟨i,rfl,rfl,q⟩:=h
 obtain⟨t,rfl⟩:=rx
 have hus:=rv.zero
 subst hus
 exact call_int_bit_length ⟨.int _,H,I.tok _,⟨_,rfl⟩,q⟩
theorem jLY {i o:Expr}{ty td:TE}{pos:Pos}(hu:X.A.units+1<cLine)(hi:JE X i ty)(ho:JE X o td)(h1:behindInMarks .NotIn o=false):JT X (.Compare i [.NotIn] [o] pos) (tB (jKE ty td)):=⟨jPA (jKZ hu hi.h ho.h) h1⟩
theorem jOD {K:W.Frag}{tp:Bool}{l:Addr}{xs:List V}{g:TG}{tb:TS}{D:Ends}{σ:St}{H:Hp}(Pv:Nat->St->Hp->Prop)(h0:Pv 0 σ H)(hl:∀i σ H,Pv i σ H->Sq tp K H l xs)
  (hs:∀i x T σ H,xs[i]?=some x->H T=none->Pv i σ H->g (.ref T) σ (upd H T (.tup [.int (i:Int),x])) λσ2 H2=>tb { D with nx:=Pv (i+1),ct:=Pv (i+1),bk:=D.nx} σ2 H2) (hd:∀σ H,Pv xs.length σ H->D.nx σ H):
  ∃W:Nat->Nat->St->Hp->Prop,(∃m,W 0 m σ H)/\∀i m σ H,W i m σ H->
   ((Ite tp K l).stop i H/\D.nx σ H)\/((Ite tp K l).go i H/\∃N:St->Hp->Prop,(∀σ' H',N σ' H'->∃m',m'<m/\W (i+1) m' σ' H')/\∀x H',(Ite tp K l).yld i H x H'->g x σ H' λσ2 H2=>tb { D with nx:=N,ct:=N,bk:=D.nx} σ2 H2):=by
 refine⟨λi m σ H=>m=xs.length - i/\i<=xs.length/\Pv i σ H,⟨_,rfl,aS _,h0⟩,?_⟩
 rintro i m σ H ⟨rfl,hi,p⟩
 have s1:=hl i σ H p
 by_cases hlt:i<xs.length
 ·refine .inr ⟨⟨xs,xs[i],s1,by simp [hlt]⟩,Pv (i+1),λσ' H' p'=>⟨xs.length - (i+1),by lia,rfl,hlt,p'⟩,λv H'' y=>?_⟩
  obtain⟨T,x,e1,e2,e3,e4⟩:=y
  subst e2 e3
  exact hs i x T σ _ (e4 xs s1) e1 p
 ·have e:i=xs.length:=by lia
  subst e
  exact .inl ⟨⟨xs,s1,aj _⟩,hd σ H p⟩
def All2 {α β:Type}(R:α->β->Prop):List α->List β->Prop
 | [],[]=>True
 | a::as,b::bs=>R a b/\All2 R as bs
 | _,_=>False
section
variable {α β:Type}{R S:α->β->Prop}
theorem All2.len:∀{as:List α}{bs:List β},All2 R as bs->as.length=bs.length
 | [],[],_=>rfl
 | _::_,_::_,h=>bQ (· +1) (All2.len h.2)
theorem All2.imp (f:∀a b,R a b->S a b):∀{as:List α}{bs:List β},All2 R as bs->All2 S as bs
 | [],[],_=>trivial
 | _::_,_::_,h=>⟨f _ _ h.1,All2.imp f h.2⟩
theorem All2.snoc {a:α}{b:β} :∀{as:List α}{bs:List β},All2 R as bs->R a b->All2 R (as++[a]) (bs++[b])
 | [],[],_,h=>⟨h,trivial⟩
 | _::_,_::_,h,k=>⟨h.1,All2.snoc h.2 k⟩
theorem All2.get:∀{as:List α}{bs:List β}{i:Nat}{b:β},All2 R as bs->bs[i]?=some b->∃a,as[i]?=some a/\R a b
 | [],[],i,b,_,h=>by simp at h
 | a::_,_::_,0,b,h,e=>by
  simp at e
  subst e
  exact⟨a,rfl,h.1⟩
 | _::_,_::_,i+1,b,h,e=>by
  obtain⟨a,h1,h2⟩:=All2.get h.2 (i:=i) (b:=b) (by simpa using e)
  exact⟨a,by simpa using h1,h2⟩
theorem All2.get':∀{as:List α}{bs:List β}{i:Nat}{a:α},All2 R as bs->as[i]?=some a->∃b,bs[i]?=some b/\R a b
 | [],[],i,b,_,h=>by simp at h
 | a::_,b::_,0,x,h,e=>by
  simp at e
  subst e
  exact⟨b,rfl,h.1⟩
 | _::_,_::_,i+1,x,h,e=>by
  obtain⟨b,h1,h2⟩:=All2.get' h.2 (i:=i) (a:=x) (by simpa using e)
  exact⟨b,by simpa using h1,h2⟩
theorem All2.append:∀{as as':List α}{bs bs':List β},All2 R as bs->All2 R as' bs'->All2 R (as++as') (bs++bs')
 | [],_,[],_,_,h=>h
 | _::_,_,_::_,_,h,k=>⟨h.1,All2.append h.2 k⟩
theorem All2.of_get {as:List α}{bs:List β}(hl:as.length=bs.length)(h:∀(i:Nat) a b,as[i]?=some a->bs[i]?=some b->R a b):All2 R as bs:=by
 induction as generalizing bs with
 | nil=>cases bs with
  | nil=>trivial
  | cons b bs=>cases hl
 | cons a as ih=>cases bs with
  | nil=>cases hl
  | cons b bs=>exact⟨h 0 a b rfl rfl,ih (by simpa using hl) λi a b h1 h2=>h (i+1) a b (by simpa using h1) (by simpa using h2)⟩
end
def lowN (m:Nat):Nat:=if m % 2=1 then lowN (m / 2)+1 else 0
theorem jE2 {m:Nat}(h:m % 2=0):lowN m=0:=by
 unfold lowN
 rw[ai (by lia)]
theorem jFB {m:Nat}(h:m % 2=1):lowN m=lowN (m / 2)+1:=by
 rw[lowN,am h]
theorem jSD (a b:Nat):a&&&b=2*((a / 2)&&&(b / 2))+(a % 2)*(b % 2):=by
 have h1:(a&&&b) / 2=(a / 2)&&&(b / 2):=Nat.and_div_two
 have h2:(a&&&b) % 2=(a % 2)*(b % 2):=by
  have t:=hW a b 0
  rw[fm,fm,fm] at t
  have t':((a&&&b) % 2=1)↔(a % 2=1/\b % 2=1):=by
   rw[<- dB.trans (and_congr bz bz),<- t,bz]
  rcases cX a with ha | ha <;> rcases cX b with hb | hb <;> rw[ha,hb] at t' ⊢ <;> lia
 lia
theorem jRO (m:Nat):(m+1) - ((m+1)&&&m)=2 ^ lowN m:=by
 induction m using strongRecOn with
 | _ m ih=>
  rw[jSD]
  rcases cX m with h | h
  ·rw[jE2 h,show (m+1) / 2=m / 2 by lia,Nat.and_self,h]
   lia
  ·have:=ih (m / 2) (by lia)
   rw[jFB h,Nat.pow_succ,show (m+1) / 2=m / 2+1 by lia,show (m+1) % 2=0 by lia]
   lia
theorem jO5 (m:Nat):Builtin.Int.intBits (Builtin.bitAnd (Builtin.bitNot (m:Int)) ((m:Int)+1))=lowN m+1:=by
 have e:Builtin.bitAnd (Builtin.bitNot (m:Int)) ((m:Int)+1)=((2 ^ lowN m:Nat):Int):=by
  unfold Builtin.bitAnd
  have h1:¬(0<=Builtin.bitNot (m:Int)):=by unfold Builtin.bitNot; lia
  have h2:(0:Int)<=(m:Int)+1:=by lia
  have h3:(Builtin.bitNot (Builtin.bitNot (m:Int))).toNat=m:=by unfold Builtin.bitNot; lia
  rw[aI h1,ar h2]
  show ((m:Int)+1) - ((((m:Int)+1).toNat&&&(Builtin.bitNot (Builtin.bitNot (m:Int))).toNat:Nat):Int)=_
  rw[h3,show ((m:Int)+1).toNat=m+1 by lia,<- jRO m]
  have:(m+1)&&&m<=m+1:=Nat.and_le_left
  lia
 rw[e]
 unfold Builtin.Int.intBits
 have hp:0<2 ^ lowN m:=h9 _
 have h0:((((2 ^ lowN m:Nat):Int))==0)=false:=by
  rw[dG]
  lia
 rw[h0]
 simp [Nat.log2_two_pow]
theorem jFA (m:Nat):m.testBit (lowN m)=false:=by
 induction m using strongRecOn with
 | _ m ih=>
  rcases cX m with h | h
  ·rw[jE2 h,fm,h]
   rfl
  ·rw[jFB h,Nat.testBit_succ]
   exact ih _ (by lia)
theorem jHK (m:Nat):∀j,j<lowN m->m.testBit j=true:=by
 induction m using strongRecOn with
 | _ m ih=>
  intro j hj
  rcases cX m with h | h
  ·rw[jE2 h] at hj
   lia
  ·rw[jFB h] at hj
   cases j with
   | zero=>rw[fm,h]; rfl
   | succ j=>
    rw[Nat.testBit_succ]
    exact ih _ (by lia) j (by lia)
theorem jM9 {m w:Nat}(h:m<2 ^ w)(a:∀j,j<w->m.testBit j=true):m=2 ^ w - 1:=by
 apply dW
 intro i
 rw[io]
 by_cases hi:i<w
 ·rw[a i hi,ar hi]
 ·rw[aI hi]
  exact eM (aM h (dX (by decide) (by lia)))
theorem jIJ {m w:Nat}(h:m<2 ^ w)(hn:m≠2 ^ w - 1):lowN m<w:=by
 refine bJ λz=>hn (jM9 h λj hj=>jHK m j (by lia))
abbrev Ch:=List (List (Int×Nat))
def fullN (ch:Ch):Nat:=2 ^ ch.length - 1
def chAt (ch:Ch)(m:Nat):List (Int×Nat):=(ch.getD (lowN m) []).filter λc=>c.2&&&m==0
structure ChOk (ch:Ch):Prop where
 w:ch.length<=16
 len:∀(t:Nat) (cs:List (Int×Nat)),ch[t]?=some cs->cs.length<=33
 it:∀(t:Nat) (cs:List (Int×Nat)),ch[t]?=some cs->∀c∈cs,c.2.testBit t=true/\c.2<2 ^ ch.length/\ -1<=c.1/\c.1<32
end L2
namespace L2
open PySem
variable {X:Cx}
section
variable {tg iter elt:Expr}{ifs:List Expr}{sc:Scope}{pos:Pos}{wi:TI}{g:TG}{tt:TT}{te:TE}{m:List (Option Nat)}{Nc:List Str}
end
end L2
namespace L2
open PySem PySem.Spec PyProof.Rows
section
variable {P:Program}{w:World}{K:W.Frag}{mg:Str->Option Value}{lG:Heap}{N fs:List Str}{x:Str}{qual:Str}{scope:Scope}{f:Addr}{cd:Value}{cl:List (Str×Addr)}{A:Around}{outer:List Env}{s:Shared}{H:Hp}{u:Value}{v:V}{fv:List V}
end
def esV (es:List (Pos×Addr)):List Value:=es.flatMap λe=> [rawInt e.1.line,rawInt e.1.col, .ref e.2]
def TabM (H:Hp)(T:Addr)(q:Str):Prop:=∃es:List (Pos×Addr),H T=some (.tbl (esV es).toArray)/\∀e∈es,H e.2=some (.ext (ncP q e.2))
theorem jMF:∀es:List (Pos×Addr),TriplesOk (esV es)
 | []=>trivial
 | e::es=>jMF es
theorem jIV (pos:Pos):∀es:List (Pos×Addr),codeAmong pos (esV es)=none\/∃e∈es,codeAmong pos (esV es)=some (.ref e.2)
 | []=> .inl rfl
 | e::es=>by
  show (if ((e.1.line:Int)==pos.line&&(e.1.col:Int)==pos.col)=true then _ else codeAmong pos (esV es))=none\/_
  have eq:codeAmong pos (esV (e::es))=if ((e.1.line:Int)==pos.line&&(e.1.col:Int)==pos.col)=true then some (.ref e.2) else codeAmong pos (esV es):=rfl
  by_cases h:((e.1.line:Int)==pos.line&&(e.1.col:Int)==pos.col)=true
  ·exact .inr ⟨e,ax .., by rw[eq,am h]⟩
  ·rcases jIV pos es with z | ⟨e',m,z⟩
   ·exact .inl (by rw[ai h]; exact z)
   ·exact .inr ⟨e',ay _ m,by rw[eq,ai h]; exact z⟩
theorem TabM.is {H:Hp}{T:Addr}{q:Str}(t:TabM H T q):∃ps,H T=some (.tbl ps):=let ⟨_,h,_⟩:=t; ⟨_,h⟩
theorem TabM.ne {H:Hp}{T:Addr}{q:Str}(t:TabM H T q){b:Addr}{o:HO}(h:H b=some o)(ho:∀ps,o≠ .tbl ps):b≠T:=λe=>by
 obtain⟨ps,z⟩:=t.is
 rw[e,z] at h
 cases h
 exact ho _ rfl
theorem TabM.ext {H H':Hp}{T:Addr}{q:Str}(t:TabM H T q)(e:Ext H H'):TabM H' T q:=let ⟨es,h,k⟩:=t; ⟨es,e _ _ h,λx hx=>e _ _ (k x hx)⟩
theorem ExtT.atM {T:Addr}{H H':Hp}(e:ExtT T H H'){q:Str}(t:TabM H T q){b:Addr}{o:HO}(h:H b=some o)(ho:∀ps,o≠ .tbl ps:=by intro _ z; cases z):H' b=some o:=e b o h (t.ne h ho)
def tLamM (q:Str)(args:Arguments)(body:Expr)(scope:Scope)(cl:List (Str×Addr))(T:Addr)(pos:Pos):TE:=λ_ H Q=>TabM H T q/\∀a c H',H' a=some (.ext (nlP q args body scope cl a c))->H' c=some (.ext (ncP q c))->TabM H' T q->ExtT T H H'->H a=none->Q (.ref a) H'
theorem jHN {X:Cx}{args:Arguments}{body:Expr}{scope:Scope}{pos:Pos}{c0 T:Addr}(hcode:X.env.code= .ref c0)(CH:PySem.W.CodeHd X.lG c0 T)(hbm:BltAt X.lG X.mg)
  (hfree:∀y∈scope.names,y.2= .free->X.env.scope.names.lookup y.1=some .cell\/X.env.scope.names.lookup y.1=some .free) (hdf:defaultsOf args X.env=([],[])):
  JE X (.Lambda args body scope pos) (tLamM (X.env.qual++ "<lambda>") args body scope (kD X.env.cells scope.names []) T pos):=by
 refine⟨λlF s σ H Q I h=>?_⟩
 obtain⟨⟨es,hT,hes⟩,h⟩:=h
 refine PySem.W.kla_eval hdf ?_
 have hcl:closureFor scope X.env=pure (kD X.env.cells scope.names []):=jMP λy hy hz=>I.ok.has y.1 (hfree y hy hz)
 have hg:s.heap.Ns mainGlobals X.mg:=I.mod.glob.keeps I.bk
 have C:=CH.keeps I.bk
 have gT:mainGlobals≠T:=λz=>by
  obtain⟨o,es,ep,e,_⟩:=I.mod.glob
  have:=(I.bs _ _ e).2
  rw[z,hT] at this
  cases this
 have bT:s.heap.BuiltinsAt X.mg T:=by
  obtain⟨bm,o,h1,h2,h3,h4,h5,h6,h7⟩:=hbm
  refine⟨bm,o,h1,h2,h3,λz=>?_,(I.bs _ _ h4).1,h5,h6,h7⟩
  have:=(I.bs _ _ h4).2
  rw[z,hT] at this
  cases this
 rcases jIV pos es with hn | ⟨e,em,hf⟩
 ·refine PySem.W.kla_makeFunction hcl I.ok.glob hg hcode C (I.hok T _ hT) (by simpa using jMF es) (by simpa using hn) gT bT λc ctv h' tk k1 k2 k3 k4 k5=>?_
  obtain⟨oc,hoc⟩:=ncP.is (q:=X.env.qual++ "<lambda>") k4
  have I1:Inv X lF σ (upd (upd H T (.tbl ((esV es).toArray++onePs pos c))) c (.ext (ncP (X.env.qual++ "<lambda>") c))) { s with heap:=h',toks:=tk} :=I.grown hT k1 k5 k2 k4 ⟨oc,hoc⟩ ncP.stay
  have I2:=I1.laidX (t':=tk) (a:=h'.objs.size) (φ:=nlP (X.env.qual++ "<lambda>") args body scope (kD X.env.cells scope.names []) h'.objs.size c) (h':=h'.push (kla_obj "<lambda>" (X.env.qual++ "<lambda>") args body scope (kD X.env.cells scope.names []) ((X.mg "__name__").getD .none) c ctv)) (λb u q=>ab _ q) (aj _) ⟨_,ctv,ao _ rfl⟩ ⟨_,ao _ rfl⟩ nlP.stay
  have hcn:H c=none:=I.hok.fresh k2
  have han:H h'.objs.size=none:=I.hok.fresh (bM k2 (cQ k3))
  have ca:c≠h'.objs.size:=aO k3
  have Tc:T≠c:=λz=>by rw[z,hcn] at hT; cases hT
  have Ta:T≠h'.objs.size:=λz=>by rw[z,han] at hT; cases hT
  have ex:ExtT T H (upd (upd (upd H T (.tbl ((esV es).toArray++onePs pos c))) c (.ext (ncP (X.env.qual++ "<lambda>") c))) h'.objs.size (.ext (nlP (X.env.qual++ "<lambda>") args body scope (kD X.env.cells scope.names []) h'.objs.size c))):=λb o e n=>by
   rw[j7 (jA e han),j7 (jA e hcn),j7 n]
   exact e
  refine⟨.ref _,_,I2,rfl,h _ c _ j6 (by rw[j7 ca,j6]) ⟨es++[(pos,c)],?_,λx hx=>?_⟩ ex han⟩
  ·rw[j7 Ta,j7 Tc,j6]
   unfold esV
   rw[List.flatMap_append]
   simp
  ·rcases aK.mp hx with hx | hx
   ·exact ex _ _ (hes x hx) λz=>by have:=hes x hx; rw[z,hT] at this; cases this
   ·rw[aN.mp hx]
    rw[j7 ca,j6]
 ·refine PySem.W.kla_makeFunctionHit (cv:= .ref e.2) hcl I.ok.glob hg hcode C (I.hok T _ hT) (by simpa using jMF es) (by simpa using hf) bT λctv h' tk k1 k2=>?_
  have I2:=I.laidX (t':=tk) (a:=h'.objs.size) (φ:=nlP (X.env.qual++ "<lambda>") args body scope (kD X.env.cells scope.names []) h'.objs.size e.2) (h':=h'.push (kla_obj "<lambda>" (X.env.qual++ "<lambda>") args body scope (kD X.env.cells scope.names []) ((X.mg "__name__").getD .none) e.2 ctv)) (λb u q=>ab _ (k1 b u q)) k2 ⟨_,ctv,ao _ rfl⟩ ⟨_,ao _ rfl⟩ nlP.stay
  have han:H h'.objs.size=none:=I.hok.fresh k2
  have hc:=hes e em
  have ex:Ext H (upd H h'.objs.size (.ext (nlP (X.env.qual++ "<lambda>") args body scope (kD X.env.cells scope.names []) h'.objs.size e.2))):=(Ext.refl _).new han _
  exact⟨.ref _,_,I2,rfl,h _ e.2 _ j6 (ex _ _ hc) ⟨es,ex _ _ hT,λx hx=>ex _ _ (hes x hx)⟩ (ExtT.of ex) han⟩
end L2
namespace SB
open PySem PySem.SetTable SS
def stp (m i:Nat):Nat:=(i*5+1) % (m+1)
def rep (m:Nat):Nat->Nat->Nat
 | 0,i=>i
 | n+1,i=>rep m n (stp m i)
def orb (m:Nat):Nat->Nat->List Nat
 | 0,_=> []
 | n+1,i=>i::orb m n (stp m i)
theorem jL2 {m j:Nat} :∀{n i:Nat},j∈orb m n i->∃r,r<n/\rep m r i=j
 | 0,_,h=>by cases h
 | n+1,i,h=>by
  rcases aF.mp h with e | h
  ·exact⟨0,by lia,e.symm⟩
  ·obtain⟨r,hr,e⟩:=jL2 h
   exact⟨r+1,by lia,e⟩
theorem jF0 (m:Nat):∀(a b i:Nat),rep m (a+b) i=rep m b (rep m a i)
 | 0,b,i=>by rw[jr]; rfl
 | a+1,b,i=>by rw[show a+1+b=(a+b)+1 from by lia]; exact jF0 m a b (stp m i)
inductive Msk (m:Nat):Prop
 | mk:m=7\/m=31\/m=127\/m=511->Msk m
theorem chk7:((List.range 8).all λj=>(orb 7 8 0).elem j)=true/\rep 7 8 0=0:=by decide+kernel
theorem chk31:((List.range 32).all λj=>(orb 31 32 0).elem j)=true/\rep 31 32 0=0:=by decide+kernel
theorem jU5:((List.range 128).all λj=>(orb 127 128 0).elem j)=true/\rep 127 128 0=0:=by decide+kernel
theorem jU4:((List.range 512).all λj=>(orb 511 512 0).elem j)=true/\rep 511 512 0=0:=by decide+kernel
theorem Msk.chk {m:Nat}(h:Msk m):((List.range (m+1)).all λj=>(orb m (m+1) 0).elem j)=true/\rep m (m+1) 0=0:=by
 obtain⟨rfl | rfl | rfl | rfl⟩:=h
 ·exact chk7
 ·exact chk31
 ·exact jU5
 ·exact jU4
theorem Msk.all {m:Nat}(h:Msk m){i j:Nat}(hi:i<=m)(hj:j<=m):∃r,r<=m/\rep m r i=j:=by
 obtain⟨h1,h2⟩:=h.chk
 have f:∀j,j<=m->∃r,r<m+1/\rep m r 0=j:=λj hj=>by
  have q:=aV.mp h1 j (be.mpr (by lia))
  exact jL2 (List.elem_iff.mp q)
 obtain⟨a,ha,ea⟩:=f i hi
 obtain⟨b,hb,eb⟩:=f j hj
 by_cases c:a<=b
 ·refine⟨b - a,by lia,?_⟩
  rw[<- ea,<- jF0,show a+(b - a)=b from by lia,eb]
 ·refine⟨m+1 - a+b,by lia,?_⟩
  rw[<- ea,<- jF0,show a+(m+1 - a+b)=m+1+b from by lia,jF0,h2,eb]
def lps (m:Nat):Nat->Nat->Nat->Nat×Nat
 | 0,i,p=>(i,p)
 | n+1,i,p=>lps m n (leap m i p).1 (leap m i p).2
theorem jLJ (m:Nat):∀(a b i p:Nat),lps m (a+b) i p=lps m b (lps m a i p).1 (lps m a i p).2
 | 0,b,i,p=>by rw[jr]; rfl
 | a+1,b,i,p=>by rw[show a+1+b=(a+b)+1 from by lia]; exact jLJ m a b _ _
theorem jII (m:Nat):∀(n i:Nat),lps m n i 0=(rep m n i,0)
 | 0,i=>rfl
 | n+1,i=>by
  show lps m n ((i*5+1+0 / 32) % (m+1)) (0 / 32)=_
  rw[show 0 / 32=0 from rfl,gE]
  exact jII m n _
theorem jPN (m:Nat):∀(n i p:Nat),i<=m->(lps m n i p).1<=m
 | 0,i,p,h=>h
 | n+1,i,p,h=>jPN m n _ _ (by show (i*5+1+p / 32) % (m+1)<=m; have:=lw (i*5+1+p / 32) (show 0<m+1 by lia); lia)
theorem jLH (m:Nat):∀(n i p:Nat),(lps m n i p).2=p / 32 ^ n
 | 0,i,p=>by show p=_; simp
 | n+1,i,p=>by
  show (lps m n (leap m i p).1 (p / 32)).2=_
  rw[jLH m n,Nat.div_div_eq_div_mul,Nat.pow_succ,Nat.mul_comm]
theorem jLI {m:Nat}(h:Msk m){i p j:Nat}(hi:i<=m)(hp:p<2 ^ 64)(hj:j<=m):∃k,k<=m+13/\(lps m k i p).1=j:=by
 have e:(lps m 13 i p).2=0:=by
  rw[jLH]
  exact Nat.div_eq_of_lt (gx hp (by decide))
 obtain⟨r,hr,er⟩:=h.all (jPN m 13 i p hi) hj
 refine⟨13+r,by lia,?_⟩
 rw[jLJ,e,jII]
 exact er
theorem jN3 (h:Int):bits h<2 ^ 64:=by
 unfold bits
 have h1:=ka h (b:=(2 ^ 64:Int)) (by decide)
 have h2:=iF h (b:=(2 ^ 64:Int)) (by decide)
 lia
theorem jG9 (m i:Nat):i<=runEnd m i/\runEnd m i<=i+9:=by unfold runEnd; split <;> lia
abbrev emp (o:Array (Option Nat))(j:Nat):Bool:=(o.getD j (some 0)).isNone
theorem jEN {m:Nat}{o:Array (Option Nat)} :∀{fuel i p j:Nat},layClean.free m o fuel i p=some j->emp o j=true
 | 0,_,_,_,h=>by simp [layClean.free] at h
 | fuel+1,i,p,j,h=>by
  unfold layClean.free at h
  split at h
  ·rename_i k hk
   have q:=List.find?_some hk
   injection h with h
   rw[<- h]
   exact q
  ·exact jEN h
theorem jGQ {m:Nat}{o:Array (Option Nat)} :∀{k fuel i p:Nat},k<fuel->emp o (lps m k i p).1=true->∃j,layClean.free m o fuel i p=some j
 | k,0,_,_,h,_=>by lia
 | 0,fuel+1,i,p,h,e=>by
  unfold layClean.free
  split
  ·exact⟨_,rfl⟩
  ·rename_i hn
   exfalso
   have q:=List.find?_eq_none.mp hn 0 (be.mpr (by have:=jG9 m i; lia))
   exact q (by rw[gE]; exact e)
 | k+1,fuel+1,i,p,h,e=>by
  unfold layClean.free
  split
  ·exact⟨_,rfl⟩
  ·exact jGQ (k:=k) (by lia) e
abbrev own (o:Array (Option Nat)):List Nat:=o.toList.filterMap id
theorem jQ0:∀{l:List (Option Nat)}{j k:Nat},l[j]?=some none->((l.set j (some k)).filterMap id).Perm (k::l.filterMap id)
 | [],_,_,h=>by simp at h
 | x::l,0,k,h=>by
  simp at h
  subst h
  exact .refl _
 | x::l,j+1,k,h=>by
  have ih:=jQ0 (l:=l) (j:=j) (k:=k) (by simpa using h)
  cases x with
  | none=>exact ih
  | some y=>
   show (y::(l.set j (some k)).filterMap id).Perm (k::y::l.filterMap id)
   exact(ih.cons y).trans (.swap _ _ _)
theorem jQ1:∀{l:List (Option Nat)},(∀x∈l,x≠none)->(l.filterMap id).length=l.length
 | [],_=>rfl
 | none::l,h=>absurd rfl (h _ ax)
 | some y::l,h=>by
  show (y::l.filterMap id).length=_
  rw[aP,aP,jQ1 λx hx=>h x (ay _ hx)]
structure Lay (m:Nat)(o:Array (Option Nat))(k:Nat):Prop where
 sz:o.size=m+1
 pm:(own o).Perm (List.range k)
theorem Lay.step {m:Nat}(hm:Msk m){o:Array (Option Nat)}{k:Nat}(L:Lay m o k)(hk:k<=m)(h:Int):
  ∃j,layClean.free m o (turns m) (bits h % (m+1)) (bits h)=some j/\Lay m (o.setIfInBounds j (some k)) (k+1):=by
 have ex:∃j0,j0<=m/\emp o j0=true:=by
  apply bJ
  intro hn
  have q:=jQ1 (l:=o.toList) λx hx e=>by
   obtain⟨j,hj,ej⟩:=cr hx
   have hj':j<o.size:=by simpa using hj
   refine hn ⟨j,by rw[L.sz] at hj'; lia,?_⟩
   have e1:o[j]=none:=by rw[<- e,<- ej]; simp
   show (o.getD j (some 0)).isNone=true
   simp [Array.getD,hj',e1]
  have:=L.pm.length_eq
  rw[q] at this
  simp [L.sz] at this
  lia
 obtain⟨j0,hj0,e0⟩:=ex
 obtain⟨r,hr,er⟩:=jLI hm (i:=bits h % (m+1)) (p:=bits h) (by have:=lw (bits h) (show 0<m+1 by lia); lia) (jN3 h) hj0
 obtain⟨j,ej⟩:=jGQ (m:=m) (o:=o) (fuel:=turns m) (k:=r) (by show r<m+15; lia) (by rw[er]; exact e0)
 refine⟨j,ej,by rw[Array.size_setIfInBounds]; exact L.sz,?_⟩
 have em:=jEN ej
 have hj:j<o.size:=by
  apply bJ
  intro hn
  have em':(o.getD j (some 0)).isNone=true:=em
  simp [Array.getD,hn] at em'
 have hj2:o.toList[j]?=some none:=by
  have em':(o.getD j (some 0)).isNone=true:=em
  simp [Array.getD,hj] at em'
  simp [hj,em']
 show ((o.setIfInBounds j (some k)).toList.filterMap id).Perm _
 rw[fh]
 refine(jQ0 hj2).trans ((L.pm.cons k).trans ?_)
 rw[eV]
 exact(List.perm_append_singleton k _).symm
theorem jIQ {m:Nat}(hm:Msk m):∀(hs:List Int) (o:Array (Option Nat)) (k:Nat),Lay m o k->k+hs.length<=m+1->
  ∃o',hs.foldl (λacc h=>(do
   let (owner,k) <- acc
   let j <- layClean.free m owner (turns m) (bits h % (m+1)) (bits h)
   pure (owner.setIfInBounds j (some k),k+1):Option (Array (Option Nat)×Nat))) (some (o,k))=some (o',k+hs.length)/\Lay m o' (k+hs.length)
 | [],o,k,L,_=>⟨o,rfl,L⟩
 | h::hs,o,k,L,hl=>by
  rw[aP] at hl
  obtain⟨j,ej,L'⟩:=L.step hm (by lia) h
  obtain⟨o',e,L2⟩:=jIQ hm hs _ _ L' (by lia)
  refine⟨o',?_,by rw[aP,show k+(hs.length+1)=k+1+hs.length from by lia]; exact L2⟩
  rw[List.foldl_cons,aP,show k+(hs.length+1)=k+1+hs.length from by lia,<- e]
  congr 1
  show (layClean.free m o (turns m) (bits h % (m+1)) (bits h)).bind _=_
  rw[ej]
  rfl
theorem jL1:∀n:Nat,(List.replicate n (none:Option Nat)).filterMap id=[]
 | 0=>rfl
 | n+1=>jL1 n
theorem jEB {m:Nat}(hm:Msk m)(hs:Array Int)(hl:hs.size<=m):∃o,layClean m hs=some o/\Lay m o hs.size:=by
 obtain⟨o,e,L⟩:=jIQ hm hs.toList (Array.replicate (m+1) none) 0 ⟨by simp,by show ((Array.replicate (m+1) none).toList.filterMap id).Perm _; rw[Array.toList_replicate,jL1]; exact .refl _⟩ (by simp; lia)
 simp only [jr,aw] at e L
 refine⟨o,?_,L⟩
 unfold layClean
 rw[<- Array.foldl_toList]
 refine(bQ (Option.map Prod.fst) e).trans rfl
theorem jFJ {t:SetTable}{h:Int}{p:Probe}{fuel:Nat}(e:t.slot p.j= .empty):probe.go t (λ_=>h+1) h (fuel+1) p=some (.empty p.j p.dummy):=by
 unfold probe.go
 rw[e]
theorem jM7 {t:SetTable}(hd:t.dummies=#[]){h:Int}{p:Probe}{fuel:Nat}(e:t.slot p.j≠ .empty):probe.go t (λ_=>h+1) h (fuel+1) p=probe.go t (λ_=>h+1) h fuel (t.advance p):=by
 obtain⟨⟨i,ei⟩,_⟩:=jAC hd e
 conv=>lhs; unfold probe.go
 rw[ei]
 dsimp only
 rw[ai (by simp; lia)]
abbrev Fnd (r:Option Met):Prop:=∃j d,r=some (.empty j d)
theorem jPX {t:SetTable}(hd:t.dummies=#[]){h:Int}{X:Nat} :∀(c fuel:Nat) (p:Probe),p.more=c->X+c+1<=fuel->
  (∀fuel' p',X<=fuel'->p'.i=(leap t.mask p.i p.perturb).1->p'.perturb=(leap t.mask p.i p.perturb).2->p'.j=p'.i->p'.more=runEnd t.mask p'.i - p'.i->Fnd (probe.go t (λ_=>h+1) h fuel' p'))->
  Fnd (probe.go t (λ_=>h+1) h fuel p)
 | c,0,p,_,hf,_=>by lia
 | 0,fuel+1,p,hc,hf,K=>by
  by_cases e:t.slot p.j= .empty
  ·exact⟨_,_,jFJ e⟩
  ·rw[jM7 hd e]
   have ea:t.advance p= { p with j:=(leap t.mask p.i p.perturb).1,more:=runEnd t.mask (leap t.mask p.i p.perturb).1 - (leap t.mask p.i p.perturb).1,i:=(leap t.mask p.i p.perturb).1,perturb:=(leap t.mask p.i p.perturb).2} :=by
    unfold advance
    rw[ai (by lia)]
   rw[ea]
   exact K fuel _ (by lia) rfl rfl rfl rfl
 | c+1,fuel+1,p,hc,hf,K=>by
  by_cases e:t.slot p.j= .empty
  ·exact⟨_,_,jFJ e⟩
  ·rw[jM7 hd e]
   have ea:t.advance p= { p with j:=p.j+1,more:=p.more - 1} :=by
    unfold advance
    rw[am (by lia)]
   rw[ea]
   exact jPX hd c fuel _ (by show p.more - 1=c; lia) (by lia) λfuel' p' h1 h2 h3 h4 h5=>K fuel' p' h1 h2 h3 h4 h5
theorem jM6 {t:SetTable}(hd:t.dummies=#[]){h:Int} :∀(k fuel:Nat) (p:Probe),p.j=p.i->p.more=runEnd t.mask p.i - p.i->10*k+1<=fuel->t.slot (lps t.mask k p.i p.perturb).1= .empty->
  Fnd (probe.go t (λ_=>h+1) h fuel p)
 | 0,fuel,p,hj,hmo,hf,e=>by
  obtain⟨f,rfl⟩:∃f,fuel=f+1:=⟨fuel - 1,by lia⟩
  exact⟨_,_,jFJ (by rw[hj]; exact e)⟩
 | k+1,fuel,p,hj,hmo,hf,e=>by
  refine jPX hd (X:=10*k+1) p.more fuel p rfl (by have:=jG9 t.mask p.i; lia) λfuel' p' h1 h2 h3 h4 h5=>?_
  refine jM6 hd k fuel' p' h4 h5 h1 ?_
  rw[h2,h3]
  exact e
theorem jJF {t:SetTable}{j:Nat}(hd:t.dummies=#[])(h:j∉t.place.toList):t.slot j= .empty:=by
 apply bJ
 intro e
 exact h (jAC hd e).2
theorem jAA {t:SetTable}(hm:Msk t.mask)(hd:t.dummies=#[])(hz:t.place.size<=t.mask)(h:Int):∃q,t.freeSlot h=some q:=by
 have ex:∃j0,j0<=t.mask/\j0∉t.place.toList:=by
  apply bJ
  intro hn
  have sub:List.range (t.mask+1) ⊆ t.place.toList:=λj hj=>by
   apply bJ
   intro hj2
   exact hn ⟨j,by have:=be.mp hj; lia,hj2⟩
  have:=eg List.nodup_range sub
  simp at this
  lia
 obtain⟨j0,hj0,e0⟩:=ex
 obtain⟨r,hr,er⟩:=jLI hm (i:=bits h % (t.mask+1)) (p:=bits h) (by have:=lw (bits h) (show 0<t.mask+1 by lia); lia) (jN3 h) hj0
 obtain⟨j,d,e⟩:=jM6 hd (h:=h) r (10*turns t.mask) (t.probeStart h) rfl rfl (by show 10*r+1<=10*(t.mask+15); lia) (by show t.slot (lps t.mask r (bits h % (t.mask+1)) (bits h)).1=_; rw[er]; exact jJF hd e0)
 refine⟨(d.getD j,d.isSome),?_⟩
 unfold SetTable.freeSlot
 rw[show t.probe (λ_=>h+1) h (t.probeStart h)=some (.empty j d) from e]
structure Tab (t:SetTable)(n:Nat)(led:Bool):Prop where
 ris:Ris t.place
 sz:t.place.size=n
 dm:t.dummies=#[]
 msk:Msk t.mask
 room:n*5<t.mask*3
 pl:t.plain=true
 ld:t.led=led
theorem Tab.fits {t:SetTable}{n:Nat}{led:Bool}(T:Tab t n led):t.fits n=true:=by
 have:=T.room
 unfold SetTable.fits fill
 simp [T.sz,T.dm]
 lia
theorem jBV (led:Bool):Tab (fresh 0 0 led) 0 led:=⟨List.Pairwise.nil,rfl,rfl,⟨.inl rfl⟩,by show 0*5<7*3; decide,rfl,rfl⟩
structure TabF (t:SetTable)(n:Nat)(led:Bool):Prop where
 ris:Ris t.place
 sz:t.place.size=n
 dm:t.dummies=#[]
 msk:Msk t.mask
 room:n*5<t.mask*3+5
 pl:t.plain=true
 ld:t.led=led
theorem TabF.fits {t:SetTable}{n:Nat}{led:Bool}(T:TabF t n led):t.fits n=true:=by
 have:=T.room
 obtain⟨q⟩:=T.msk
 unfold SetTable.fits fill
 simp [T.sz,T.dm]
 lia
theorem jIR (o:Array (Option Nat)):∀n,n<=o.size->(((List.range n).filterMap λj=>(o.getD j none).map (Prod.mk j)).map (·.2))=(o.toList.take n).filterMap id
 | 0,_=>rfl
 | n+1,h=>by
  rw[eV,gN,aR,jIR o n (by lia)]
  have hn:n<o.toList.length:=by rw[aw]; lia
  rw[List.take_succ_eq_append_getElem hn,gN]
  congr 1
  have hn':n<o.size:=by lia
  have e:o.getD n none=o[n]:=by simp [Array.getD,hn']
  have e2:o.toList[n]=o[n]:=by simp
  rw[e2]
  simp only [cI,ly,e,id]
  cases o[n] with
  | none=>rfl
  | some y=>rfl
theorem jIS (o:Array (Option Nat)):∀n,(((List.range n).filterMap λj=>(o.getD j none).map (Prod.mk j)).map (·.1)).Pairwise (· < ·)/\∀x∈((List.range n).filterMap λj=>(o.getD j none).map (Prod.mk j)).map (·.1),x<n
 | 0=>⟨.nil,λx h=>by cases h⟩
 | n+1=>by
  obtain⟨h1,h2⟩:=jIS o n
  rw[eV,gN,aR]
  have e:(([n].filterMap λj=>(o.getD j none).map (Prod.mk j)).map (·.1))=[]\/(([n].filterMap λj=>(o.getD j none).map (Prod.mk j)).map (·.1))=[n]:=by
   simp only [cI,ly]
   cases o.getD n none with
   | none=>exact .inl rfl
   | some y=>exact .inr rfl
  rcases e with e | e
  ·rw[e,bI]
   exact⟨h1,λx hx=>bK (h2 x hx)⟩
  ·rw[e]
   refine⟨cA.mpr ⟨h1,ev _ _,λa ha b hb=>?_⟩,λx hx=>?_⟩
   ·rw[aN.mp hb]; exact h2 a ha
   ·rcases aK.mp hx with hx | hx
    ·exact bK (h2 x hx)
    ·rw[aN.mp hx]; lia
theorem jHO {t:SetTable}{n:Nat}{led:Bool}(T:TabF t n led)(hn:n<=300)(hf:t.tooFull=true):∃m,sizeAbove (grown n)=m+1/\Msk m/\n*5<m*3:=by
 have hr:=T.room
 have hf':n*5 ≥ t.mask*3:=by
  unfold tooFull fill at hf
  simp [T.sz,T.dm] at hf
  lia
 obtain⟨q⟩:=T.msk
 rcases q with q | q | q | q
 ·rw[q] at hr hf'
  obtain rfl:n=5:=by lia
  exact⟨31,by decide,⟨.inr (.inl rfl)⟩,by decide⟩
 ·rw[q] at hr hf'
  obtain rfl:n=19:=by lia
  exact⟨127,by decide,⟨.inr (.inr (.inl rfl))⟩,by decide⟩
 ·rw[q] at hr hf'
  obtain rfl:n=77:=by lia
  exact⟨511,by decide,⟨.inr (.inr (.inr rfl))⟩,by decide⟩
 ·rw[q] at hr hf'
  lia
theorem jHP {t:SetTable}{n:Nat}{led:Bool}(T:TabF t n led)(hf:t.tooFull=false):Tab t n led:=by
 refine⟨T.ris,T.sz,T.dm,T.msk,?_,T.pl,T.ld⟩
 unfold tooFull fill at hf
 simp [T.sz,T.dm] at hf
 lia
end SB
namespace SB
open PySem
open SS (El ledW jA5 jAD jAI jCM jAY jAJ elems)
section
variable {prog:Program}{w:World}{A:Around}{E:Value->Shared->Prop}{s:Shared}{a:Addr}{ks:List Int}{k:Int}{tk:Tok}
end
end SB
namespace ST
open PySem PySem.SetTable
open SS (ledW jA5 jAD jAI jCM jAY jAJ jAC jA8 toList_insertAt jA6 jBB jCR)
open SB (Tab TabF Msk jAA jEB own jIR jIS jHO jHP)
def advN (t:SetTable):Nat->Probe->Probe
 | 0,p=>p
 | n+1,p=>advN t n (t.advance p)
theorem jJ7 (t:SetTable):∀(a b:Nat) (p:Probe),advN t (a+b) p=advN t b (advN t a p)
 | 0,b,p=>by rw[jr]; rfl
 | a+1,b,p=>by rw[show a+1+b=(a+b)+1 from by lia]; exact jJ7 t a b (t.advance p)
theorem jH6 (t:SetTable)(p:Probe):(t.advance p).dummy=p.dummy:=by unfold advance; split <;> rfl
theorem jER (t:SetTable):∀(n:Nat) (p:Probe),(advN t n p).dummy=p.dummy
 | 0,p=>rfl
 | n+1,p=>(jER t n _).trans (jH6 t p)
theorem jPY {t:SetTable}(hd:t.dummies=#[]){f:Nat->Int}{h:Int} :∀(k fuel:Nat) (p:Probe),k<fuel->p.dummy=none->t.slot (advN t k p).j= .empty->
  (∃j,probe.go t f h fuel p=some (.empty j none)/\t.slot j= .empty)\/(∃k' j i,k'<k/\probe.go t f h fuel p=some (.candidate j i (advN t (k'+1) p))/\t.slot j= .live i)
 | k,0,p,hk,_,_=>absurd hk (cL _)
 | k,fuel+1,p,hk,hm,e=>by
  unfold probe.go
  by_cases q:t.slot p.j= .empty
  ·rw[q]
   exact .inl ⟨p.j,by rw[hm],q⟩
  ·obtain⟨⟨i,ei⟩,_⟩:=jAC hd q
   rw[ei]
   dsimp only
   cases k with
   | zero=>exact absurd e q
   | succ k=>
    split
    ·exact .inr ⟨0,p.j,i,Nat.succ_pos _,rfl,ei⟩
    ·rcases jPY hd (f:=f) (h:=h) k fuel (t.advance p) (by lia) ((jH6 t p).trans hm) e with h1 | ⟨k',j,i,h1,h2,h3⟩
     ·exact .inl h1
     ·exact .inr ⟨k'+1,j,i,by lia,h2,h3⟩
theorem jIN {t:SetTable}(hd:t.dummies=#[]){h:Int} :∀(fuel:Nat) (p:Probe) (j:Nat) (d:Option Nat),probe.go t (λ_=>h+1) h fuel p=some (.empty j d)->∃k,k<fuel/\t.slot (advN t k p).j= .empty
 | 0,p,j,d,e=>by simp [probe.go] at e
 | fuel+1,p,j,d,e=>by
  unfold probe.go at e
  by_cases q:t.slot p.j= .empty
  ·exact⟨0,Nat.succ_pos _,q⟩
  ·obtain⟨⟨i,ei⟩,_⟩:=jAC hd q
   rw[ei] at e
   dsimp only at e
   rw[ai (by simp; lia)] at e
   obtain⟨k,h1,h2⟩:=jIN hd fuel _ _ _ e
   exact⟨k+1,by lia,h2⟩
theorem reach {t:SetTable}{n:Nat}{led:Bool}(T:Tab t n led)(h:Int):∃k,k<10*turns t.mask/\t.slot (advN t k (t.probeStart h)).j= .empty:=by
 have hr:=T.room
 obtain⟨⟨slot,d⟩,hf⟩:=jAA T.msk T.dm (by rw[T.sz]; lia) h
 unfold SetTable.freeSlot at hf
 split at hf
 ·rename_i j dummy hp
  exact jIN T.dm _ _ _ _ (show probe.go t (λ_=>h+1) h (10*turns t.mask) (t.probeStart h)=some (.empty j dummy) from hp)
 ·cases hf
theorem jNH {m:Nat}(h:Msk m):10*turns m<=5260:=by
 obtain⟨q⟩:=h
 unfold turns
 lia
theorem jRL {m:Nat}(h:Msk m):(m % 2==0)=false:=by
 obtain⟨rfl | rfl | rfl | rfl⟩:=h <;> rfl
theorem jNL {t:SetTable}{j i:Nat}(e:t.slot j= .live i):i<t.place.size:=by
 unfold SetTable.slot at e
 dsimp only at e
 split at e
 ·rename_i q
  injection e with e
  subst e
  exact(dM.mp (eq_of_beq q)).1
 ·split at e <;> cases e
variable {prog:Program}{w:World}{A:Around}{E:Value->Shared->Prop}{s:Shared}
def ElT (prog:Program)(w:World)(B:Addr->List Int->Prop)(h:Heap)(e:Int×Value)(l:List Int):Prop:=e.1=tupleKeyHash (intKind prog w) l/\∃b,e.2= .ref b/\B b l/\IsTupleKey (intKind prog w) h l b
theorem ElT.mono {B:Addr->List Int->Prop}{h h':Heap}{e:Int×Value}{l:List Int}(x:ElT prog w B h e l)(k:∀b l,B b l->IsTupleKey (intKind prog w) h l b->IsTupleKey (intKind prog w) h' l b):ElT prog w B h' e l:=let ⟨a,b,c,lt,d⟩:=x; ⟨a,b,c,lt,k _ _ lt d⟩
theorem jRJ (d:Nat){v:Value}{k:Int}(h:(intKind prog w).is k v=true):ofAClassStatement d v=pure false:=by
 obtain⟨t,rfl⟩:=iI h
 cases d <;> rfl
theorem jGN {ks:List Int}{vs:List Value}(h:ItemsAre (intKind prog w) ks vs):∀v∈vs,∃k,(intKind prog w).is k v=true:=by
 induction h with
 | nil=>intro v hv; cases hv
 | @cons k v' ks vs h1 _ ih=>
  intro v hv
  rcases aF.mp hv with rfl | hv
  ·exact⟨k,h1⟩
  ·exact ih v hv
theorem jGE {l:List Int}{b:Addr}{Q:Bool->Shared->Prop}(hk:IsTupleKey (intKind prog w) s.heap l b)(h:Q false s):wpAny (model prog w) A (ofAClassStatement 8 (.ref b)) Q E s:=by
 have hT:=hk.typeIs
 obtain⟨o,items,n,ho,_,hd,hi⟩:=hk
 unfold ofAClassStatement
 refine aa (dq hT ?_)
 dsimp only
 rw[am (by rfl)]
 refine aa (ae ?_)
 simp only [dr,cj,eS]
 refine aa (cV ho hd ?_)
 dsimp only
 rw[<- iG]
 refine aa (gO _ (λrest r s'=>r.1=none/\s'=s/\∀v∈rest,∃k,(intKind prog w).is k v=true) _ ?_ ?_ _ _ ⟨rfl,rfl,jGN hi⟩)
 ·rintro v rest r s' ⟨hr,rfl,hall⟩
  obtain⟨k,hv⟩:=hall v ax
  rw[jRJ _ hv]
  refine aa (ae ?_)
  simp only [cj,eS]
  exact ae ⟨rfl,rfl,λu hu'=>hall u (ay _ hu')⟩
 ·rintro ⟨r1,r2⟩ s' ⟨hr,rfl,_⟩
  simp only at hr
  subst hr
  exact ae h
theorem jQD {l:List Int}{b:Addr}{Q:Bool->Shared->Prop}(hk:IsTupleKey (intKind prog w) s.heap l b){ys:List Value}(hy:∀y∈ys,∃c m,y= .ref c/\IsTupleKey (intKind prog w) s.heap m c)(h:Q false s):wpAny (model prog w) A (searchCouldBeSeen (.ref b) ys) Q E s:=by
 unfold searchCouldBeSeen
 refine aa (gO _ (λrest r s'=>r.1=none/\s'=s/\∀y∈rest,∃c m,y= .ref c/\IsTupleKey (intKind prog w) s.heap m c) _ ?_ ?_ _ _ ⟨rfl,rfl,hy⟩)
 ·rintro v rest r s' ⟨hr,rfl,hall⟩
  obtain⟨c,m,rfl,hc⟩:=hall v ax
  have tl:∀y∈rest,∃c m,y= .ref c/\IsTupleKey (intKind prog w) s'.heap m c:=λu hu'=>hall u (ay _ hu')
  dsimp only
  split
  ·exact ae ⟨rfl,rfl,tl⟩
  ·refine aa (wpAny_eqIsQuiet_tuple hk ?_)
   simp only [dr,cj,eS]
   refine aa (wpAny_eqIsQuiet_tuple hc ?_)
   simp only [dr,cj,eS]
   refine aa (jGE hk ?_)
   simp only [cj,eS]
   refine aa (jGE hc ?_)
   simp only [cj,eS]
   exact ae ⟨rfl,rfl,tl⟩
 ·rintro ⟨r1,r2⟩ s' ⟨hr,rfl,_⟩
  simp only at hr
  subst hr
  exact ae h
theorem jTZ {l:List Int}{b:Addr}{Q:Bool->Shared->Prop}(hk:IsTupleKey (intKind prog w) s.heap l b)(h:Q true s):wpAny (model prog w) A (hashByValue 8 (.ref b)) Q E s:=by
 have hT:=hk.typeIs
 obtain⟨o,items,n,ho,_,hd,hi⟩:=hk
 unfold hashByValue
 refine aa (jx hT F.slot_tuple_hash.lookup ?_)
 dsimp only
 refine aa (cV ho hd ?_)
 dsimp only [Option.getD]
 rw[<- iG]
 refine aa (gO _ (λrest r s'=>r.1=none/\s'=s/\∀v∈rest,∃k,(intKind prog w).is k v=true) _ ?_ ?_ _ _ ⟨rfl,rfl,jGN hi⟩)
 ·rintro v rest r s' ⟨hr,rfl,hall⟩
  obtain⟨k,hv⟩:=hall v ax
  obtain⟨t,rfl⟩:=iI hv
  rw[show hashByValue 7 (.int k t)=pure true from rfl]
  refine aa (ae ?_)
  simp only [dr,cj,eS]
  exact ae ⟨rfl,rfl,λu hu'=>hall u (ay _ hu')⟩
 ·rintro ⟨r1,r2⟩ s' ⟨hr,rfl,_⟩
  simp only at hr
  subst hr
  exact ae h
open SS (ledW jA5 jAD jAI jCM jAY jAJ jAC jA8 toList_insertAt jA6 jBB jCR)
open SB (Tab TabF Msk jAA jEB own jIR jIS jHO jHP)
section
variable {a b:Addr}{o:Obj}{es:Array (Int×Value)}{ep:Nat}{t:SetTable}{l:List Int}{ks:List (List Int)}{mx:Addr->List Int->Prop}
theorem el_at (hp:Paired (ElT prog w mx s.heap) es.toList ks){i:Nat}(hi:i<es.size):∃c m,es[i]?=some (tupleKeyHash (intKind prog w) m,Value.ref c)/\m∈ks/\IsTupleKey (intKind prog w) s.heap m c:=by
 have hm:es[i]∈es.toList:=by simp
 obtain⟨m,hm,h1,c,h2,_,h3⟩:=jA5 hp _ hm
 exact⟨c,m,by rw[fq hi,<- h1,<- h2],hm,h3⟩
theorem jKL (hu:A.units<cLine)(ho:s.heap.get? a=some o)(hd:o.data= .set es ep t)(T:Tab t es.size (ledW w))(hp:Paired (ElT prog w mx s.heap) es.toList ks)(hk:IsTupleKey (intKind prog w) s.heap l b){Q:SetFound->Shared->Prop}
  (q1:l∈ks->Q (.there none) s) (q2:∀j,t.slot j= .empty->Q (.free j false) s):
  ∀(k fuel:Nat) (p:Option Probe),k<fuel->k<10*turns t.mask->(p.getD (t.probeStart (tupleKeyHash (intKind prog w) l))).dummy=none->t.slot (advN t k (p.getD (t.probeStart (tupleKeyHash (intKind prog w) l)))).j= .empty->
   wpAny (model prog w) A (setSearchFrom a (.ref b) (tupleKeyHash (intKind prog w) l) true fuel p) Q E s:=by
 intro k
 induction k using strongRecOn with
 | _ k ih=>
 intro fuel p hf hb hm e
 cases fuel with
 | zero=>exact absurd hf (cL _)
 | succ fuel=>
 unfold setSearchFrom
 refine aa (bv ho hd T.fits ?_)
 dsimp only
 rw[show t.gaveWay=false from jRL T.msk,ai ag]
 have key:∀f r,t.probe f (tupleKeyHash (intKind prog w) l) (p.getD (t.probeStart (tupleKeyHash (intKind prog w) l)))=r->(∃j,r=some (.empty j none)/\t.slot j= .empty)\/(∃k' j i,k'<k/\r=some (.candidate j i (advN t (k'+1) (p.getD (t.probeStart (tupleKeyHash (intKind prog w) l)))))/\t.slot j= .live i):=λf r e1=>by
  rw[<- e1]
  exact jPY T.dm (f:=f) (h:=tupleKeyHash (intKind prog w) l) k (10*turns t.mask) _ hb hm e
 split
 case h_2=>rename_i hno; exact(key _ _ rfl).elim (λ⟨j,ej,_⟩=>(hno _ ej).elim) (λ⟨_,_,_,_,ej,_⟩=>(hno _ ej).elim)
 rename_i met heq
 rcases key _ _ heq with ⟨j,ej,sj⟩ | ⟨k',j,i,hk',ej,sj⟩
 ·cases ej
  exact ae (q2 j sj)
 ·cases ej
  have hi:i<es.size:=by have:=jNL sj; rw[T.sz] at this; exact this
  obtain⟨c,m,ei,mk,hc⟩:=el_at hp hi
  have rest:wpAny (model prog w) A (do
   let some (_,y):=es[i]? | unsupported "internal:set-entry"
   let equal <- holding [y] (eqBool y (.ref b))
   let (es',_,t') <- setState a
   if true&&equal then return .there none
   let some same:=t'.sameMemory t.moves t.mask | unsupported "set.changed-during-lookup:is-the-new-block-at-the-old-address"
   let still <- match (if same then t'.slot j else .empty) with
    | .live i'=>match es'[i']? with
     | some (_,y')=>do pure (if <- isSame y' y then some i' else none)
     | none=>pure none
    | _=>pure none
   match still with
   | none=>rule "set.search.anew"; setSearchFrom a (.ref b) (tupleKeyHash (intKind prog w) l) true fuel none
   | some i'=>if equal then return .there (some i') else setSearchFrom a (.ref b) (tupleKeyHash (intKind prog w) l) true fuel (some (advN t (k'+1) (p.getD (t.probeStart (tupleKeyHash (intKind prog w) l)))))) Q E s:=by
   rw[ei]
   dsimp only
   refine aa (bD (wpAny_eqBool_tuple hu hc hk ?_))
   refine aa (bv ho hd T.fits ?_)
   dsimp only
   by_cases eq:m=l
   ·rw[ar eq,i4,am rfl]
    exact ae (q1 (eq ▸ mk))
   ·rw[aI eq,bV,ai ag]
    have sm:t.sameMemory t.moves t.mask=some true:=by
     unfold SetTable.sameMemory
     rw[am (by simp)]
    rw[sm]
    dsimp only
    rw[am rfl,sj]
    dsimp only
    rw[ei]
    dsimp only
    refine aa (wpAny_isSame_ref_self ?_)
    rw[am rfl]
    refine aa (ae ?_)
    dsimp only
    rw[ai ag]
    have ek:k=(k'+1)+(k - (k'+1)):=by lia
    refine ih (k - (k'+1)) (by lia) fuel (some _) (by lia) (by lia) ?_ ?_
    ·show (advN t (k'+1) _).dummy=none
     rw[jER]
     exact hm
    ·show t.slot (advN t (k - (k'+1)) (advN t (k'+1) _)).j= .empty
     rw[<- jJ7,<- ek]
     exact e
  dsimp only
  split
  ·refine aa (jQD hk (λy hy=>?_) ?_)
   ·obtain⟨e',he',rfl⟩:=bW.mp hy
    have he':e'∈es.toList:=by
     rw[gZ] at he'
     have:=(Array.mem_filter.mp he').1
     exact gZ.mpr this
    obtain⟨m,_,_,c,h2,_,h3⟩:=jA5 hp _ he'
    exact⟨c,m,h2,h3⟩
   ·rw[ai ag]
    exact rest
  ·exact rest
theorem jJH {t:SetTable}{n:Nat}{led:Bool}(T:TabF t n led)(es:Array (Int×Value))(he:es.size=n){m:Nat}(hs:sizeAbove (grown n)=m+1)(hm:Msk m)(hn:n*5<m*3):
  ∃t' order,t.relaid (es.map (·.1)) (grown n)=some (t',order)/\Tab t' n led/\(order.filterMap (λk=>es[k]?)).toList.Perm es.toList:=by
 obtain⟨o,eo,L⟩:=jEB hm (es.map (·.1)) (by simp [he]; lia)
 rw[kx,he] at L
 unfold relaid laid
 rw[hs,show m+1 - 1=m from rfl,eo]
 dsimp only [Option.bind_eq_bind,Option.bind,pure,bind]
 generalize hv:((List.range (m+1)).filterMap λj=>(o.getD j none).map (Prod.mk j))=live
 have s2:live.map (·.2)=own o:=by
  rw[<- hv,jIR o (m+1) (by rw[L.sz]; exact aj _),bL (by simp [L.sz])]
 have f2:=jIS o (m+1)
 rw[hv] at f2
 have ln:live.length=n:=by
  have:=bQ List.length s2
  rw[af,L.pm.length_eq,b9] at this
  exact this
 have pr:((live.map (·.2)).toArray.filterMap (λk=>es[k]?)).toList.Perm es.toList:=by
  rw[Array.toList_filterMap]
  show ((live.map (·.2)).filterMap _).Perm _
  rw[s2]
  refine(L.pm.filterMap _).trans ?_
  rw[<- he,PySem.filterMap_getElem?_range]
 exact⟨_,_,rfl,⟨f2.1,by simp [ln],rfl,hm,hn,T.pl,T.ld⟩,pr⟩
structure SetT (prog:Program)(w:World)(mx:Addr->List Int->Prop)(h:Heap)(a:Addr)(ks:List (List Int)):Prop where
 ex:∃o es ep t,h.get? a=some o/\o.ExactSet/\o.data= .set es ep t/\Paired (ElT prog w mx h) es.toList ks/\Tab t es.size (ledW w)
 len:ks.length<=300
theorem jLQ {h h':Heap}{a:Addr}{o:Obj}{es:Array (Int×Value)}{ep:Nat}{t:SetTable}(ho:h.get? a=some o)(hd:o.data= .set es ep t)(sb:Heap.SameBut a h h'):∀b m,IsTupleKey (intKind prog w) h m b->IsTupleKey (intKind prog w) h' m b:=by
 rintro b m ⟨o',items,n,ho',hc,hd',hi⟩
 have ne:b≠a:=by
  rintro rfl
  rw[ho] at ho'
  cases ho'
  rw[hd] at hd'
  cases hd'
 exact⟨o',items,n,(sb.2 b ne).trans ho',hc,hd',hi⟩
theorem jBR {α β:Type}{F G:α->β->Prop}(k:∀x y,F x y->G x y){l:List α}{r:List β}(h:Paired F l r):Paired G l r:=by
 induction h with
 | nil=>exact .nil
 | cons f _ ih=>exact .cons (k _ _ f) ih
theorem SetT.at {h h':Heap}(S:SetT prog w mx h a ks)(e:∀b o,(∃l,mx b l)\/b=a->h.get? b=some o->h'.get? b=some o):SetT prog w mx h' a ks:=by
 obtain⟨⟨o,es,ep,t,ho,r1,r2,r3,r4⟩,len⟩:=S
 exact⟨⟨o,es,ep,t,e _ _ (.inr rfl) ho,r1,r2,jBR (λx y h=>h.mono λb m lt ⟨o,i,n,h1,h2⟩=>⟨o,i,n,e _ _ (.inl ⟨_,lt⟩) h1,h2⟩) r3,r4⟩,len⟩
theorem jNC {Q:Bool->Shared->Prop}(hu:A.units<cLine)(S:SetT prog w mx s.heap a ks)(hl:ks.length+1<=300)(hb:mx b l)(hk:IsTupleKey (intKind prog w) s.heap l b)
  (h:∀b h' ks',Heap.SameBut a s.heap h'->SetT prog w mx h' a ks'->(∀z,z∈ks'↔z=l\/z∈ks)->ks'.length<=ks.length+1->Q b { s with heap:=h'}):
  wpAny (model prog w) A (setAddHashed a (.ref b) (tupleKeyHash (intKind prog w) l)) Q E s:=by
 obtain⟨o,es,ep,t,ho,hex,hd,hp,T⟩:=id S.ex
 have hn:es.size=ks.length:=by rw[<- aw]; exact fH hp
 have hf:=T.fits
 unfold setAddHashed setAddHashedIn
 refine bD (aa (bv ho hd hf ?_))
 dsimp only
 rw[show byScan (.ref b) es=false from rfl,ai ag]
 obtain⟨k,hk1,hk2⟩:=reach T (tupleKeyHash (intKind prog w) l)
 have tl:=jNH T.msk
 unfold setSearch
 refine aa (jKL hu ho hd T hp hk (λhm=>?_) (λj hj=>?_) k 100000 none (by lia) hk1 rfl hk2)
 ·have es0:s= { s with heap:=s.heap} :=by cases s; rfl
  refine ae ?_
  rw[es0]
  exact h false s.heap ks (iM a s.heap) S (λz=>⟨.inr,λq=>q.elim (λe=>e ▸ hm) id⟩) (by lia)
 ·dsimp only
  refine aa (bv ho hd hf ?_)
  have hr:=T.room
  have hnm:=jA8 T.ris hj
  generalize hput:t.put j=tp
  obtain⟨t1,p1⟩:=tp
  have e1:p1=below t.place j:=(bQ Prod.snd hput).symm
  have T2:TabF t1 (es.size+1) (ledW w):=by
   rw[show t1= { t with place:=insertAt t.place (below t.place j) j,dummies:=if has t.dummies j then eraseAt t.dummies (below t.dummies j) else t.dummies} from(bQ Prod.fst hput).symm]
   refine⟨jBB T.ris hnm,by rw[jA6,T.sz],?_,T.msk,by show (es.size+1)*5<t.mask*3+5; lia,T.pl,T.ld⟩
   rw[T.dm,jCR]
   rfl
  dsimp only
  rw[e1]
  rw[am T2.pl]
  refine aa (jTZ hk ?_)
  rw[am rfl]
  have hp1:(insertAt es (below t.place j) (tupleKeyHash (intKind prog w) l,Value.ref b)).toList=es.toList.take (below t.place j)++(tupleKeyHash (intKind prog w) l,Value.ref b)::es.toList.drop (below t.place j):=SS.toList_insertAt _ _ _
  generalize hes1:insertAt es (below t.place j) (tupleKeyHash (intKind prog w) l,Value.ref b)=es1 at hp1 ⊢
  have hz1:es1.size=es.size+1:=by rw[<- hes1,jA6]
  have hp2:Paired (ElT prog w mx s.heap) es1.toList (ks.take (below t.place j)++l::ks.drop (below t.place j)):=by
   rw[hp1]
   exact jAI ⟨rfl,b,rfl,hb,hk⟩ _ hp
  have hlen:(ks.take (below t.place j)++l::ks.drop (below t.place j)).length=ks.length+1:=(jAY ks _ l).length_eq
  have T1':TabF t1 es1.size (ledW w):=by rw[hz1]; exact T2
  have hzl:es1.size<=sizeLine:=by rw[hz1,show sizeLine=2 ^ 24 from rfl]; lia
  have hg:(s.heap.update a (Obj.putSet es1 t1)).get? a=some { o with data:= .set es1 (ep+1) t1} :=by
   have q:=bY (Obj.putSet es1 t1) ho (by rw[i9 es1 t1 hd]; rfl)
   rw[i9 es1 t1 hd] at q
   exact q
  have sb1:Heap.SameBut a s.heap (s.heap.update a (Obj.putSet es1 t1)):=ed ..
  refine aa (gy ho hd ?_ hzl)
  rcases Bool.eq_false_or_eq_true t1.tooFull with hfull | hfull
  ·rw[hfull,show (!false&&true)=true from rfl,am rfl]
   obtain⟨m,e1,e2,e3⟩:=jHO T1' (by lia) hfull
   obtain⟨t2,order,er,T3,pm2⟩:=jJH T1' es1 rfl e1 e2 e3
   have hz2:(order.filterMap (λk=>es1[k]?)).size=es1.size:=by rw[<- aw,pm2.length_eq,aw]
   obtain⟨ks2,hp3,pm3⟩:=jAJ pm2 hp2
   generalize hes2:order.filterMap (λk=>es1[k]?)=es2 at hz2 pm2 hp3
   have hg2:((s.heap.update a (Obj.putSet es1 t1)).update a (Obj.putSet es2 t2)).get? a=some { o with data:= .set es2 (ep+1+1) t2} :=by
    have q:=bY (Obj.putSet es2 t2) hg (by rw[i9 es2 t2 rfl]; rfl)
    rw[i9 es2 t2 rfl] at q
    exact q
   have sb2:Heap.SameBut a s.heap ((s.heap.update a (Obj.putSet es1 t1)).update a (Obj.putSet es2 t2)):=sb1.trans (ed ..)
   have fin:Q true { s with heap:=(s.heap.update a (Obj.putSet es1 t1)).update a (Obj.putSet es2 t2)} :=
    h true _ ks2 sb2 ⟨⟨_,es2,_,t2,hg2,hex,rfl,jBR (λx y h=>h.mono λb l _=>jLQ ho hd sb2 b l) hp3,by rw[hz2]; exact T3⟩,by rw[pm3.length_eq]; lia⟩ (λz=>by rw[pm3.mem_iff]; exact jCM ks _ l z) (by rw[pm3.length_eq]; lia)
   have sl:¬sizeAbove (grown es1.size)>sizeLine:=by
    rw[e1,show sizeLine=2 ^ 24 from rfl]
    obtain⟨q⟩:=e2
    lia
   rw[show es.size+1=es1.size from hz1.symm]
   unfold setRelay
   refine aa (aa (bv hg rfl T1'.fits ?_))
   dsimp only
   rw[ai sl]
   refine aa (show wpAny _ A (do
    let some (t,order):=t1.relaid (es1.map (·.1)) (grown es1.size) | unsupported "internal:set-table-without-room"
    let es':=order.filterMap (es1[·]?)
    if es'.size != es1.size then unsupported "internal:set-table-lost-an-element"
    pure (es',t):Sem (Array (Int×Value)×SetTable)) _ E _ from ?_)
   rw[er]
   dsimp only
   rw[hes2,hz2,ai (by simp)]
   refine ae ?_
   dsimp only
   exact gy hg rfl (ae fin) (by rw[hz2]; exact hzl)
  ·rw[hfull,bV,ai ag]
   exact ae (h true _ _ sb1 ⟨⟨_,es1,ep+1,t1,hg,hex,rfl,jBR (λx y h=>h.mono λb l _=>jLQ ho hd sb1 b l) hp2,jHP T1' hfull⟩,by lia⟩ (λz=>jCM ks _ l z) (by lia))
end
end ST
namespace SB
open PySem
open SS (El ledW jA4 jA1)
variable {prog:Program}{w:World}{A:Around}
section
variable {R:Result->Shared->Prop}{I:Addr}{fp wr:List Addr}{n:Nat}{P:Nat->Value->Prop}{St:Nat->Shared->Prop}
end
open SS (El ledW jF6)
section
variable {E:Value->Shared->Prop}{s:Shared}
set_option maxHeartbeats 3200000 in
end
end SB
namespace TM
open PySem PySem.Spec PyProof.Rows PySem.W
open HT (lexLt lexLt_cons)
open L2 (All2)
theorem jHL:∀x:List Int,lexLt x x=false
 | []=>rfl
 | a::x=>by rw[lexLt_cons,am rfl]; exact jHL x
theorem jLM:∀{x y z:List Int},lexLt x y=true->lexLt y z=true->lexLt x z=true
 | [],[],_,h,_=>by cases h
 | [],_::_,[],_,h=>by cases h
 | [],_::_,_::_,_,_=>rfl
 | _::_,[],_,h,_=>by cases h
 | _::_,_::_,[],_,h=>by cases h
 | a::x,b::y,c::z,h,k=>by
  rw[lexLt_cons] at h k ⊢
  by_cases e1:a=b
  ·rw[am e1] at h
   by_cases e2:b=c
   ·rw[am e2] at k
    rw[am (e1.trans e2)]
    exact jLM h k
   ·rw[ai e2] at k
    rw[ai (e1 ▸ e2),e1]
    exact k
  ·rw[ai e1] at h
   have h:=aE h
   by_cases e2:b=c
   ·rw[ai (e2 ▸ e1),<- e2]
    exact ar h
   ·rw[ai e2] at k
    have k:=aE k
    rw[ai (by lia)]
    exact ar (by lia)
theorem jLN:∀{x y:List Int},lexLt x y=false->lexLt y x=false->x=y
 | [],[],_,_=>rfl
 | [],_::_,h,_=>by cases h
 | _::_,[],_,h=>by cases h
 | a::x,b::y,h,k=>by
  rw[lexLt_cons] at h k
  by_cases e:a=b
  ·rw[am e] at h
   rw[am e.symm] at k
   rw[e,jLN h k]
  ·rw[ai e] at h
   rw[ai (λz=>e z.symm)] at k
   have:=gj h
   have:=gj k
   lia
def rk (ws:List (List Int))(x:List Int):Int:=((ws.countP λz=>lexLt z x:Nat):Int)
theorem jFP {p q:List Int->Bool}(h:∀z,p z=true->q z=true):∀ws:List (List Int),ws.countP p<=ws.countP q
 | []=>aj _
 | a::ws=>by
  have:=jFP h ws
  rw[gQ,gQ]
  have:=h a
  cases hp:p a <;> cases hq:q a <;> simp_all <;> lia
theorem jIY {p q:List Int->Bool}(h:∀z,p z=true->q z=true){x:List Int}(hp:p x=false)(hq:q x=true):∀{ws:List (List Int)},x∈ws->ws.countP p<ws.countP q
 | a::ws,hx=>by
  rw[gQ,gQ]
  rcases aF.mp hx with e | hx
  ·have:=jFP h ws
   rw[<- e,hp,hq]
   simp
   lia
  ·have:=jIY h hp hq hx
   have:=h a
   cases hpa:p a <;> cases hqa:q a <;> simp_all <;> lia
theorem rk_lt {ws:List (List Int)}{x y:List Int}(hx:x∈ws):decide (rk ws x<rk ws y)=lexLt x y:=by
 unfold rk
 cases h:lexLt x y with
 | true=>
  have:=jIY (p:=λz=>lexLt z x) (q:=λz=>lexLt z y) (λz hz=>jLM hz h) (jHL x) h hx
  exact ar (by lia)
 | false=>
  refine aI ?_
  by_cases k:lexLt y x=true
  ·have:=jFP (p:=λz=>lexLt z y) (q:=λz=>lexLt z x) (λz hz=>jLM hz k) ws
   lia
  ·have:=jLN h (dY.mpr k)
   rw[this]
   lia
variable {prog:Program}{w:World}{A:Around}{E:Value->Shared->Prop}{s:Shared}
section
variable {kd:SortKind}{f:Value->List Int}
abbrev odL (kd:SortKind)(f:Value->List Int)(ks:List Value):Od:=⟨kd,λp=>rk (ks.map f) (f p.1),λp=>p.1∈ks⟩
theorem ltL {ks:List Value}(hlt:∀u∈ks,∀v∈ks,∀(Q:Bool->Shared->Prop) (E:Value->Shared->Prop),Q (lexLt (f u) (f v)) s->wpAny (model prog w) A (keyLt' kd u v) Q E s): @LtOk prog w A s (odL kd f ks):= @LtOk.mk prog w A s (odL kd f ks) λ{E st x y Q} hk hx hy h=>by
 have e:decide (@key (odL kd f ks) x< @key (odL kd f ks) y)=lexLt (f x.1) (f y.1):=rk_lt (cY hx)
 rw[e] at h
 rw[lt'_eq]
 refine aA (gX ?_)
 rw[show kindOf st=kd from hk]
 exact aA (iE (cP (hlt x.1 hx y.1 hy _ _ ⟨rfl,aC h⟩)))
theorem jL0 {vs:List Value}{p:Keyed}(h:p∈(pairsOf vs).toList):p.1=p.2/\p.1∈vs:=by
 rw[pairsOf_toList] at h
 exact mem_zip_self h
theorem allL {vs:List Value} : @AllI (odL kd f vs) (pairsOf vs).toList:=λp hp=>(jL0 hp).2
end
def TupI (h:Heap)(v:Value)(l:List Int):Prop:=∃a n its,v= .ref a/\h.get? a=some { cls:= .type "tuple",data:= .seq its n} /\IntsAre its.toList l
noncomputable def decV (h:Heap):Value->List Int
 | .ref a=>match h.get? a with
  | some o=>match o.data with
   | .seq xs _=>xs.toList.map numOf
   | _=> []
  | none=> []
 | _=> []
theorem TupI.dec {h:Heap}{v:Value}{l:List Int}(t:TupI h v l):decV h v=l:=by
 obtain⟨a,n,its,rfl,ho,hi⟩:=t
 dsimp only [decV]
 rw[ho]
 exact hi.nums
theorem jL7 {b:Bool}{x y:Int}{t u:Tok}{Q:Bool->Shared->Prop}(h:Q (decide (x<y)) s):wpAny (model prog w) A (oneLt' b (.int x t) (.int y u)) Q E s:=by
 cases b with
 | true=>exact oneLt_int h
 | false=>exact kat_one _ _ (HT.rcLt_int A s x t y u prog w E _ h)
theorem jPQ {b fin:Bool}{Q:Bool->Shared->Prop} :∀{us:List Value}{x:List Int}{vs:List Value}{y:List Int}(i:Nat),IntsAre us x->IntsAre vs y->fin=decide (us.length<vs.length)->Q (lexLt x y) s->KatLex prog w A b fin Q (us.zip vs) i s
 | _,_,_,_,i, .nil, .nil,hf,h=>by rw[hf]; exact h
 | _,_,_,_,i, .nil, .cons _ _ _,hf,h=>by rw[hf]; exact h
 | _,_,_,_,i, .cons _ _ _, .nil,hf,h=>by rw[hf]; exact h
 | _,_,_,_,i, .cons (ns:=ns) a t h1, .cons (ns:=ms) c u h2,hf,h=>by
  rw[dJ]
  refine kat_cons (eF a t c u prog w _ _ ?_)
  rw[lexLt_cons] at h
  by_cases e:a=c
  ·rw[am e] at h
   rw[show (a==c)=true by simp [e]]
   refine kat_yes (jPQ (i+1) h1 h2 ?_ h)
   rw[hf,aP,aP]
   exact decide_eq_decide.mpr (by lia)
  ·rw[ai e] at h
   rw[show (a==c)=false by simp [e]]
   exact kat_no (jL7 h)
theorem jLG {b:Bool}{u v:Value}{x y:List Int}{Q:Bool->Shared->Prop}(hu:TupI s.heap u x)(hv:TupI s.heap v y)(h:Q (lexLt x y) s):wpAny (model prog w) A (keyLt' (tuples' b) u v) Q E s:=by
 obtain⟨a,n,its,rfl,ho,hi⟩:=hu
 obtain⟨a2,n2,its2,rfl,ho2,hi2⟩:=hv
 exact kat_lt ho rfl ho2 rfl (jPQ 0 hi hi2 rfl h)
theorem jJY (x y:Value):keyLt' general' x y=oneLt' false x y:=rfl
theorem jJT {u v:Value}{x y:List Int}{Q:Bool->Shared->Prop}(hu:TupI s.heap u x)(hv:TupI s.heap v y)(room:A.units<cLine)(h:Q (lexLt x y) s):wpAny (model prog w) A (keyLt' general' u v) Q E s:=by
 obtain⟨a,n,its,rfl,ho,hi⟩:=hu
 obtain⟨a2,n2,its2,rfl,ho2,hi2⟩:=hv
 rw[jJY]
 exact kat_one _ _ (HT.lt_tupInts (items:=its) (items2:=its2) ⟨_,ho,rfl,n,rfl⟩ ⟨_,ho2,rfl,n2,rfl⟩ hi hi2 room h)
theorem jJS {u v:Value}{x y:List Int}{Q:Bool->Shared->Prop}(hu:TupI s.heap u x)(hv:TupI s.heap v y)(room:A.units<cLine)(h:Q (lexLt x y) s):wpAny (model prog w) A (keyLt' oneType' u v) Q E s:=by
 obtain⟨a,n,its,rfl,ho,hi⟩:=hu
 obtain⟨a2,n2,its2,rfl,ho2,hi2⟩:=hv
 rw[keyLt'_oneType,oneLt'_eq]
 simp only [gu]
 refine aa (wpAny_cRoomFor room ?_)
 have hT:s.TypeIs (.ref a) "tuple" :=⟨_,ho,rfl⟩
 refine aa (wpAny_callSpecialIfBound?_slot hT gJ (call_meets gJ hT jk (i6 _ _) (HT.tuple_lt_ints a a2 its its2 n n2 _ _ _ _ x y hi hi2) ⟨ho,ho2,?_⟩))
 exact cR h
def FsOf:List (Option Value)->List (List Int)->Prop:=All2 λo l=>(o=none/\l=[])\/∃n t r,o=some (Value.int n t)/\l=n::r
theorem jQ2:∀{vs:List Value}{ws:List (List Int)},All2 (TupI s.heap) vs ws->∃fs,FsOf fs ws/\∀(Q:List (Option Value)->Shared->Prop) (E:Value->Shared->Prop),Q fs s->wpAny (model prog w) A (vs.mapM firstOfTuple') Q E s
 | [],[],_=>⟨[],trivial,λQ E h=>by rw[List.mapM_nil]; exact ae h⟩
 | v::vs,l::ws,⟨⟨a,n,its,e,ho,hi⟩,r⟩=>by
  obtain⟨fs,h1,h2⟩:=jQ2 r
  refine⟨its[0]?::fs,⟨?_,h1⟩,λQ E h=>?_⟩
  ·obtain⟨li⟩:=its
   cases hi with
   | nil=>exact .inl ⟨rfl,rfl⟩
   | cons c t _=>exact .inr ⟨c,t,_,rfl,rfl⟩
  ·rw[List.mapM_cons,e]
   refine aa ?_
   rw[kas_first_eq]
   refine aa (Looks.here (show Looks (model prog w) s.heap (typeOf (.ref a)) (.type "tuple") from(Looks.ld ho).andThen .now) ?_)
   rw[ai (by first | decide | simp)]
   refine aa (gA ho rfl (ae ?_))
   exact aa (h2 _ _ (ae h))
theorem jMA:∀{fs:List (Option Value)}{ws:List (List Int)},FsOf fs ws->fs.all (·.isSome)=ws.all λx=>!x.isEmpty
 | [],[],_=>rfl
 | o::fs,l::ws,⟨h,r⟩=>by
  rw[eW,eW,jMA r]
  rcases h with ⟨rfl,rfl⟩ | ⟨n,t,r,rfl,rfl⟩ <;> rfl
theorem jHR:∀{fs:List (Option Value)}{ws:List (List Int)},FsOf fs ws->∀v∈fs.filterMap id,∃n t,v=Value.int n t
 | [],[],_,v,h=>by cases h
 | o::fs,l::ws,⟨h,r⟩,v,hv=>by
  rcases h with ⟨rfl,rfl⟩ | ⟨n,t,r',rfl,rfl⟩
  ·exact jHR r v (by simpa using hv)
  ·rw[cI] at hv
   rcases aF.mp hv with e | hv
   ·exact⟨n,t,e⟩
   ·exact jHR r v hv
def kdOf (ws:List (List Int)):SortKind:=if (ws.all λx=>!x.isEmpty)=true then tuples' true else if (ws.headD []).isEmpty=true then oneType' else general'
theorem jIE {T:Value}{vs:List Value}(ne:vs≠ [])(hT:∀v∈vs,Looks (model prog w) s.heap (typeOf v) T)(hT2:(T==T)=true){Q:Option Value->Shared->Prop}(h:Q (some T) s):wpAny (model prog w) A (oneTypeOnly' vs.toArray) Q E s:=by
 obtain⟨v,r,rfl⟩:=fi ne
 rw[oneTypeOnly'_eq,gG,map_eq_pure_bind]
 refine aa (aa (kas_mapM (r:=T) _ (λv hv Q' hq=>(hT v hv).here hq) (ae ?_)))
 have hall2:((List.map (λ_=>T) (v::r)).toArray.all λx=>x==T)=true:=by
  simp only [List.all_toArray,im,aV]
  intro _ _
  exact hT2
 have h0:(List.map (λ_=>T) (v::r)).toArray[0]?=some T:=by simp
 rw[h0]
 simp only [hall2,gu]
 exact ae h
theorem jNJ {v:Value}{l:List Int}(h:TupI s.heap v l):Looks (model prog w) s.heap (typeOf v) (.type "tuple"):=by
 obtain⟨a,n,its,rfl,ho,_⟩:=h
 exact(Looks.ld ho).andThen .now
theorem jRT {vs:List Value}{ws:List (List Int)}{Q:SortKind->Shared->Prop}(t:All2 (TupI s.heap) vs ws)(h2:vs≠ [])(h:Q (kdOf ws) s):wpAny (model prog w) A (keyKind' vs.toArray) Q E s:=by
 obtain⟨fs,f1,f2⟩:=jQ2 (prog:=prog) (w:=w) (A:=A) t
 rw[kat_kind_eq,gG,map_eq_pure_bind]
 refine aa (aa (f2 _ _ (ae ?_)))
 have e:=jMA f1
 have ha:(fs.toArray.all λx=>x.isSome)=fs.all (·.isSome):=by simp
 unfold kdOf at h
 rw[ha,e]
 cases hc:(ws.all λx=>!x.isEmpty) with
 | true=>
  rw[hc,am rfl] at h
  rw[am rfl]
  refine aa (cx ?_)
  have hf:(fs.toArray.filterMap id)=(fs.filterMap id).toArray:=by simp
  rw[hf]
  have ne:fs.filterMap id≠ []:=by
   intro z
   obtain⟨v,vs',rfl⟩:=fi h2
   cases ws with
   | nil=>exact t.elim
   | cons l ws=>
    cases fs with
    | nil=>exact f1.elim
    | cons o fs=>
     rcases f1.1 with ⟨_,q⟩ | ⟨n,t',r,q,_⟩
     ·rw[q] at hc; simp at hc
     ·rw[q,cI] at z; cases z
  refine aa (jIE (T:= .type "int") ne (λv hv=>?_) rfl (ae ?_))
  ·obtain⟨n,t',e⟩:=jHR f1 v hv
   rw[e]
   exact .now
  ·exact h
 | false=>
  rw[hc,ai ag] at h
  rw[ai ag]
  obtain⟨v,vs',rfl⟩:=fi h2
  cases ws with
  | nil=>exact t.elim
  | cons l ws=>
   cases fs with
   | nil=>exact f1.elim
   | cons o fs=>
    have h0:(o::fs).toArray[0]?=some o:=by simp
    rw[h0]
    rcases f1.1 with ⟨q,q2⟩ | ⟨n,t',r,q,q2⟩
    ·rw[q2] at h
     rw[q,ai (by simp)]
     refine aa (jIE (T:= .type "tuple") h2 (λu hu=>?_) rfl (ae h))
     obtain⟨i,hi⟩:=bw hu
     obtain⟨l',_,hl⟩:=t.get' hi
     exact jNJ hl
    ·rw[q2] at h
     rw[q,am (by simp)]
     exact ae h
theorem lt_kd {ws:List (List Int)}{u v:Value}{x y:List Int}{Q:Bool->Shared->Prop}(hu:TupI s.heap u x)(hv:TupI s.heap v y)(room:A.units<cLine)(h:Q (lexLt x y) s):wpAny (model prog w) A (keyLt' (kdOf ws) u v) Q E s:=by
 unfold kdOf
 split
 ·exact jLG hu hv h
 ·split
  ·exact jJS hu hv room h
  ·exact jJT hu hv room h
theorem askT {f:Value->List Int}{a:Addr}{vs:List Value}{ws:List (List Int)}(t:All2 (TupI s.heap) vs ws)(hf:∀v l,v∈vs->TupI s.heap v l->f v=l)(na:∀v∈vs,v≠ .ref a)(room:A.units<cLine)(h2:2<=vs.length): @AskOk (odL (kdOf ws) f vs) prog w A s a vs:=λh6 k6=>by
 have keep:∀v l,v∈vs->TupI s.heap v l->TupI h6 v l:=λv l hv ⟨c,n,its,e,ho,hi⟩=>⟨c,n,its,e,k6 _ _ ho λz=>na v hv (by rw[e,z]),hi⟩
 have t6:All2 (TupI h6) vs ws:=by
  have go:∀{us:List Value}{ls:List (List Int)},(∀v∈us,v∈vs)->All2 (TupI s.heap) us ls->All2 (TupI h6) us ls:=by
   intro us
   induction us with
   | nil=>intro ls _ h; cases ls with
    | nil=>trivial
    | cons _ _=>exact h.elim
   | cons u us ih=>intro ls hm h; cases ls with
    | nil=>exact h.elim
    | cons l ls=>exact⟨keep u l (hm u (ax ..)) h.1,ih (λv hv=>hm v (ay _ hv)) h.2⟩
  exact go (λv hv=>hv) t
 have ne:vs≠ []:=λz=>by rw[z] at h2; exact absurd h2 (by decide)
 refine⟨λQ E h=>jRT (s:= { s with heap:=h6}) t6 ne h,ltL λu hu v hv Q E h=>?_⟩
 obtain⟨i,hi⟩:=bw hu
 obtain⟨j,hj⟩:=bw hv
 obtain⟨x,_,hx⟩:=t.get' hi
 obtain⟨y,_,hy⟩:=t.get' hj
 rw[hf u x hu hx,hf v y hv hy] at h
 exact lt_kd (s:= { s with heap:=h6}) (keep _ _ hu hx) (keep _ _ hv hy) room h
end TM
namespace L2
open PySem PySem.Spec PyProof.Rows
section
variable {X:Cx}
def TsOf (H:Hp)(us:List V)(ws:List (List Int)):Prop:=All2 (λv x=>∃a,v=V.ref a/\H a=some (.tup (x.map V.int))) us ws
theorem TsOf.tups {lF:List (Addr×Obj)}{σ:St}{H:Hp}{s:Shared}(I:Inv X lF σ H s):∀{us:List V}{its:List Value}{ws:List (List Int)},Vals us its->TsOf H us ws->All2 (TM.TupI s.heap) its ws
 | [],_,[], .nil,_=>trivial
 | _::_,_,_::_, .cons r rs,⟨⟨a,e,h⟩,t⟩=>by
  subst e
  cases r
  obtain⟨_,its,r2,n,ho⟩:=(show ObjOk X.prog X.w H s.heap a (.tup _) from I.hok a _ h)
  exact⟨⟨a,n,its.toArray,rfl,ho,jEM r2⟩,TsOf.tups I rs t⟩
noncomputable def refV:Value->V
 | .ref a=> .ref a
 | _=> .non
theorem jI0 {h:Heap} :∀{its:List Value}{ws:List (List Int)},All2 (TM.TupI h) its ws->its.map (TM.decV h)=ws
 | [],[],_=>rfl
 | _::_,_::_,⟨t,r⟩=>by rw[bg,t.dec,jI0 r]
theorem ts_at {H:Hp}{us:List V}{its:List Value}{ws:List (List Int)}{h:Heap}(r:Vals us its)(t:TsOf H us ws)(d:All2 (TM.TupI h) its ws){v:Value}(hv:v∈its):∃a,v= .ref a/\H a=some (.tup ((TM.decV h v).map V.int)):=by
 induction r generalizing ws with
 | nil=>cases hv
 | cons q rs ih=>
  cases ws with
  | nil=>exact t.elim
  | cons l ws=>
   obtain⟨⟨a,e,ha⟩,t⟩:=t
   rcases aF.mp hv with z | hv
   ·subst e
    cases q
    rw[z,d.1.dec]
    exact⟨a,rfl,ha⟩
   ·exact ih t d.2 hv
theorem jSI {H:Hp}{h:Heap}{out:List Value} :(∀v∈out,∃a,v= .ref a/\H a=some (.tup ((TM.decV h v).map V.int)))->Vals (out.map refV) out/\TsOf H (out.map refV) (out.map (TM.decV h)):=by
 induction out with
 | nil=>exact λ_=>⟨.nil,trivial⟩
 | cons v out ih=>
  intro k
  obtain⟨a,rfl,ha⟩:=k v (ax ..)
  obtain⟨i1,i2⟩:=ih λu hu=>k u (ay _ hu)
  exact⟨.cons rfl i1,⟨a,rfl,ha⟩,i2⟩
end
end L2
namespace ST
open PySem
open SS (ledW jA4 jA1 jF6)
open SB (jBV)
variable {prog:Program}{w:World}{A:Around}
section
variable {R:Result->Shared->Prop}{I:Addr}{fp wr:List Addr}{n:Nat}{P:Nat->Value->Prop}{St:Nat->Shared->Prop}
theorem jEU (hu:A.units+4<cLine){B:Addr->List Int->Prop}{mx:Nat}(hB:∀(b:Nat) l,B b l->b<mx)(W:WalksS prog w A.in1 I fp wr (λa b=>b=a) n P St)(S:Addr)(hSf:S∉fp)(hm1:mx<=S)(hwr:∀b∈wr,mx<=b)(val:Nat->List Int)(ad:Nat->Addr)(had:∀i,i<n->B (ad i) (val i))(hval:∀i v,P i v->v= .ref (ad i))(hn:n<=300):
  ∀(k i:Nat) (s:Shared) (ks:List (List Int)),n - i=k->i<=n->St i s->(∀j,j<n->IsTupleKey (intKind prog w) s.heap (val j) (ad j))->SetT prog w B s.heap S ks->ks.length<=i->(∀z,z∈ks↔∃j,j<i/\val j=z)->
   (∀s' ks',Moved (S::wr) (λa b=>b=a) s s'->SetT prog w B s'.heap S ks'->(∀z,z∈ks'↔∃j,j<n/\val j=z)->R (.ok (.ret .none)) s')->
   codeAny (model prog w) A (.builtin "set.update.loop" ⟨[.ref S, .ref I],[]⟩) R s:=by
 have hSw:S∉wr:=λh=>hSf (W.sub _ h)
 have sub1:∀b∈wr,b∈S::wr:=λb hb=>ay _ hb
 have nwr:∀b,(∃l,B b l)\/b=S->b∉wr:=λb h q=>by
  rcases h with ⟨l,h⟩ | h
  ·have:=hwr b q; have:=hB b l h; lia
  ·exact hSw (h ▸ q)
 intro k
 induction k with
 | zero=>
  intro i s ks hk hi hst hK hS hl hm hR
  obtain rfl:i=n:=by lia
  refine bZ jA4 ?_
  rw[ce jA1 _]
  show wpAny _ A.in1 (pyNext (.ref I) >>= _) _ _ s
  refine aa (W.done s _ _ hst λs' mv=>?_)
  show wpAny _ A.in1 (ret Value.none) _ _ s'
  exact ae (hR s' ks (mv.mono sub1) (hS.at λb o lt e=>mv.heap b o (nwr b lt) e) hm)
 | succ k ih=>
  intro i s ks hk hi hst hK hS hl hm hR
  have hlt:i<n:=by lia
  refine bZ jA4 ?_
  rw[ce jA1 _]
  show wpAny _ A.in1 (pyNext (.ref I) >>= _) _ _ s
  refine aa (W.item i s _ _ hlt hst λv s' hP hst' mv=>?_)
  obtain rfl:=hval i v hP
  have hS':=hS.at (h':=s'.heap) λb o lt e=>mv.heap b o (nwr b lt) e
  have hK':∀j,j<n->IsTupleKey (intKind prog w) s'.heap (val j) (ad j):=λj hj=>let ⟨o,i,c,h1,h2⟩:=hK j hj; ⟨o,i,c,mv.heap _ o (nwr _ (.inl ⟨_,had j hj⟩)) h1,h2⟩
  show wpAny _ A.in1 (holding [Value.ref (ad i)] (setAdd S (.ref (ad i))) >>= _) _ _ s'
  refine aa (bD ?_)
  unfold setAdd
  refine bD (aa (wpAny_pyHash_tuple (by rw[cE]; lia) (hK' i hlt) ?_))
  refine jNC (s:= { s' with toks:=s'.toks+((val i).length+1)}) (by rw[cE]; lia) hS' (by lia) (had i hlt) (hK' i hlt) λb h' ks' sb hS2 hm2 hl2=>?_
  have nS:∀j,j<n->ad j≠S:=λj hj z=>by have:=hB _ _ (had j hj); rw[z] at this; lia
  refine ae ⟨eX jA1 _,ih (i+1) _ ks' (by lia) hlt (W.frame _ s' _ _ hst' (dI _ _) λb hb o e=>?_) (λj hj=>let ⟨o,i,c,h1,h2⟩:=hK' j hj; ⟨o,i,c,(sb.2 _ (nS j hj)).trans h1,h2⟩) hS2 (by lia) (λz=>?_) λs'' ks'' mv2 hS3 hm3=>?_⟩
  ·rw[sb.2 b (λh:b=S=>hSf (by rw[<- h]; exact hb))]
   exact e
  ·rw[hm2,hm]
   constructor
   ·rintro (h | ⟨j,hj,e⟩)
    ·exact⟨i,by lia,h.symm⟩
    ·exact⟨j,by lia,e⟩
   ·rintro ⟨j,hj,e⟩
    by_cases hji:j=i
    ·exact .inl (by rw[<- e,hji])
    ·exact .inr ⟨j,by lia,e⟩
  ·refine hR s'' ks'' (Moved.trans W.gtrans ((mv.mono sub1).then_heap (dI _ _) λb o hb e=>?_) mv2) hS3 hm3
   rw[sb.2 b (λh:b=S=>hb (by rw[h]; exact ax))]
   exact e
end
section
variable {E:Value->Shared->Prop}{s:Shared}
set_option maxHeartbeats 3200000 in
theorem set_of_list {l:Addr}{items:Array Value}{ns:List (List Int)}{Q:Value->Shared->Prop}(hh:A.handled=none)(hu:A.units+101<cLine)(hl:s.heap.IsList l items)(hi:L2.All2 (λv m=>∃b,v=Value.ref b/\IsTupleKey (intKind prog w) s.heap m b) items.toList ns)
  (hn:items.size<=300)
  (h:∀(h':Heap) (tk:Nat) (ks:List (List Int)),SetT prog w (λ(b:Addr) (m:List Int)=>∃i:Nat,items[i]?=some (Value.ref b)/\ns[i]?=some m) h' s.heap.objs.size ks->(∀z,z∈ks↔z∈ns)->(∀b o,s.heap.get? b=some o->h'.get? b=some o)->Q (.ref s.heap.objs.size) { s with heap:=h',toks:=tk}):
  wpAny (model prog w) A (call (.type "set") [.ref l]) Q E s:=by
 obtain⟨c,tl,hmro⟩:=F.called_set.mro
 have hmade:=F.called_set.made
 have hsub:=F.called_set.sub
 have g1:=F.called_set.notType
 have g2:=F.called_set.canCreate
 have g3:=F.typeCall_set_1 (.ref l)
 refine lu (ju (show wpAny _ _ (callAny (.type "set") _) _ _ _ from ?_))
 refine ae ⟨iu _ (by decide+kernel),bZ F.entry_type_call ?_⟩
 rw[Around.under_plain (weight_type_call_type "set" [.ref l] []) rfl]
 repeat (any_goals (first | assumption | wp_step))
 have hlen:items.size=ns.length:=by rw[<- aw]; exact L2.All2.len hi
 have hat:∀i,i<items.size->∃b,items[i]?=some (Value.ref b)/\IsTupleKey (intKind prog w) s.heap (ns.getD i []) b:=λi hi2=>by
  have e:items.toList[i]?=some items[i]:=by simp [hi2]
  obtain⟨m,hm,b,e2,hb⟩:=L2.All2.get' hi e
  refine⟨b,by rw[fq hi2,<- e2],?_⟩
  rw[aB,hm]
  exact hb
 generalize had:(λi=>match items.getD i .none with | .ref b=>b | _=>0)=ad
 have hadE:∀i,i<items.size->items[i]?=some (Value.ref (ad i))/\IsTupleKey (intKind prog w) s.heap (ns.getD i []) (ad i):=λi hi2=>by
  obtain⟨b,e,k⟩:=hat i hi2
  have:ad i=b:=by
   rw[<- had]
   show (match items.getD i .none with | .ref b=>b | _=>0)=b
   rw[Array.getD_eq_getD_getElem?,e]
   rfl
  rw[this]
  exact⟨e,k⟩
 have hBl:∀b i,items[i]?=some (Value.ref b)->b<s.heap.objs.size:=λb i e=>by
  have hi3:i<items.size:=(dM.mp e).1
  obtain⟨e2,o,_,_,ho,_⟩:=hadE i hi3
  rw[e2] at e
  cases e
  exact aq ho
 refine eE (jF6 (.ref l) (E:=E) (Q:=λobj z=>obj= .ref s.heap.objs.size/\z= { s with heap:=s.heap.push { cls:= .type "set",dict:=none,data:= .set #[] 0 (.fresh 0 0 (ledW w))}}) ⟨rfl,rfl⟩) λr z hr=>?_
 cases r with
 | error e=>exact hr
 | ok fl=>
  cases fl with
  | ret obj=>
   obtain⟨rfl,rfl⟩:=hr
   generalize hO:({ cls:= .type "set",dict:=none,data:= .set #[] 0 (.fresh 0 0 (ledW w))} :Obj)=oS
   have hS:(s.heap.push oS).get? s.heap.objs.size=some oS:=ao _ (by rw[<- hO]; rfl)
   have hT:Shared.TypeIs { s with heap:=s.heap.push oS} (.ref s.heap.objs.size) "set" :=⟨_,hS,by rw[<- hO]⟩
   have hli:=F.called_set.init.lookup
   have hbi:=F.called_set.init.bind (.ref s.heap.objs.size)
   repeat (any_goals (first | assumption | wp_step))
   refine eE (codeAny_call_builtin (R:=wants (λr z2=>r= .none/\∃h' tk ks,z2= { s with heap:=h',toks:=tk} /\SetT prog w (λ(b:Addr) (m:List Int)=>∃i:Nat,items[i]?=some (Value.ref b)/\ns[i]?=some m) h' s.heap.objs.size ks/\(∀z,z∈ks↔z∈ns)/\(∀b o,s.heap.get? b=some o->h'.get? b=some o)) E)
    F.called_set.init.plain F.entry_set_init (check_set_init_1 hT ?_)) λr2 z2 hr2=>?_
   ·obtain⟨ol,hol,hcl,nl,hdl⟩:=hl
    obtain⟨ocls,odict,odata,oslots⟩:=ol
    simp only at hcl hdl
    subst hcl; subst hdl
    have hol':(s.heap.push oS).get? l=some { cls:= .type "list",dict:=odict,data:= .seq items nl,slots:=oslots} :=ab _ hol
    have y1:=F.sub_list_set
    have y2:=F.sub_list_frozenset
    have y3:(Value.type "list" ==Value.type "dict")=false:=by decide
    have hl1:(s.heap.push oS).IsList l items:=⟨_,hol',rfl,nl,rfl⟩
    subst hO
    unfold Builtin.«set.__init__» noKeywords Builtin.Frozenset.updateFrom
    generalize hPI:pyIter=PI
    wp_walk
    subst hPI
    refine cU hl1 (aa (gz ?_))
    have hlS:l<s.heap.objs.size:=aq hol
    have hz1:(s.heap.push { cls:= .type "set",dict:=none,data:= .set #[] 0 (.fresh 0 0 (ledW w))}).objs.size=s.heap.objs.size+1:=bR _ _
    have nI:l≠(s.heap.push { cls:= .type "set",dict:=none,data:= .set #[] 0 (.fresh 0 0 (ledW w))}).objs.size:=by
     rw[hz1]
     exact aO (bK hlS)
    have nS:s.heap.objs.size∉ [(s.heap.push { cls:= .type "set",dict:=none,data:= .set #[] 0 (.fresh 0 0 (ledW w))}).objs.size,l]:=by
     rw[hz1]
     simp only [aF,bA,dv,lx]
     exact⟨aO (gP _),cK hlS⟩
    have hget:((s.heap.push { cls:= .type "set",dict:=none,data:= .set #[] 0 (.fresh 0 0 (ledW w))}).push { cls:= .type "list_iterator",data:= .fields #[.ref l, .int 0 0]}).get? s.heap.objs.size
      =some { cls:= .type "set",dict:=none,data:= .set #[] 0 (.fresh 0 0 (ledW w))} :=ab _ hS
    refine jEU (A:=_) (by simp only [cE]; lia) (mx:=s.heap.objs.size) (B:=λ(b:Addr) (m:List Int)=>∃i:Nat,items[i]?=some (Value.ref b)/\ns[i]?=some m) (λb m ⟨i,hi1,hi2⟩=>hBl b i hi1) ((iw (by simp [hh]) _ l nI items).toS) s.heap.objs.size nS (aj _) (λb hb=>by rw[aN] at hb; rw[hb,hz1]; exact g0 _) (λi=>ns.getD i []) ad (λi q=>⟨i,(hadE i q).1,by rw[aB,aG (by rw[<- hlen]; exact q)]; rfl⟩) (λi v q=>by
      have hi3:i<items.size:=(dM.mp q).1
      rw[(hadE i hi3).1] at q
      exact(bG q).symm)
     hn (items.size - 0) 0 _ [] rfl (aS _) ⟨⟨_,ao _ rfl,rfl,rfl⟩,hl1.push _⟩ (λj hj=>let ⟨o,i,c,h1,h2⟩:=(hadE j hj).2; ⟨o,i,c,ab _ (ab _ h1),h2⟩) ⟨⟨_,#[],0,_,hget,⟨rfl,rfl,rfl⟩,rfl, .nil,jBV _⟩,aS _⟩ (aj _) (λz=>⟨λq=>by(cases q),λ⟨j,q,_⟩=>absurd q (cL _)⟩) ?_
    ·intro s' ks mv S' hm
     obtain⟨h',g',d',tk',os'⟩:=s'
     have e1:g'=s.gens:=mv.gens
     have e2:d'=s.drawn:=mv.drawn
     have e3:os'=s.os:=mv.os
     subst e1; subst e2; subst e3
     refine ae (ae ⟨rfl,h',tk',ks,rfl,S',λz=>?_,λb o e=>?_⟩)
     ·rw[hm]
      constructor
      ·rintro ⟨j,hj,e⟩
       have hj':j<ns.length:=by rw[<- hlen]; exact hj
       rw[<- e]
       simp [List.getD,hj']
      ·intro hz
       obtain⟨j,hj,e⟩:=cr hz
       exact⟨j,by rw[hlen]; exact hj,by simp [List.getD,hj,e]⟩
     ·have hb:=aq e
      refine mv.heap b o ?_ (ab _ (ab _ e))
      rw[hz1]
      simp only [aF,bA,dv,lx]
      exact⟨aO hb,aO (bK hb)⟩
   ·cases r2 with
    | error e=>exact hr2
    | ok fl2=>
     cases fl2 with
     | ret r=>
      obtain⟨rfl,h',tk,ks,rfl,hS',hm,hk⟩:=hr2
      repeat (any_goals (first | assumption | wp_step))
      exact h _ _ _ hS' hm hk
     | _=>exact hr2.elim
  | _=>exact hr.elim
end
end ST
namespace SB
open PySem
open SS (El ledW qO IsSI kW told told_len told_perm jB9 jHD slot_si_next jB5 jAB jAP jCB jAF jD7 jB2 jDW)
theorem Tab.line {t:SetTable}{n:Nat}{led:Bool}(T:Tab t n led):n<=306:=by
 have:=T.room
 obtain⟨q⟩:=T.msk
 lia
variable {prog:Program}{w:World}{A:Around}{E:Value->Shared->Prop}{s:Shared}{a:Addr}{es:Array (Int×Value)}{ep:Nat}
section
variable {I:Addr}{o:Obj}{t:SetTable}
theorem jDZ {i:Nat}{Q:Option (Value×Nat)->Shared->Prop}(ho:s.heap.get? a=some o)(hd:o.data= .set es ep t)(T:Tab t es.size (ledW w))(hi:i<=es.size)
  (h:Q ((told w a ep es)[i]?.map λv=>(v,kW w t (i+1))) s):wpAny (model prog w) A (setNext a (kW w t i) i ep) Q E s:=by
 unfold setNext
 refine aa (bv ho hd T.fits ?_)
 dsimp only
 unfold setsByText
 refine aa (aa (cM (ae ?_)))
 show wpAny _ A (if qO w=true then _ else _) Q E s
 have hl:=told_len w a ep es
 by_cases hb:qO w=true
 ·rw[am hb,ai (by simp)]
  unfold setWalk
  refine aa (aa (bv ho hd T.fits ?_))
  dsimp only
  unfold setsByText
  refine aa (aa (cM (ae ?_)))
  show wpAny _ A (if qO w=true then _ else _) _ E s
  rw[am hb]
  refine aa (cM (ae (ae ?_)))
  have e:(told w a ep es)[i]?.map (λv=>(v,kW w t (i+1)))=(pickOrder (w.params.setOrder a ep) es)[i]?.map (λe=>(e.snd,kW w t i)):=by
   unfold told kW
   rw[am hb,am hb,am hb,aW,bO,Option.map_map]
   rfl
  rw[e] at h
  exact h
 ·rw[ai hb]
  have hb':qO w=false:=by simpa using hb
  have hld:t.led=true:=by rw[T.ld]; show (!qO w)=true; rw[hb']; rfl
  show wpAny _ A (if (!t.plain&&decide (es.size>1))=true then _ else _) Q E s
  rw[T.pl,dr,cS,ai ag]
  refine aa ?_
  show wpAny _ A (if (!t.led&&!es.isEmpty)=true then _ else pure ()) _ E s
  rw[hld,dr,cS,ai ag]
  refine ae (ae ?_)
  have eb:SetTable.below t.place (kW w t i)=i:=by
   unfold kW
   rw[ai hb]
   exact jB9 T.ris (by rw[T.sz]; exact hi)
  rw[eb]
  have et:(told w a ep es)[i]?=es[i]?.map (·.2):=by
   unfold told
   rw[ai hb,aW,bO]
  rw[et] at h
  by_cases hlt:i<es.size
  ·have h1:es[i]?=some es[i]:=by simp [hlt]
   have hlt2:i<t.place.size:=by rw[T.sz]; exact hlt
   have h2:t.place[i]?=some t.place[i]:=by simp [hlt2]
   have h3:kW w t (i+1)=t.place[i]+1:=by
    unfold kW SS.slotAt
    rw[ai hb]
    simp [Array.getD,hlt2]
   rw[h1,h3] at h
   rw[h1,h2]
   exact h
  ·have h1:es[i]?=none:=by simp; lia
   rw[h1] at h
   rw[h1]
   exact h
theorem jB6 {i:Nat}{v:Value}{Q:Option Value->Shared->Prop}(ho:s.heap.get? a=some o)(hd:o.data= .set es ep t)(T:Tab t es.size (ledW w))
  (hit:IsSI s.heap I (kW w t i) i a es.size ep) (hv:(told w a ep es)[i]?=some v)
  (hQ:∀h',IsSI h' I (kW w t (i+1)) (i+1) a es.size ep->Heap.SameBut I s.heap h'->Q (some v) { s with heap:=h'}):wpAny (model prog w) A (pyNext (.ref I)) Q E s:=by
 have hT:s.TypeIs (.ref I) "set_iterator" :=⟨_,hit,rfl⟩
 have hi:i<es.size:=by
  rw[<- told_len w a ep es]
  exact(ah.mp hv).1
 unfold pyNext
 refine aa (cP (bh (name:=Str.ofString "__next__") hT slot_si_next (bo slot_si_next hT jAB ?_ (jAF _))))
 unfold Builtin.«set_iterator.__next__»
 refine aa (m:=slotArgs "__next__" 0 _) (ae ?_)
 dsimp only
 unfold fieldsOf
 refine aa (aa (ga hit ?_))
 refine ae ?_
 dsimp only [rawInt]
 unfold setEntries
 refine aa (aa (bv ho hd T.fits (ae ?_)))
 rw[ai (by simp)]
 simp only [bu]
 refine aa (jDZ ho hd T (cQ hi) ?_)
 rw[hv]
 dsimp only [Option.map]
 refine aa (bq hit (by simp) λh1 hit1 sb1=>?_)
 refine aa (bq hit1 (by simp) λh2 hit2 sb2=>?_)
 refine ae ⟨v,rfl,ae (hQ h2 ?_ (sb1.trans sb2))⟩
 show h2.get? I=_
 rw[hit2]
 simp [rawInt]
theorem jBP {Q:Option Value->Shared->Prop}(hh:A.handled=none)(ho:s.heap.get? a=some o)(hd:o.data= .set es ep t)(T:Tab t es.size (ledW w))
  (hit:IsSI s.heap I (kW w t es.size) es.size a es.size ep)
  (hQ:∀h',Heap.ExtBut I s.heap h'->Q none { s with heap:=h'}):wpAny (model prog w) A (pyNext (.ref I)) Q E s:=by
 have hT:s.TypeIs (.ref I) "set_iterator" :=⟨_,hit,rfl⟩
 unfold pyNext
 refine aa (cP (bh (name:=Str.ofString "__next__") hT slot_si_next (bo slot_si_next hT jAB ?_ (jAF _))))
 unfold Builtin.«set_iterator.__next__»
 refine aa (m:=slotArgs "__next__" 0 _) (ae ?_)
 dsimp only
 unfold fieldsOf
 refine aa (aa (ga hit ?_))
 refine ae ?_
 dsimp only [rawInt]
 unfold setEntries
 refine aa (aa (bv ho hd T.fits (ae ?_)))
 rw[ai (by simp)]
 simp only [bu]
 refine aa (jDZ ho hd T (aj _) ?_)
 rw[cy (by rw[told_len]; exact aj _)]
 dsimp only [Option.map]
 refine aa (bq hit (by simp) λh1 hit1 sb1=>?_)
 refine aa ?_
 simp only [newExc,newTuple]
 refine aa (bj ?_ (by size_fits))
 refine aa (m:=firstArgMember _ _) (kh (a:=Value.none) (by first | rfl | (simp only [firstArgMember]; rfl)) ?_)
 refine bj ?_ (by size_fits)
 simp only [raiseNew]
 refine aa (wpAny_handled ?_)
 rw[show A.in1.handled=none from hh]
 refine aa (ae (wpAny_throw ?_))
 refine aa (fj (T:= "StopIteration") (b:=true) ⟨_,ao _ rfl,rfl⟩ ix ?_)
 exact ae (hQ _ ((sb1.extBut.push _).push _))
theorem jEY {Q:Value->Shared->Prop}(hx:o.ExactSet)(ho:s.heap.get? a=some o)(hd:o.data= .set es ep t)(T:Tab t es.size (ledW w))
  (hQ:∀h',h'.get? s.heap.objs.size=some { cls:= .type "set_iterator",dict:=none,data:= .fields #[rawInt (kW w t 0),rawInt 0, .ref a,rawInt es.size,rawInt ep],slots:=#[]} ->(∀b u,s.heap.get? b=some u->h'.get? b=some u)->
   h'.objs.size=s.heap.objs.size+1->Q (.ref s.heap.objs.size) { s with heap:=h'}):wpAny (model prog w) A (pyIter (.ref a)) Q E s:=by
 have hT:s.TypeIs (.ref a) "set" :=⟨o,ho,hx.1⟩
 refine iN hT eZ (bo eZ hT jAP ?_ (jB2 _))
 unfold Builtin.«frozenset.__iter__»
 refine aa (show wpAny _ _ (pure a:Sem Addr) _ _ s from ae ?_)
 unfold Builtin.Frozenset.sizeOf setEntries
 refine aa (aa (aa (bv ho hd T.fits (ae (ae ?_)))))
 dsimp only
 unfold setDrawn
 refine aa (aa (bv ho hd T.fits ?_))
 dsimp only
 unfold setsByText
 refine aa (aa (cM (ae (ae ?_))))
 show wpAny _ _ (if (!qO w&&(!t.plain&&decide (es.size>1)))=true then _ else _) _ _ s
 rw[T.pl,dr,cS,bV,ai ag]
 refine aa (ae ?_)
 refine aa (wpAny_setEpoch_of ho hd T.fits ?_)
 refine aa (bj (ae ⟨_,rfl,"set_iterator",_,⟨_,ao _ rfl,rfl⟩,slot_si_next.lookup,hQ _ ?_ (λb u e=>ab _ e) (bR _ _)⟩) (by size_fits))
 have e0:kW w t 0=0:=by unfold kW SS.slotAt; split <;> rfl
 rw[e0]
 exact ao _ rfl
theorem jDM (hh:A.handled=none)(hne:a≠I)(hd:o.data= .set es ep t)(T:Tab t es.size (ledW w)):
  Walks prog w A I [I,a] [I] es.size (λi v=>(told w a ep es)[i]?=some v) (λi h=>IsSI h I (kW w t i) i a es.size ep/\h.get? a=some o) where
 sub:=λb hb=>by simp at hb; simp [hb]
 frame:=λ_ _ _ st hk=>⟨hk I (by simp) _ st.1,hk a (by simp) _ st.2⟩
 item:=λi s Q E hi st hQ=>by
  obtain⟨v,hv⟩:∃v,(told w a ep es)[i]?=some v:=⟨_,aG (by rw[told_len]; exact hi)⟩
  exact jB6 st.2 hd T st.1 hv λh' hit' sb=>hQ v h' s.toks hv ⟨hit',(sb.2 a hne).trans st.2⟩ λb o hb e=>(sb.2 b (λz=>hb (by simp [z]))).trans e
 done:=λs Q E st hQ=>jBP hh st.2 hd T st.1 λh' eb=>hQ h' s.toks λb o hb e=>eb b o (λz=>hb (by simp [z])) e
 self:=λ_ _ _ _ st hQ=>jHD st.1 hQ
end
open SS (El ledW told told_len told_perm jFI)
section
variable {o:Obj}{t:SetTable}
theorem collect_set {Q:List Value->Shared->Prop}(hh:A.handled=none)(hx:o.ExactSet)(ho:s.heap.get? a=some o)(hd:o.data= .set es ep t)(T:Tab t es.size (ledW w))
  (hQ:∀s',(∀b u,s.heap.get? b=some u->s'.heap.get? b=some u)->s'.gens=s.gens->s'.drawn=s.drawn->s'.os=s.os->s.heap.objs.size<s'.heap.objs.size->Q (told w a ep es) s'):wpAny (model prog w) A (collect (.ref a)) Q E s:=by
 have ha:a<s.heap.objs.size:=aq ho
 have hSa:s.heap.objs.size≠a:=cK ha
 unfold collect
 refine aa (gz (bZ ij ?_))
 rw[ce ik _]
 show wpAny _ A.in1 (newList [] >>= λl=>again (.builtin "list.__iadd__" ⟨[l, .ref a],[]⟩)) _ _ s
 refine aa (bj (ae ⟨eX eh _,bZ ja ?_⟩))
 rw[ce eh _]
 generalize hE:({ s with heap:=s.heap.push { cls:= .type "list",dict:=none,data:= .seq ([]:List Value).toArray}} :Shared)=s1
 have ho1:s1.heap.get? a=some o:=by rw[<- hE]; exact ab _ ho
 have hL1:s1.heap.get? s.heap.objs.size=some { cls:= .type "list",dict:=none,data:= .seq ([]:List Value).toArray} :=by rw[<- hE]; exact ao _ rfl
 have hz1:s1.heap.objs.size=s.heap.objs.size+1:=by rw[<- hE]; exact bR _ _
 have hT1:s1.TypeIs (.ref a) "set" :=⟨o,ho1,hx.1⟩
 show wpAny _ A.in1 (Builtin.List.listExtendWith (.ref s.heap.objs.size) (.ref a) (.ref s.heap.objs.size)) _ _ _
 unfold Builtin.List.listExtendWith
 refine aa (dq hT1 ?_)
 have q1:Builtin.List.listSameRef (.ref s.heap.objs.size) (.ref a)=false:=by simp [Builtin.List.listSameRef,hSa]
 rw[ai (by rw[q1]; decide)]
 refine aa (jEY hx ho1 hd T λh2 hI2 k2 z2=>?_)
 refine aa (bD ?_)
 have ho2:h2.get? a=some o:=k2 _ _ ho1
 have hT2:Shared.TypeIs { s1 with heap:=h2} (.ref a) "set" :=⟨o,ho2,hx.1⟩
 have hL2:=k2 _ _ hL1
 refine jFI hT2 ?_
 rw[am (by decide+kernel)]
 refine aa (cx ?_)
 have hne:s.heap.objs.size≠s1.heap.objs.size:=by lia
 refine aa ?_
 show wpAny _ A.in1 (updateSeq s.heap.objs.size (·.push .none) >>= λ_=>updateSeq s.heap.objs.size (·.pop)) _ _ _
 refine aa (hG hL2 rfl ?_)
 have hL3:=bY (Obj.mapSeq (·.push Value.none)) hL2 rfl
 refine hG hL3 rfl ?_
 have hL4:=bY (Obj.mapSeq (·.pop)) hL3 rfl
 have oth:∀b u,b≠s.heap.objs.size->h2.get? b=some u->((h2.update s.heap.objs.size (Obj.mapSeq (·.push Value.none))).update s.heap.objs.size (Obj.mapSeq (·.pop))).get? b=some u:=
  λb u hb e=>(bf _ _ (dh hb)).trans ((bf _ _ (dh hb)).trans e)
 have W:=(jDM (prog:=prog) (A:=A.in1) (a:=a) (I:=s1.heap.objs.size) hh (aO (show a<s1.heap.objs.size by rw[hz1]; exact bK ha)) hd T).toS
 have z24:es.size<=sizeLine:=by have:=T.line; rw[show sizeLine=2 ^ 24 from rfl]; lia
 refine ae ⟨eX iH _,codeAny_extend_loopS W z24 s.heap.objs.size (by simp [hne,hSa]) _ es.size 0 _ _ _ rfl (aS _) ⟨oth _ _ (dh hne) hI2,oth _ _ (dh hSa) ho2⟩ hL4 (ItemsOf.nil _) λs' acc' c' hm hS' hacc=>?_⟩
 show wpAny _ A (load s.heap.objs.size >>= _) _ _ s'
 refine aa (ga hS' ?_)
 have eacc:acc'.toList=told w a ep es:=by
  apply iP
  intro i
  by_cases hi:i<es.size
  ·have hi':i<acc'.size:=by rw[hacc.1]; exact hi
   have:=hacc.2 i acc'[i] (by simp [hi'])
   rw[this]
   simp [hi']
  ·rw[cy (by rw[aw,hacc.1]; lia),cy (by rw[told_len]; lia)]
 refine ae ?_
 rw[eacc]
 refine hQ s' (λb u e=>?_) ?_ ?_ ?_ (aq hS')
 ·have hb:b≠s.heap.objs.size:=aO (aq e)
  have hb1:b≠s1.heap.objs.size:=aO (show b<s1.heap.objs.size by rw[hz1]; exact bK (aq e))
  exact hm.heap b u (by simp [hb,hb1]) (oth b u hb (k2 b u (by rw[<- hE]; exact ab _ e)))
 ·have:=hm.gens; rw[<- hE] at this; exact this
 ·have:=hm.drawn; rw[<- hE] at this; exact this
 ·have:=hm.os; rw[<- hE] at this; exact this
end
end SB
namespace L2
open PySem PySem.Spec PyProof.Rows
structure KeyS where
 TK:Heap->Value->List Int->Prop
 KR:Hp->V->List Int->Prop
 kd:List (List Int)->SortKind
 dc:Heap->Value->List Int
structure KeyOk (S:KeyS):Prop where
 of:∀{P:Program}{w:World}{H:Hp}{h:Heap}{v:V}{u:Value}{l:List Int},HOk P w H h->RelV v u->S.KR H v l->S.TK h u l
 mono:∀{H H':Hp}{v:V}{l:List Int},TupsK H H'->S.KR H v l->S.KR H' v l
 dec:∀{h:Heap}{u:Value}{l:List Int},S.TK h u l->S.dc h u=l
 kind:∀{prog:Program}{w:World}{A:Around}{E:Value->Shared->Prop}{s:Shared}{vs:List Value}{ws:List (List Int)}{Q:SortKind->Shared->Prop},All2 (S.TK s.heap) vs ws->vs≠ []->Q (S.kd ws) s->wpAny (model prog w) A (keyKind' vs.toArray) Q E s
 lt:∀{prog:Program}{w:World}{A:Around}{E:Value->Shared->Prop}{s:Shared}{ws:List (List Int)}{u v:Value}{x y:List Int}{Q:Bool->Shared->Prop},S.TK s.heap u x->S.TK s.heap v y->A.units+2<cLine->Q (HT.lexLt x y) s->wpAny (model prog w) A (keyLt' (S.kd ws) u v) Q E s
variable {S:KeyS}
section
variable {prog:Program}{w:World}{A:Around}{E:Value->Shared->Prop}{s:Shared}
noncomputable abbrev odK (S:KeyS)(ws:List (List Int))(h:Heap)(ks:List Value):TM.Od:=⟨S.kd ws,λp=>TM.rk (ks.map (S.dc h)) (S.dc h p.1),λp=>p.1∈ks⟩
theorem ltK (ok:KeyOk S){ks:List Value}{ws:List (List Int)}(t:All2 (S.TK s.heap) ks ws)(room:A.units+2<cLine): @TM.LtOk prog w A s (odK S ws s.heap ks):= @TM.LtOk.mk prog w A s (odK S ws s.heap ks) λ{E st x y Q} hk hx hy h=>by
 have e:decide (@TM.key (odK S ws s.heap ks) x< @TM.key (odK S ws s.heap ks) y)=HT.lexLt (S.dc s.heap x.1) (S.dc s.heap y.1):=TM.rk_lt (cY hx)
 rw[e] at h
 rw[lt'_eq]
 refine aA (gX ?_)
 rw[show kindOf st=S.kd ws from hk]
 obtain⟨i,hi⟩:=bw hx
 obtain⟨j,hj⟩:=bw hy
 obtain⟨l1,_,t1⟩:=t.get' hi
 obtain⟨l2,_,t2⟩:=t.get' hj
 rw[ok.dec t1,ok.dec t2] at h
 exact aA (iE (cP (ok.lt t1 t2 room ⟨rfl,aC h⟩)))
theorem jSS {α:Type}{R:α->α->Prop} :∀{l:List α},l.length<=1->l.Pairwise R
 | [],_=> .nil
 | [_],_=>ev _ _
 | _::_::_,h=>absurd h (by simp)
theorem jLP (ok:KeyOk S){D kS:Addr}{its ks:List Value}{ws:List (List Int)}{e1 e:Nat}{P:PySem.Fin->Shared->Prop}(hl:ks.length=its.length)(hz:its.length<=sizeLine)(t:All2 (S.TK s.heap) ks ws)(room:A.units+2<cLine)
  (hD:s.heap.get? D=some (seqObj "list" #[] e1)) (hK:s.heap.get? kS=some (seqObj "list" ks.toArray e)) (ne:D≠kS)
  (h:∀ps:List (Value×Value),ps.Perm (ks.zip its)->ps.Pairwise (λp q=>HT.lexLt (S.dc s.heap q.1) (S.dc s.heap p.1)=false)->
   P (.done (.ret .none)) { s with heap:=(s.heap.update kS (Obj.mapSeq λ_=>#[])).update D (Obj.mapSeq λ_=>(ps.map Prod.snd).toArray)}):
  wpAny (model prog w) A (ksk_end D false its.toArray e1 (.ref kS) ks.toArray) P E s:=by
 have hpz:(ks.toArray.zip its.toArray).toList=ks.zip its:=by simp
 have hpn:(ks.toArray.zip its.toArray).size=its.length:=by rw[<- aw,hpz,List.length_zip]; lia
 have hD2:(s.heap.update kS (Obj.mapSeq λ_=>(#[]:Array Value))).get? D=some (seqObj "list" #[] e1):=(bf _ _ (dh ne)).trans hD
 have tail:∀st:SortSt,failedOf st=none->(arrOf st).Perm (ks.toArray.zip its.toArray)->(arrOf st).toList.Pairwise (λp q=>HT.lexLt (S.dc s.heap q.1) (S.dc s.heap p.1)=false)->wpAny (model prog w) A (ksk_tail D false e1 (.ref kS) st) P E s:=λst hf hp hs=>by
  unfold ksk_tail
  dsimp only
  refine aa (d0 hK rfl ?_ (by rw[ak]; lia) (aS _))
  refine aa (iQ ?_)
  refine aa (iT hD2 rfl ?_)
  refine aa (d0 hD2 rfl ?_ (aS _) ?_)
  ·rw[hf]
   simp only [iU,cj,eS]
   refine ae ?_
   have:=h (arrOf st).toList (by rw[<- hpz]; exact b8.mp hp) hs
   have e:∀xs:Array Keyed,(xs.toList.map Prod.snd).toArray=xs.map (·.2):=λxs=>by rw[<- Array.toList_map,dU]
   rw[e] at this
   exact this
  ·simp only [cj,eS]
   rw[kx,hp.size_eq,hpn]
   lia
 unfold ksk_end
 dsimp only
 simp only [cj,eS]
 by_cases few:its.toArray.size<2
 ·rw[am few,am few]
  refine aa (ae ?_)
  rw[StateT.run_pure]
  refine aa (ae ?_)
  dsimp only
  refine tail (SortSt.mk' general' _ #[] 7 none) rfl (jz _) ?_
  show (ks.toArray.zip its.toArray).toList.Pairwise _
  rw[hpz]
  rw[ak] at few
  have:(ks.zip its).length<=1:=by rw[List.length_zip]; lia
  exact jSS this
 ·rw[ai few,ai few]
  rw[ak] at few
  have nek:ks≠ []:=λz=>by rw[z] at hl; simp at hl; lia
  have allk: @TM.AllI (odK S ws s.heap ks) (ks.toArray.zip its.toArray).toList:=λp hp=>by
   rw[hpz] at hp
   exact(eQ hp).1
  letI iO:TM.Od:=odK S ws s.heap ks
  haveI iL:TM.LtOk prog w A s:=ltK ok t room
  refine aa (ok.kind t nek (aa (cw (TM.wpS_sortRunsAny (a₀:=ks.toArray.zip its.toArray) (st:=SortSt.mk' (S.kd ws) _ #[] 7 none)
   (Q:=λ_ st'=>(arrOf st').Perm (ks.toArray.zip its.toArray)/\failedOf st'=none/\TM.STo (arrOf st') (ks.toArray.zip its.toArray).size)
   allk ⟨jz _,rfl,rfl,rfl⟩ (by rw[hpn]; lia) λst' a1 a2 a3=>⟨a1,a2,a3⟩) ?_ λ_ _ e=>e)))
  rintro ⟨⟨⟩,st'⟩ s' ⟨rfl,p1,p2,p3⟩
  dsimp only at p1 p2 p3 ⊢
  refine tail st' p2 p1 ?_
  have pl:=b8.mp p1
  rw[cH]
  intro i j hi hj hij
  rw[aw] at hi hj
  have sz:=p1.size_eq
  have k:=p3 i j (cQ hij) (by lia)
  have ei:(arrOf st')[i]?=some (arrOf st')[i]:=lB _ i hi
  have ej:(arrOf st')[j]?=some (arrOf st')[j]:=lB _ j hj
  have m2:(arrOf st')[j].1∈ks:=allk _ (pl.mem_iff.mp (by simp))
  rw[@TM.KI_key (odK S ws s'.heap ks) _ _ _ ei,@TM.KI_key (odK S ws s'.heap ks) _ _ _ ej] at k
  have e:decide (@TM.key (odK S ws s'.heap ks) (arrOf st')[j]< @TM.key (odK S ws s'.heap ks) (arrOf st')[i])=HT.lexLt (S.dc s'.heap (arrOf st')[j].1) (S.dc s'.heap (arrOf st')[i].1):=TM.rk_lt (cY m2)
  rw[g7,g7,<- e]
  exact aI (Int.not_lt.mpr k)
end
theorem Un.out {fs:List Addr}{H H':Hp}{h h1 h2:Heap}(u:Un fs [] H H' h h1)(k:∀b,b<h.objs.size->h2.get? b=h1.get? b):Un fs [] H H' h h2 where
 keep b o e n f x:=(k b (aq e)).trans (u.keep b o e n f x)
 slot b o e n f x:=by obtain⟨sl,q⟩:=u.slot b o e n f x; exact⟨sl,(k b (aq e)).trans q⟩
 free:=u.free
 there b o e x:=by obtain⟨o',q⟩:=u.there b o e x; exact⟨o',(k b (aq e)).trans q⟩
 tups:=u.tups
 frzs:=u.frzs
 tbls:=u.tbls
theorem Un.track {P:Program}{w:World}{fs:List Addr}{H H':Hp}{h h1:Heap}{D:Addr}{o:HO}(ok:HOk P w H h)(u:Un fs [] H H' h h1)(hD:h.objs.size<=D):Un fs [] H (upd H' D o) h h1 where
 keep:=u.keep
 slot:=u.slot
 free b ob e n x:=by rw[j7 (aO (aM (aq e) hD))]; exact u.free b ob e n x
 there:=u.there
 tups b xs e:=by rw[j7 (aO (aM (ok.lt e) hD))]; exact u.tups b xs e
 frzs b ob q e:=by rw[j7 (aO (aM (ok.lt e) hD))]; exact u.frzs b ob q e
 tbls b ps e:=by rw[j7 (aO (aM (ok.lt e) hD))]; exact u.tbls b ps e
theorem HOk.adopt {P:Program}{w:World}{H:Hp}{h:Heap}{D:Addr}{o:HO}(ok:HOk P w H h)(hn:H D=none)(new:ObjOk P w (upd H D o) h D o):HOk P w (upd H D o) h:=λb u e=>by
 by_cases hb:b=D
 ·subst hb; rw[j6] at e; cases e; exact new
 ·rw[j7 hb] at e
  exact(ok b u e).stay (λc v _ q=>q) (λc q=>by rw[j7 (jA q hn)]; exact q) λc xs q=>by rw[j7 (jA q hn)]; exact q
section
variable {X:Cx}
theorem Inv.repin {lF:List (Addr×Obj)}{σ:St}{H:Hp}{s:Shared}{D kS:Addr}{oD oK oK':Obj}{f:Obj->Obj}(I:Inv X (lF++[(D,oD),(kS,oK)]) σ H s)(fk:FpOk X lF H kS)(ne:D≠kS)(e:(s.heap.update kS f).get? kS=some oK')(hc:∀v,oK'.data≠ .cell v):
  Inv X (lF++[(D,oD),(kS,oK')]) σ H { s with heap:=s.heap.update kS f} :=by
 obtain⟨f0,f1,f2,f3,f4,f5⟩:=fk
 have I1:Inv X (lF++[(D,oD)]) σ H s:=I.pins_of λp hp=>I.pin p (au _ (by
  rcases aK.mp hp with z | z
  ·exact aQ _ z
  ·exact au _ (by rw[aN] at z; rw[z]; exact ax ..)))
 have I2:Inv X (lF++[(D,oD)]) σ H { s with heap:=s.heap.update kS f,toks:=s.toks} :=I1.turned (it:=kS) (λb o hb q=>(bf _ _ (dh hb)).trans q) f0 f1 f3 f4 λp hp=>by
  rcases aK.mp hp with z | z
  ·exact f5 p (aQ _ z)
  ·rcases aK.mp z with z | z
   ·exact f5 p (au _ z)
   ·rw[aN] at z
    rw[z]
    exact ne
 refine I2.pins_of λp hp=>?_
 rcases aK.mp hp with z | z
 ·exact I2.pin p (au _ (aQ _ z))
 ·rcases aF.mp z with z | z
  ·exact I2.pin p (au _ (au _ (by rw[z]; exact ax ..)))
  ·rw[aN] at z
   rw[z]
   exact⟨e,f0,f1,f2,hc⟩
theorem jPO (ok:KeyOk S){P:Program}{w:World}{H:Hp}{h:Heap}(hk:HOk P w H h){KF:V->List Int} :∀{lI:List V}{ks:List Value}{us:List V},Vals lI ks->All2 (λkv v=>S.KR H kv (KF v)) lI us->All2 (S.TK h) ks (us.map KF)
 | [],_,[], .nil,_=>trivial
 | _::_,_,_::_, .cons r rs,⟨t,ts⟩=>⟨ok.of hk r t,jPO ok hk rs ts⟩
theorem jGA:∀{us:List V}{its:List Value},Vals us its->(∀v∈us,∃a,v=V.ref a)->its.map refV=us
 | [],_, .nil,_=>rfl
 | v::us,_, .cons r rs,h=>by
  obtain⟨a,e⟩:=h v (ax ..)
  subst e
  cases r
  rw[bg,jGA rs λw hw=>h w (ay _ hw)]
  rfl
theorem jDT:∀{its:List Value},(∀u∈its,∃a,u=Value.ref a)->Vals (its.map refV) its
 | [],_=> .nil
 | u::its,h=>by
  obtain⟨a,e⟩:=h u (ax ..)
  subst e
  exact .cons rfl (jDT λw hw=>h w (ay _ hw))
theorem jFU:∀{us:List V}{its:List Value},Vals us its->(∀v∈us,∃a,v=V.ref a)->∀u∈its,∃a,u=Value.ref a
 | [],_, .nil,_,u,hu=>by cases hu
 | v::us,_, .cons r rs,h,u,hu=>by
  obtain⟨a,e⟩:=h v (ax ..)
  subst e
  cases r
  rcases aF.mp hu with z | z
  ·exact⟨a,z⟩
  ·exact jFU rs (λw hw=>h w (ay _ hw)) u z
theorem jK6 {ks its:List Value}{f:Value->List Int}{g:Value->List Int} :∀{ks its:List Value}{us:List V}{KF:V->List Int},ks.map f=us.map KF->its.map refV=us->∀p∈ks.zip its,f p.1=KF (refV p.2)
 | [],_,_,_,_,_,p,hp=>by cases hp
 | _::_,[],_,_,_,_,p,hp=>by cases hp
 | k::ks,u::its,us,KF,e1,e2,p,hp=>by
  subst e2
  rw[bg,bg,bg] at e1
  injection e1 with q1 q2
  rw[dJ] at hp
  rcases aF.mp hp with z | z
  ·rw[z]; exact q1
  ·exact jK6 (ks:=ks) (its:=its) (f:=f) (g:=g) q2 rfl p z
theorem jOZ (ok:KeyOk S){h:Heap} :∀{ks:List Value}{ws:List (List Int)},All2 (S.TK h) ks ws->ks.map (S.dc h)=ws
 | [],[],_=>rfl
 | _::_,_::_,⟨t,r⟩=>by rw[bg,ok.dec t,jOZ ok r]
end
end L2
namespace TM
open PySem PySem.Spec PyProof.Rows PySem.W
open L2 (All2)
def TupP (h:Heap)(v:Value)(l:List Int):Prop:=∃a m n t c lot,v= .ref a/\h.get? a=some { cls:= .type "tuple",data:= .seq #[.int n t, .ref c] m} /\TupI h (.ref c) lot/\l=n::lot
noncomputable def decP (h:Heap):Value->List Int
 | .ref a=>match h.get? a with
  | some o=>match o.data with
   | .seq xs _=>match xs.toList with
    | [k,c]=>numOf k::decV h c
    | _=> []
   | _=> []
  | none=> []
 | _=> []
theorem TupP.dec {h:Heap}{v:Value}{l:List Int}(t:TupP h v l):decP h v=l:=by
 obtain⟨a,m,n,t,c,lot,rfl,ho,hc,rfl⟩:=t
 dsimp only [decP]
 rw[ho]
 show n::decV h (.ref c)=_
 rw[hc.dec]
section
variable {prog:Program}{w:World}{A:Around}{E:Value->Shared->Prop}{s:Shared}
theorem eqTup {u v:Value}{x y:List Int}(hu:TupI s.heap u x)(hv:TupI s.heap v y)(room:A.units+1<cLine):SeqAt.EqAt A s u v (decide (x=y)):=by
 obtain⟨a,n,its,rfl,ho,hi⟩:=hu
 obtain⟨b,m,its2,rfl,ho2,hi2⟩:=hv
 by_cases e:a=b
 ·subst e
  rw[ho] at ho2
  cases ho2
  have:x=y:=hi.nums.symm.trans hi2.nums
  rw[ar this]
  exact SeqAt.EqAt.same _
 ·refine SeqAt.EqAt.of_refs e ?_
  have key:=SeqAt.RcAt.tuples (A:=A) (s:=s) (l:=a) (b:=b) (items:=its) (items2:=its2) (e:=λj=>decide (x.getD j 0=y.getD j 0)) ⟨_,ho,rfl,n,rfl⟩ ⟨_,ho2,rfl,m,rfl⟩ (by lia) λj h1 h2=>by
   have at1:∀{vs:List Value}{ns:List Int},IntsAre vs ns->∀(j:Nat) (h:j<vs.length),∃t,vs[j]=Value.int (ns.getD j 0) t:=by
    intro vs ns h
    induction h with
    | nil=>intro j h; cases h
    | cons n t _ ih=>
     intro j h
     cases j with
     | zero=>exact⟨t,rfl⟩
     | succ j=>exact ih j (Nat.lt_of_succ_lt_succ h)
   obtain⟨t1,e1⟩:=at1 hi j (by rw[aw]; exact h1)
   obtain⟨t2,e2⟩:=at1 hi2 j (by rw[aw]; exact h2)
   rw[g7] at e1 e2
   rw[e1,e2]
   exact eF _ t1 _ t2
  have l1:its.size=x.length:=by rw[<- hi.nums,af,aw]
  have l2:its2.size=y.length:=by rw[<- hi2.nums,af,aw]
  have ee:((List.range (min its.size its2.size)).all (λj=>decide (x.getD j 0=y.getD j 0))&&its.size==its2.size)=decide (x=y):=by
   rw[bH,bE,bz,aV,jq,l1,l2]
   constructor
   ·rintro ⟨h1,h2⟩
    refine List.ext_getElem h2 λj q1 q2=>?_
    have:=aE (h1 j (be.mpr (by lia)))
    rw[aB,aB,aG q1,aG q2] at this
    exact this
   ·intro z
    subst z
    exact⟨λj _=>ar rfl,rfl⟩
  rw[ee] at key
  exact key
theorem jDX:∀{vs:List Value}{ws:List (List Int)},All2 (TupP s.heap) vs ws->∃fs:List Value,KatTups s.heap vs fs/\fs.length=vs.length/\∀v∈fs,∃n t,v=Value.int n t
 | [],[],_=>⟨[],trivial,rfl,λv h=>by cases h⟩
 | v::vs,l::ws,⟨⟨a,m,n,t,c,lot,e,ho,hc,_⟩,r⟩=>by
  obtain⟨fs,h1,h2,h3⟩:=jDX r
  refine⟨.int n t::fs,⟨⟨a,_,_,m,e,ho,rfl,rfl,rfl⟩,h1⟩,bQ (· +1) h2,λv hv=>?_⟩
  rcases aF.mp hv with z | z
  ·exact⟨n,t,z⟩
  ·exact h3 v z
theorem pair_kind {vs:List Value}{ws:List (List Int)}{Q:SortKind->Shared->Prop}(t:All2 (TupP s.heap) vs ws)(h2:vs≠ [])(h:Q (tuples' true) s):wpAny (model prog w) A (keyKind' vs.toArray) Q E s:=by
 obtain⟨fs,f1,f2,f3⟩:=jDX t
 refine kat_kind (T:= .type "int") f1 (by rw[f2]; exact ie.mpr h2) (λv hv=>?_) rfl h
 obtain⟨n,t',e⟩:=f3 v hv
 rw[e]
 exact .now
theorem pair_lt {u v:Value}{x y:List Int}{Q:Bool->Shared->Prop}(hu:TupP s.heap u x)(hv:TupP s.heap v y)(room:A.units+2<cLine)(h:Q (HT.lexLt x y) s):wpAny (model prog w) A (keyLt' (tuples' true) u v) Q E s:=by
 obtain⟨a,m,n,t,c,lot,rfl,ho,hc,rfl⟩:=hu
 obtain⟨a2,m2,n2,t2,c2,lot2,rfl,ho2,hc2,rfl⟩:=hv
 refine kat_lt ho rfl ho2 rfl ?_
 show KatLex prog w A true false Q [(.int n t, .int n2 t2),(.ref c, .ref c2)] 0 s
 rw[HT.lexLt_cons] at h
 refine kat_cons (eF n t n2 t2 prog w _ _ ?_)
 by_cases e:n=n2
 ·rw[am e] at h
  rw[show (n==n2)=true by simp [e]]
  refine kat_yes (kat_cons (eqTup hc hc2 (by lia) prog w _ _ ?_))
  by_cases e2:lot=lot2
  ·rw[e2,jHL] at h
   rw[ar e2]
   exact kat_yes (kat_nil h)
  ·rw[aI e2]
   refine kat_no ?_
   obtain⟨b1,k1,its1,q1,o1,i1⟩:=hc
   obtain⟨b2,k2,its2,q2,o2,i2⟩:=hc2
   cases q1
   cases q2
   exact kat_one _ _ (HT.lt_tupInts (items:=its1) (items2:=its2) ⟨_,o1,rfl,k1,rfl⟩ ⟨_,o2,rfl,k2,rfl⟩ i1 i2 (by lia) h)
 ·rw[ai e] at h
  rw[show (n==n2)=false by simp [e]]
  exact kat_no (jL7 h)
end
end TM
namespace L2
open PySem PySem.Spec PyProof.Rows
def PairR (H:Hp)(v:V)(l:List Int):Prop:=∃t a n lot,v= .ref t/\H t=some (.tup [.int n, .ref a])/\H a=some (.tup (lot.map V.int))/\l=n::lot
theorem PairR.at {P:Program}{w:World}{H:Hp}{h:Heap}{v:V}{u:Value}{l:List Int}(ok:HOk P w H h)(r:RelV v u)(k:PairR H v l):TM.TupP h u l:=by
 obtain⟨t,a,n,lot,rfl,ht,ha,rfl⟩:=k
 cases r
 obtain⟨_,its,r2,m,ho⟩:=(show ObjOk P w H h t (.tup _) from ok t _ ht)
 obtain⟨_,its2,r3,m2,ho2⟩:=(show ObjOk P w H h a (.tup _) from ok a _ ha)
 cases r2 with
 | cons q1 q2=>
  cases q2 with
  | cons q3 q4=>
   cases q4
   obtain⟨tk,rfl⟩:=q1
   cases q3
   exact⟨t,m,n,tk,a,lot,rfl,ho,⟨a,m2,its2.toArray,rfl,ho2,jEM r3⟩,rfl⟩
def keyP:KeyS:=⟨TM.TupP,PairR,λ_=>tuples' true,TM.decP⟩
theorem jRU:KeyOk keyP where
 of:=PairR.at
 mono:=λt k=>let ⟨q,a,n,lot,e,h1,h2,h3⟩:=k; ⟨q,a,n,lot,e,t _ _ h1,t _ _ h2,h3⟩
 dec:=TM.TupP.dec
 kind:=TM.pair_kind
 lt:=TM.pair_lt
section
variable {X:Cx}{S:KeyS}
end
end L2
namespace TM
open PySem PySem.Spec PyProof.Rows
section
variable {prog:Program}{w:World}{A:Around}{E:Value->Shared->Prop}{s:Shared}
end
end TM
namespace L2
open PySem PySem.Spec PyProof.Rows
section
variable {X:Cx}{o:Expr}{td:TE}{apos cpos:Pos}{S:KeyS}
end
end L2
namespace TM
open PySem PySem.Spec PyProof.Rows
section
variable {prog:Program}{w:World}{A:Around}{E:Value->Shared->Prop}{s:Shared}{a:Addr}{o:Obj}{es:Array (Int×Value)}{ep:Nat}{t:SetTable}
theorem sorted_setT [Od]{vs:List Value}{Q:Value->Shared->Prop}(hh:A.handled=none)(hx:o.ExactSet)(ho:s.heap.get? a=some o)(hd:o.data= .set es ep t)(T:SB.Tab t es.size (SS.ledW w))(hvs:SS.told w a ep es=vs)(hI:AllI (pairsOf vs).toList)
  (hk:2<=vs.length->∀(s5:Shared) (a:Addr),(∀c o,s.heap.get? c=some o->s5.heap.get? c=some o)->s.heap.objs.size<=a->AskOk prog w A.in1.in1 s5 a vs)
  (h:∀(s':Shared) (l:Addr) (xs:Array Keyed) (e:Nat),s.heap.objs.size<=l->(∀b u,s.heap.get? b=some u->s'.heap.get? b=some u)->s'.gens=s.gens->s'.drawn=s.drawn->s'.os=s.os->s'.heap.get? l=some { cls:= .type "list",data:= .seq (xs.map (·.2)) e} ->xs.Perm (pairsOf vs)->STo xs (pairsOf vs).size->Q (.ref l) s'):
  wpAny (model prog w) A (call (.builtin "sorted") [.ref a]) Q E s:=by
 have hn:=T.line
 have hz:vs.length<=sizeLine:=by rw[<- hvs,SS.told_len,show sizeLine=2 ^ 24 from rfl]; lia
 refine fo kind_sorted plain_sorted entry_sorted (args_sorted1 _) ?_
 unfold Builtin.«sorted»
 refine aa (m:=checkCount "sorted" 1 1 _) (ae ?_)
 refine aa (SB.collect_set (A:=A.in1) hh hx ho hd T λs1 k1 g1 d1 o1 z1=>?_)
 rw[hvs]
 refine aa (eY ?_ hz)
 have hL:(s1.heap.push (seqObj "list" vs.toArray 0)).get? s1.heap.objs.size=some (seqObj "list" vs.toArray 0):=ao _ rfl
 show wpAny _ _ _ _ _ { s1 with heap:=s1.heap.push (seqObj "list" vs.toArray 0)}
 refine aa (bD (bo iy ⟨_,hL,rfl⟩ hV (by
  rw[jKX]
  exact jNK (s:= { s1 with heap:=s1.heap.push (seqObj "list" vs.toArray 0)}) hL hz hI (λh2=>hk h2 _ _ (λc o q=>ab _ (k1 c o q)) (cQ z1)) λxs p1 p2=>⟨_,rfl,ae ⟨_,rfl,by
   obtain⟨e,he⟩:=sortedHeap_at (out:=turned false (xs.map (·.2))) hL
   refine h { s1 with heap:=sortedHeap (s1.heap.push (seqObj "list" vs.toArray 0)) s1.heap.objs.size vs (turned false (xs.map (·.2)))} s1.heap.objs.size xs e (cQ z1) (λb u q=>?_) g1 d1 o1 he p1 p2
   have q1:=k1 b u q
   have hb:b<s1.heap.objs.size:=aq q1
   show (sortedHeap (s1.heap.push (seqObj "list" vs.toArray 0)) s1.heap.objs.size vs _).get? b=_
   rw[sortedHeap_old (aO hb) (by rw[iA]; exact bK hb)]
   exact ab _ q1⟩⟩) (args_list_sort _)))
end
end TM
namespace L2
open PySem PySem.Spec PyProof.Rows
def SetRf (w:World)(h:Heap)(a:Addr)(bs:List Addr):Prop:=∃o es ep t,h.get? a=some o/\o.ExactSet/\o.data= .set es ep t/\es.toList.map (·.2)=bs.map Value.ref/\SB.Tab t es.size (SS.ledW w)
def SetRO (w:World)(a:Addr)(bs:List Addr):HO:= .ext λh=>SetRf w h a bs
theorem jGJ:∀{its:List Value}{l:List Int},Vals (l.map V.int) its->ItemsAre (intKind P w) l its
 | _,[],r=>by cases r; exact .nil
 | _,i::l,r=>by
  rw[bg] at r
  cases r with
  | cons h t=>
   obtain⟨tk,rfl⟩:=(show ∃t,_=Value.int i t from h)
   exact .cons (by simp [intKind,Value.isInt]) (jGJ t)
theorem jN9 {α β:Type}{F:α->β->Prop}{l l':List α}(p:l'.Perm l):∀{r:List β},All2 F l r->∃r',All2 F l' r'/\r'.Perm r:=by
 induction p with
 | nil=>exact λ{r} h=>⟨r,h, .refl _⟩
 | cons x p ih=>
  intro r h
  cases r with
  | nil=>exact h.elim
  | cons b r=>
   obtain⟨r',h1,h2⟩:=ih h.2
   exact⟨b::r',⟨h.1,h1⟩,h2.cons b⟩
 | swap x y l=>
  intro r h
  match r,h with
  | b::c::r,⟨h1,h2,h3⟩=>exact⟨c::b::r,⟨h2,h1,h3⟩, .swap _ _ _⟩
 | trans p q ih1 ih2=>
  intro r h
  obtain⟨r1,h1,h2⟩:=ih2 h
  obtain⟨r2,h3,h4⟩:=ih1 h1
  exact⟨r2,h3,h4.trans h2⟩
variable {X:Cx}
theorem jMT (hc:X.calm=true)(hu:X.A.units+101<cLine):yT X (.type "set") (λxs H Q=>∃(p:Addr) (us:List V) (ws:List (List Int)),xs=[.ref p]/\SqL X.K H p us/\TsOf H us ws/\us.length<=300/\
  ∀(l:Addr) (bs:List Addr) (ws':List (List Int)),H l=none->TsOf H (bs.map V.ref) ws'->(∀z,z∈ws'↔z∈ws)->ws'.length<=300->Q (.ref l) (upd H l (SetRO X.w l bs))):=by
 intro lF s σ H xs us0 Q I r h
 obtain⟨p,us,ws,rfl,hq,ht,hl,q⟩:=h
 obtain⟨u,rfl,rx⟩:=r.one
 cases rx
 obtain⟨its,r',pl,hz⟩:=I.list hq
 have hlen:=r'.length
 have key:∀{us:List V}{its:List Value}{ws:List (List Int)},Vals us its->TsOf H us ws->All2 (λv m=>∃b,v=Value.ref b/\IsTupleKey (intKind X.prog X.w) s.heap m b) its ws:=by
  intro us its ws r t
  induction r generalizing ws with
  | nil=>cases ws with
   | nil=>trivial
   | cons=>exact t.elim
  | cons q rs ih=>
   cases ws with
   | nil=>exact t.elim
   | cons m ws=>
    obtain⟨⟨a,e,ha⟩,t⟩:=t
    subst e
    cases q
    obtain⟨_,its,r2,n,ho⟩:=(show ObjOk X.prog X.w H s.heap a (.tup _) from I.hok a _ ha)
    exact⟨⟨a,rfl,_,its.toArray,n,ho,rfl,rfl,by simpa using jGJ r2⟩,ih t⟩
 refine ST.set_of_list (I.ok.hd hc) hu pl.isList (ns:=ws) (by simpa using key r' ht) (by rw[ak]; lia) λh' tk ks S hm kp=>?_
 obtain⟨o,es,ep,t,ho,hex,hd,hp,T⟩:=S.ex
 have ats:∀(b:Addr) (m:List Int) (i:Nat),its.toArray[i]?=some (Value.ref b)->ws[i]?=some m->H b=some (.tup (m.map V.int)):=λb m i e1 e2=>by
  obtain⟨x,ex,a,ea,ha⟩:=All2.get ht e2
  obtain⟨u,eu,ru⟩:=r'.get ex
  subst ea
  cases ru
  have e1:its[i]?=some (Value.ref b):=by simpa using e1
  rw[eu] at e1
  cases e1
  exact ha
 have two:∀{l:List (Int×Value)}{ms:List (List Int)},Paired (ST.ElT X.prog X.w (λ(b:Addr) (m:List Int)=>∃i:Nat,its.toArray[i]?=some (Value.ref b)/\ws[i]?=some m) h') l ms->∃bs:List Addr,l.map (·.2)=bs.map Value.ref/\TsOf H (bs.map V.ref) ms:=by
  intro l ms r
  induction r with
  | nil=>exact⟨[],rfl,trivial⟩
  | @cons e m l ms f _ ih=>
   obtain⟨bs,h1,h2⟩:=ih
   obtain⟨_,b,e2,⟨i,i1,i2⟩,_⟩:=f
   exact⟨b::bs,by rw[bg,bg,h1,e2],⟨b,rfl,ats b m i i1 i2⟩,h2⟩
 obtain⟨bs,hb1,hb2⟩:=two hp
 exact⟨.ref s.heap.objs.size,_,I.laid (t':=tk) (o:=SetRO X.w s.heap.objs.size bs) kp (aj _) ⟨⟨o,es,ep,t,ho,hex,hd,hb1,T⟩,⟨o,ho⟩,λh1 h2 ⟨o,es,ep,t,ho,r⟩ k=>⟨o,es,ep,t,k o ho,r⟩⟩,rfl,q _ bs ks I.fresh hb2 hm S.len⟩
theorem jEC (hc:X.calm=true)(hu:X.A.units+101<cLine):yT X (.builtin "sorted") (λxs H Q=>∃(p:Addr) (bs:List Addr) (ws:List (List Int)),xs=[.ref p]/\H p=some (SetRO X.w p bs)/\TsOf H (bs.map V.ref) ws/\
  ∀(l:Addr) (us':List V) (ws':List (List Int)),H l=none->TsOf H us' ws'->ws'.Perm ws->Q (.ref l) (upd H l (.lst us'))):=by
 intro lF s σ H xs us0 Q I r h
 obtain⟨p,bs,ws,rfl,hp,ht,q⟩:=h
 obtain⟨u,rfl,rx⟩:=r.one
 cases rx
 obtain⟨⟨o,es,ep,t,ho,hex,hd,hb,T⟩,_,_⟩:=I.hok p _ hp
 have pm:=SS.told_perm X.w p ep es
 rw[hb] at pm
 have tp:∃ws1:List (List Int),TsOf H ((SS.told X.w p ep es).map refV) ws1/\ws1.Perm ws/\Vals ((SS.told X.w p ep es).map refV) (SS.told X.w p ep es):=by
  have rf:∀v∈SS.told X.w p ep es,∃a,v=Value.ref a:=λv hv=>by
   obtain⟨a,_,e⟩:=bW.mp (pm.mem_iff.mp hv)
   exact⟨a,e.symm⟩
  have p2:((SS.told X.w p ep es).map refV).Perm (bs.map V.ref):=by
   have:=pm.map refV
   rw[dH] at this
   exact this
  obtain⟨ws1,h1,h2⟩:=jN9 p2 ht
  exact⟨ws1,h1,h2,jDT rf⟩
 obtain⟨ws1,ht1,pw,r'⟩:=tp
 generalize hits:SS.told X.w p ep es=its at ht1 r'
 have d:=TsOf.tups I r' ht1
 have hat:=λv (hv:v∈its)=>ts_at r' ht1 d hv
 refine @TM.sorted_setT _ _ _ _ _ _ _ _ _ _ (TM.odL (TM.kdOf ws1) (TM.decV s.heap) its) its _ (I.ok.hd hc) hex ho hd T hits TM.allL (λh2 s5 a k5 ha=>?_) λs' l out e hl kp g dd oo he p1 p2=>?_
 ·have keep:∀{vs:List Value}{ls:List (List Int)},All2 (TM.TupI s.heap) vs ls->All2 (TM.TupI s5.heap) vs ls:=λh=>All2.imp (λv l ⟨c,n,its,e,ho,hi⟩=>⟨c,n,its,e,k5 _ _ ho,hi⟩) h
  refine TM.askT (s:=s5) (keep d) (λv l hv t=>?_) (λv hv e=>?_) (by rw[cE,cE]; lia) h2
  ·obtain⟨i,hi⟩:=bw hv
   obtain⟨l',hl',t'⟩:=d.get' hi
   obtain⟨l2,hl2,t2⟩:=(keep d).get' hi
   rw[hl'] at hl2
   cases hl2
   rw[t'.dec,<- t2.dec]
   exact t.dec
  ·obtain⟨c,e2,hc⟩:=hat v hv
   obtain⟨_,its2,_,n,ho⟩:=(show ObjOk X.prog X.w H s.heap c (.tup _) from I.hok c _ hc)
   rw[e2] at e
   cases e
   exact absurd (aq ho) (Nat.not_lt.mpr ha)
 ·obtain⟨h',g',d',t',o'⟩:=s'
  have g:g'=s.gens:=g
  have oo:o'=s.os:=oo
  have dd:d'=s.drawn:=dd
  subst g; subst oo; subst dd
  have o1:(out.map (·.2)).toList.Perm its:=by
   have pl:=b8.mp p1
   rw[Array.toList_map]
   have:=pl.map Prod.snd
   rw[pairsOf_toList,List.map_snd_zip (aj _)] at this
   exact this
  obtain⟨v1,v2⟩:=jSI (H:=H) (h:=s.heap) (out:=(out.map (·.2)).toList) λv hv=>hat v (o1.mem_iff.mp hv)
  have il:its.length<=306:=by rw[<- hits,SS.told_len]; exact T.line
  have hz2:((out.map (·.2)).toList.map refV).length<=sizeLine:=by
   rw[af,o1.length_eq,aH]
   lia
  have I2:Inv X lF σ (upd H l (.lst ((out.map (·.2)).toList.map refV))) { s with heap:=h',toks:=t'} :=I.laid (t':=t') kp hl ⟨hz2,(out.map (·.2)).toList,e,v1,by rw[dU]; exact he⟩
  refine⟨.ref _,_,I2,rfl,q _ _ ((out.map (·.2)).toList.map (TM.decV s.heap)) (I.hok.fresh hl) v2 ?_⟩
  refine List.Perm.trans ?_ pw
  rw[<- jI0 d]
  exact o1.map _
section
open Classical in
end
def jQ7 (X:Cx)(f:Value)(ks:List Str)(r:St->List V->List V->Hp->VK->Prop):Prop:=
 ∀(lF:List (Addr×Obj)) (s:Shared) (σ:St) (H:Hp) (xs zs:List V) (us ws:List Value) (Q:VK),Inv X lF σ H s->Vals xs us->Vals zs ws->r σ xs zs H Q->
  wpAny (model X.prog X.w) X.A (call f us (ks.zip ws)) (EP X lF σ Q) X.xe s
def tCBKS (r:St->List V->List V->Hp->VK->Prop)(t tk:TA):TE:=λσ H Q=>t σ H λvs H1=>tk σ H1 λzs H2=>r σ vs zs H2 Q
section
variable {x:Str}{p pos kpos:Pos}{e:Expr}{es:List Expr}{kws:List Keyword}{t tk:TA}{te:TE}{nm:Option Str}{ks:List Str}{id:String}{r:St->List V->List V->Hp->VK->Prop}
theorem jCP (hc:jQ7 X (.builtin id) ks r)(hg:Gl1 X x)(hm:X.mg x=none)(hv:bootBuiltins x=some (.builtin id))(ha:JA X (e::es) t)(hkw:JK X kws tk)(he:starEach (e::es) X.env=(false,eval e X.env)::starEach es X.env)
  (hn:x≠ "__name__" :=by decide) (hdb:(x==("__debug__" :Str))=false:=by decide) (hall:(backToKw pos (keywordEach kws X.env)).all (·.1.isSome)=true:=by rfl) (hks:(backToKw pos (keywordEach kws X.env)).filterMap (·.1)=ks:=by rfl)
  (hpl:(backTo pos (starEach es X.env)).any (·.1)=false:=by rfl) (hkn:(backToKw pos (keywordEach kws X.env)).any (·.1.isNone)=false:=by rfl):JE X (.Call (.Name x p) (e::es) kws pos) (tCBKS r t tk):=by
 refine⟨λlF s σ H Q I h=>?_⟩
 refine gc (jD4 I hg.a hm hv ?_ hn hdb)
 refine callWith_kw (lJ (ha.h pos lF s σ H _ I h) λus s1 ⟨vs,H1,I1,r1,q1⟩=>lJ (hkw.h pos lF s1 σ H1 _ I1 q1) λws s2 ⟨zs,H2,I2,rz,q2⟩=>?_) (by rw[he]; rfl) (by rw[he]; exact hpl) hall hkn
 rw[hks]
 exact hc lF s2 σ H2 vs zs us ws Q I2 r1 rz q2
end
section
variable {S:KeyS}
theorem jGK (ok:KeyOk S){Z:Shared->Hp->Prop}{k:Nat}{q:Addr}{zh:Hp->Prop}{sp:Sp}(F:Callee X.prog X.w X.K X.mg X.lG Z zh k q sp)(zo:∀H H',Ext H H'->zh H->zh H')(hr:Room k X.A.in1.in1){lF:List (Addr×Obj)}{σ:St}{H:Hp}{s:Shared}{D kS:Addr}{oD:Obj}{us:List V}{KF:V->List Int}{E:Value->Shared->Prop}
  (hZ:∀lF s H,Inv X lF σ H s->Z s H) (hkey:∀v∈us,∀(H1:Hp) (Q1:VK),Ext H H1->(∀r H2,S.KR H2 r (KF v)->Ext H1 H2->Q1 r H2)->sp [v] H1 Q1 E0) (fk:FpOk X lF H kS) (ne:D≠kS) (hkS:s.heap.objs.size<=kS)
  {body:Value->PUnit->Sem (ForInStep PUnit)}(hb:∀x (sj:Shared) (C:ForInStep PUnit->Shared->Prop),wpAny (model X.prog X.w) X.A.in1.in1 (call (.ref q) [x]) (λkv s''=>∃ks e,s''.heap.get? kS=some (seqObj "list" ks e)/\ks.size<sizeLine/\C (.yield ⟨⟩) { s'' with heap:=s''.heap.update kS (Obj.mapSeq (·.push kv))}) (λ_ _=>False) sj->wpAny (model X.prog X.w) X.A.in1.in1 (body x ⟨⟩) C E sj):
  ∀(r:List Value) (rv:List V) (ks:List Value) (lI dn:List V) (e:Nat) (sj:Shared) (Hj:Hp),Vals rv r->(∀v∈rv,v∈us)->ks.length+r.length<=sizeLine->
   Inv X (lF++[(D,oD),(kS,seqObj "list" ks.toArray e)]) σ Hj sj->Un (frs X.stack) [] H Hj s.heap sj.heap->Ext H Hj->zh Hj->Vals lI ks->All2 (λkv v=>S.KR Hj kv (KF v)) lI dn->
   wpAny (model X.prog X.w) X.A.in1.in1 (forIn r PUnit.unit body) (λ_ s'=>∃ks' lI' e' H',Inv X (lF++[(D,oD),(kS,seqObj "list" ks'.toArray e')]) σ H' s'/\Un (frs X.stack) [] H H' s.heap s'.heap/\Ext H H'/\Vals lI' ks'/\All2 (λkv v=>S.KR H' kv (KF v)) lI' (dn++rv)) E sj
 | [],rv,ks,lI,dn,e,sj,Hj,hv,hm,hz,I,u,ex,z,hk,al=>by
  rw[km]
  cases hv
  exact ae ⟨ks,lI,e,Hj,I,u,ex,hk,by rw[bI]; exact al⟩
 | x::r,rv,ks,lI,dn,e,sj,Hj,hv,hm,hz,I,u,ex,z,hk,al=>by
  cases hv with
  | @cons v _ rv' _ rx rs=>
  rw[aP] at hz
  rw[g9]
  refine aa (hb x sj _ ?_)
  have sp1:=hkey v (hm v (ax ..)) Hj (λr H2=>S.KR H2 r (KF v)/\Ext Hj H2) ex λr H2 h1 h2=>⟨h1,h2⟩
  refine lu (eE (F.run X.A.in1.in1 X.stack sj Hj [x] [v] _ E0 hr I.env0.in1.in1 (hZ _ _ _ I) z (.cons rx .nil) sp1) λfr s' hq=>?_)
  cases fr with
  | error e=>exact hq.elim
  | ok fl=>
   cases fl with
   | ret kv=>
    obtain⟨v',H2,os,bare,un,hok,rel,kr,e2⟩:=hq
    have I2:=Inv.call' I os un hok bare λb z=>absurd z (by simp)
    obtain⟨gk,nk,_,_,_⟩:=I2.pin (kS,seqObj "list" ks.toArray e) (au _ (au _ (ay _ (ax ..))))
    have ea:ks.toArray.push kv=(ks++[kv]).toArray:=by simp
    obtain⟨c2,hc2⟩:∃c2,(s'.heap.update kS (Obj.mapSeq (·.push kv))).get? kS=some (seqObj "list" (ks++[kv]).toArray c2):=⟨_,by rw[<- ea]; exact fY gk (·.push kv)⟩
    have I3:=I2.repin (oK':=seqObj "list" (ks++[kv]).toArray c2) ⟨nk,fk.2⟩ ne hc2 (by intro v q; cases q)
    refine⟨_,e,gk,by rw[ak]; lia,?_⟩
    show wpAny (model X.prog X.w) X.A.in1.in1 (forIn r PUnit.unit body) _ E _
    have u3:=(u.trans un).out (h2:=s'.heap.update kS (Obj.mapSeq (·.push kv))) λb hb=>bf _ _ (cK (aM hb hkS))
    have:=jGK ok F zo hr hZ hkey fk ne hkS hb r rv' (ks++[kv]) (lI++[v']) (dn++[v]) c2 _ H2 rs (λw hw=>hm w (ay _ hw)) (by rw[aJ,gL]; lia) I3 u3 (ex.trans e2) (zo _ _ e2 z) (hk.append (.cons rel .nil)) (All2.snoc (All2.imp (λa b q=>ok.mono (λc xs h=>e2 c _ h) q) al) kr)
    rw[aX] at this
    exact this
   | next=>exact False.elim hq
   | brk=>exact False.elim hq
   | cont=>exact False.elim hq
theorem jB1 {ι:Type}(ok:KeyOk S){k:Nat}{Z:ι->Shared->Hp->Prop}{G:ι->St->Prop}{sp:ι->Sp}{zh:Addr->Addr->Hp->Prop}(F:∀i q c,Callee X.prog X.w X.K X.mg X.lG (Z i) (zh q c) k q (sp i))(hZ:∀i lF s σ H,Inv X lF σ H s->G i σ->Z i s H)(zo:∀q c H H',Ext H H'->zh q c H->zh q c H')(hr:Room (k+2) X.A):
  jQ7 X (.builtin "sorted") [Str.ofString "key"] (λσ xs zs H Q=>∃(p:Addr) (us:List V) (q c:Addr) (KF:V->List Int) (i:ι),G i σ/\xs=[.ref p]/\zs=[.ref q]/\SqL X.K H p us/\zh q c H/\(∀v∈us,∃a,v=V.ref a)/\
   (∀v∈us,∀(H1:Hp) (Q1:VK),Ext H H1->(∀r H2,S.KR H2 r (KF v)->Ext H1 H2->Q1 r H2)->sp i [v] H1 Q1 E0)/\
   ∀(l:Addr) (us':List V) (H':Hp),H l=none->us'.Perm us->us'.Pairwise (λu v=>HT.lexLt (KF v) (KF u)=false)->Ext H H'->H' l=some (.lst us')->Q (.ref l) H'):=by
 intro lF s σ H xs zs us0 ws0 Q I r1 r2 h
 obtain⟨p,us,q,c,KF,i,gi,rfl,rfl,hp,hz,hrf,hkey,fin⟩:=h
 obtain⟨u,rfl,rx⟩:=r1.one
 cases rx
 obtain⟨u2,rfl,ry⟩:=r2.one
 cases ry
 obtain⟨its,rv,pl,hlen⟩:=I.list hp
 have rl:=rv.length
 show wpAny (model X.prog X.w) X.A (call (.builtin "sorted") [.ref p] [(Str.ofString "key", .ref q)]) (EP X lF σ Q) X.xe s
 refine call_function_entry_kw kind_sorted plain_sorted entry_sorted (ksk_s1 _ _) ?_
 unfold Builtin.«sorted»
 refine aa (m:=checkCount "sorted" 1 1 _) (ae ?_)
 refine aa (collect_list pl.isList ?_ (by lia))
 refine aa (eY ?_ (by lia))
 have hsz:((s.heap.push (seqObj "list" #[] 0)).update s.heap.objs.size (Obj.mapSeq (· ++its.toArray))).objs.size=s.heap.objs.size+1:=by
  rw[jd,iA]
 have hoL:(((s.heap.push (seqObj "list" #[] 0)).update s.heap.objs.size (Obj.mapSeq (· ++its.toArray))).push (seqObj "list" its.toArray 0)).get? (s.heap.objs.size+1)=some (seqObj "list" its.toArray 0):=by
  rw[<- hsz]; exact ao _ rfl
 have k5:∀b o,s.heap.get? b=some o->(((s.heap.push (seqObj "list" #[] 0)).update s.heap.objs.size (Obj.mapSeq (· ++its.toArray))).push (seqObj "list" its.toArray 0)).get? b=some o:=λb o q=>by
  refine ab _ ?_
  rw[bf _ _ (cK (aq q))]
  exact ab _ q
 have z5:(((s.heap.push (seqObj "list" #[] 0)).update s.heap.objs.size (Obj.mapSeq (· ++its.toArray))).push (seqObj "list" its.toArray 0)).objs.size=s.heap.objs.size+2:=by rw[iA,hsz]
 show wpAny _ _ _ _ _ { s with heap:=((s.heap.push (seqObj "list" #[] 0)).update s.heap.objs.size (Obj.mapSeq (· ++its.toArray))).push (seqObj "list" its.toArray 0)}
 rw[hsz]
 generalize ((s.heap.push (seqObj "list" #[] 0)).update s.heap.objs.size (Obj.mapSeq (· ++its.toArray))).push (seqObj "list" its.toArray 0)=h5 at hoL k5 z5
 have hD:s.heap.objs.size<=s.heap.objs.size+1:=g0 _
 have hDk:s.heap.objs.size+1≠h5.objs.size+1:=by lia
 have hkS:s.heap.objs.size<=h5.objs.size+1:=by lia
 generalize s.heap.objs.size+1=D at hoL hD hDk
 refine aa (bD (wpAny_call_entry_kw iy ⟨_,hoL,rfl⟩ hV ?body (ksk_l1 _ _)))
 case body=>
  show wpAny (model X.prog X.w) X.A.in1.in1 (Builtin.«list.sort» ⟨[.ref D],[(Str.ofString "key", .ref q)]⟩) _ _ _
  rw[ksk_t1]
  unfold ksk_tree
  refine aa (gA hoL rfl ?_)
  refine aa (d0 hoL rfl ?_ (by rw[ak]; lia) (aS _))
  obtain⟨e1,ho1⟩:∃e1,(h5.update D (Obj.mapSeq λ_=>(#[]:Array Value))).get? D=some (seqObj "list" #[] e1):=⟨_,fY hoL λ_=>#[]⟩
  refine aa (iT ho1 rfl ?_)
  refine aa (iB ?_ (by show its.length<=_; lia))
  refine aa (eY ?_ (aS _))
  refine bD ?_
  have hkz:((h5.update D (Obj.mapSeq λ_=>(#[]:Array Value))).push (seqObj "tuple" its.toArray 0)).objs.size=h5.objs.size+1:=by rw[iA,jd]
  have hoK:(((h5.update D (Obj.mapSeq λ_=>(#[]:Array Value))).push (seqObj "tuple" its.toArray 0)).push (seqObj "list" #[] 0)).get? (h5.objs.size+1)=some (seqObj "list" #[] 0):=by
   rw[<- hkz]; exact ao _ rfl
  have hoD:(((h5.update D (Obj.mapSeq λ_=>(#[]:Array Value))).push (seqObj "tuple" its.toArray 0)).push (seqObj "list" #[] 0)).get? D=some (seqObj "list" #[] e1):=ab _ (ab _ ho1)
  have k6:∀b o,s.heap.get? b=some o->(((h5.update D (Obj.mapSeq λ_=>(#[]:Array Value))).push (seqObj "tuple" its.toArray 0)).push (seqObj "list" #[] 0)).get? b=some o:=λb o z=>by
   refine ab _ (ab _ ?_)
   rw[bf _ _ (cK (aM (aq z) hD))]
   exact k5 b o z
  show wpAny _ _ (ksk_rest D (.ref q) false its.toArray e1 (.ref ((h5.update D (Obj.mapSeq λ_=>(#[]:Array Value))).push (seqObj "tuple" its.toArray 0)).objs.size)) _ _ { s with heap:=((h5.update D (Obj.mapSeq λ_=>(#[]:Array Value))).push (seqObj "tuple" its.toArray 0)).push (seqObj "list" #[] 0)}
  rw[hkz]
  generalize ((h5.update D (Obj.mapSeq λ_=>(#[]:Array Value))).push (seqObj "tuple" its.toArray 0)).push (seqObj "list" #[] 0)=h6 at hoK hoD k6
  generalize h5.objs.size+1=kS at hoK hkS hDk
  have fD:FpOk X lF H D:=I.fpOk hD (I.hok.fresh hD)
  have fK:FpOk X lF H kS:=I.fpOk hkS (I.hok.fresh hkS)
  have I6:Inv X lF σ H { s with heap:=h6,toks:=s.toks} :=I.kept k6
  have I7:Inv X (lF++[(D,seqObj "list" #[] e1),(kS,seqObj "list" ([]:List Value).toArray 0)]) σ H { s with heap:=h6} :=I6.pins_of λx hx=>by
   rcases aK.mp hx with z | z
   ·exact I6.pin x (au _ z)
   ·rcases aF.mp z with z | z
    ·rw[z]; exact⟨hoD,fD.1,fD.2.1,fD.2.2.1,by intro v q; cases q⟩
    ·rw[aN] at z
     rw[z]; exact⟨hoK,fK.1,fK.2.1,fK.2.2.1,by intro v q; cases q⟩
  have u7:Un (frs X.stack) [] H H s.heap h6:=Un.kept k6
  unfold ksk_rest
  refine aa (cx ?_)
  rw[<- iG]
  simp only [List.toList_toArray]
  refine aa (cw (jGK ok (F i q c) (zo q c) hr.in1.in1 (λ_ _ _ J=>hZ i _ _ _ _ J gi) hkey fK hDk hkS (λx sj C hx=>?_) its us [] [] [] 0 { s with heap:=h6} H rv (λv hv=>hv) (by rw[dF]; lia) I7 u7 (Ext.refl _) hz .nil trivial) (λ_ s' hd=>?_) λ_ _ x=>x)
  ·refine aa (cP (cw hx (λkv s'' hk=>?_) λ_ _ hF=>hF.elim))
   obtain⟨ks,e,gk,sz,hc⟩:=hk
   dsimp only
   refine aa (d0 gk rfl ?_ (cQ sz) (bM (Nat.le_of_eq (Array.size_push ..)) (by lia)))
   exact ae hc
  ·obtain⟨ks,lI,e,HN,IN,uN,eN,vk,al⟩:=hd
   rw[List.nil_append] at al
   obtain⟨gD,nD,_,_,_⟩:=IN.pin (D,seqObj "list" #[] e1) (au _ (au _ (ax ..)))
   obtain⟨gK,nK,_,_,_⟩:=IN.pin (kS,seqObj "list" ks.toArray e) (au _ (au _ (ay _ (ax ..))))
   refine aa (gA gK rfl ?_)
   have tk:=jPO ok IN.hok vk al
   have kl:ks.length=its.length:=by rw[<- vk.length,al.len]; exact rl
   have un:=hr.un
   refine jLP ok kl (by lia) tk (by rw[cE,cE]; lia) gD gK hDk λps pm pw=>⟨_,rfl,ae ⟨_,rfl,?_⟩⟩
   have bk:=jGA rv hrf
   have dk:∀x∈ks.zip its,S.dc s'.heap x.1=KF (refV x.2):=jK6 (g:=λ_=> []) (ks:=[]) (its:=[]) (jOZ ok tk) bk
   have pi:(ps.map Prod.snd).Perm its:=by
    have:=pm.map Prod.snd
    rw[List.map_snd_zip (by lia)] at this
    exact this
   have rf:∀u∈ps.map Prod.snd,∃a,u=Value.ref a:=λu hu=>jFU rv hrf u (pi.mem_iff.mp hu)
   have p1:((ps.map Prod.snd).map refV).Perm us:=by rw[<- bk]; exact pi.map _
   have p2:((ps.map Prod.snd).map refV).Pairwise λu v=>HT.lexLt (KF v) (KF u)=false:=by
    rw[dZ,dZ]
    exact(List.Pairwise.and_mem.mp pw).imp λ{a b} h=>by
     rw[<- dk a (pm.mem_iff.mp h.1),<- dk b (pm.mem_iff.mp h.2.1)]
     exact h.2.2
   obtain⟨e9,he9⟩:∃e9,((s'.heap.update kS (Obj.mapSeq λ_=>(#[]:Array Value))).update D (Obj.mapSeq λ_=>(ps.map Prod.snd).toArray)).get? D=some (seqObj "list" (ps.map Prod.snd).toArray e9):=⟨_,fY ((bf _ _ (dh hDk)).trans gD) λ_=>(ps.map Prod.snd).toArray⟩
   have oth:∀b,b≠D->b≠kS->((s'.heap.update kS (Obj.mapSeq λ_=>(#[]:Array Value))).update D (Obj.mapSeq λ_=>(ps.map Prod.snd).toArray)).get? b=s'.heap.get? b:=λb n1 n2=>(bf _ _ (dh n1)).trans (bf _ _ (dh n2))
   generalize (s'.heap.update kS (Obj.mapSeq λ_=>(#[]:Array Value))).update D (Obj.mapSeq λ_=>(ps.map Prod.snd).toArray)=hf at he9 oth
   have nt:∀b o,HN b=some o->b≠D/\b≠kS:=λb o z=>⟨λy=>(by rw[y,nD] at z; cases z),λy=>(by rw[y,nK] at z; cases z)⟩
   have ok1:HOk X.prog X.w HN hf:=λb o z=>(IN.hok b o z).stay (λc v hc y=>by
    have:c≠D/\c≠kS:=by
     rcases hc with e | e
     ·rw[e]; exact nt b o z
     ·exact nt c _ e
    rw[oth c this.1 this.2]
    exact y) (λ_ y=>y) λ_ _ y=>y
   have pz:((ps.map Prod.snd).map refV).length<=sizeLine:=by rw[af,pi.length_eq]; lia
   have ok2:HOk X.prog X.w (upd HN D (.lst ((ps.map Prod.snd).map refV))) hf:=ok1.adopt nD ⟨pz,ps.map Prod.snd,e9,jDT rf,he9⟩
   have u9:Un (frs X.stack) [] H (upd HN D (.lst ((ps.map Prod.snd).map refV))) s.heap hf:=(uN.out λb hb=>oth b (aO (aM hb hD)) (aO (aM hb hkS))).track I.hok hD
   have I9:Inv X lF σ (upd HN D (.lst ((ps.map Prod.snd).map refV))) { s' with heap:=hf} :=Inv.call' I (IN.os.trans I.os.symm) u9 ok2 IN.bare λb z=>absurd z (by simp)
   exact⟨.ref D,_,I9,rfl,fin D _ _ (I.hok.fresh hD) p1 p2 (λb o z=>by rw[j7 (aO (aM (I.hok.lt z) hD))]; exact eN b o z) j6⟩
end
def IntK (u:Value)(l:List Int):Prop:=∃i t,u=Value.int i t/\l=[i]
def decI:Value->List Int
 | .int i _=> [i]
 | _=> []
theorem jGP:∀{vs:List Value}{ws:List (List Int)},All2 IntK vs ws->∃ns,IntsAre vs ns
 | [],[],_=>⟨[], .nil⟩
 | _::_,_::_,⟨⟨i,t,e,_⟩,r⟩=>by
  obtain⟨ns,h⟩:=jGP r
  rw[e]
  exact⟨i::ns, .cons i t h⟩
theorem jO8 (i:Int)(t:Tok):keyKind' [Value.int i t].toArray=pure oneType':=by
 have hI:IntsAre [Value.int i t] [i]:= .cons i t .nil
 rw[keyKind'_eq,gG,mapM_first_ints hI]
 simp [oneTypeOnly'_eq,gG,mapM_typeOf_ints hI]
theorem jOB {prog:Program}{w:World}{A:Around}{E:Value->Shared->Prop}{s:Shared}{vs:List Value}{ws:List (List Int)}{Q:SortKind->Shared->Prop}(t:All2 IntK vs ws)(h2:vs≠ [])(h:Q oneType' s):wpAny (model prog w) A (keyKind' vs.toArray) Q E s:=by
 obtain⟨ns,hI⟩:=jGP t
 match vs,hI,h2 with
 | [],_,h2=>exact absurd rfl h2
 | [_], .cons i t .nil,_=>
  rw[jO8]
  exact ae h
 | _::_::_,hI,_=>
  rw[keyKind_ints hI]
  exact ae h
def keyI:KeyS:=⟨λ_ u l=>IntK u l,λ_ v l=>∃i:Int,v=V.int i/\l=[i],λ_=>oneType',λ_ u=>decI u⟩
theorem jLT:KeyOk keyI where
 of:=λ{P w H h v u l} _ r k=>by
  obtain⟨i,rfl,rfl⟩:=k
  obtain⟨t,rfl⟩:=r
  exact⟨i,t,rfl,rfl⟩
 mono:=λ_ k=>k
 dec:=λ{h u l} k=>by
  obtain⟨i,t,rfl,rfl⟩:=k
  rfl
 kind:=λ{prog w A E s vs ws Q} t h2 h=>jOB t h2 h
 lt:=λ{prog w A E s ws u v x y Q} hu hv room h=>by
  obtain⟨i,t,rfl,rfl⟩:=hu
  obtain⟨j,t',rfl,rfl⟩:=hv
  show wpAny (model prog w) A (keyLt' oneType' _ _) Q E s
  rw[keyLt'_oneType]
  refine oneLt_int ?_
  have e:HT.lexLt [i] [j]=decide (i<j):=by
   rw[HT.lexLt_cons]
   by_cases q:i=j
   ·rw[am q,q]
    simp [HT.lexLt]
   ·rw[ai q]
  rw[e] at h
  exact h
section
variable {tg:Expr}
end
end L2
open PySem L2
variable {P:Program}{w:World}{K:W.Frag}{mg:Str->Option Value}{lG:Heap}{f fT fL fW fR fI fM fC tb a c c0:Addr}{fdT fdL fdW fdR fdI fdM fdC:FuncData}{lH:Value}{A:Around}{outer:List Env}{s:Shared}{H0:Hp}{E:XK}{cl:List (Str×Addr)}
namespace Eo
open PySem L2
def Keep (H H':Hp)(p:Addr):Prop:=∀b o,H b=some o->b≠p->H' b=some o
structure Txt (mg:Str->Option Value):Prop where
 len:mg "len" =none
 range:mg "range" =none
 tuple:mg "tuple" =none
 sorted:mg "sorted" =none
 set:mg "set" =none
 list:mg "list" =none
 int:mg "int" =none
 isinstance:mg "isinstance" =none
 bool:mg "bool" =none
 str:mg "str" =none
 all:mg "all" =none
 zip:mg "zip" =none
 max:mg "max" =none
 min:mg "min" =none
 any:mg "any" =none
 abs:mg "abs" =none
 sum:mg "sum" =none
 enumerate:mg "enumerate" =none
 dict:mg "dict" =none
structure Can (P:Program)(w:World)(K:W.Frag)(mg:Str->Option Value)(lG:Heap)(x:Str)(k:Nat)(f:Addr)(fd:FuncData)(ps:List Str)(sp:Sp):Prop where
 G:FnOk P w K mg lG CX0 k f fd ps sp
 m:mg x=some (.ref f)
 kp:keepIn K (.ref f)=true
 b:Binds K fd ps []
theorem Can.pe {X:Cx}{x:Str}{k:Nat}{f:Addr}{fd:FuncData}{ps:List Str}{sp:Sp}{e:Expr}{es:List Expr}{t:TA}{p pos:Pos}(C:Can X.prog X.w X.K X.mg X.lG x k f fd ps sp)(hr:Room k X.A)(hg:Gl X x)(ha:PA X (e::es) t)(hdb:(x==("__debug__" :Str))=false:=by decide)
  (he:starEach (e::es) X.env=(false,eval e X.env)::starEach es X.env:=by rfl) (hpl:(backTo pos (starEach es X.env)).any (·.1)=false:=by rfl):PE X (.Call (.Name x p) (e::es) [] pos) (tCall sp [] E0 t):=
 jQZ C.G hr hg C.m C.kp C.b .nil pass0 ha hdb he hpl
theorem Can.je {X:Cx}{x:Str}{k:Nat}{f:Addr}{fd:FuncData}{ps:List Str}{sp:Sp}{e:Expr}{es:List Expr}{t:TA}{p pos:Pos}(C:Can X.prog X.w X.K X.mg X.lG x k f fd ps sp)(hr:Room k X.A)(hg:Gl1 X x)(ha:JA X (e::es) t)(he:starEach (e::es) X.env=(false,eval e X.env)::starEach es X.env)
  (hdb:(x==("__debug__" :Str))=false:=by decide) (hpl:(backTo pos (starEach es X.env)).any (·.1)=false:=by rfl):JE X (.Call (.Name x p) (e::es) [] pos) (tCall sp [] E0 t):=
 ⟨C.pe hr hg.a ha.h hdb he hpl⟩
def jKH (K:W.Frag):Sp:=λvs H Q _=>∃(a:Addr) (ns:List Int) (k:Int),vs=[.ref a, .int k]/\SqL K H a (ns.map V.int)/\0<=k/\∀c:Int,Q (.int c) H
theorem jSN:FnScope ["script","k"] ["script","k"] (jB sCell):= {}
theorem jRE {f:Addr}{fd:FuncData}(F:Fun K "_law_cell_at" "_law_cell_at" sCell f fd)(T:Txt mg):FnOk P w K mg lG CX0 1 f fd ["script","k"] (jKH K):=by
 refine F.ok jSN (λvs H Q E h=>?_) (λlH A outer s H vs Q E hr h=>?_)
 ·obtain⟨a,ns,k,rfl,_⟩:=h
  rfl
 ·obtain⟨a,ns,k,rfl,hS,h0,q⟩:=h
  refine⟨_,y6 (ps_if (jDU op_lt (pv 1) (jF3 jG (by rfl) T.len PySem.boot_len (kI (pv 0) yQ)) (jN _)) (jAZ (jD3 (pe_ix yC (pv 0) (pv 1) (λ_ _=>rfl)))) jF1) (jAZ (jD3 jR)),?_⟩
  refine⟨_,rfl,_,rfl,a,_,rfl, .inl hS,_,_,rfl,rfl,_,rfl,?_⟩
  refine ite2 (λhlt=>?_) (λ_=>?_)
  ·have hlt:k<((ns.map V.int).length:Int):=aE hlt
   have hk:k.toNat<ns.length:=by rw[af] at hlt; lia
   refine⟨_,rfl,_,rfl,a,_,k, .int (ns[k.toNat]),rfl,rfl,hS,?_,q _⟩
   have e:(k.toNat:Int)=k:=by lia
   have q2:=jAQ (xs:=ns.map V.int) (j:=k.toNat) (v:=V.int ns[k.toNat]) (by simp [hk])
   rw[e] at q2
   exact q2
  ·exact q 0
def yF:Sp:=λvs H Q _=>∃(p:Addr) (N w:Int),vs=[.ref p, .int w]/\H p=some (.lst [.int N])/\0<=N/\0<w/\w<2 ^ 64/\∀N' r:Int,0<=N'->0<=r->r<w->Q (.int r) (upd H p (.lst [.int N']))
theorem scTake:FnScope ["pot","wide","found"] ["pot","wide"] (jB sTake):= {}
theorem jR5 {f:Addr}{fd:FuncData}(F:Fun K "_law_take" "_law_take" sTake f fd):FnOk P w K mg lG CX0 1 f fd ["pot","wide"] yF:=by
 refine F.ok scTake (λvs H Q E h=>?_) (λlH A outer s H vs Q E hr h=>?_)
 ·obtain⟨a,ns,k,rfl,_⟩:=h
  rfl
 ·obtain⟨p,N,w,rfl,hp,h0,h1,h2,q⟩:=h
  refine⟨_,y6 (qL (i:=2) scTake.nd rfl (Or.inl rfl) (kX jEK (pe_ix yC (pv 0) jR (λ_ _=>rfl)) (pv 1)))
   (y6 (jPC (kX jID (pe_ix yC (pv 0) jR (λ_ _=>rfl)) (pv 1)) (jT1 (pv 0) jR jNM))
   (jAZ (jD3 (pv 2)))),?_⟩
  refine⟨_,rfl,p,_,0, .int N,rfl,rfl,SqL.of hp,rfl,_,rfl,_,_,rfl,rfl,h1,?_⟩
  refine⟨_,rfl,p,_,0, .int N,rfl,rfl,SqL.of hp,rfl,_,rfl,_,_,rfl,rfl,⟨h1,h2⟩,?_⟩
  refine⟨_,rfl,p,_,0,0,rfl,rfl,hp,rfl,_,rfl,?_⟩
  exact q _ _ (Int.ediv_nonneg h0 (by lia)) (ka _ (by lia)) (iF _ h1)
def spPot:Sp:=λvs H Q _=>∃c:Int,vs=[.int c]/\∀(p:Addr) (N:Int),H p=none->0<=N->Q (.ref p) (upd H p (.lst [.int N]))
theorem scPot:FnScope ["cell","number","j","more"] ["cell"] (jB sPot):= {}
theorem jTD {f:Addr}{fd:FuncData}(F:Fun K "_law_pot" "_law_pot" sPot f fd)(T:Txt mg):FnOk P w K mg lG CX0 1 f fd ["cell"] spPot:=by
 refine F.ok scPot (λvs H Q E h=>?_) (λlH A outer s H vs Q E hr h=>?_)
 ·obtain⟨c,rfl,_⟩:=h
  rfl
 ·obtain⟨c,rfl,q⟩:=h
  have one: [V.int 0].length<=sizeLine:=by show 1<=sizeLine; decide
  refine⟨_,y6 (ps_if (jDU op_ge (pv 0) (kX jL3 jR jR) (jN _)) (jAZ (jD3 (jIC (kI (kX jC0 (pv 0) (kX jL3 jR jR)) yQ)))) jF1)
   (y6 (qL (i:=1) scPot.nd rfl (Or.inl rfl) jR)
   (y6 (jPB ck rfl (jBY rfl T.range (kI jR yQ)) (jF2 (i:=2) scPot.nd rfl (Or.inl rfl))
    (y6 (qL (i:=3) scPot.nd rfl (Or.inl rfl) (kX jEK (kX jC1 (kX kT (kX kT (kX jEK (pv 0) jR) (kX jC1 jR (pv 2))) jR) jR) jR))
    (y6 (qL (i:=3) scPot.nd rfl (Or.inl rfl) (kX jEK (kX kT (kX kT (kX jC1 (pv 3) (pv 3)) (kX jC1 jR (pv 2))) jR) jR))
    (jAZ (qL (i:=1) scPot.nd rfl (Or.inl rfl) (kX kT (kX jC1 (pv 1) jR) (pv 3)))))))
   (jAZ (jD3 (jIC (kI (pv 1) yQ)))))),?_⟩
  refine⟨_,rfl,_,_,rfl,rfl,⟨by decide,by decide,by decide⟩,_,_,rfl,rfl,_,rfl,?_⟩
  refine ite2 (λhge=>?_) (λ_=>?_)
  ·refine⟨_,rfl,_,_,rfl,rfl,⟨by decide,by decide,by decide⟩,_,_,rfl,rfl,one,λp hp=>q p _ hp ?_⟩
   exact Int.sub_nonneg_of_le (aE hge)
  ·refine⟨64,rfl,by decide,by decide,jCA (n:=64) (λi σ H2=>∃(num:Int) (v1 v2:Option V),σ=[some (.int c),some (.int num),v1,v2]/\0<=num/\H2=H) ⟨0,none,none,rfl,dy _,rfl⟩ ?_ ?_⟩
   ·rintro i σ H2 hi ⟨num,v1,v2,rfl,hn,rfl⟩
    refine⟨_,rfl,_,_,rfl,rfl,(by show (0:Int)<2147483629; decide),_,rfl,_,_,rfl,rfl, .inl ⟨by decide,by decide⟩,_,_,rfl,rfl,_,_,rfl,rfl,_,_,rfl,rfl, .inr ⟨by decide,by decide⟩,_,_,rfl,rfl,(by show (0:Int)<2147483647; decide),?_⟩
    refine⟨_,rfl,_,rfl,_,_,rfl,rfl, .inl ⟨?_,?_⟩,_,rfl,_,_,rfl,rfl, .inl ⟨by decide,by decide⟩,_,_,rfl,rfl,_,_,rfl,rfl,_,_,rfl,rfl,(by show (0:Int)<2147483587; decide),?_⟩
    ·lia
    ·lia
    ·refine⟨_,rfl,_,_,rfl,rfl, .inr ⟨by decide,by decide⟩,_,rfl,_,_,rfl,rfl,?_⟩
     refine⟨_,_,_,rfl,?_,rfl⟩
     lia
   ·rintro σ H2 ⟨num,v1,v2,rfl,hn,rfl⟩
    exact⟨_,rfl,one,λp hp=>q p num hp hn⟩
theorem jCG {H:Hp}{a:Addr}{o o':HO} :upd (upd H a o) a o'=upd H a o':=by
 funext b
 unfold upd
 by_cases h:b=a
 ·rw[am h,am h]
 ·rw[ai h,ai h,ai h]
theorem yJ {H:Hp}{a b:Addr}{o:HO}(h:upd H a o b=none):b≠a/\H b=none:=by
 have h1:b≠a:=λe=>by rw[e,j6] at h; cases h
 exact⟨h1,by rw[j7 h1] at h; exact h⟩
theorem Keep.refl (H:Hp)(p:Addr):Keep H H p:=λ_ _ h _=>h
theorem Keep.trans {H H1 H2:Hp}{p:Addr}(a:Keep H H1 p)(b:Keep H1 H2 p):Keep H H2 p:=λc o h n=>b c o (a c o h n) n
theorem Keep.upd {H H1:Hp}{p:Addr}(a:Keep H H1 p)(o:HO):Keep H (upd H1 p o) p:=λc u h n=>by rw[j7 n]; exact a c u h n
theorem Keep.new {H H1:Hp}{p l:Addr}(a:Keep H H1 p)(hl:H1 l=none)(o:HO):Keep H (L2.upd H1 l o) p:=λc u h n=>by
 have:=a c u h n
 rw[j7 (jA this hl)]
 exact this
theorem pw {w:Int}(h1:1<=w)(h2:w<=16):(2:Int)<=2 ^ w.toNat/\(2:Int) ^ w.toNat<=65536:=by
 have e:∀n:Nat,n<17->1<=n->(2:Int)<=2 ^ n/\(2:Int) ^ n<=65536:=by decide+kernel
 exact e w.toNat (by lia) (by lia)
structure Lot (w:Int)(ts:List Int):Prop where
 ris:ts.Pairwise (· < ·)
 bnd:∀z∈ts,0<=z/\z<w
 ne:ts≠ []
def bits (n:Int)(k:Nat):List Int:=((List.range k).filter λt=>decide (Builtin.bitAnd (n / 2 ^ t) 1=1)).map λ(t:Nat)=>(t:Int)
theorem jH1 (n:Int)(k:Nat):bits n (k+1)=bits n k++(if decide (Builtin.bitAnd (n / 2 ^ k) 1=1)=true then [(k:Int)] else []):=by
 unfold bits
 rw[eV,ci,aR]
 congr 1
 rw[gR]
 split <;> rfl
theorem jOT {n w:Int}(h1:1<=n)(hw:0<=w)(h2:n<2 ^ w.toNat):Lot w (bits n w.toNat):=by
 refine⟨?_,λz hz=>?_,?_⟩
 ·unfold bits
  rw[dZ]
  have:=(gH (n:=w.toNat)).filter (λt=>decide (Builtin.bitAnd (n / 2 ^ t) 1=1))
  exact this.imp λh=>by lia
 ·unfold bits at hz
  obtain⟨t,ht,rfl⟩:=bW.mp hz
  have:=be.mp (bU.mp ht).1
  lia
 ·obtain⟨m,rfl⟩:∃m:Nat,n=(m:Int):=⟨n.toNat,by lia⟩
  have hm:m≠0:=by lia
  have hlt:m<2 ^ w.toNat:=by
   have:((m:Nat):Int)<((2 ^ w.toNat:Nat):Int):=by rw[Int.natCast_pow]; exact h2
   lia
  obtain⟨i,hi⟩:=Nat.exists_testBit_of_ne_zero hm
  have hiw:i<w.toNat:=by
   rcases Nat.lt_or_ge i w.toNat with h | h
   ·exact h
   ·rw[eM (aM hlt (dX (by lia) h))] at hi
    cases hi
  have hb:Builtin.bitAnd ((m:Int) / 2 ^ i) 1=1:=by
   have e:((m:Int) / 2 ^ i)=((m / 2 ^ i:Nat):Int):=by rw[Int.natCast_ediv,Int.natCast_pow]; rfl
   rw[e,PyProof.Rows.bitAnd_pp (gb _) (by decide)]
   have e2:(((m / 2 ^ i:Nat):Int).toNat&&&(1:Int).toNat)=1:=by
    rw[bu]
    show (m / 2 ^ i)&&&1=1
    rw[Nat.and_one_is_mod]
    have:=hi
    rw[Nat.testBit_eq_decide_div_mod_eq] at this
    exact aE this
   rw[e2]
   rfl
  intro z
  have hmem:(i:Int)∈bits (m:Int) w.toNat:=by
   unfold bits
   exact bW.mpr ⟨i,bU.mpr ⟨be.mpr hiw,ar hb⟩,rfl⟩
  rw[z] at hmem
  cases hmem
def qT:Sp:=λvs H Q _=>∃(p:Addr) (N w:Int),vs=[.ref p, .int w]/\H p=some (.lst [.int N])/\0<=N/\1<=w/\w<=16/\
 ∀(q:Addr) (N':Int) (ts:List Int) (H':Hp),0<=N'->Lot w ts->H' q=some (.tup (ts.map V.int))->H' p=some (.lst [.int N'])->Keep H H' p->Q (.ref q) H'
theorem scLot:FnScope ["pot","wide","way","number","start","step","size"] ["pot","wide"] (jB sLot):= {}
theorem jTE {f fT:Addr}{fd fdT:FuncData}(F:Fun K "_law_lot" "_law_lot" sLot f fd)(T:Txt mg)(CT:Can P w K mg lG "_law_take" 1 fT fdT ["pot","wide"] yF):FnOk P w K mg lG CX0 2 f fd ["pot","wide"] qT:=by
 refine F.ok scLot (λvs H Q E h=>?_) (λlH A outer s H vs Q E hr h=>?_)
 ·obtain⟨a,ns,k,rfl,_⟩:=h
  rfl
 ·obtain⟨p,N,w,rfl,hp,hN,h1,h2,q⟩:=h
  have hpw:=pw h1 h2
  have nd:=scLot.nd
  refine⟨_,y6 (qL (i:=2) nd rfl (Or.inl rfl) (CT.pe hr rfl (kI (pv 0) (kI jR yQ))))
   (y6 (ps_if (jDU yR (pv 2) jR (jN _))
    (y6 (qL (i:=3) nd rfl (Or.inr rfl) (kX kT jR (CT.pe hr rfl (kI (pv 0) (kI (kX jC0 (kX jGC jR (pv 1)) jR) yQ)))))
    (jAZ (jD3 (jBZ jA0 rfl T.tuple (by decide+kernel) (kI
     (jHH (m:=[none,some 3]) (Nc:=["t","number"]) rfl (jBY rfl T.range (kI (pv 1) yQ)) rfl (by decide+kernel) (by decide+kernel) (kP (psc:=jB sLot))
      (jU (N:=["pot","wide","way","number","start","step","size"]) rfl rfl (by decide+kernel))
      (λcl C fp s H=>jF2 (i:=0) (show (["t","number"]:List Str).Nodup by decide+kernel) rfl (Or.inl rfl))
      (λcl C fp s H=>jKT (jDU yR (kX jL6 (kX jTB (pv 1) (pv 0)) jR) jR (jN _)))
      (λcl C fp s H=>pv 0)) yQ)))))
    jF1)
   (y6 (qL (i:=4) nd rfl (Or.inr rfl) (CT.pe hr rfl (kI (pv 0) (kI (pv 1) yQ))))
   (y6 (qL (i:=5) nd rfl (Or.inr rfl) (kX kT jR (CT.pe hr rfl (kI (pv 0) (kI jR yQ)))))
   (y6 (qL (i:=6) nd rfl (Or.inl rfl) (kX kT jR (CT.pe hr rfl (kI (pv 0) (kI (pe_ix yC (jIC (kI jR (kI jR (kI jR yQ)))) (kX jC0 (pv 2) jR) (λ_ _=>rfl)) yQ)))))
   (jAZ (jD3 (jBZ jA0 rfl T.tuple (by decide+kernel) (kI (jF3 (jEG rfl) rfl T.sorted (by decide+kernel) (kI (jBZ (jMU rfl) rfl T.set (by decide+kernel) (kI
     (jHH (m:=[none,some 4,some 5,some 1]) (Nc:=["j","start","step","wide"]) rfl (jBY rfl T.range (kI (pv 6) yQ)) rfl (by decide+kernel) (by decide+kernel) (kP (psc:=jB sLot))
      (jU (N:=["pot","wide","way","number","start","step","size"]) rfl rfl (by decide+kernel))
      (λcl C fp s H=>jF2 (i:=0) (show (["j","start","step","wide"]:List Str).Nodup by decide+kernel) rfl (Or.inl rfl))
      (λcl C fp s H=>jKU)
      (λcl C fp s H=>kX jEK (kX kT (pv 1) (kX jC1 (pv 2) (pv 0))) (pv 3))) yQ)) yQ)) yQ)))))))),?_⟩
  refine⟨_,rfl,p,N,4,rfl,hp,hN,by decide,by decide,λN1 way b1 b2 b3=>?_⟩
  have hp1:∀M,(upd H p (.lst [.int M])) p=some (.lst [.int M]):=λ_=>j6
  refine⟨_,rfl,rfl,_,rfl,?_⟩
  refine ite2 (λ_=>?_) (λhw0=>?_)
  ·refine⟨_,rfl,_,rfl,_,_,rfl,rfl,⟨by lia,by lia,by decide⟩,_,_,rfl,rfl,p,N1,_,rfl,hp1 _,b1,by lia,by lia,λN2 r2 c1 c2 c3=>⟨_,_,rfl,rfl,?_⟩⟩
   have hnum:1+r2<2 ^ w.toNat:=by lia
   refine⟨_,rfl,w,rfl,by lia,by lia,jBG (n:=w.toNat) (by rw[aH]; lia) (λD i σ' H' ys=>(∃v,σ'=[v,some (.int (1+r2))])/\ys=(bits (1+r2) i).map V.int/\H'=upd (upd (upd H p (.lst [.int N1])) p (.lst [.int N2])) D (.lst ys)) ?_ ?_ ?_ ?_⟩
   ·intro D hD
    exact⟨⟨_,rfl⟩,rfl,rfl⟩
   ·rintro D i σ' H' ys hD hi ⟨_,e1,e2⟩
    refine⟨by rw[e2]; exact j6,?_⟩
    rw[e1,af]
    unfold bits
    rw[af]
    exact bM (bP _ _) (by rw[b9]; exact aj _)
   ·rintro D i σ' H' ys hD hi ⟨⟨v,rfl⟩,rfl,rfl⟩
    refine⟨_,rfl,_,rfl,_,_,rfl,rfl,(by show (0:Int)<=0+(i:Int); lia),_,_,rfl,rfl,rfl,_,rfl,?_⟩
    have ei:(0+(i:Int)).toNat=i:=by lia
    refine ite2 (λhb=>?_) (λhb=>?_)
    ·have hb:Builtin.bitAnd ((1+r2) / 2 ^ i) 1=1:=by
      have:=aE hb
      rw[ei] at this
      exact V.int.inj this
     refine⟨_,rfl,j6,⟨_,rfl⟩,?_,jCG⟩
     rw[jH1,am (ar hb),aR]
     congr 1
     show [V.int (0+(i:Int))]=[V.int (i:Int)]
     rw[Int.zero_add]
    ·have hb:¬Builtin.bitAnd ((1+r2) / 2 ^ i) 1=1:=λe=>hb (ar (by rw[ei]; exact bQ V.int e))
     refine⟨⟨_,rfl⟩,?_,rfl⟩
     rw[jH1,ai (by simpa using hb),bI]
   ·rintro D σ' H' ys hD ⟨_,rfl,rfl⟩
    refine⟨D,_,rfl, .inl ⟨SqL.of j6,λqq hqq=>?_⟩⟩
    obtain⟨n1,n2⟩:=yJ hqq
    have pD:p≠D:=jA j6 hD
    have pq:p≠qq:=jA j6 n2
    exact q qq N2 (bits (1+r2) w.toNat) _ c1 (jOT (by lia) (by lia) hnum) j6 (by rw[j7 pq,j7 pD,j6]) (((((Keep.refl H p).upd _).upd _).new hD _).new hqq _)
  ·have hway:1<=way:=by
    have:¬way=0:=λe=>hw0 (ar (by rw[e]))
    lia
   refine⟨_,rfl,_,rfl,p,N1,w,rfl,hp1 _,b1,by lia,by lia,λN2 yV c1 c2 c3=>?_⟩
   rw[jCG]
   refine⟨_,rfl,p,N2,3,rfl,hp1 _,c1,by decide,by decide,λN3 st d1 d2 d3=>⟨_,_,rfl,rfl,?_⟩⟩
   rw[jCG]
   refine⟨_,rfl,(by show 3<=sizeLine; decide),λl hl=>?_⟩
   have pl:p≠l:=jA (hp1 _) hl
   obtain⟨wd,hwd,e1,e2⟩:∃wd:Int,atI [V.int 1,V.int 2,V.int 4] (way - 1)=some (.int wd)/\1<=wd/\wd<=4:=by
    rcases (show way=1\/way=2\/way=3 by lia) with e | e | e
    ·subst e; exact⟨1,rfl,by decide,by decide⟩
    ·subst e; exact⟨2,rfl,by decide,by decide⟩
    ·subst e; exact⟨4,rfl,by decide,by decide⟩
   refine⟨_,rfl,_,_,rfl,rfl,l,_,_,_,rfl,rfl,SqL.of j6,hwd,p,N3,wd,rfl,by rw[j7 pl]; exact hp1 _,d1,by lia,by lia,λN4 r4 g1 g2 g3=>⟨_,_,rfl,rfl,?_⟩⟩
   have kp:Keep H (upd (upd (upd H p (.lst [.int N3])) l (.lst [V.int 1,V.int 2,V.int 4])) p (.lst [.int N4])) p:=(((Keep.refl H p).upd _).new hl _).upd _
   have hp4:(upd (upd (upd H p (.lst [.int N3])) l (.lst [V.int 1,V.int 2,V.int 4])) p (.lst [.int N4])) p=some (.lst [.int N4]):=j6
   generalize (upd (upd (upd H p (.lst [.int N3])) l (.lst [V.int 1,V.int 2,V.int 4])) p (.lst [.int N4]))=H4 at kp hp4 ⊢
   refine⟨_,rfl,1+r4,rfl,by lia,by lia,jBG (n:=(1+r4).toNat) (by rw[aH]; lia) (λD i σ' H' ys=>(∃v,σ'=[v,some (.int yV),some (.int (1+st)),some (.int w)])/\(∃ns:List Int,ys=ns.map V.int/\ns.length=i/\∀z∈ns,0<=z/\z<w)/\H'=upd H4 D (.lst ys)) ?_ ?_ ?_ ?_⟩
   ·intro D hD
    exact⟨⟨_,rfl⟩,⟨[],rfl,rfl,λz hz=>by cases hz⟩,rfl⟩
   ·rintro D i σ' H' ys hD hi ⟨_,⟨ns,rfl,e,_⟩,rfl⟩
    exact⟨j6,by rw[af,e]; exact aj _⟩
   ·rintro D i σ' H' ys hD hi ⟨⟨v,rfl⟩,⟨ns,rfl,e,hb⟩,rfl⟩
    dsimp only [yA,qG]
    rw[am rfl]
    refine⟨_,rfl,_,rfl,_,rfl,_,_,rfl,rfl, .inl ⟨by lia,by lia⟩,_,_,rfl,rfl,_,rfl,_,_,rfl,rfl,(by show 0<w; lia),j6,⟨_,rfl⟩,⟨ns++[(yV+(1+st)*(0+(i:Int))) % w],by simp,by simp [e],λz hz=>?_⟩,jCG⟩
    rcases aK.mp hz with hz | hz
    ·exact hb z hz
    ·have:z=(yV+(1+st)*(0+(i:Int))) % w:=by simpa using hz
     rw[this]
     exact⟨ka _ (by lia),iF _ (by lia)⟩
   ·rintro D σ' H' ys hD ⟨_,⟨ns,rfl,e,hb⟩,rfl⟩
    refine⟨D,ns,rfl,SqL.of j6,by lia,λz hz=>⟨(hb z hz).1,by have:=(hb z hz).2; lia⟩,λl1 ks h11 hm1=>?_⟩
    refine⟨l1,ks,rfl,j6,λl2 ms h12 srt hm2=>?_⟩
    refine⟨l2,_,rfl, .inl ⟨SqL.of j6,λqq hqq=>?_⟩⟩
    have pD:p≠D:=jA hp4 hD
    have p1:p≠l1:=jA hp4 (yJ h11).2
    have p2:p≠l2:=jA hp4 (yJ (yJ h12).2).2
    have pq:p≠qq:=jA hp4 (yJ (yJ (yJ hqq).2).2).2
    refine q qq N4 ms _ g1 ⟨srt,λz hz=>hb z ((hm1 z).mp ((hm2 z).mp hz)),λz=>?_⟩ j6 (by rw[j7 pq,j7 p2,j7 p1,j7 pD]; exact hp4) ((((kp.new hD _).new h11 _).new h12 _).new hqq _)
    subst z
    cases ns with
    | nil=>simp at e; lia
    | cons x r=>
     have:=(hm2 x).mpr ((hm1 x).mpr ax)
     cases this
structure Ris (w:Int)(ts:List Int):Prop where
 ris:ts.Pairwise (· < ·)
 bnd:∀z∈ts,0<=z/\z<w
theorem Ris.nil (w:Int):Ris w []:=⟨.nil,λz hz=>by cases hz⟩
theorem Ris.take {w:Int}{ts:List Int}(h:Ris w ts)(k:Nat):Ris w (ts.take k):=⟨h.ris.sublist (fb _ _),λz hz=>h.bnd z (cg hz)⟩
theorem Ris.drop {w:Int}{ts:List Int}(h:Ris w ts)(k:Nat):Ris w (ts.drop k):=⟨h.ris.sublist (iJ _ _),λz hz=>h.bnd z (cc hz)⟩
theorem Ris.snoc {i:Nat}{ts:List Int}(h:Ris i ts):Ris (i+1:Nat) (ts++[(i:Int)]):=by
 refine⟨cA.mpr ⟨h.ris,ev _ _,λa ha b hb=>?_⟩,λz hz=>?_⟩
 ·have:=(h.bnd a ha).2
  have e:b=i:=by simpa using hb
  lia
 ·rcases aK.mp hz with q | q
  ·have:=h.bnd z q
   lia
  ·have e:z=i:=by simpa using q
   lia
theorem Ris.step {i:Nat}{ts:List Int}(h:Ris i ts):Ris (i+1:Nat) ts:=⟨h.ris,λz hz=>by have:=h.bnd z hz; lia⟩
def upto (n:Nat):List Int:=(List.range n).map λ(i:Nat)=>(i:Int)
theorem jM3 (n:Nat):jE6 n=(upto n).map V.int:=by
 unfold jE6 upto
 rw[dH]
 rfl
theorem jDD (n:Nat):Ris n (upto n):=by
 refine⟨?_,λz hz=>?_⟩
 ·unfold upto
  rw[dZ]
  exact gH.imp λh=>by lia
 ·unfold upto at hz
  obtain⟨t,ht,rfl⟩:=bW.mp hz
  have:=be.mp ht
  lia
def Tups (H H':Hp):Prop:=∀b xs,H b=some (.tup xs)->H' b=some (.tup xs)
theorem Tups.trans {H H1 H2:Hp}(a:Tups H H1)(b:Tups H1 H2):Tups H H2:=λc o h=>b c o (a c o h)
theorem Keep.tups {H H':Hp}{p:Addr}{xs:List V}(k:Keep H H' p)(hp:H p=some (.lst xs)):Tups H H':=λb ys hb=>k b _ hb λe=>by
 subst e
 rw[hb] at hp
 cases hp
theorem Tups.upd {H:Hp}{p:Addr}{xs:List V}(hp:H p=some (.lst xs))(o:HO):Tups H (upd H p o):=λb ys hb=>by
 rw[j7 (λe=>by subst e; rw[hb] at hp; cases hp)]
 exact hb
theorem Tups.new {H:Hp}{p:Addr}(hp:H p=none)(o:HO):Tups H (L2.upd H p o):=λb ys hb=>by
 rw[j7 (jA hb hp)]
 exact hb
def PcAt (H:Hp)(v:V)(pc:List Int×Int):Prop:=∃a q,v= .ref a/\H a=some (.tup [.ref q, .int pc.2])/\H q=some (.tup (pc.1.map V.int))
def PcsAt (H:Hp):List V->List (List Int×Int)->Prop
 | [],[]=>True
 | v::vs,p::ps=>PcAt H v p/\PcsAt H vs ps
 | _,_=>False
theorem PcAt.mono {H H':Hp}{v:V}{pc:List Int×Int}(h:PcAt H v pc)(t:Tups H H'):PcAt H' v pc:=by
 obtain⟨a,q,rfl,h1,h2⟩:=h
 exact⟨a,q,rfl,t _ _ h1,t _ _ h2⟩
theorem PcsAt.mono {H H':Hp}(t:Tups H H'):∀{vs:List V}{ps:List (List Int×Int)},PcsAt H vs ps->PcsAt H' vs ps
 | [],[],_=>trivial
 | _::_,_::_,h=>⟨h.1.mono t,PcsAt.mono t h.2⟩
 | [],_::_,h=>h.elim
 | _::_,[],h=>h.elim
theorem PcsAt.len {H:Hp} :∀{vs:List V}{ps:List (List Int×Int)},PcsAt H vs ps->vs.length=ps.length
 | [],[],_=>rfl
 | _::_,_::_,h=>bQ (· +1) (PcsAt.len h.2)
 | [],_::_,h=>h.elim
 | _::_,[],h=>h.elim
theorem PcsAt.put {H:Hp}{v:V}{p:List Int×Int}(hv:PcAt H v p):∀(k:Nat) {vs:List V}{ps:List (List Int×Int)},PcsAt H vs ps->PcsAt H (vs.take k++v::vs.drop k) (ps.take k++p::ps.drop k)
 | 0,_,_,h=>⟨hv,h⟩
 | _+1,[],[],_=>⟨hv,trivial⟩
 | k+1,_::_,_::_,h=>⟨h.1,PcsAt.put hv k h.2⟩
 | _+1,[],_::_,h=>h.elim
 | _+1,_::_,[],h=>h.elim
structure GoodPc (w:Int)(pc:List Int×Int):Prop where
 lot:Lot w pc.1
 lo: -1000000000000<=pc.2
 hi:pc.2<=1000000000000
structure BoxAt (H:Hp)(b:Addr)(w:Int)(mays:List Int)(pcs:List (List Int×Int)):Prop where
 ex:∃qm qp vs,H b=some (.tup [.int w, .ref qm, .ref qp])/\H qm=some (.tup (mays.map V.int))/\H qp=some (.tup vs)/\PcsAt H vs pcs
theorem BoxAt.mono {H H':Hp}{b:Addr}{w:Int}{mays:List Int}{pcs:List (List Int×Int)}(h:BoxAt H b w mays pcs)(t:Tups H H'):BoxAt H' b w mays pcs:=by
 obtain⟨qm,qp,vs,h1,h2,h3,h4⟩:=h.ex
 exact⟨qm,qp,vs,t _ _ h1,t _ _ h2,t _ _ h3,h4.mono t⟩
structure Good (mt mp:Int)(w:Int)(mays:List Int)(pcs:List (List Int×Int)):Prop where
 w0:0<=w
 w1:w<=mt
 mr:Ris w mays
 pl:(pcs.length:Int)<=mp
 pg:∀pc∈pcs,GoodPc w pc
theorem Keep.updNew {H H1:Hp}{p l:Addr}(a:Keep H H1 p)(hl:H l=none)(o:HO):Keep H (L2.upd H1 l o) p:=λc u h n=>by
 rw[j7 (jA h hl)]
 exact a c u h n
def spBox:Sp:=λvs H Q _=>∃(p:Addr) (N mt mp:Int),vs=[.ref p, .int mt, .int mp]/\H p=some (.lst [.int N])/\0<=N/\0<=mt/\mt<=16/\0<=mp/\mp<=32/\
 ∀(b:Addr) (N' w:Int) (mays:List Int) (pcs:List (List Int×Int)) (H':Hp),0<=N'->H' p=some (.lst [.int N'])->BoxAt H' b w mays pcs->Good mt mp w mays pcs->Keep H H' p->Q (.ref b) H'
noncomputable abbrev nBox:List Str:=["pot","most_things","most_pieces","wide","mays","left","far","pieces","k","size","things"]
theorem scBox:FnScope nBox ["pot","most_things","most_pieces"] (jB sBox):= {}
abbrev XBox (P:Program)(w:World)(K:W.Frag)(mg:Str->Option Value)(lG:Heap)(f:Addr)(lH:Value)(A:Around)(outer:List Env)(s:Shared)(H:Hp)(E:XK):Cx:=(cxOf CX0 P w K mg lG nBox "_law_box" (jB sBox) f lH A outer s H E).nox
def qC:Stmt->List Stmt
 | .For _ _ b _ _=>b
 | _=> []
def boxI {f fT fL:Addr}{fdT fdL:FuncData}{lH:Value}{A:Around}{outer:List Env}{s:Shared}{H:Hp}{E:XK}(T:Txt mg)(CT:Can P w K mg lG "_law_take" 1 fT fdT ["pot","wide"] yF)(CL:Can P w K mg lG "_law_lot" 2 fL fdL ["pot","wide"] qT)(hr:Room 2 (XBox P w K mg lG f lH A outer s H E).A): { t:TS // JSs (XBox P w K mg lG f lH A outer s H E) ((qC ((jE sBox).getD 7 (.Pass ⟨0,0,0,0⟩))).drop 4) t} :=
 have nd:=scBox.nd
 ⟨_,(jD (jFF (je_bm eB PySem.F.slot_list_insert PySem.F.type_list_insert jLE (jv 7 rfl vL) (j3 (CT.je (hr.mono (by decide)) gD (j3 (jv 0 rfl vC) (j3 (jS kT (jC jG gD T.len (by decide+kernel) (j3 (jv 7 rfl vL) j5 j4) j4) (j9)) j5 yH) j4) j4) (j3 (jIK (j3 (jv 10 rfl vL) (j3 (jS jC0 (CT.je (hr.mono (by decide)) gD (j3 (jv 0 rfl vC) (j3 (jv 6 rfl vL) j5 j4) j4) j4) (jS jID (jv 6 rfl vL) (j9))) j5 yH) j4)) j5 qA) jM) jM) kE))⟩
def boxL {f fT fL:Addr}{fdT fdL:FuncData}{lH:Value}{A:Around}{outer:List Env}{s:Shared}{H:Hp}{E:XK}(T:Txt mg)(CT:Can P w K mg lG "_law_take" 1 fT fdT ["pot","wide"] yF)(CL:Can P w K mg lG "_law_lot" 2 fL fdL ["pot","wide"] qT)(hr:Room 2 (XBox P w K mg lG f lH A outer s H E).A): { t:TS // JSs (XBox P w K mg lG f lH A outer s H E) (qC ((jE sBox).getD 7 (.Pass ⟨0,0,0,0⟩))) t} :=
 have nd:=scBox.nd
 ⟨_,(j8 (jQ (i:=9) nd rfl lL (jS kT (j9) (CT.je (hr.mono (by decide)) gD (j3 (jv 0 rfl vC) (j3 (j9) j5 jJ) j4) j4)) jG0)
   (j8 (jQ (i:=10) nd rfl lL (kU jA0 gD T.tuple (by decide+kernel) (j3 (jY kY (jv 5 rfl vL) kO (kJ (jv 9 rfl vL))) j5 jP) jP) kE)
   (j8 (jQ (i:=5) nd rfl lL (jY kY (jv 5 rfl vL) (kJ (jv 9 rfl vL)) kO) jI3)
   (j8 (kL (jO (jL5 hr.units0) (jv 10 rfl vL) (jIK j5) (jN _)) (jD (jQ (i:=10) nd rfl lL (CL.je hr gD (j3 (jv 0 rfl vC) (j3 (jv 3 rfl vL) j5 j4) j4) j4) kE)) jH)
   (boxI T CT CL hr).2))))⟩
def boxC {f fT fL:Addr}{fdT fdL:FuncData}{lH:Value}{A:Around}{outer:List Env}{s:Shared}{H:Hp}{E:XK}(T:Txt mg)(CT:Can P w K mg lG "_law_take" 1 fT fdT ["pot","wide"] yF)(CL:Can P w K mg lG "_law_lot" 2 fL fdL ["pot","wide"] qT)(hr:Room 2 (XBox P w K mg lG f lH A outer s H E).A): { t:TS // JSs (XBox P w K mg lG f lH A outer s H E) ((jE sBox).drop 5) t} :=
 have nd:=scBox.nd
 ⟨_,(j8 (jQ (i:=6) nd rfl lL (jT yC (jLX (j3 (j9) (j3 (j9) (j3 (jTV) j5 yH) jJ) jJ)) (CT.je (hr.mono (by decide)) gD (j3 (jv 0 rfl vC) (j3 (j9) j5 jJ) j4) j4) jCL) jI3)
   (j8 (jQ (i:=7) nd rfl lL (jLX j5) jFZ)
   (j8 (jBL ck rfl (jAT gD T.range (j3 (jS jC1 (CT.je (hr.mono (by decide)) gD (j3 (jv 0 rfl vC) (j3 (jS kT (jv 2 rfl vL) (j9)) j5 yH) j4) j4) (kU jGX gD T.int (by decide+kernel) (j3 (yN op_gt (jv 3 rfl vL) (j9) (jN _)) j5 jG7) jG7)) j5 yH) yH) (jZ (i:=8) nd rfl lL) (boxL T CT CL hr).2 yO)
   (jD (jI (jIK (j3 (jv 3 rfl vL) (j3 (jv 4 rfl vL) (j3 (kU jA0 gD T.tuple (by decide+kernel) (j3 (jv 7 rfl vL) j5 j4) j4) j5 jM) j4) j4)))))))⟩
def boxB {f fT fL:Addr}{fdT fdL:FuncData}{lH:Value}{A:Around}{outer:List Env}{s:Shared}{H:Hp}{E:XK}(T:Txt mg)(CT:Can P w K mg lG "_law_take" 1 fT fdT ["pot","wide"] yF)(CL:Can P w K mg lG "_law_lot" 2 fL fdL ["pot","wide"] qT)(hr:Room 2 (XBox P w K mg lG f lH A outer s H E).A): { t:TS // JSs (XBox P w K mg lG f lH A outer s H E) ((jE sBox).drop 3) t} :=
 have nd:=scBox.nd
 ⟨_,(j8 (jQ (i:=5) nd rfl lL (kU (jGW rfl) gD T.list (by decide+kernel) (j3 (kU jHX gD T.range (by decide+kernel) (j3 (jv 3 rfl vL) j5 j4) j4) j5 jM) jM) kE)
   (j8 (kL (jO yR (CT.je (hr.mono (by decide)) gD (j3 (jv 0 rfl vC) (j3 (j9) j5 jJ) j4) j4) (j9) (jN _)) (jD (jQ (i:=5) nd rfl lL (jLX j5) jFZ)) jH)
   (boxC T CT CL hr).2))⟩
def boxA {f fT fL:Addr}{fdT fdL:FuncData}{lH:Value}{A:Around}{outer:List Env}{s:Shared}{H:Hp}{E:XK}(T:Txt mg)(CT:Can P w K mg lG "_law_take" 1 fT fdT ["pot","wide"] yF)(CL:Can P w K mg lG "_law_lot" 2 fL fdL ["pot","wide"] qT)(hr:Room 2 (XBox P w K mg lG f lH A outer s H E).A): { t:TS // JSs (XBox P w K mg lG f lH A outer s H E) (jE sBox) t} :=
 have nd:=scBox.nd
 ⟨_,(j8 (jQ (i:=3) nd rfl lL (CT.je (hr.mono (by decide)) gD (j3 (jv 0 rfl vC) (j3 (jS kT (jv 1 rfl vL) (j9)) j5 yH) j4) j4) kE)
   (j8 (jQ (i:=4) nd rfl lL (jIK j5) jSK)
   (j8 (kL (jO yR (CT.je (hr.mono (by decide)) gD (j3 (jv 0 rfl vC) (j3 (j9) j5 jJ) j4) j4) (j9) (jN _)) (jD (jQ (i:=4) nd rfl lL (kU jA0 gD T.tuple (by decide+kernel) (j3 (y9 (m:=[none,some 0]) (Nc:=["t","pot"]) rfl (jAT gD T.range (j3 (jv 3 rfl vL) j5 j4) j4) rfl (by decide+kernel) (by decide+kernel) (kP (psc:=jB sBox)) (jU (N:=nBox) rfl rfl (by decide+kernel)) (λcl C fp s H=>jZ (i:=0) (show (["t","pot"]:List Str).Nodup by decide+kernel) rfl qH) (λcl C fp s H=>jFE (jO yR (CT.je (hr.mono (by decide)) gl_b (j3 (jv 1 rfl qD) (j3 (j9) j5 jJ) j4) j4) (j9) (jN _))) (λcl C fp s H=>(jv 0 rfl kR)) yO) j5 jV) jV) kE)) jH)
   (boxB T CT CL hr).2)))⟩
structure St0 (H H2:Hp)(p:Addr)(w:Int)(qm ql:Addr)(mays lf:List Int)(N:Int):Prop where
 hp:H2 p=some (.lst [.int N])
 hN:0<=N
 hm:H2 qm=some (.tup (mays.map V.int))
 rm:Ris w mays
 hl:H2 ql=some (.lst (lf.map V.int))
 rl:Ris w lf
 ne:ql≠p
 kp:Keep H H2 p
theorem St0.step {H H2 H3:Hp}{p:Addr}{w:Int}{qm ql:Addr}{mays lf:List Int}{N N':Int}(S:St0 H H2 p w qm ql mays lf N)(k:Keep H2 H3 p)(hp:H3 p=some (.lst [.int N']))(hN:0<=N'):St0 H H3 p w qm ql mays lf N':=
 ⟨hp,hN,k qm _ S.hm (ne_of S.hm S.hp (by intro z; cases z)),S.rm,k ql _ S.hl S.ne,S.rl,S.ne,S.kp.trans k⟩
theorem jMM {w:Int}{lf:List Int}(h:Ris w lf)(lo hi:Option Int):∃l',cutV (lf.map V.int) lo hi=l'.map V.int/\Ris w l':=by
 refine⟨(lf.drop (HT.sIx lf.length 0 lo)).take (HT.sIx lf.length lf.length hi - HT.sIx lf.length 0 lo),?_,(h.drop _).take _⟩
 unfold cutV
 rw[af,lg,List.map_drop]
theorem jGY (T:Txt mg)(CT:Can P w K mg lG "_law_take" 1 fT fdT ["pot","wide"] yF)(CL:Can P w K mg lG "_law_lot" 2 fL fdL ["pot","wide"] qT)(hr:Room 2 (XBox P w K mg lG f lH A outer s H0 E).A)
  {D:Ends}{H H5:Hp}{p qm ql qp qt:Addr}{mt mp w N far:Int}{mays lf ts:List Int}{vs:List V}{pcs:List (List Int×Int)}{v8 v9:Option V}
  (S:St0 H H5 p w qm ql mays lf N) (hqp:H5 qp=some (.lst vs)) (hv:PcsAt H5 vs pcs) (hg:∀pc∈pcs,GoodPc w pc) (hqt:H5 qt=some (.tup (ts.map V.int))) (lt:Lot w ts) (hf:far=1\/far=10\/far=2000000000001) (hn:pcs.length<=100) (hH:H qp=none) (hne:ql≠qp) (hpp:p≠qp)
  (nx:∀H6 N' vs' pcs',St0 H H6 p w qm ql mays lf N'->H6 qp=some (.lst vs')->PcsAt H6 vs' pcs'->(∀pc∈pcs',GoodPc w pc)->pcs'.length=pcs.length+1->D.nx [some (.ref p),some (.int mt),some (.int mp),some (.int w),some (.ref qm),some (.ref ql),some (.int far),some (.ref qp),v8,v9,some (.ref qt)] H6):
  (boxI T CT CL hr).1 D [some (.ref p),some (.int mt),some (.int mp),some (.int w),some (.ref qm),some (.ref ql),some (.int far),some (.ref qp),v8,v9,some (.ref qt)] H5:=by
 have hlen:=hv.len
 have h64:(0:Int)<far/\far<2 ^ 64:=by rcases hf with e | e | e <;> subst e <;> decide
 refine⟨_,rfl, .inl ⟨rfl,_,SqL.of hqp⟩,_,rfl,_,rfl,qp,vs,rfl, .inl (SqL.of hqp),_,_,rfl,rfl,p,N,_,rfl,S.hp,S.hN,by lia,by lia,λN1 i a1 a2 a3=>?_⟩
 refine⟨_,rfl,_,rfl,_,rfl,p,N1,far,rfl,j6,a1,h64.1,h64.2,λN2 r b1 b2 b3=>?_⟩
 rw[jCG]
 refine⟨_,rfl,_,_,rfl,rfl,⟨by decide,by decide⟩,_,_,rfl,rfl,(by show 2<=sizeLine; decide),λtq htq=>?_⟩
 obtain⟨t1,t2⟩:=yJ htq
 have ht:tq≠qp:=λe=>by subst e; rw[hqp] at t2; cases t2
 refine⟨qp,vs,i,_,rfl,rfl,by rw[j7 ht.symm,j7 hpp.symm]; exact hqp,a2,by lia,by rw[aH]; lia,?_⟩
 have T1:Tups H5 (upd (upd H5 p (.lst [.int N2])) tq (.tup [.ref qt, .int (r - far / 2)])):=(Tups.upd S.hp _).trans (Tups.new htq _)
 have k1:Keep H5 (upd (upd H5 p (.lst [.int N2])) tq (.tup [.ref qt, .int (r - far / 2)])) p:=((Keep.refl _ _).upd _).new htq _
 have S1:=S.step k1 (by rw[j7 t1.symm]; exact j6) b1
 have hq1:(upd (upd H5 p (.lst [.int N2])) tq (.tup [.ref qt, .int (r - far / 2)])) qp=some (.lst vs):=by rw[j7 ht.symm,j7 hpp.symm]; exact hqp
 have T2:=T1.trans (Tups.upd hq1 (.lst (vs.take i.toNat++V.ref tq::vs.drop i.toNat)))
 have pc:PcAt (upd (upd H5 p (.lst [.int N2])) tq (.tup [.ref qt, .int (r - far / 2)])) (.ref tq) (ts,r - far / 2):=⟨tq,qt,rfl,j6,T1 _ _ hqt⟩
 refine nx _ N2 _ (pcs.take i.toNat++(ts,r - far / 2)::pcs.drop i.toNat) ⟨?_,b1,?_,S.rm,?_,S.rl,S.ne,S1.kp.updNew hH _⟩ j6 ?_ ?_ ?_
 ·rw[j7 hpp]; exact S1.hp
 ·exact(Tups.upd hq1 _) _ _ S1.hm
 ·rw[j7 hne]; exact S1.hl
 ·exact PcsAt.put (pc.mono (Tups.upd hq1 _)) _ (hv.mono T2)
 ·intro c hc
  rcases aK.mp hc with h | h
  ·exact hg c (cg h)
  ·rcases aF.mp h with h | h
   ·subst h
    refine⟨lt,?_,?_⟩
    ·show -1000000000000<=r - far / 2
     rcases hf with e | e | e <;> subst e <;> lia
    ·show r - far / 2<=1000000000000
     rcases hf with e | e | e <;> subst e <;> lia
   ·exact hg c (cc h)
 ·rw[aJ,aP,aY,cD]
  lia
theorem jN0 (T:Txt mg)(CT:Can P w K mg lG "_law_take" 1 fT fdT ["pot","wide"] yF)(CL:Can P w K mg lG "_law_lot" 2 fL fdL ["pot","wide"] qT)(hr:Room 2 (XBox P w K mg lG f lH A outer s H0 E).A)
  {D:Ends}{H H5:Hp}{p qm ql qp:Addr}{mt mp w N far:Int}{mays lf:List Int}{vs:List V}{pcs:List (List Int×Int)}{v8 v9 v10:Option V}
  (S:St0 H H5 p w qm ql mays lf N) (hqp:H5 qp=some (.lst vs)) (hv:PcsAt H5 vs pcs) (hg:∀pc∈pcs,GoodPc w pc) (hf:far=1\/far=10\/far=2000000000001) (hn:pcs.length<=100) (hH:H qp=none) (hpp:p≠qp) (w1:1<=w) (w2:w<=16)
  (nx:∀H6 N' vs' pcs' ql' lf' v9' v10',St0 H H6 p w qm ql' mays lf' N'->ql'≠qp->H6 qp=some (.lst vs')->PcsAt H6 vs' pcs'->(∀pc∈pcs',GoodPc w pc)->pcs'.length=pcs.length+1->D.nx [some (.ref p),some (.int mt),some (.int mp),some (.int w),some (.ref qm),some (.ref ql'),some (.int far),some (.ref qp),v8,v9',v10'] H6):
  (boxL T CT CL hr).1 D [some (.ref p),some (.int mt),some (.int mp),some (.int w),some (.ref qm),some (.ref ql),some (.int far),some (.ref qp),v8,v9,v10] H5:=by
 refine⟨_,rfl,p,N,3,rfl,S.hp,S.hN,by decide,by decide,λN1 r1 a1 a2 a3=>⟨_,_,rfl,rfl,?_⟩⟩
 have S1:=S.step ((Keep.refl _ _).upd (.lst [.int N1])) j6 a1
 have hq1:(upd H5 p (.lst [.int N1])) qp=some (.lst vs):=by rw[j7 hpp.symm]; exact hqp
 have hv1:=hv.mono (Tups.upd S.hp (.lst [.int N1]))
 generalize upd H5 p (.lst [.int N1])=H6 at S1 hq1 hv1 ⊢
 clear S hqp hv
 obtain⟨l1,e1,g1⟩:=jMM S1.rl none (some (1+r1))
 obtain⟨l2,e2,g2⟩:=jMM S1.rl (some (1+r1)) none
 refine⟨_,rfl,_,rfl,1+r1,rfl,ql,_,rfl,SqL.of S1.hl,λx hx=>⟨x,_,rfl, .inl ⟨SqL.of j6,λqt hqt=>?_⟩⟩⟩
 rw[e1] at hqt ⊢
 have k1:Keep H6 (upd (upd H6 x (.lst (l1.map V.int))) qt (.tup (l1.map V.int))) p:=((Keep.refl _ _).new hx _).new hqt _
 obtain⟨t1,t2⟩:=yJ hqt
 have px:p≠x:=jA S1.hp hx
 have pt:p≠qt:=jA S1.hp t2
 have qx:qp≠x:=jA hq1 hx
 have qq:qp≠qt:=jA hq1 t2
 have S2:=S1.step k1 (by rw[j7 pt,j7 px]; exact S1.hp) S1.hN
 have hq2:(upd (upd H6 x (.lst (l1.map V.int))) qt (.tup (l1.map V.int))) qp=some (.lst vs):=by rw[j7 qq,j7 qx]; exact hq1
 have hv2:=hv1.mono (k1.tups S1.hp)
 have ht2:(upd (upd H6 x (.lst (l1.map V.int))) qt (.tup (l1.map V.int))) qt=some (.tup (l1.map V.int)):=j6
 generalize upd (upd H6 x (.lst (l1.map V.int))) qt (.tup (l1.map V.int))=H7 at S2 hq2 hv2 ht2 ⊢
 clear k1 hqt t2 hx S1 hq1 hv1
 refine⟨_,rfl,_,rfl,1+r1,rfl,ql,_,rfl,SqL.of S2.hl,λql' hql=>?_⟩
 rw[e2]
 have pl:p≠ql':=jA S2.hp hql
 have k2:Keep H7 (upd H7 ql' (.lst (l2.map V.int))) p:=(Keep.refl _ _).new hql _
 have S3':=S2.step k2 (by rw[j7 pl]; exact S2.hp) S2.hN
 have S3:St0 H (upd H7 ql' (.lst (l2.map V.int))) p w qm ql' mays l2 N1:=⟨S3'.hp,S3'.hN,S3'.hm,S3'.rm,j6,g2,pl.symm,S3'.kp⟩
 have hne:qp≠ql':=jA hq2 hql
 have hq3:(upd H7 ql' (.lst (l2.map V.int))) qp=some (.lst vs):=by rw[j7 hne]; exact hq2
 have hv3:=hv2.mono (k2.tups S2.hp)
 have ht3:=k2.tups S2.hp _ _ ht2
 generalize upd H7 ql' (.lst (l2.map V.int))=H8 at S3 hq3 hv3 ht3 ⊢
 clear k2 S3' S2 hq2 hv2 ht2 hql
 refine⟨_,rfl,(by show 0<=sizeLine; exact aS _),λz hz=>⟨qt,z,l1.map V.int,rfl,rfl,SqT.of ?_,SqT.of j6,_,rfl,?_⟩⟩
 ·rw[j7 (jA ht3 hz)]; exact ht3
 have pz:p≠z:=jA S3.hp hz
 have qz:qp≠z:=jA hq3 hz
 have k3:Keep H8 (upd H8 z (.tup [])) p:=(Keep.refl _ _).new hz _
 have S4:=S3.step k3 (by rw[j7 pz]; exact S3.hp) S3.hN
 have hq4:(upd H8 z (.tup [])) qp=some (.lst vs):=by rw[j7 qz]; exact hq3
 have hv4:=hv3.mono (k3.tups S3.hp)
 have ht4:=k3.tups S3.hp _ _ ht3
 generalize upd H8 z (.tup [])=H9 at S4 hq4 hv4 ht4 ⊢
 clear k3 S3 hq3 hv3 ht3 hz pz qz
 refine ite2 (λhy=>?_) (λhy=>?_)
 ·refine⟨_,rfl,_,rfl,p,N1,w,rfl,S4.hp,S4.hN,w1,w2,λq N2 ts H' b1 lt b2 b3 b4=>?_⟩
  exact jGY T CT CL hr (S4.step b4 b3 b1) (b4 _ _ hq4 hpp.symm) (hv4.mono (b4.tups S4.hp)) hg b2 lt hf hn hH hne.symm hpp λH6 N' vs' pcs' z1 z2 z3 z4 z5=>nx H6 N' vs' pcs' ql' l2 _ _ z1 hne.symm z2 z3 z4 z5
 ·have nl:l1≠ []:=λe=>hy (ar (by rw[e]; rfl))
  exact jGY T CT CL hr S4 hq4 hv4 hg ht4 ⟨g1.ris,g1.bnd,nl⟩ hf hn hH hne.symm hpp λH6 N' vs' pcs' z1 z2 z3 z4 z5=>nx H6 N' vs' pcs' ql' l2 _ _ z1 hne.symm z2 z3 z4 z5
def Told (H:Hp)(p:Addr)(mt mp:Int)(R:VK):Prop:=∀(b:Addr) (N' w:Int) (mays:List Int) (pcs:List (List Int×Int)) (H':Hp),0<=N'->H' p=some (.lst [.int N'])->BoxAt H' b w mays pcs->Good mt mp w mays pcs->Keep H H' p->R (.ref b) H'
theorem jGZ (T:Txt mg)(CT:Can P w K mg lG "_law_take" 1 fT fdT ["pot","wide"] yF)(CL:Can P w K mg lG "_law_lot" 2 fL fdL ["pot","wide"] qT)(hr:Room 2 (XBox P w K mg lG f lH A outer s H0 E).A)
  {D:Ends}{H H5:Hp}{p qm ql:Addr}{mt mp w N:Int}{mays lf:List Int}{v6 v7 v8 v9 v10:Option V}
  (S:St0 H H5 p w qm ql mays lf N) (hpH:∃o,H p=some o) (w0:0<=w) (w1:w<=mt) (w2:mt<=16) (n0:0<=mp) (n1:mp<=32) (q:Told H p mt mp D.rt):
  (boxC T CT CL hr).1 D [some (.ref p),some (.int mt),some (.int mp),some (.int w),some (.ref qm),some (.ref ql),v6,v7,v8,v9,v10] H5:=by
 refine⟨(by show 3<=sizeLine; decide),λl hl=>?_⟩
 have pl:p≠l:=jA S.hp hl
 refine⟨_,rfl,p,N,3,rfl,by rw[j7 pl]; exact S.hp,S.hN,by decide,by decide,λN1 r a1 a2 a3=>?_⟩
 obtain⟨far,hfar,hf⟩:∃far:Int,atI [V.int 1,V.int 10,V.int 2000000000001] r=some (.int far)/\(far=1\/far=10\/far=2000000000001):=by
  rcases (show r=0\/r=1\/r=2 by lia) with e | e | e
  ·subst e; exact⟨_,rfl, .inl rfl⟩
  ·subst e; exact⟨_,rfl, .inr (.inl rfl)⟩
  ·subst e; exact⟨_,rfl, .inr (.inr rfl)⟩
 refine⟨l,_,r,_,rfl,rfl,SqL.of (by rw[j7 pl.symm]; exact j6),hfar,?_⟩
 have S1:=S.step ((((Keep.refl _ _).new hl (.lst [V.int 1,V.int 10,V.int 2000000000001])).upd (.lst [.int N1]))) j6 a1
 generalize upd (upd H5 l (.lst [V.int 1,V.int 10,V.int 2000000000001])) p (.lst [.int N1])=H6 at S1 ⊢
 clear hl S
 refine⟨(by show 0<=sizeLine; exact aS _),λqp hqp=>?_⟩
 have pq:p≠qp:=jA S1.hp hqp
 have hHq:H qp=none:=by
  cases e:H qp with
  | none=>rfl
  | some o=>
   have:=S1.kp _ _ e pq.symm
   rw[hqp] at this
   cases this
 have lq:ql≠qp:=jA S1.hl hqp
 have S2:=S1.step ((Keep.refl _ _).new hqp (.lst [])) (by rw[j7 pq]; exact S1.hp) S1.hN
 have hq2:(upd H6 qp (.lst [])) qp=some (.lst []):=j6
 generalize upd H6 qp (.lst [])=H7 at S2 hq2 ⊢
 clear hqp S1
 refine⟨_,rfl,_,rfl,_,_,rfl,rfl,p,N1,_,rfl,S2.hp,S2.hN,by lia,by lia,λN2 n b1 b2 b3=>?_⟩
 refine⟨_,rfl,_,_,rfl,rfl, .inr ⟨_,rfl,_,_,rfl,rfl, .inl ⟨by lia,by lia⟩,_,rfl,?_⟩⟩
 have S3:=S2.step ((Keep.refl _ _).upd (.lst [.int N2])) j6 b1
 have hq3:(upd H7 p (.lst [.int N2])) qp=some (.lst []):=by rw[j7 pq.symm]; exact hq2
 generalize upd H7 p (.lst [.int N2])=H8 at S3 hq3 ⊢
 clear S2 hq2
 obtain⟨m,em,hm,hw⟩:∃m:Int,n*(if decide (0<w)=true then 1 else 0)=m/\(0<=m/\m<=mp)/\(0<m->1<=w):=by
  by_cases h:0<w
  ·exact⟨n,by simp [h],⟨b2,by lia⟩,λ_=>h⟩
  ·exact⟨0,by simp [h],⟨by lia,n0⟩,λz=>by lia⟩
 show _/\_/\_
 rw[show (n*(if decide (0<w)=true then 1 else 0))=m from em]
 refine⟨by lia,by lia,jCA (n:=m.toNat) (λi σ H5=>∃ql' lf' N' vs pcs v8 v9 v10,σ=[some (.ref p),some (.int mt),some (.int mp),some (.int w),some (.ref qm),some (.ref ql'),some (.int far),some (.ref qp),v8,v9,v10]/\St0 H H5 p w qm ql' mays lf' N'/\ql'≠qp/\H5 qp=some (.lst vs)/\PcsAt H5 vs pcs/\(∀pc∈pcs,GoodPc w pc)/\pcs.length=i) ?_ ?_ ?_⟩
 ·exact⟨ql,lf,N2,[],[],_,_,_,rfl,S3,lq,hq3,trivial,(λ_ h=>by cases h),rfl⟩
 ·rintro i σ H9 hi ⟨ql',lf',N',vs,pcs,x8,x9,x10,rfl,S4,l4,hq4,hv4,hg4,e4⟩
  exact jN0 T CT CL hr S4 hq4 hv4 hg4 hf (by lia) hHq pq (hw (by lia)) (by lia) λH6 N' vs' pcs' ql' lf' v9' v10' z1 z2 z3 z4 z5 z6=>⟨ql',lf',N',vs',pcs',_,_,_,rfl,z1,z2,z3,z4,z5,by lia⟩
 ·rintro σ H9 ⟨ql',lf',N',vs,pcs,x8,x9,x10,rfl,S4,l4,hq4,hv4,hg4,e4⟩
  refine⟨_,rfl,_,rfl,_,rfl,qp,vs,rfl, .inl ⟨SqL.of hq4,λtq htq=>⟨(by show 3<=sizeLine; decide),λb hb=>?_⟩⟩⟩
  have k1:Keep H9 (upd H9 tq (.tup vs)) p:=(Keep.refl _ _).new htq _
  have k2:Keep H9 (upd (upd H9 tq (.tup vs)) b (.tup [.int w, .ref qm, .ref tq])) p:=k1.new hb _
  have tb:=jA j6 hb
  have S5:=S4.step k2 (by rw[j7 (yJ hb |>.2 |> λh=>jA S4.hp h),j7 (jA S4.hp htq)]; exact S4.hp) S4.hN
  exact q b N' w mays pcs _ S4.hN S5.hp ⟨qm,tq,vs,j6,S5.hm,by rw[j7 tb]; exact j6,hv4.mono (k2.tups S4.hp)⟩ ⟨w0,w1,S4.rm,by lia,hg4⟩ S5.kp
theorem jH0 (T:Txt mg)(CT:Can P w K mg lG "_law_take" 1 fT fdT ["pot","wide"] yF)(CL:Can P w K mg lG "_law_lot" 2 fL fdL ["pot","wide"] qT)(hr:Room 2 (XBox P w K mg lG f lH A outer s H0 E).A)
  {D:Ends}{H H5:Hp}{p qm:Addr}{mt mp w N:Int}{mays:List Int}{v5 v6 v7 v8 v9 v10:Option V}
  (hp:H5 p=some (.lst [.int N])) (hN:0<=N) (hm:H5 qm=some (.tup (mays.map V.int))) (rm:Ris w mays) (kp:Keep H H5 p) (hpH:∃o,H p=some o) (w0:0<=w) (w1:w<=mt) (w2:mt<=16) (n0:0<=mp) (n1:mp<=32) (q:Told H p mt mp D.rt):
  (boxB T CT CL hr).1 D [some (.ref p),some (.int mt),some (.int mp),some (.int w),some (.ref qm),v5,v6,v7,v8,v9,v10] H5:=by
 refine⟨_,rfl,w,rfl,λx hx=>⟨x,w,rfl,j6,w0,by lia,λql hql=>?_⟩⟩
 rw[jM3]
 have px:p≠x:=jA hp hx
 have pl:p≠ql:=jA hp (yJ hql).2
 have k1:Keep H5 (upd (upd H5 x (.rng 0 w)) ql (.lst ((upto w.toNat).map V.int))) p:=((Keep.refl _ _).new hx _).new hql _
 have e:((w.toNat:Nat):Int)=w:=by lia
 have rl:Ris w (upto w.toNat):=by
  have:=jDD w.toNat
  rw[e] at this
  exact this
 have S:St0 H (upd (upd H5 x (.rng 0 w)) ql (.lst ((upto w.toNat).map V.int))) p w qm ql mays (upto w.toNat) N:=
  ⟨by rw[j7 pl,j7 px]; exact hp,hN,k1 qm _ hm (ne_of hm hp (by intro z; cases z)),rm,j6,rl,pl.symm,kp.trans k1⟩
 generalize upd (upd H5 x (.rng 0 w)) ql (.lst ((upto w.toNat).map V.int))=H6 at S ⊢
 clear k1 hql hx hp hm kp
 refine⟨_,rfl,p,N,3,rfl,S.hp,S.hN,by decide,by decide,λN1 r a1 a2 a3=>⟨rfl,_,rfl,?_⟩⟩
 have S1:=S.step ((Keep.refl _ _).upd (.lst [.int N1])) j6 a1
 generalize upd H6 p (.lst [.int N1])=H7 at S1 ⊢
 clear S
 refine ite2 (λhy=>?_) (λhy=>?_)
 ·refine⟨(by show 0<=sizeLine; exact aS _),λl hl=>?_⟩
  have pl2:p≠l:=jA S1.hp hl
  have S2:=S1.step ((Keep.refl _ _).new hl (.lst [])) (by rw[j7 pl2]; exact S1.hp) S1.hN
  have S3:St0 H (upd H7 l (.lst [])) p w qm l mays [] N1:=⟨S2.hp,S2.hN,S2.hm,S2.rm,j6,Ris.nil w,pl2.symm,S2.kp⟩
  exact jGZ T CT CL hr S3 hpH w0 w1 w2 n0 n1 q
 ·exact jGZ T CT CL hr S1 hpH w0 w1 w2 n0 n1 q
theorem jN1 (T:Txt mg)(CT:Can P w K mg lG "_law_take" 1 fT fdT ["pot","wide"] yF)(CL:Can P w K mg lG "_law_lot" 2 fL fdL ["pot","wide"] qT)(hr:Room 2 (XBox P w K mg lG f lH A outer s H0 E).A)
  {D:Ends}{H:Hp}{p:Addr}{mt mp N:Int}
  (hp:H p=some (.lst [.int N])) (hN:0<=N) (w0:0<=mt) (w2:mt<=16) (n0:0<=mp) (n1:mp<=32) (q:Told H p mt mp D.rt):
  (boxA T CT CL hr).1 D [some (.ref p),some (.int mt),some (.int mp),none,none,none,none,none,none,none,none] H:=by
 refine⟨_,rfl,_,rfl,_,_,rfl,rfl,p,N,_,rfl,hp,hN,by lia,by lia,λN1 w a1 a2 a3=>?_⟩
 refine⟨(by show 0<=sizeLine; exact aS _),λt ht=>?_⟩
 have pt:p≠t:=(yJ ht).1.symm
 refine⟨_,rfl,p,N1,3,rfl,by rw[j7 pt]; exact j6,a1,by decide,by decide,λN2 r b1 b2 b3=>⟨rfl,_,rfl,?_⟩⟩
 have k1:Keep H (upd (upd (upd H p (.lst [.int N1])) t (.tup [])) p (.lst [.int N2])) p:=(((Keep.refl _ _).upd _).new ht _).upd _
 have hp1:(upd (upd (upd H p (.lst [.int N1])) t (.tup [])) p (.lst [.int N2])) p=some (.lst [.int N2]):=j6
 have ht1:(upd (upd (upd H p (.lst [.int N1])) t (.tup [])) p (.lst [.int N2])) t=some (.tup []):=by rw[j7 pt.symm]; exact j6
 generalize upd (upd (upd H p (.lst [.int N1])) t (.tup [])) p (.lst [.int N2])=H1 at k1 hp1 ht1 ⊢
 clear ht
 refine ite2 (λhy=>?_) (λhy=>?_)
 ·refine⟨_,rfl,w,rfl,by lia,by lia,jBG (n:=w.toNat) (by rw[aH]; lia) (λD i σ' H' ys=>(∃v,σ'=[v,some (.ref p)])/\(∃(ms:List Int) (N':Int),ys=ms.map V.int/\ms.length<=i/\Ris i ms/\0<=N'/\H' p=some (.lst [.int N']))/\Keep H1 H' p/\H' D=some (.lst ys)/\D≠p/\H1 D=none) ?_ ?_ ?_ ?_⟩
  ·intro D hD
   have:p≠D:=jA hp1 hD
   exact⟨⟨_,rfl⟩,⟨[],N2,rfl,aj _,Ris.nil _,b1,by rw[j7 this]; exact hp1⟩,(Keep.refl _ _).new hD _,j6,this.symm,hD⟩
  ·rintro D i σ' H' ys hD hi ⟨_,⟨ms,N',rfl,e,_⟩,_,e2,_⟩
   exact⟨e2,by rw[af]; exact e⟩
  ·rintro D i σ' H' ys hD hi ⟨⟨v,rfl⟩,⟨ms,N',rfl,e,rs,n',hp'⟩,kk,e2,dp,hn⟩
   refine⟨_,rfl,p,N',3,rfl,hp',n',by decide,by decide,λN3 r3 c1 c2 c3=>⟨rfl,_,rfl,?_⟩⟩
   have k2:Keep H1 (upd H' p (.lst [.int N3])) p:=kk.upd _
   have e3:(upd H' p (.lst [.int N3])) D=some (.lst (ms.map V.int)):=by rw[j7 dp]; exact e2
   have hp3:(upd H' p (.lst [.int N3])) p=some (.lst [.int N3]):=j6
   generalize upd H' p (.lst [.int N3])=H'' at k2 e3 hp3 ⊢
   refine ite2 (λhz=>?_) (λhz=>?_)
   ·refine⟨_,rfl,e3,⟨_,rfl⟩,⟨ms++[(i:Int)],N3,?_,?_,rs.snoc,c1,by rw[j7 dp.symm]; exact hp3⟩,k2.updNew hn _,j6,dp,hn⟩
    ·rw[aR]
     show _++[V.int (0+(i:Int))]=_++[V.int (i:Int)]
     rw[Int.zero_add]
    ·rw[aJ]
     show ms.length+1<=i+1
     lia
   ·exact⟨⟨_,rfl⟩,⟨ms,N3,rfl,by lia,rs.step,c1,hp3⟩,k2,e3,dp,hn⟩
  ·rintro D σ' H' ys hD ⟨_,⟨ms,N',rfl,e,rs,n',hp'⟩,kk,e2,dp,hn⟩
   refine⟨D,_,rfl, .inl ⟨SqL.of e2,λqm hqm=>?_⟩⟩
   have pm:p≠qm:=jA hp' hqm
   have e':((w.toNat:Nat):Int)=w:=by lia
   rw[e'] at rs
   exact jH0 T CT CL hr (by rw[j7 pm]; exact hp') n' j6 rs ((k1.trans kk).new hqm _) ⟨_,hp⟩ a2 (by lia) w2 n0 n1 q
 ·exact jH0 T CT CL hr hp1 b1 (mays:=[]) ht1 (Ris.nil w) k1 ⟨_,hp⟩ a2 (by lia) w2 n0 n1 q
theorem jTG {f fT fL:Addr}{fd fdT fdL:FuncData}(F:Fun K "_law_box" "_law_box" sBox f fd)(T:Txt mg)(CT:Can P w K mg lG "_law_take" 1 fT fdT ["pot","wide"] yF)(CL:Can P w K mg lG "_law_lot" 2 fL fdL ["pot","wide"] qT):
  FnOk P w K mg lG CX0 3 f fd ["pot","most_things","most_pieces"] spBox:=by
 refine F.ok scBox (λvs H Q E h=>?_) (λlH A outer s H vs Q E hr h=>?_)
 ·obtain⟨_,_,_,_,rfl,_⟩:=h
  rfl
 ·obtain⟨p,N,mt,mp,rfl,hp,hN,m0,m1,n0,n1,q⟩:=h
  exact⟨_,(boxA T CT CL hr).2.h,jN1 T CT CL hr hp hN m0 m1 n0 n1 q⟩
inductive Ob where
 | int (i:Int)
 | oth
 | tup (os:List Ob)
def OthAt (H:Hp)(v:V):Prop:=v= .non\/(∃b,v= .bl b)\/(∃x,v= .str x)\/∃a,v= .ref a/\((∃xs,H a=some (.lst xs))\/∃lI,H a=some (.dK lI))
mutual
def At (H:Hp):Ob->V->Prop
 | .int i,v=>v= .int i
 | .oth,v=>OthAt H v
 | .tup os,v=>∃a vs,v= .ref a/\H a=some (.tup vs)/\vs.length<=100/\Ats H os vs
def Ats (H:Hp):List Ob->List V->Prop
 | [],vs=>vs=[]
 | o::os,vs=>∃v r,vs=v::r/\At H o v/\Ats H os r
end
structure Kp (H H':Hp):Prop where
 t:Tups H H'
 l:∀a xs,H a=some (.lst xs)->∃ys,H' a=some (.lst ys)
 d:∀a xs,H a=some (.dK xs)->∃ys,H' a=some (.dK ys)
theorem Kp.of {H H':Hp}(e:Ext H H'):Kp H H':=⟨λb xs h=>e b _ h,λa xs h=>⟨xs,e a _ h⟩,λa xs h=>⟨xs,e a _ h⟩⟩
theorem Kp.trans {H H1 H2:Hp}(a:Kp H H1)(b:Kp H1 H2):Kp H H2:=⟨a.t.trans b.t,λx xs h=>let ⟨_,q⟩:=a.l x xs h; b.l x _ q,λx xs h=>let ⟨_,q⟩:=a.d x xs h; b.d x _ q⟩
theorem Kp.keep {H H':Hp}{p:Addr}{xs ys:List V}(k:Keep H H' p)(hp:H p=some (.lst xs))(hp':H' p=some (.lst ys)):Kp H H':=by
 refine⟨k.tups hp,λa zs h=>?_,λa zs h=>⟨zs,k a _ h (ne_of h hp (by intro z; cases z))⟩⟩
 by_cases e:a=p
 ·subst e
  exact⟨ys,hp'⟩
 ·exact⟨zs,k a _ h e⟩
theorem OthAt.mono {H H':Hp}(k:Kp H H'){v:V}(h:OthAt H v):OthAt H' v:=by
 rcases h with h | h | h | ⟨a,rfl,⟨xs,h⟩ | ⟨xs,h⟩⟩
 ·exact .inl h
 ·exact .inr (.inl h)
 ·exact .inr (.inr (.inl h))
 ·exact .inr (.inr (.inr ⟨a,rfl, .inl (k.l _ _ h)⟩))
 ·exact .inr (.inr (.inr ⟨a,rfl, .inr (k.d _ _ h)⟩))
mutual
theorem At.mono {H H':Hp}(k:Kp H H'):∀(o:Ob) (v:V),At H o v->At H' o v
 | .int _,_,h=>h
 | .oth,_,h=>OthAt.mono k h
 | .tup os,_,⟨a,vs,e,h,n,r⟩=>⟨a,vs,e,k.t _ _ h,n,Ats.mono k os vs r⟩
theorem Ats.mono {H H':Hp}(k:Kp H H'):∀(os:List Ob) (vs:List V),Ats H os vs->Ats H' os vs
 | [],_,h=>h
 | o::os,_,⟨v,r,e,h,t⟩=>⟨v,r,e,At.mono k o v h,Ats.mono k os r t⟩
end
theorem At.ext {H H':Hp}(e:Ext H H'){o:Ob}{v:V}(h:At H o v):At H' o v:=At.mono (.of e) o v h
theorem Ats.ext {H H':Hp}(e:Ext H H'){o:List Ob}{v:List V}(h:Ats H o v):Ats H' o v:=Ats.mono (.of e) o v h
theorem Ats.len {H:Hp} :∀{os:List Ob}{vs:List V},Ats H os vs->vs.length=os.length
 | [],_,h=>by cases (show _=[] from h); rfl
 | o::os,_,⟨v,r,e,h,t⟩=>by rw[e,aP,aP,Ats.len t]
theorem Ats.get {H:Hp} :∀{os:List Ob}{vs:List V},Ats H os vs->∀{i:Nat}{v:V},vs[i]?=some v->∃o,os[i]?=some o/\At H o v
 | [],_,h,i,v,e=>by cases (show _=[] from h); cases e
 | o::os,_,⟨v,r,e,h,t⟩,0,v',e'=>by subst e; cases e'; exact⟨o,rfl,h⟩
 | o::os,_,⟨v,r,e,h,t⟩,i+1,v',e'=>by subst e; exact Ats.get t (i:=i) e'
theorem Ats.append {H:Hp} :∀{os:List Ob}{vs:List V}{os2:List Ob}{vs2:List V},Ats H os vs->Ats H os2 vs2->Ats H (os++os2) (vs++vs2)
 | [],_,_,_,h,h2=>by cases (show _=[] from h); exact h2
 | o::os,_,_,_,⟨v,r,e,h,t⟩,h2=>by subst e; exact⟨v,_,rfl,h,Ats.append t h2⟩
theorem Ats.take {H:Hp} :∀{os:List Ob}{vs:List V}(k:Nat),Ats H os vs->Ats H (os.take k) (vs.take k)
 | [],_,k,h=>by cases (show _=[] from h); cases k <;> rfl
 | o::os,_,0,_=>rfl
 | o::os,_,k+1,⟨v,r,e,h,t⟩=>by subst e; exact⟨v,_,rfl,h,Ats.take k t⟩
theorem Ats.drop {H:Hp} :∀{os:List Ob}{vs:List V}(k:Nat),Ats H os vs->Ats H (os.drop k) (vs.drop k)
 | [],_,k,h=>by cases (show _=[] from h); cases k <;> rfl
 | o::os,_,0,h=>h
 | o::os,_,k+1,⟨v,r,e,h,t⟩=>by subst e; exact Ats.drop k t
theorem Ats.ints {H:Hp} :∀(l:List Int),Ats H (l.map Ob.int) (l.map V.int)
 | []=>rfl
 | i::r=>⟨.int i,_,rfl,rfl,Ats.ints r⟩
def isInt:Ob->Bool
 | .int _=>true
 | _=>false
def isTup:Ob->Bool
 | .tup _=>true
 | _=>false
def upB (lo hi:Int):Ob->Bool
 | .int i=>decide (lo<=i)&&decide (i<=hi)
 | _=>false
def val:Ob->Int
 | .int i=>i
 | _=>0
def adj (is:List Int):List Bool:=(List.range (is.length - 1)).map λk=>decide (is.getD k 0<is.getD (k+1) 0)
noncomputable def risB:Ob->Bool
 | .tup os=>os.all isInt&&(adj (os.map val)).all id
 | _=>false
noncomputable def lotB (w:Int):Ob->Bool
 | .tup os=>os.all (upB 0 (w - 1))&&(adj (os.map val)).all id
 | _=>false
def lotB' (w:Int)(o:Ob):Bool:=risB o&&match o with
 | .tup os=>decide (os=[]) || (decide (0<=(os.map val).getD 0 0)&&decide ((os.map val).getLastD 0<w))
 | _=>false
theorem jNB {is:List Int}(h:(adj is).all id=true){k:Nat}(hk:k+1<is.length):is.getD k 0<is.getD (k+1) 0:=by
 rw[aV] at h
 exact aE (h _ (bW.mpr ⟨k,be.mpr (by lia),rfl⟩))
theorem jJ9 {is:List Int}(h:(adj is).all id=true):∀(j k:Nat),j<=k->k<is.length->is.getD j 0<=is.getD k 0
 | j,0,h1,_=>by
  have:j=0:=by lia
  subst this
  exact dy _
 | j,k+1,h1,h2=>by
  rcases Nat.lt_or_ge k j with q | q
  ·have:j=k+1:=by lia
   subst this
   exact dy _
  ·have a:=jJ9 h j k q (by lia)
   have b:=jNB h h2
   lia
theorem jTK (w:Int)(o:Ob):lotB' w o=lotB w o:=by
 cases o with
 | int i=>rfl
 | oth=>rfl
 | tup os=>
  rw[bH]
  unfold lotB' risB lotB
  simp only [bE,kc,iV]
  constructor
  ·rintro ⟨⟨a,b⟩,c⟩
   refine⟨?_,b⟩
   rw[aV] at a ⊢
   intro x hx
   obtain⟨j,hj,rfl⟩:=cr hx
   have hi:=a _ hx
   have e:os≠ []:=λe=>by subst e; cases hx
   obtain⟨c1,c2⟩:=c.resolve_left e
   have hl:(os.map val).length=os.length:=af _
   have g:(os.map val).getD j 0=val os[j]:=by
    rw[aB,aW]
    simp [hj]
   have l1:=jJ9 b 0 j (by lia) (by lia)
   have l2:=jJ9 b j (os.length - 1) (by lia) (by lia)
   have l3:(os.map val).getLastD 0=(os.map val).getD (os.length - 1) 0:=by
    rw[fw,cZ,aB,hl]
   rw[g] at l1 l2
   rw[l3] at c2
   cases e2:os[j] with
   | int i=>
    rw[e2] at l1 l2
    simp only [val] at l1 l2
    simp only [upB,bE,iV]
    lia
   | oth=>rw[e2] at hi; cases hi
   | tup r=>rw[e2] at hi; cases hi
  ·rintro ⟨a,b⟩
   rw[aV] at a
   refine⟨⟨?_,b⟩,?_⟩
   ·rw[aV]
    intro x hx
    have:=a x hx
    cases x with
    | int i=>rfl
    | oth=>cases this
    | tup r=>cases this
   ·by_cases e:os=[]
    ·exact .inl e
    ·refine .inr ?_
     have key:∀j,j<os.length->0<=(os.map val).getD j 0/\(os.map val).getD j 0<w:=λj hj=>by
      have g:(os.map val).getD j 0=val os[j]:=by
       rw[aB,aW]
       simp [hj]
      have:=a os[j] (de hj)
      rw[g]
      cases e2:os[j] with
      | int i=>
       rw[e2] at this
       simp only [upB,bE,iV] at this
       simp only [val]
       lia
      | oth=>rw[e2] at this; cases this
      | tup r=>rw[e2] at this; cases this
     have hpos:0<os.length:=by
      cases os with
      | nil=>exact absurd rfl e
      | cons _ _=>simp
     have l3:(os.map val).getLastD 0=(os.map val).getD (os.length - 1) 0:=by
      rw[fw,cZ,aB,af]
     rw[l3]
     exact⟨(key 0 hpos).1,(key (os.length - 1) (by lia)).2⟩
theorem Ats.allInt {H:Hp} :∀{os:List Ob}{vs:List V},Ats H os vs->os.all isInt=true->vs=(os.map val).map V.int
 | [],_,h,_=>by cases (show _=[] from h); rfl
 | o::os,_,⟨v,r,e,h,t⟩,ha=>by
  rw[eW,bE] at ha
  subst e
  rw[bg,bg,<- Ats.allInt t ha.2]
  cases o with
  | int i=>cases (show v= .int i from h); rfl
  | oth=>cases ha.1
  | tup _=>cases ha.1
theorem jN8 (l:List Ob)(F:Ob->Bool):(l.map F).all id=l.all F:=by
 rw[im]
 rfl
theorem jNA (is:List Int):(adj is).length=is.length - 1:=by
 unfold adj
 rw[af,b9]
theorem jU9 {is:List Int}{k:Nat}(h:k<is.length - 1):(adj is)[k]?=some (decide (is.getD k 0<is.getD (k+1) 0)):=by
 unfold adj
 rw[aW,ig h]
 rfl
theorem jJ8 {is:List Int}{k:Nat}(h:k<is.length - 1):(adj is).take (k+1)=(adj is).take k++[decide (is.getD k 0<is.getD (k+1) 0)]:=by
 rw[bN,jU9 h]
 rfl
theorem getI {is:List Int}{k:Nat}(h:k<is.length):(is.map V.int)[k]?=some (.int (is.getD k 0)):=by
 rw[aW,aB]
 simp [h]
theorem At.ty (K:W.Frag){H:Hp}{o:Ob}{v:V}(h:At H o v):∃t,TyOf K H v t/\kitOne K t (.type "tuple")=some (isTup o)/\∃b1 b2,kitOne K t (.type "int")=some b1/\kitOne K t (.type "bool")=some b2/\(b1&&!b2)=isInt o:=by
 cases o with
 | int i=>
  cases (show v= .int i from h)
  exact⟨_, .int i,rfl,true,false,rfl,rfl,rfl⟩
 | oth=>
  rcases (show OthAt H v from h) with rfl | ⟨b,rfl⟩ | ⟨x,rfl⟩ | ⟨a,rfl,⟨xs,e⟩ | ⟨xs,e⟩⟩
  ·exact⟨_, .non,rfl,false,false,rfl,rfl,rfl⟩
  ·exact⟨_, .bl b,rfl,true,true,rfl,rfl,rfl⟩
  ·exact⟨_, .str x,rfl,false,false,rfl,rfl,rfl⟩
  ·exact⟨_, .lst e,rfl,false,false,rfl,rfl,rfl⟩
  ·exact⟨_, .dK e,rfl,false,false,rfl,rfl,rfl⟩
 | tup os=>
  obtain⟨a,vs,rfl,e,_⟩:=h
  exact⟨_, .tup e,rfl,false,false,rfl,rfl,rfl⟩
theorem At.tupOf {H:Hp}{o:Ob}{v:V}(h:At H o v)(t:isTup o=true):∃os a vs,o= .tup os/\v= .ref a/\H a=some (.tup vs)/\vs.length<=100/\Ats H os vs:=by
 cases o with
 | int i=>cases t
 | oth=>cases t
 | tup os=>
  obtain⟨a,vs,e1,e2,e4,e3⟩:=h
  exact⟨os,a,vs,rfl,e1,e2,e4,e3⟩
theorem jEA {K:W.Frag}{m:List (Option Nat)}{g:TG}{tt:TT}{te:TE}{σ:St}{H1:Hp}{Q:VK}{a:Addr}{xs:List V}{os:List Ob}{F:Ob->Bool}(ha:H1 a=some (.tup xs))(hx:Ats H1 os xs)(hn:xs.length<sizeLine)(σP:St->Prop)(h0:σP (blkσ m σ))
  (step:∀(σ':St) (H':Hp) (v:V) (o:Ob) (R:St->V->Hp->Prop) (S:St->Hp->Prop),σP σ'->Ext H1 H'->At H' o v->(∀σ2 H'',σP σ2->Ext H' H''->R σ2 (.bl (F o)) H'')->g v σ' H' λσ2 H2=>tt σ2 H2 λb H3=>if b=true then te σ2 H3 (R σ2) else S σ2 H3)
  (hd:∀D H',Ext H1 H'->H' D=some (.lst ((os.map F).map V.bl))->Q (.ref D) H'):qX m g tt te σ Q (Itt K a) H1:=by
 have hl:=hx.len
 refine jFQ (xs:=xs) hn (λD i σ' H' zs=>σP σ'/\Ext H1 H'/\H' D=some (.lst zs)/\H1 D=none/\zs=((os.take i).map F).map V.bl) ?_ ?_ ?_ ?_
 ·intro D hD
  exact⟨h0,(Ext.refl _).new hD _,j6,hD,rfl⟩
 ·rintro D i σ' H' zs hD ⟨_,e,h2,_,rfl⟩
  refine⟨e _ _ ha,h2,?_⟩
  rw[af,af,aY]
  lia
 ·rintro D i σ' H' zs x hD hi ⟨p,e,h2,hn,rfl⟩
  obtain⟨o,ho,hAt⟩:=hx.get hi
  refine step σ' H' x o _ _ p e (hAt.ext e) λσ2 H'' p2 e2=>⟨e2 _ _ h2,p2,(e.trans e2).updNew hn _,j6,hn,?_⟩
  have:os.take (i+1)=os.take i++[o]:=by
   rw[bN,ho]
   rfl
  rw[this,aR,aR]
  rfl
 ·rintro D σ' H' zs hD ⟨_,e,h2,_,rfl⟩
  rw[hl,cF] at h2
  exact hd D H' e h2
noncomputable abbrev XOf (N:List Str)(q:Str)(st:Stmt)(P:Program)(w:World)(K:W.Frag)(mg:Str->Option Value)(lG:Heap)(f:Addr)(lH:Value)(A:Around)(outer:List Env)(s:Shared)(H:Hp)(E:XK):Cx:=(cxOf CX0 P w K mg lG N q (jB st) f lH A outer s H E).nox
abbrev jLB:List Str:=["thing"]
theorem scWhole0:FnScope jLB ["thing"] (jB jBQ):= {}
def spWh:Sp:=λvs H Q _=>∃v o,vs=[v]/\At H o v/\Q (.bl (isInt o)) H
def jQB (T:Txt mg): { t:TS // JSs (XOf jLB "is_whole" jBQ P w K mg lG f lH A outer s H0 E) (jE jBQ) t} :=
 have nd:=scWhole0.nd
 ⟨_,(jD (jI ((jC6 (jC jL gD T.isinstance (by decide+kernel) (j3 (jv 0 rfl vL) (j3 (kQ (v:= .ty "int") gD T.int (by decide+kernel) rfl) j5 j4) j4) j4) (jBM (jPT (jC jL gD T.isinstance (by decide+kernel) (j3 (jv 0 rfl vL) (j3 (kQ (v:= .ty "bool") gD T.bool (by decide+kernel) rfl) j5 j4) j4) j4)))))))⟩
theorem jL8 {fd:FuncData}(F:Fun K "is_whole" "is_whole" jBQ f fd)(T:Txt mg):FnOk P w K mg lG CX0 1 f fd ["thing"] spWh:=by
 refine F.ok scWhole0 (λvs H Q E h=>?_) (λlH A outer s H vs Q E hr h=>?_)
 ·obtain⟨_,_,rfl,_⟩:=h
  rfl
 ·obtain⟨v,o,rfl,hA,q⟩:=h
  obtain⟨t,ty,_,b1,b2,k1,k2,e⟩:=hA.ty K
  refine⟨_,(jQB T).2.h,?_⟩
  refine⟨_,rfl,_,_,_,b1,rfl,ty,k1,b1,rfl,?_⟩
  rw[<- e] at q
  cases b1 with
  | true=>exact iteT ⟨_,rfl,_,_,_,b2,rfl,ty,k2,b2,rfl,q⟩
  | false=>exact iteF q
abbrev jE0:List Str:=["thing"]
theorem scRising:FnScope jE0 ["thing"] (jB jAN):= {}
def spB (F:Ob->Bool):Sp:=λvs H Q _=>∃v o,vs=[v]/\At H o v/\∀H',Ext H H'->Q (.bl (F o)) H'
def jQH (T:Txt mg)(CW:Can P w K mg lG "is_whole" 1 fW fdW ["thing"] spWh)(hr:Room 1 (XOf jE0 "is_rising" jAN P w K mg lG f lH A outer s H0 E).A): { t:TS // JSs (XOf jE0 "is_rising" jAN P w K mg lG f lH A outer s H0 E) (jE jAN) t} :=
 have nd:=scRising.nd
 ⟨_,(j8 (kL (yI (y8 (jC jL gD T.isinstance (by decide+kernel) (j3 (jv 0 rfl vC) (j3 (kQ (v:= .ty "tuple") gD T.tuple (by decide+kernel) rfl) j5 j4) j4) j4) kN)) (jD (jI (je_bl))) jH)
   (j8 (kL (yI (y8 (jC (jAK rfl) gD T.all (by decide+kernel) (j3 (y9 (m:=[none]) (Nc:=["number"]) rfl (jC4 (jv 0 rfl vC)) rfl (by decide+kernel) (by decide+kernel) (kP (psc:=jB jAN)) (jU (N:=jE0) rfl rfl (by decide+kernel)) (λcl C fp s H=>jZ (i:=0) (show (["number"]:List Str).Nodup by decide+kernel) rfl qH) (λcl C fp s H=>yM) (λcl C fp s H=>(CW.je hr gl_b (j3 (jv 0 rfl kR) j5 j4) j4)) qF) j5 jV) jV) kN)) (jD (jI (je_bl))) jH)
   (jD (jI (jC (jAK rfl) gD T.all (by decide+kernel) (j3 (y9 (m:=[none,some 0]) (Nc:=["k","thing"]) rfl (jLV gD T.range (j3 (j9) (j3 (jC jG gD T.len (by decide+kernel) (j3 (jv 0 rfl vC) j5 j4) j4) j5 jM) jJ) jJ jM) rfl (by decide+kernel) (by decide+kernel) (kP (psc:=jB jAN)) (jU (N:=jE0) rfl rfl (by decide+kernel)) (λcl C fp s H=>jZ (i:=0) (show (["k","thing"]:List Str).Nodup by decide+kernel) rfl qH) (λcl C fp s H=>yM) (λcl C fp s H=>(yN op_lt (jT jC7 (jv 1 rfl qD) (jS jC0 (jv 0 rfl kR) (j9)) jP9) (jT jC7 (jv 1 rfl qD) (jv 0 rfl kR) jAX) (jN _))) yO) j5 jV) jV)))))⟩
theorem jL9 {fd:FuncData}(F:Fun K "is_rising" "is_rising" jAN f fd)(T:Txt mg)(CW:Can P w K mg lG "is_whole" 1 fW fdW ["thing"] spWh):FnOk P w K mg lG CX0 2 f fd ["thing"] (spB risB):=by
 refine F.ok scRising (λvs H Q E h=>?_) (λlH A outer s H vs Q E hr h=>?_)
 ·obtain⟨_,_,rfl,_⟩:=h
  rfl
 ·obtain⟨v,o,rfl,hA,q⟩:=h
  obtain⟨t,ty,kt,_⟩:=hA.ty K
  refine⟨_,(jQH T CW hr).2.h,?_⟩
  refine⟨_,rfl,_,_,_,_,rfl,ty,kt,_,rfl,?_⟩
  cases ht:isTup o with
  | false=>
   refine iteT ?_
   have:risB o=false:=by cases o <;> first | rfl | cases ht
   rw[<- this]
   exact q H (Ext.refl H)
  | true=>
   refine iteF ?_
   obtain⟨os,a,vs,rfl,rfl,ha,h100,hx⟩:=hA.tupOf ht
   have hl:=hx.len
   have hn:vs.length<sizeLine:=by rw[aH]; lia
   ·refine⟨_,rfl,a,rfl,⟨_,SqT.of ha⟩,jEA (F:=isInt) ha hx hn (λσ'=>∃v,σ'=[v]) ⟨_,rfl⟩ ?_ ?_⟩
    ·rintro σ' H' v o R S ⟨u,rfl⟩ e hA k
     dsimp only [yA,qG]
     rw[am rfl]
     exact⟨_,rfl,v,o,rfl,hA,k _ H' ⟨_,rfl⟩ (Ext.refl _)⟩
    ·intro D H1 e1 hD
     refine⟨D,_,rfl,SqL.of hD,_,rfl,?_⟩
     rw[jN8]
     cases hi:os.all isInt with
     | false=>
      refine iteT ?_
      have:risB (.tup os)=false:=by
       show (os.all isInt&&_)=false
       rw[hi]
       rfl
      rw[<- this]
      exact q H1 e1
     | true=>
      refine iteF ?_
      have hv:=hx.allInt hi
      have hN:(os.map val).length=os.length:=af _
      refine⟨_,rfl,a,_,rfl, .inr (SqT.of (e1 _ _ ha)),1,_,rfl,⟨by decide,by decide,by lia,by rw[aH] at hn; lia⟩,jBG (n:=((vs.length:Int) - 1).toNat) (by lia) (λD i σ' H' zs=>(∃v,σ'=[v,some (.ref a)])/\zs=((adj (os.map val)).take i).map V.bl/\H'=upd H1 D (.lst zs)) ?_ ?_ ?_ ?_⟩
      ·intro D hD
       exact⟨⟨_,rfl⟩,rfl,rfl⟩
      ·rintro D i σ' H' zs hD hi2 ⟨_,rfl,rfl⟩
       refine⟨j6,?_⟩
       rw[af,aY]
       lia
      ·rintro D i σ' H' zs hD hi2 ⟨⟨v,rfl⟩,rfl,rfl⟩
       have hi3:i<(os.map val).length - 1:=by lia
       have ha':(upd H1 D (.lst (((adj (os.map val)).take i).map V.bl))) a=some (.tup ((os.map val).map V.int)):=by
        rw[j7 (jA (e1 _ _ ha) hD),e1 _ _ ha,hv]
       dsimp only [yA,qG]
       rw[am rfl]
       have e0:(1+(i:Int)) - 1=(i:Int):=by lia
       have e2:(1+(i:Int))=((i+1:Nat):Int):=by lia
       refine⟨_,rfl,_,rfl,_,_,rfl,rfl,a,_,_,_,rfl,rfl,SqT.of ha',by rw[e0]; exact jAQ (getI (by lia)),_,rfl,_,rfl,a,_,_,_,rfl,rfl,SqT.of ha',by rw[e2]; exact jAQ (getI (by lia)),_,_,rfl,rfl,j6,⟨_,rfl⟩,?_,jCG⟩
       rw[jJ8 hi3,aR]
       rfl
      ·rintro D2 σ' H' zs hD2 ⟨_,rfl,rfl⟩
       have hlen:((vs.length:Int) - 1).toNat=(adj (os.map val)).length:=by rw[jNA]; lia
       rw[hlen,cF]
       refine⟨D2,_,rfl,SqL.of j6,?_⟩
       have:(adj (os.map val)).all id=risB (.tup os):=by
        show _=(os.all isInt&&(adj (os.map val)).all id)
        rw[hi,gY]
       rw[this]
       exact q _ (e1.new hD2 _)
end Eo
namespace L2
open PySem
theorem px_un {op:UnaryOp}{a:Expr}{pos:Pos} :jB3 (.UnaryOp op a pos):=λ_ _=>rfl
theorem jHY {α:Type}{xs:List α}{v:α}(h:xs[xs.length - 1]?=some v):atI xs (-1)=some v:=by
 have hj:xs.length - 1<xs.length:=(ah.mp h).1
 have e:ixN xs.length (-1)=some (xs.length - 1):=by
  unfold ixN
  rw[ai (by lia),am (by lia)]
  congr 1
  lia
 unfold atI
 rw[e]
 exact h
theorem qb {Q:VK}{H:Hp}{a b:Bool}(q:Q (.bl a) H)(e:a=b):Q (.bl b) H:=e ▸ q
end L2
namespace Eo
open PySem L2
theorem jRP {w:Int}{o:Ob}(h:isTup o=false):lotB w o=false:=by cases o <;> first | rfl | cases h
section
variable {fG fPs:Addr}{fdG fdPs:FuncData}
abbrev jLD:List Str:=["thing","many"]
theorem scIsLot:FnScope jLD ["thing","many"] (jB jD2):= {}
def spB2 (F:Int->Ob->Bool):Sp:=λvs H Q _=>∃v o w,vs=[v, .int w]/\At H o v/\∀H',Ext H H'->Q (.bl (F w o)) H'
def jTX (T:Txt mg)(CR:Can P w K mg lG "is_rising" 2 fR fdR ["thing"] (spB risB))(hr:Room 2 (XOf jLD "is_lot" jD2 P w K mg lG f lH A outer s H0 E).A): { t:TS // JSs (XOf jLD "is_lot" jD2 P w K mg lG f lH A outer s H0 E) (jE jD2) t} :=
 have nd:=scIsLot.nd
 ⟨_,(j8 (kL (yI (y8 (CR.je hr gD (j3 (jv 0 rfl vL) j5 j4) j4) kN)) (jD (jI (je_bl))) jH)
   (jD (jI ((je_or (yN yR (jC jG gD T.len (by decide+kernel) (j3 (jv 0 rfl vL) j5 j4) j4) (j9) (jN _)) (jBM ((jC6 (yN op_ge (jT jX (jv 0 rfl vL) (j9) jK) (j9) (jN _)) (jBM (yN op_lt (jT jX (jv 0 rfl vL) (qS qI (j9)) px_un) (jv 1 rfl vL) (jN _)))))))))))⟩
theorem jNZ {fd:FuncData}(F:Fun K "is_lot" "is_lot" jD2 f fd)(T:Txt mg)(CR:Can P w K mg lG "is_rising" 2 fR fdR ["thing"] (spB risB)):FnOk P w K mg lG CX0 3 f fd ["thing","many"] (spB2 lotB):=by
 refine F.ok scIsLot (λvs H Q E h=>?_) (λlH A outer s H vs Q E hr h=>?_)
 ·obtain⟨_,_,_,rfl,_⟩:=h
  rfl
 ·obtain⟨v,o,w,rfl,hA,q⟩:=h
  refine⟨_,(jTX T CR hr).2.h,?_⟩
  refine⟨_,rfl,v,o,rfl,hA,λH1 e1=>⟨_,rfl,?_⟩⟩
  have eq:=jTK w o
  cases hR:risB o with
  | false=>
   refine iteT (qb (q H1 e1) ?_)
   rw[<- eq]
   unfold lotB'
   rw[hR]
   rfl
  | true=>
   refine iteF ?_
   have ht:isTup o=true:=by cases o <;> first | rfl | cases hR
   obtain⟨os,a,vs,rfl,rfl,ha,h100,hx⟩:=hA.tupOf ht
   have hl:=hx.len
   have hi:os.all isInt=true:=by
    have:(os.all isInt&&(adj (os.map val)).all id)=true:=hR
    rw[bE] at this
    exact this.1
   have hv:=hx.allInt hi
   have ha1:=e1 _ _ ha
   refine⟨_,rfl,a,_,rfl, .inr (SqT.of ha1),rfl,_,rfl,ite2 (λhy=>?_) (λhy=>?_)⟩
   ·have h0:=V.int.inj (aE hy)
    have e0:os=[]:=cz.mp (by lia)
    refine qb (q H1 e1) ?_
    rw[<- eq]
    unfold lotB'
    rw[hR]
    simp [e0]
   ·have h0:0<vs.length:=Nat.pos_of_ne_zero λh=>hy (ar (by rw[h]; rfl))
    have hml:(os.map val).length=vs.length:=by rw[af,hl]
    refine⟨_,rfl,a,_,0, .int ((os.map val).getD 0 0),rfl,rfl,SqT.of ha1,?_,_,_,rfl,rfl,_,rfl,ite2 (λhz=>?_) (λhz=>?_)⟩
    ·rw[hv]
     exact jAQ (j:=0) (getI (by lia))
    ·refine⟨_,rfl,_,rfl,a,_,_, .int ((os.map val).getLastD 0),rfl,rfl,SqT.of ha1,?_,_,rfl,_,_,rfl,rfl,qb (q H1 e1) ?_⟩
     ·show atI vs (-1)=_
      refine jHY ?_
      rw[hv,af,getI (by lia),fw,cZ,aB]
     ·rw[<- eq]
      unfold lotB'
      rw[hR]
      have e0:¬os=[]:=λe=>by rw[e] at hl; have:vs.length=0:=hl; lia
      have hz:=aE hz
      simp [e0]
      intro hh
      simpa using hz
    ·refine qb (q H1 e1) ?_
     rw[<- eq]
     unfold lotB'
     rw[hR]
     have e0:¬os=[]:=λe=>by rw[e] at hl; have:vs.length=0:=hl; lia
     have hz:¬(0<=(os.map val).getD 0 0):=λh=>hz (ar h)
     simp only [e0,decide_false,Bool.false_or,gY,aI hz,cS]
end
end Eo
namespace L2
open PySem
section
variable {P:Program}{w:World}{K:W.Frag}{mg:Str->Option Value}{lG:Heap}{N:List Str}{qual:Str}{sc:Scope}{f:Addr}{lH:Value}{A:Around}{outer:List Env}{s:Shared}{H:Hp}{E:XK}{x y z:Str}{p1 p2 p3 pos:Pos}{k i j l:Nat}
theorem jC5 (hN:N.Nodup)(hi:N[i]?=some x)(hj:N[j]?=some y)(hx:sc.names.lookup x=some .local)(hy:sc.names.lookup y=some .local):
  JG (cxOf CX0 P w K mg lG N qual sc f lH A outer s H E).nox (.Tuple [.Name x p1, .Name y p2] k pos) (gTup K 2 (gCons (yA i) (gCons (yA j) gNil))):=
 jPS (X:=(cxOf CX0 P w K mg lG N qual sc f lH A outer s H E).nox) rfl (jDJ (jZ hN hi (loc_l hx)) (jDJ (jZ hN hj (loc_l hy)) jLW jFS) jFS)
end
section
variable {K:W.Frag}{m:List (Option Nat)}{g:TG}{tt:TT}{te:TE}{σ:St}{H1:Hp}{Q:VK}
end
end L2
namespace Eo
open PySem L2
theorem jM8 {α:Type}{l:List α}{i:Nat}{d:α}(h:i<l.length):l.getD i d=l[i]:=by
 rw[aB,aG h]
 rfl
theorem jB8 (l:List Int):(l.map V.int).all flatV=true:=by
 rw[aV]
 intro x hx
 obtain⟨i,_,rfl⟩:=bW.mp hx
 rfl
theorem jC8 (i:Int)(l:List Int):inV (.int i) (l.map V.int)=decide (i∈l):=by
 unfold inV
 rw[bH,df,bz]
 constructor
 ·rintro ⟨x,hx,e⟩
  obtain⟨j,hj,rfl⟩:=bW.mp hx
  have:j=i:=eq_of_beq e
  rw[<- this]
  exact hj
 ·intro h
  exact⟨.int i,bW.mpr ⟨i,h,rfl⟩,by simp [eqV]⟩
theorem jHE:∀(ts:List Int) (lo w:Int),ts.Pairwise (· < ·)->(∀z∈ts,lo<=z/\z<w)->(ts.length:Int)<=max (w - lo) 0
 | [],lo,w,_,_=>by show (0:Int)<=_; lia
 | a::r,lo,w,hp,hb=>by
  have h1:=hb a ax
  have hp':=eG.mp hp
  have:=jHE r (a+1) w hp'.2 λz hz=>⟨by have:=hp'.1 z hz; lia,(hb z (ay _ hz)).2⟩
  rw[aP]
  lia
def jF (pcs:List (List Int×Int))(k:Int):List Int:=(pcs.getD k.toNat ([],0)).1
theorem Good.at {mt mp w:Int}{ms:List Int}{pcs:List (List Int×Int)}(g:Good mt mp w ms pcs){k:Nat}(hk:k<pcs.length):GoodPc w (pcs.getD k ([],0)):=by
 have e:pcs.getD k ([],0)=pcs[k]:=by simp [List.getD,hk]
 rw[e]
 exact g.pg _ (de hk)
theorem jK9 {n i:Nat}(h:i<n):(upto n).take (i+1)=(upto n).take i++[(i:Int)]:=by
 unfold upto
 rw[<- lg,<- lg,List.take_range,List.take_range,show min (i+1) n=i+1 by lia,show min i n=i by lia,eV,aR]
 rfl
theorem jDE (n:Nat):(upto n).length=n:=by
 unfold upto
 rw[af,b9]
theorem jET {n i:Nat}(h:i<n):(upto n)[i]?=some (i:Int):=by
 unfold upto
 rw[aW,ig h]
 rfl
theorem Ats.two {H:Hp}{os:List Ob}{vs:List V}(h:Ats H os vs)(n:vs.length=2):∃x y a b,os=[x,y]/\vs=[a,b]/\At H x a/\At H y b:=by
 cases os with
 | nil=>cases (show vs=[] from h); cases n
 | cons x os=>
  obtain⟨a,r,rfl,h1,h⟩:=h
  cases os with
  | nil=>cases (show r=[] from h); cases n
  | cons y os=>
   obtain⟨b,r,rfl,h2,h⟩:=h
   cases os with
   | nil=>cases (show r=[] from h); exact⟨x,y,a,b,rfl,rfl,h1,h2⟩
   | cons z os=>obtain⟨c,r,rfl,_,_⟩:=h; simp at n
theorem jJ6 (H:Hp):At H .oth .non:= .inl rfl
theorem at_bl (H:Hp)(b:Bool):At H .oth (.bl b):= .inr (.inl ⟨b,rfl⟩)
theorem jU7 (H:Hp)(x:Str):At H .oth (.str x):= .inr (.inr (.inl ⟨x,rfl⟩))
theorem jBO (H:Hp)(i:Int):At H (.int i) (.int i):=rfl
theorem jN5 {H:Hp}{a:Addr}{xs:List V}(h:H a=some (.lst xs)):At H .oth (.ref a):= .inr (.inr (.inr ⟨a,rfl, .inl ⟨xs,h⟩⟩))
theorem jU8 {H:Hp}{a:Addr}{xs:List (Key×V)}(h:H a=some (.dK xs)):At H .oth (.ref a):= .inr (.inr (.inr ⟨a,rfl, .inr ⟨xs,h⟩⟩))
theorem qP {H:Hp}{a:Addr}{vs:List V}{os:List Ob}(h:H a=some (.tup vs))(n:vs.length<=100)(r:Ats H os vs):At H (.tup os) (.ref a):=⟨a,vs,rfl,h,n,r⟩
theorem iteT' {A B:Prop}{c:Bool}(hc:c=true)(h:A):if c=true then A else B:=by
 rw[am hc]
 exact h
theorem _root_.L2.Ext.tups {H H':Hp}(e:Ext H H'):Tups H H':=λb xs h=>e b _ h
theorem PcsAt.at {H:Hp} :∀{vs:List V}{ps:List (List Int×Int)},PcsAt H vs ps->∀{i:Nat}{v:V},vs[i]?=some v->∃pc,ps[i]?=some pc/\PcAt H v pc
 | [],[],_,i,v,e=>by cases e
 | x::vs,p::ps,h,0,v,e=>by cases e; exact⟨p,rfl,h.1⟩
 | x::vs,p::ps,h,i+1,v,e=>PcsAt.at h.2 (i:=i) e
 | [],_::_,h,_,_,_=>h.elim
 | _::_,[],h,_,_,_=>h.elim
theorem Good.wide {mt mp w mt' mp':Int}{ms:List Int}{pcs:List (List Int×Int)}(g:Good mt mp w ms pcs)(h1:mt<=mt')(h2:mp<=mp'):Good mt' mp' w ms pcs:=⟨g.w0,cW g.w1 h1,g.mr,cW g.pl h2,g.pg⟩
theorem jPW {H:Hp} :∀l:List Int,TsAt H (l.map Tr.int) (l.map V.int)
 | []=>rfl
 | i::r=>⟨.int i,_,rfl,rfl,jPW r⟩
theorem jGT:∀l:List Int,deps (l.map Tr.int)=0
 | []=>by simp [deps]
 | i::r=>by simp [deps,dep,jGT r]
theorem iteN {A B:Prop}{c:Bool}(hc:c=false)(h:B):if c=true then A else B:=by
 rw[hc]
 exact iteF h
abbrev leI:Int->Int->Bool:=λa b=>decide (a<=b)
def srt (l:List Int):List Int:=l.mergeSort leI
theorem jEW (l:List Int):(srt l).Perm l:=List.mergeSort_perm _ _
theorem jP4 (l:List Int):(srt l).Pairwise (· <= ·):=by
 have:=List.pairwise_mergeSort (le:=leI) (λa b c h1 h2=>ar (cW (aE h1) (aE h2))) (λa b=>by
  rw[kc]
  rcases Int.le_total a b with h | h
  ·exact .inl (ar h)
  ·exact .inr (ar h)) l
 exact this.imp λh=>aE h
theorem jP5 {l m:List Int}(h1:m.Pairwise (· <= ·))(h2:m.Perm l):m=srt l:=
 List.Perm.eq_of_pairwise (λa b _ _ h1 h2=>Int.le_antisymm h1 h2) h1 (jP4 l) (h2.trans (jEW l).symm)
noncomputable abbrev nMask:List Str:=["lot"]
theorem scMask:FnScope nMask ["lot"] (jB sMask):= {}
def jD0:Sp:=λvs H Q _=>∃(q:Addr) (ts:List Int),vs=[.ref q]/\H q=some (.tup (ts.map V.int))/\(∀t∈ts,0<=t/\t<64)/\ts.length<=64/\∀H',Ext H H'->Q (.int ((maskN ts:Nat):Int)) H'
def maskA (T:Txt mg): { t:TS // JSs (XOf nMask "mask_of" sMask P w K mg lG f lH A outer s H0 E) (jE sMask) t} :=
 have nd:=scMask.nd
 ⟨_,(jD (jI (jC (jCC rfl) gD T.sum (by decide+kernel) (j3 (y9 (m:=[none]) (Nc:=["thing"]) rfl (jC4 (jv 0 rfl vL)) rfl (by decide+kernel) (by decide+kernel) (kP (psc:=jB sMask)) (jU (N:=nMask) rfl rfl (by decide+kernel)) (λcl C fp s H=>jZ (i:=0) (show (["thing"]:List Str).Nodup by decide+kernel) rfl qH) (λcl C fp s H=>yM) (λcl C fp s H=>(jS jGC (j9) (jv 0 rfl kR))) qF) j5 jV) jV)))⟩
theorem jEL (ts:List Int)(h:∀t∈ts,0<=t):(ts.map λt=>(1:Int)*2 ^ t.toNat).sum=((maskN ts:Nat):Int):=by
 induction ts with
 | nil=>rfl
 | cons t r ih=>
  have e:maskN (t::r)=2 ^ t.toNat+maskN r:=by simp [maskN]
  rw[bg,List.sum_cons,ih λx hx=>h x (ay _ hx),e]
  push_cast
  lia
theorem jR8 {fd:FuncData}(F:Fun K "mask_of" "mask_of" sMask f fd)(T:Txt mg):FnOk P w K mg lG CX0 1 f fd ["lot"] jD0:=by
 refine F.ok scMask (λvs H Q E h=>?_) (λlH A outer s H vs Q E hr h=>?_)
 ·obtain⟨_,_,rfl,_⟩:=h
  rfl
 ·obtain⟨q,ts,rfl,hq,hb,hl,k⟩:=h
  refine⟨_,(maskA T).2.h,?_⟩
  refine⟨_,rfl,q,rfl,⟨_,SqT.of hq⟩,jFQ (xs:=ts.map V.int) (by rw[af,aH]; lia) (λD i σ' H' zs=>(∃v,σ'=[v])/\Ext H H'/\H' D=some (.lst zs)/\H D=none/\zs=((ts.take i).map λt=>(1:Int)*2 ^ t.toNat).map V.int) ?_ ?_ ?_ ?_⟩
  ·intro D hD
   exact⟨⟨_,rfl⟩,(Ext.refl _).new hD _,j6,hD,rfl⟩
  ·rintro D i σ' H' zs hD ⟨_,e,h2,_,rfl⟩
   refine⟨e _ _ hq,h2,?_⟩
   rw[af,af,aY]
   lia
  ·rintro D i σ' H' zs x hD hx ⟨⟨v,rfl⟩,e,h2,hn,rfl⟩
   obtain⟨z,hz,rfl⟩:∃z:Int,ts[i]?=some z/\V.int z=x:=by
    rw[aW] at hx
    cases hq:ts[i]? with
    | none=>rw[hq] at hx; cases hx
    | some z=>rw[hq] at hx; cases hx; exact⟨z,rfl,rfl⟩
   have hzb:=hb z (az hz)
   dsimp only [yA,qG]
   rw[am rfl]
   refine⟨_,rfl,_,_,rfl,rfl,⟨?_,?_,?_⟩,h2,⟨_,rfl⟩,e.updNew hn _,j6,hn,?_⟩
   ·first | lia | decide
   ·first | lia | decide
   ·first | lia | decide
   ·have:ts.take (i+1)=ts.take i++[z]:=by
     rw[bN,hz]
     rfl
    rw[this,aR,aR]
    rfl
  ·rintro D σ' H' zs hD ⟨_,e,h2,hn,rfl⟩
   refine⟨D,_,rfl,SqL.of h2,?_⟩
   rw[af,cF,jEL ts λt ht=>(hb t ht).1]
   exact k H' e
end Eo
namespace L2
open PySem
theorem jPU {X:Cx}{a b c:Expr}{pos:Pos}{ta tb:TE}{tc:TT}(hc:JT X c tc)(ha:JE X a ta)(hb:JE X b tb):JE X (.IfExp c a b pos) (tIf tc ta tb):=⟨jNU hc.h ha.h hb.h⟩
end L2
namespace Eo
open PySem L2
def PrAt (H:Hp)(v:V)(c:Int×Nat):Prop:=∃q,v= .ref q/\H q=some (.tup [.int c.1, .int ((c.2:Nat):Int)])
theorem PrAt.mono {H H':Hp}(t:Tups H H'){v:V}{c:Int×Nat}(h:PrAt H v c):PrAt H' v c:=let ⟨q,e,z⟩:=h; ⟨q,e,t _ _ z⟩
def RowAt (H:Hp)(l:Addr)(cs:List (Int×Nat)):Prop:=∃vs,H l=some (.lst vs)/\All2 (PrAt H) vs cs
structure ChAt (H:Hp)(L:Addr)(ch:Ch):Prop where
 ex:∃ls:List Addr,H L=some (.lst (ls.map V.ref))/\ls.Nodup/\All2 (RowAt H) ls ch
theorem RowAt.keep {H H':Hp}{l:Addr}{cs:List (Int×Nat)}(h:RowAt H l cs)(k:∀xs,H l=some (.lst xs)->H' l=some (.lst xs))(t:Tups H H'):RowAt H' l cs:=let ⟨vs,a,b⟩:=h; ⟨vs,k _ a,b.imp λ_ _=>PrAt.mono t⟩
theorem ChAt.keep {H H':Hp}{L:Addr}{ch:Ch}(h:ChAt H L ch)(k:∀b xs,H b=some (.lst xs)->H' b=some (.lst xs))(t:Tups H H'):ChAt H' L ch:=by
 obtain⟨ls,a,b,c⟩:=h.ex
 exact⟨ls,k _ _ a,b,c.imp λl cs r=>r.keep (k l) t⟩
theorem ChAt.len {H:Hp}{L:Addr}{ch:Ch}(h:ChAt H L ch):∃ls:List Addr,H L=some (.lst (ls.map V.ref))/\ls.length=ch.length:=by
 obtain⟨ls,a,b,c⟩:=h.ex
 exact⟨ls,a,c.len⟩
def qN (ms:List Int)(pcs:List (List Int×Int))(n t:Nat):List (Int×Nat):=
 (if (t:Int)∈ms then [(-1,2 ^ t)] else [])++(((upto pcs.length).take n).filter λk=>decide ((jF pcs k).headD 0=(t:Int))).map λk=>(k,maskN (jF pcs k))
def chsN (w:Nat)(ms:List Int)(pcs:List (List Int×Int))(n:Nat):Ch:=(List.range w).map (qN ms pcs n)
def chs (w:Nat)(ms:List Int)(pcs:List (List Int×Int)):Ch:=chsN w ms pcs pcs.length
theorem yS (w:Nat)(ms:List Int)(pcs:List (List Int×Int))(n:Nat):(chsN w ms pcs n).length=w:=by
 unfold chsN
 rw[af,b9]
theorem jAM {w:Nat}{ms:List Int}{pcs:List (List Int×Int)}{n t:Nat}(h:t<w):(chsN w ms pcs n)[t]?=some (qN ms pcs n t):=by
 unfold chsN
 rw[aW,ig h]
 rfl
theorem jGF {ts:List Int}{t:Nat}(hp:ts.Pairwise (· < ·))(h0:∀x∈ts,0<=x)(h:(t:Int)∈ts):(maskN ts).testBit t=true:=by
 rw[jAE ts t hp h0,ar h]
theorem jE1 {ts:List Int}{w:Nat}(hp:ts.Pairwise (· < ·))(h0:∀x∈ts,0<=x/\x<(w:Int)):maskN ts<2 ^ w:=by
 refine Nat.lt_pow_two_of_testBit _ λi hi=>?_
 rw[jAE ts i hp λx hx=>(h0 x hx).1,aI]
 intro z
 have:=(h0 _ z).2
 lia
theorem jIM {l:List Int}(h:l≠ []):l.headD 0∈l:=by
 cases l with
 | nil=>exact absurd rfl h
 | cons a r=>exact ax ..
theorem jEO {w:Int}{ms:List Int}{pcs:List (List Int×Int)}{n:Nat}(g:Good 16 32 w ms pcs):ChOk (chsN w.toNat ms pcs n):=by
 have w0:=g.w0
 have w1:=g.w1
 have gpl:=g.pl
 refine⟨by rw[yS]; lia,λt cs h=>?_,λt cs h c hc=>?_⟩
 ·have ht:t<w.toNat:=by
   have:=(ah.mp h).1
   rwa [yS] at this
  rw[jAM ht] at h
  cases h
  unfold qN
  rw[aJ,af]
  have:=bP (λk=>decide ((jF pcs k).headD 0=(t:Int))) ((upto pcs.length).take n)
  have:=ef n (upto pcs.length)
  have:=jDE pcs.length
  have:((upto pcs.length).take n).length<=(upto pcs.length).length:=by rw[aY]; lia
  split <;> simp only [aP,dF] <;> lia
 ·have ht:t<w.toNat:=by
   have:=(ah.mp h).1
   rwa [yS] at this
  rw[jAM ht] at h
  cases h
  unfold qN at hc
  rw[yS]
  rcases aK.mp hc with hc | hc
  ·split at hc
   ·rw[aN] at hc
    subst hc
    exact⟨by simp [ic],ko (by decide) ht,by show (-1:Int)<= -1; decide,by show (-1:Int)<32; decide⟩
   ·cases hc
  ·obtain⟨k,hk,rfl⟩:=bW.mp hc
   obtain⟨hk1,hk2⟩:=bU.mp hk
   have kb:=(jDD pcs.length).bnd k (cg hk1)
   have gp:=g.at (k:=k.toNat) (by lia)
   have hk2:=aE hk2
   have hne:jF pcs k≠ []:=gp.lot.ne
   have hm:(t:Int)∈jF pcs k:=by
    rw[<- hk2]
    exact jIM hne
   exact⟨jGF gp.lot.ris (λx hx=>(gp.lot.bnd x hx).1) hm,jE1 gp.lot.ris λx hx=>⟨(gp.lot.bnd x hx).1,by have:=(gp.lot.bnd x hx).2; lia⟩,by lia,by lia⟩
abbrev jBD:List Str:=["box","choices","number","piece"]
theorem scChoices:FnScope jBD ["box"] (jB yL):= {}
def jBW:Sp:=λvs H Q _=>∃(b:Addr) (w:Int) (ms:List Int) (pcs:List (List Int×Int)),vs=[.ref b]/\BoxAt H b w ms pcs/\Good 16 32 w ms pcs/\∀r H',ChAt H' r (chs w.toNat ms pcs)->Ext H H'->Q (.ref r) H'
def jS7 (T:Txt mg)(CM:Can P w K mg lG "mask_of" 1 fM fdM ["lot"] jD0)(hr:Room 1 (XOf jBD "choices_of" yL P w K mg lG f lH A outer s H0 E).A): { t:TS // JSs (XOf jBD "choices_of" yL P w K mg lG f lH A outer s H0 E) (qC ((jE yL).getD 1 (.Pass ⟨0,0,0,0⟩))) t} :=
 have nd:=scChoices.nd
 ⟨_,(jD (jFF (je_bm eB fQ fV jC2 (jT yC (jv 1 rfl vL) (jT jX (jT jX (jv 3 rfl vL) (j9) jK) (j9) jK) jSQ) (j3 (kZ (j3 (jv 2 rfl vL) (j3 (CM.je hr gD (j3 (jT jX (jv 3 rfl vL) (j9) jK) j5 jP) jP) j5 jM) j4)) j5 qA) qA) kE))⟩
def jOM (T:Txt mg)(CM:Can P w K mg lG "mask_of" 1 fM fdM ["lot"] jD0)(hr:Room 1 (XOf jBD "choices_of" yL P w K mg lG f lH A outer s H0 E).A): { t:TS // JSs (XOf jBD "choices_of" yL P w K mg lG f lH A outer s H0 E) (jE yL) t} :=
 have nd:=scChoices.nd
 ⟨_,(j8 (jRW (i:=1) nd rfl lL ⟨by rfl⟩ (m:=[none,some 0]) (Nc:=["thing","box"]) rfl (jAT gD T.range (j3 (jT jX (jv 0 rfl vC) (j9) jK) j5 jP) jP) rfl (by decide+kernel) (by decide+kernel) (kP (psc:=jB yL)) (jU (N:=jBD) rfl rfl (by decide+kernel)) (λcl C fp s H=>jZ (i:=0) (show (["thing","box"]:List Str).Nodup by decide+kernel) rfl qH) (λcl C fp s H=>yM) (λcl C fp s H=>(jPU (jO jL4 (jv 0 rfl kR) (jT jC7 (jv 1 rfl qD) (j9) jK) jPK) (yB (j3 (kZ (j3 (qS qI (j9)) (j3 (jS jGC (j9) (jv 0 rfl kR)) j5 yH) se_un)) j5 qA)) (yB j5))) yO) (j8 (jBL ck rfl (jRX gD T.enumerate (j3 (jT jX (jv 0 rfl vC) (j9) jK) j5 jP) jP) (jC5 (i:=2) (j:=3) nd rfl rfl (by decide+kernel) (by decide+kernel)) (jS7 T CM hr).2 yO) (jD (jI (jv 1 rfl vL)))))⟩
noncomputable abbrev nFull:List Str:=["choices"]
theorem scFull:FnScope nFull ["choices"] (jB sFull):= {}
def jI4:Sp:=λvs H Q _=>∃(L:Addr) (ch:Ch),vs=[.ref L]/\ChAt H L ch/\ch.length<=16/\Q (.int ((fullN ch:Nat):Int)) H
def fullA (T:Txt mg): { t:TS // JSs (XOf nFull "full_mask" sFull P w K mg lG f lH A outer s H0 E) (jE sFull) t} :=
 have nd:=scFull.nd
 ⟨_,(jD (jI (jS jC0 (jS jGC (j9) (jC jG gD T.len (by decide+kernel) (j3 (jv 0 rfl vL) j5 j4) j4)) (j9))))⟩
noncomputable abbrev nAt:List Str:=["choices","mask","least_lacked"]
theorem scAt:FnScope nAt ["choices","mask"] (jB sAt):= {}
def spAt:Sp:=λvs H Q _=>∃(L:Addr) (ch:Ch) (m:Nat),vs=[.ref L, .int (m:Int)]/\ChAt H L ch/\ChOk ch/\m<2 ^ ch.length/\m≠fullN ch/\∀r H',RowAt H' r (chAt ch m)->Ext H H'->H r=none->Q (.ref r) H'
def atA (T:Txt mg): { t:TS // JSs (XOf nAt "choices_at" sAt P w K mg lG f lH A outer s H0 E) (jE sAt) t} :=
 have nd:=scAt.nd
 ⟨_,(j8 (jQ (i:=2) nd rfl lL (jS jC0 (jTU PySem.F.plainAttrs_int PySem.F.slot_int_bit_length PySem.F.type_int_bit_length jRK (jS jL6 (qS jSH (jv 1 rfl vC)) (jS kT (jv 1 rfl vC) (j9)))) (j9)) jG0)
   (jD (jI (y9 (m:=[none,some 1]) (Nc:=["choice","mask"]) rfl (jB0 (jT yC (jv 0 rfl vL) (jv 2 rfl vL) jAX)) rfl (by decide+kernel) (by decide+kernel) (kP (psc:=jB sAt)) (jU (N:=nAt) rfl rfl (by decide+kernel)) (λcl C fp s H=>jZ (i:=0) (show (["choice","mask"]:List Str).Nodup by decide+kernel) rfl qH) (λcl C fp s H=>jFE (jO yR (jS jL6 (jT jC7 (jv 0 rfl kR) (j9) jK) (jv 1 rfl qD)) (j9) (jN _))) (λcl C fp s H=>(jv 0 rfl kR)) jPZ))))⟩
theorem jEP (ms:List Int)(pcs:List (List Int×Int))(t:Nat):qN ms pcs 0 t=if (t:Int)∈ms then [(-1,2 ^ t)] else []:=by
 unfold qN
 rw[fg]
 simp
theorem jMR {w n:Nat}{ms:List Int}{pcs:List (List Int×Int)}(hn:n<pcs.length)(t:Nat)(ht:(jF pcs (n:Int)).headD 0=(t:Int)):chsN w ms pcs (n+1)=(chsN w ms pcs n).set t (qN ms pcs n t++[((n:Int),maskN (jF pcs n))]):=by
 have key:∀u,qN ms pcs (n+1) u=qN ms pcs n u++if u=t then [((n:Int),maskN (jF pcs n))] else []:=λu=>by
  unfold qN
  rw[jK9 hn,ci,aR,aX]
  congr 2
  rw[gR,ht]
  by_cases hu:u=t
  ·subst hu
   rw[am (ar rfl),am rfl]
   rfl
  ·rw[ai (by rw[bz]; lia),ai hu]
   rfl
 refine iP λi=>?_
 rw[List.getElem?_set,yS]
 by_cases hi:i<w
 ·rw[jAM hi,jAM hi,key]
  by_cases h:t=i
  ·subst h
   rw[am rfl,am rfl,am hi]
  ·rw[ai h,ai (λz=>h z.symm),bI]
 ·rw[cy (by rw[yS]; lia),cy (by rw[yS]; lia)]
  split
  ·rw[ai (by lia)]
  ·rfl
theorem ChAt.app {H:Hp}{L:Addr}{ch:Ch}{t:Nat}{l:Addr}{ls:List Addr}{vs:List V}{cs:List (Int×Nat)}{v:V}{c:Int×Nat}(hL:H L=some (.lst (ls.map V.ref)))(nd:ls.Nodup)(al:All2 (RowAt H) ls ch)(hl:ls[t]?=some l)(hc:ch[t]?=some cs)(hv:H l=some (.lst vs))(av:All2 (PrAt H) vs cs)(pv:PrAt H v c)(ne:l≠L):
  (L2.upd H l (.lst (vs++[v]))) L=some (.lst (ls.map V.ref))/\All2 (RowAt (L2.upd H l (.lst (vs++[v])))) ls (ch.set t (cs++[c])):=by
 have tu:Tups H (L2.upd H l (.lst (vs++[v]))):=Tups.upd hv _
 refine⟨by rw[j7 ne.symm]; exact hL,?_⟩
 refine All2.of_get (by rw[List.length_set]; exact al.len) λi a b h1 h2=>?_
 rw[List.getElem?_set] at h2
 by_cases hi:t=i
 ·subst hi
  rw[am rfl,am (ah.mp hc).1] at h2
  cases h2
  rw[hl] at h1
  cases h1
  exact⟨_,j6,(av.imp λ_ _=>PrAt.mono tu).snoc (pv.mono tu)⟩
 ·rw[ai hi] at h2
  obtain⟨b',hb',r⟩:=al.get' h1
  rw[h2] at hb'
  cases hb'
  refine r.keep (λxs hx=>?_) tu
  rw[j7 λz=>hi ?_]
  ·exact hx
  ·exact(List.getElem?_inj (ah.mp hl).1 nd).mp (by rw[hl,h1,z])
theorem jJO {fd:FuncData}(F:Fun K "choices_of" "choices_of" yL f fd)(T:Txt mg)(CM:Can P w K mg lG "mask_of" 1 fM fdM ["lot"] jD0):FnOk P w K mg lG CX0 2 f fd ["box"] jBW:=by
 refine F.ok scChoices (λvs H Q E h=>?_) (λlH A outer s H vs Q E hr h=>?_)
 ·obtain⟨_,_,_,_,rfl,_⟩:=h
  rfl
 ·obtain⟨b,w,ms,pcs,rfl,hB,g,q⟩:=h
  refine⟨_,(jOM T CM hr).2.h,?_⟩
  obtain⟨qm,qp,ps,b1,b2,b3,b4⟩:=id hB.ex
  have pl:=b4.len
  have w0:=g.w0
  have w1:=g.w1
  have gpl:=g.pl
  refine⟨_,rfl,b,_,0,_,rfl,rfl,SqT.of b1,rfl,w,rfl,by lia,by lia,jBG (n:=w.toNat) (by rw[aH]; lia) (λD i σ' H' zs=>(∃v,σ'=[v,some (.ref b)])/\Ext H H'/\H' D=some (.lst zs)/\H D=none/\∃ls:List Addr,zs=ls.map V.ref/\ls.Nodup/\D∉ls/\(∀a∈ls,H a=none)/\All2 (RowAt H') ls ((List.range i).map (qN ms pcs 0))) ?_ ?_ ?_ ?_⟩
  ·intro D hD
   exact⟨⟨_,rfl⟩,(Ext.refl _).new hD _,j6,hD,[],rfl,ki,by simp,by simp,trivial⟩
  ·rintro D i σ' H' zs hD hi ⟨_,e,h2,_,ls,rfl,_,_,_,al⟩
   refine⟨h2,?_⟩
   rw[af,al.len,af,b9]
   lia
  ·rintro D i σ' H' zs hD hi ⟨⟨v,rfl⟩,e,h2,hn,ls,rfl,nd,hDl,nol,al⟩
   dsimp only [yA,qG]
   rw[am rfl]
   have e0:(0+(i:Int))=(i:Int):=by lia
   have key:∀(l:Addr) (H2:Hp),Ext H' H2->H' l=none->RowAt H2 l (qN ms pcs 0 i)->H2 D=some (.lst (ls.map V.ref))/\((∃v,[some (V.int (i:Int)),some (.ref b)]=[v,some (.ref b)])/\Ext H (L2.upd H2 D (.lst (ls.map V.ref++[.ref l])))/\(L2.upd H2 D (.lst (ls.map V.ref++[.ref l]))) D=some (.lst (ls.map V.ref++[.ref l]))/\H D=none/\∃ls':List Addr,ls.map V.ref++[.ref l]=ls'.map V.ref/\ls'.Nodup/\D∉ls'/\(∀a∈ls',H a=none)/\All2 (RowAt (L2.upd H2 D (.lst (ls.map V.ref++[.ref l])))) ls' ((List.range (i+1)).map (qN ms pcs 0))):=λl H2 e2 nl rl=>by
    have hD2:=e2 _ _ h2
    have lD:l≠D:=λz=>by rw[z,h2] at nl; cases nl
    have tu:Tups H2 (L2.upd H2 D (.lst (ls.map V.ref++[.ref l]))):=Tups.upd hD2 _
    have kp:∀a xs,a≠D->H2 a=some (.lst xs)->(L2.upd H2 D (.lst (ls.map V.ref++[.ref l]))) a=some (.lst xs):=λa xs ha h=>by rw[j7 ha]; exact h
    refine⟨hD2,⟨_,rfl⟩,(e.trans e2).updNew hn _,j6,hn,ls++[l],by rw[aR]; rfl,?_,?_,?_,?_⟩
    ·rw[iR]
     refine⟨nd,by simp,λa ha b hb z=>?_⟩
     rw[aN] at hb
     subst hb z
     obtain⟨j,hj⟩:=bw ha
     obtain⟨cs,_,vs,r,_⟩:=al.get' hj
     rw[nl] at r
     cases r
    ·rw[aK,aN]
     rintro (z | z)
     ·exact hDl z
     ·exact lD z.symm
    ·intro a ha
     rcases aK.mp ha with z | z
     ·exact nol a z
     ·rw[aN] at z
      subst z
      cases y:H a with
      | none=>rfl
      | some o=>rw[e _ _ y] at nl; cases nl
    ·rw[eV,aR]
     refine(All2.of_get al.len λj a c h1 h2'=>?_).snoc (rl.keep (λxs=>kp l xs lD) tu)
     obtain⟨c',hc',r⟩:=al.get' h1
     rw[h2'] at hc'
     cases hc'
     have aD:a≠D:=λz=>hDl (z ▸ az h1)
     exact r.keep (λxs hx=>kp a xs aD (e2 _ _ hx)) (e2.tups.trans tu)
   refine⟨_,rfl,_,rfl,b,_,1,_,rfl,rfl,SqT.of (e _ _ b1),rfl,qm,_,rfl, .inr (SqT.of (e _ _ b2)),rfl,jB8 ms,_,rfl,?_⟩
   rw[e0,jC8]
   refine ite2 (λhz=>?_) (λhz=>?_)
   ·have hz:=aE hz
    refine⟨_,rfl,_,rfl,_,_,rfl,rfl,⟨by lia,by lia,by decide⟩,by show (2:Nat)<=_; decide,λr H2 d2 e2=>⟨by show (1:Nat)<=_; decide,λl H3 d3 e3 n3=>?_⟩⟩
    have nl:H' l=none:=by
     cases z:H' l with
     | none=>rfl
     | some o=>rw[e2 _ _ z] at n3; cases n3
    refine key l H3 (e2.trans e3) nl ⟨_,d3,?_⟩
    rw[jEP,am hz]
    refine⟨⟨r,rfl,?_⟩,trivial⟩
    have:(1:Int)*2 ^ (i:Int).toNat=((2 ^ i:Nat):Int):=by
     rw[bu]
     push_cast
     lia
    rw[e3 _ _ d2]
    show some (HO.tup [V.int (-1),V.int ((1:Int)*2 ^ (i:Int).toNat)])=_
    rw[this]
   ·refine⟨by show (0:Nat)<=_; decide,λl H3 d3 e3 n3=>?_⟩
    refine key l H3 e3 n3 ⟨_,d3,?_⟩
    rw[jEP,ai (λz=>hz (ar z))]
    trivial
  ·rintro D σ' H1 zs hD ⟨_,e1,h2,hn,ls,rfl,nd,hDl,nol,al⟩
   refine⟨_,rfl,b,_,2,_,rfl,rfl,SqT.of (e1 _ _ b1),rfl,true,qp,rfl,⟨_,SqT.of (e1 _ _ b3)⟩,jOD (tp:=true) (xs:=ps) (λi σ H'=>(∃v2 v3,σ=[some (.ref b),some (.ref D),v2,v3])/\Ext H H'/\H' D=some (.lst (ls.map V.ref))/\All2 (RowAt H') ls (chsN w.toNat ms pcs i)) ⟨⟨_,_,rfl⟩,e1,h2,al⟩ (λi σ H' ⟨_,e,_⟩=>SqT.of (e _ _ b3)) ?_ ?_⟩
   ·rintro i x t σ H' hx ht ⟨⟨v2,v3,rfl⟩,e,h3,al3⟩
    obtain⟨pc,hpc,hPc⟩:=b4.at hx
    obtain⟨pa,pq,rfl,c1,c2⟩:=id hPc
    have hi:i<pcs.length:=(ah.mp hpc).1
    have gp:=g.pg pc (az hpc)
    have et:jF pcs (i:Int)=pc.1:=by
     unfold jF
     rw[bu,aB,hpc]
     rfl
    have lt:=jHE _ 0 w gp.lot.ris gp.lot.bnd
    have e':=e.new ht (.tup [.int (i:Int), .ref pa])
    have k':Ext H' (L2.upd H' t (.tup [.int (i:Int), .ref pa])):=(Ext.refl _).new ht _
    refine⟨t,_,rfl,SqT.of j6,rfl,_,_,rfl,_,_,rfl,rfl,?_⟩
    have h5:=k' _ _ h3
    have al5:=al3.imp λl cs r=>r.keep (λxs z=>k' _ _ z) k'.tups
    generalize L2.upd H' t (.tup [.int (i:Int), .ref pa])=H5 at e' h5 al5 ⊢
    obtain⟨hd,tl,hp1⟩:∃hd tl,pc.1=hd::tl:=by
     cases z:pc.1 with
     | nil=>exact absurd z gp.lot.ne
     | cons a r=>exact⟨a,r,rfl⟩
    have hb:=gp.lot.bnd hd (by rw[hp1]; exact ax ..)
    have hdl:(jF pcs (i:Int)).headD 0=((hd.toNat:Nat):Int):=by
     rw[et,hp1]
     show hd=_
     lia
    have hw:hd.toNat<w.toNat:=by lia
    obtain⟨l,hl,vs,hv,av⟩:=al5.get (jAM hw)
    have lne:l≠D:=λz=>hDl (z ▸ az hl)
    have iD:atI (ls.map V.ref) hd=some (.ref l):=by
     have:=jAQ (xs:=ls.map V.ref) (j:=hd.toNat) (v:= .ref l) (by rw[aW,hl]; rfl)
     rwa [show ((hd.toNat:Nat):Int)=hd by lia] at this
    have c2':H5 pq=some (.tup (pc.1.map V.int)):=e' _ _ c2
    refine⟨_,rfl,_,rfl,pa,_,0,_,rfl,rfl,SqT.of (e' _ _ c1),rfl,pq,_,0, .int hd,rfl,rfl,SqT.of c2',by rw[hp1]; exact jAQ (j:=0) rfl,D,_,_,_,rfl,rfl,SqL.of h5,iD, .inl ⟨rfl,_,SqL.of hv⟩,_,rfl,_,rfl,pa,_,0,_,rfl,rfl,SqT.of (e' _ _ c1),rfl,pq,pc.1,rfl,c2',λx hx=>?_,by lia,λH6 e6=>?_⟩
    ·have:=gp.lot.bnd x hx
     lia
    refine⟨by show (2:Nat)<=_; decide,λr H7 d7 e7=>?_⟩
    have E7:=e6.trans e7
    have hv7:=E7 _ _ hv
    have vl:vs.length<=33:=by
     rw[av.len]
     exact(jEO g).len _ _ (jAM hw)
    have ap:=ChAt.app (v:= .ref r) (c:=((i:Int),maskN (jF pcs (i:Int)))) (E7 _ _ h5) nd (al5.imp λl cs r=>r.keep (λxs z=>E7 _ _ z) E7.tups) hl (jAM hw) hv7 (av.imp λ_ _=>PrAt.mono E7.tups) ⟨r,rfl,by rw[et]; exact d7⟩ lne
    have nH:H l=none:=by
     cases z:H l with
     | none=>rfl
     | some o=>
      exfalso
      rw[nol l (az hl)] at z
      cases z
    refine⟨l,_,_,rfl,rfl,hv7,by rw[aH]; lia,⟨_,_,rfl⟩,?_,ap.1,?_⟩
    ·exact(e'.trans E7).updNew nH _
    ·rw[jMR hi hd.toNat hdl]
     exact ap.2
   ·rintro σ H' ⟨⟨v2,v3,rfl⟩,e,h3,al3⟩
    refine⟨_,rfl,q D H' ⟨ls,h3,nd,?_⟩ e⟩
    rw[pl] at al3
    exact al3
theorem jRD {fd:FuncData}(F:Fun K "full_mask" "full_mask" sFull f fd)(T:Txt mg):FnOk P w K mg lG CX0 1 f fd ["choices"] jI4:=by
 refine F.ok scFull (λvs H Q E h=>?_) (λlH A outer s H vs Q E hr h=>?_)
 ·obtain⟨_,_,rfl,_⟩:=h
  rfl
 ·obtain⟨L,ch,rfl,hL,hw,q⟩:=h
  refine⟨_,(fullA T).2.h,?_⟩
  obtain⟨ls,h1,h2⟩:=hL.len
  refine⟨_,rfl,L,_,rfl, .inl (SqL.of h1),_,_,rfl,rfl,⟨?_,?_,?_⟩,_,_,rfl,rfl,?_⟩
  ·first | lia | decide
  ·rw[af]; lia
  ·first | lia | decide
  ·have e:(1:Int)*2 ^ (((ls.map V.ref).length:Nat):Int).toNat - 1=((fullN ch:Nat):Int):=by
    rw[af,h2,bu]
    unfold fullN
    have:=h9 ch.length
    have e2:((2 ^ ch.length:Nat):Int)=(2:Int) ^ ch.length:=by push_cast; rfl
    lia
   show Q (V.int ((1:Int)*2 ^ (((ls.map V.ref).length:Nat):Int).toNat - 1)) H
   rw[e]
   exact q
theorem ok_at {fd:FuncData}(F:Fun K "choices_at" "choices_at" sAt f fd)(T:Txt mg):FnOk P w K mg lG CX0 1 f fd ["choices","mask"] spAt:=by
 refine F.ok scAt (λvs H Q E h=>?_) (λlH A outer s H vs Q E hr h=>?_)
 ·obtain⟨_,_,_,rfl,_⟩:=h
  rfl
 ·obtain⟨L,ch,m,rfl,hL,ok,hm,hf,q⟩:=h
  refine⟨_,(atA T).2.h,?_⟩
  obtain⟨ls,h1,nd,al⟩:=hL.ex
  have hlow:=jIJ hm hf
  have w16:=ok.w
  refine⟨_,rfl,_,rfl,_,rfl,_,_,rfl,rfl,_,_,rfl,rfl,rfl,_,rfl,rfl,_,_,rfl,rfl,?_⟩
  have el:(Builtin.Int.intBits (Builtin.bitAnd (Builtin.bitNot (m:Int)) ((m:Int)+1)):Int) - 1=((lowN m:Nat):Int):=by
   rw[jO5]
   lia
  show yA 2 (V.int ((Builtin.Int.intBits (Builtin.bitAnd (Builtin.bitNot (m:Int)) ((m:Int)+1)):Int) - 1)) _ _ _
  rw[el]
  obtain⟨l,hl,vs,hv,av⟩:=al.get (aG hlow)
  have vl:vs.length<=33:=by
   rw[av.len]
   exact ok.len _ _ (aG hlow)
  have er:ch.getD (lowN m) []=ch[lowN m]:=by
   rw[aB,aG hlow]
   rfl
  refine⟨_,rfl,_,rfl,L,_,_,_,rfl,rfl,SqL.of h1,jAQ (by rw[aW,hl]; rfl),l,rfl,⟨_,SqL.of hv⟩,jBH (xs:=vs) (λσ=>∃v,σ=[v,some (.int (m:Int))]) (λH' zs j=>All2 (PrAt H') zs (((ch[lowN m]).take j).filter λc=>c.2&&&m==0)) ⟨λH=>trivial,λH H' zs j t h=>h.imp λ_ _=>PrAt.mono t,λH zs j h=>?_⟩ hv (by rw[aH]; lia) ⟨_,rfl⟩ ?_ ?_⟩
  ·rw[h.len]
   exact bM (bP _ _) (ef _ _)
  ·rintro j x σ' H' zs hx ⟨v,rfl⟩ e hz R S yes no
   obtain⟨c,hc,qa,rfl,hq⟩:=av.get' hx
   have hq':=e _ _ hq
   have et:(ch[lowN m]).take (j+1)=(ch[lowN m]).take j++[c]:=by
    rw[bN,hc]
    rfl
   refine⟨_,rfl,qa,_,1,_,rfl,rfl,SqT.of hq',rfl,_,rfl,_,_,rfl,rfl,rfl,_,rfl,?_⟩
   have ez:decide (V.int (Builtin.bitAnd ((c.2:Nat):Int) (m:Int))=V.int 0)=(c.2&&&m==0):=by
    rw[jK4,bH,bz,jq]
    exact⟨λh=>by have:=V.int.inj h; lia,λh=>by rw[h]; rfl⟩
   show if decide (V.int (Builtin.bitAnd ((c.2:Nat):Int) (m:Int))=V.int 0)=true then _ else _
   rw[ez]
   refine ite2 (λh=>?_) (λh=>?_)
   ·refine⟨_,rfl,yes _ _ _ ⟨_,rfl⟩ (Ext.refl _) ?_⟩
    show All2 _ _ (((ch[lowN m]).take (j+1)).filter _)
    rw[et,ci,gR,am h]
    exact hz.snoc ⟨qa,rfl,hq'⟩
   ·refine no _ _ ⟨_,rfl⟩ (Ext.refl _) ?_
    show All2 _ _ (((ch[lowN m]).take (j+1)).filter _)
    rw[et,ci,gR,ai h,ke,bI]
    exact hz
  ·rintro D H' zs hD e hn hz
   rw[av.len,cF] at hz
   refine q D H' ⟨zs,hD,?_⟩ e hn
   unfold chAt
   rw[er]
   exact hz
def btsN (n m:Nat):List Int:=((List.range n).filter λt=>m.testBit t).map λ(t:Nat)=>(t:Int)
theorem jAH (n m:Nat):Ris (n:Int) (btsN n m):=by
 unfold btsN
 refine⟨dZ.mpr ((gH.filter _).imp λh=>by lia),λz hz=>?_⟩
 obtain⟨t,ht,rfl⟩:=bW.mp hz
 have:=be.mp (bU.mp ht).1
 lia
theorem jO6 {H:Hp}{n:Int}{os:List Ob}{vs:List V}(h:lotB n (.tup os)=true)(hx:Ats H os vs):vs=(os.map val).map V.int/\(os.map val).Pairwise (· < ·)/\∀k∈os.map val,0<=k/\k<n:=by
 have h:(os.all (upB 0 (n - 1))&&(adj (os.map val)).all id)=true:=h
 rw[bE] at h
 obtain⟨h1,h2⟩:=h
 rw[aV] at h1
 have hi:os.all isInt=true:=by
  rw[aV]
  intro x hx
  have:=h1 x hx
  cases x with
  | int i=>rfl
  | oth=>cases this
  | tup r=>cases this
 refine⟨hx.allInt hi,?_,λk hk=>?_⟩
 ·rw[cH]
  intro i j hi hj hij
  have a1:=jNB h2 (k:=i) (by lia)
  have a2:=jJ9 h2 (i+1) j (by lia) hj
  have e1:(os.map val).getD i 0=(os.map val)[i]:=jM8 hi
  have e2:(os.map val).getD j 0=(os.map val)[j]:=jM8 hj
  lia
 ·obtain⟨o,ho,rfl⟩:=bW.mp hk
  have:=h1 o ho
  cases o with
  | int i=>
   have this:(decide (0<=i)&&decide (i<=n - 1))=true:=this
   rw[bE] at this
   have q1:=aE this.1
   have q2:=aE this.2
   show 0<=i/\i<n
   lia
  | oth=>cases this
  | tup r=>cases this
end Eo
namespace L2
open PySem PySem.Spec PyProof.Rows
theorem jTQ {X:Cx}{e:Expr}{te:TE}{pos:Pos}{i:Nat}{x:PySem.Str}{op:Operator}{ti:TIp}{pos':Pos}(hN:X.N.Nodup)(hi:X.N[i]?=some x)(hx:Loc1 X x)(he:JE X e te)(ho:PIp X op ti):JS X (.AugAssign (.Name x pos') op e pos) (tAug i te ti):=⟨jSW hN hi hx.a he.h ho hx.b⟩
end L2
namespace Eo
open PySem L2
theorem mem_bts {n m:Nat}{t:Int} :t∈btsN n m↔(0<=t/\t<n)/\m.testBit t.toNat=true:=by
 unfold btsN
 rw[bW]
 constructor
 ·rintro ⟨i,hi,rfl⟩
  obtain⟨h1,h2⟩:=bU.mp hi
  have:=be.mp h1
  exact⟨by lia,by rw[bu]; exact h2⟩
 ·rintro ⟨⟨a,b⟩,h⟩
  exact⟨t.toNat,bU.mpr ⟨be.mpr (by lia),h⟩,by lia⟩
theorem jI7 {l k:List Int}(h1:l.Pairwise (· < ·))(h2:k.Pairwise (· < ·))(h:∀t,t∈l↔t∈k):l=k:=by
 have p:l.Perm k:=(List.perm_ext_iff_of_nodup (h1.imp λ{a b} h=>by lia) (h2.imp λ{a b} h=>by lia)).mpr h
 exact p.eq_of_pairwise (λa b _ _ x y=>by lia) h1 h2
theorem jF9 {n m:Nat}(h:m<2 ^ n):maskN (btsN n m)=m:=by
 have r:=jAH n m
 refine dW λi=>?_
 rw[jAE _ i r.ris λx hx=>(r.bnd x hx).1]
 by_cases hi:i<n
 ·rw[bH,bz,mem_bts]
  constructor
  ·rintro ⟨_,z⟩; rwa [bu] at z
  ·intro z; exact⟨by lia,by rw[bu]; exact z⟩
 ·have e:m.testBit i=false:=eM (aM h (dX (by decide) (by lia)))
  rw[e]
  exact aI λz=>by have:=(mem_bts.mp z).1; lia
theorem jMZ {n m k:Nat}(hm:m<2 ^ n)(hk:k<2 ^ n)(e:btsN n m=btsN n k):m=k:=by rw[<- jF9 hm,<- jF9 hk,e]
theorem jOS {n:Nat}{l:List Int}(h:l.Pairwise (· < ·))(hb:∀t∈l,0<=t/\t<(n:Int)):btsN n (maskN l)=l:=by
 refine jI7 (jAH n _).ris h λt=>?_
 rw[mem_bts]
 constructor
 ·rintro ⟨⟨a,b⟩,z⟩
  rw[jAE _ _ h λx hx=>(hb x hx).1,bz] at z
  rwa [show ((t.toNat:Nat):Int)=t by lia] at z
 ·intro z
  have:=hb t z
  refine⟨this,?_⟩
  rw[jAE _ _ h λx hx=>(hb x hx).1,bz,show ((t.toNat:Nat):Int)=t by lia]
  exact z
theorem jP3 {n m:Nat}{l:List Int}(h:l.Pairwise (· < ·))(hb:∀t∈l,0<=t/\t<(n:Int))(dj:∀t∈l,t∉btsN n m):srt (btsN n m++l)=btsN n (m|||maskN l):=by
 have r:=jAH n m
 have nd:(btsN n m++l).Nodup:=iR.mpr ⟨r.ris.imp λ{a b} h=>by lia,h.imp λ{a b} h=>by lia,λx hx y hy e=>by rw[e] at hx; exact dj y hy hx⟩
 refine jI7 ((List.Pairwise.and (jP4 _) ((jEW _).nodup_iff.mpr nd)).imp λ{x y} ⟨u,v⟩=>by lia) (jAH n _).ris λt=>?_
 rw[(jEW _).mem_iff,aK,mem_bts,mem_bts,gB,kc,jAE _ _ h λx hx=>(hb x hx).1,bz]
 constructor
 ·rintro (⟨a,b⟩ | a)
  ·exact⟨a, .inl b⟩
  ·have:=hb t a
   exact⟨this, .inr (by rw[show ((t.toNat:Nat):Int)=t by lia]; exact a)⟩
 ·rintro ⟨a,b | b⟩
  ·exact .inl ⟨a,b⟩
  ·rw[show ((t.toNat:Nat):Int)=t by lia] at b
   exact .inr b
theorem jCD {n m:Nat}(h:m<2 ^ n):(btsN n m).length<n↔m≠2 ^ n - 1:=by
 have le:(btsN n m).length<=n:=by
  unfold btsN
  rw[af]
  have:=bP (λt=>m.testBit t) (List.range n)
  rwa [b9] at this
 have e:(btsN n m).length=n↔m=2 ^ n - 1:=by
  constructor
  ·intro z
   refine jM9 h λj hj=>?_
   unfold btsN at z
   rw[af] at z
   have:=(List.length_filter_eq_length_iff (p:=λt=>m.testBit t) (l:=List.range n)).mp (by rw[z,b9])
   exact this j (be.mpr hj)
  ·rintro rfl
   unfold btsN
   rw[af,List.filter_eq_self.mpr,b9]
   intro t ht
   rw[io]
   exact ar (be.mp ht)
 lia
theorem jOQ (n:Nat):btsN n 0=[]:=by
 refine List.eq_nil_iff_forall_not_mem.mpr λt ht=>?_
 have:=(mem_bts.mp ht).2
 rw[gS] at this
 cases this
def okK (w m:Nat)(pcs:List (List Int×Int))(k:Int):Bool:=decide ((lowN m:Int)∈jF pcs k)&&(jF pcs k).all λt=>decide (t∉btsN w m)
section
variable {w:Int}{ms:List Int}{pcs:List (List Int×Int)}(g:Good 16 32 w ms pcs)
include g
theorem jCN {k:Int}(h0:0<=k)(h1:k<pcs.length):Lot w (jF pcs k):=(g.at (k:=k.toNat) (by lia)).lot
theorem jPG {k:Int}(h0:0<=k)(h1:k<pcs.length)(t:Nat):(maskN (jF pcs k)).testBit t=decide ((t:Int)∈jF pcs k):=jAE _ t (jCN g h0 h1).ris λx hx=>((jCN g h0 h1).bnd x hx).1
theorem jPE {k:Int}(h0:0<=k)(h1:k<pcs.length){m:Nat} :maskN (jF pcs k)&&&m=0↔∀t∈jF pcs k,m.testBit t.toNat=false:=by
 have l:=jCN g h0 h1
 constructor
 ·intro h t ht
  have bt:=l.bnd t ht
  have q:=bQ (λz=>z.testBit t.toNat) h
  simp only [hW,gS,jPG g h0 h1] at q
  rw[show ((t.toNat:Nat):Int)=t by lia,ar ht,gY] at q
  exact q
 ·intro h
  apply dW
  intro i
  rw[hW,gS,jPG g h0 h1]
  by_cases hi:(i:Int)∈jF pcs k
  ·have:=h _ hi
   rw[bu] at this
   rw[this,bV]
  ·rw[aI hi]
   rfl
theorem jJX {k:Int}(h0:0<=k)(h1:k<pcs.length):(jF pcs k).headD 0∈jF pcs k/\∀t∈jF pcs k,(jF pcs k).headD 0<=t:=by
 have l:=jCN g h0 h1
 refine⟨jIM l.ne,λt ht=>?_⟩
 have r:=l.ris
 cases z:jF pcs k with
 | nil=>rw[z] at ht; cases ht
 | cons a q=>
  rw[z] at ht r
  show a<=t
  rcases aF.mp ht with y | y
  ·lia
  ·have:=(eG.mp r).1 t y
   lia
theorem jRH {m:Nat}(hm:m<2 ^ w.toNat){k:Int}(h0:0<=k)(h1:k<pcs.length):okK w.toNat m pcs k=(decide ((jF pcs k).headD 0=(lowN m:Int))&&(maskN (jF pcs k)&&&m==0)):=by
 have hd:=jJX g h0 h1
 have lt:=jCN g h0 h1
 have w0:=g.w0
 have dj:((jF pcs k).all λt=>decide (t∉btsN w.toNat m))=(maskN (jF pcs k)&&&m==0):=by
  rw[bH,aV,jq,jPE g h0 h1]
  constructor
  ·intro z t ht
   have:=aE (z t ht)
   have tb:=lt.bnd t ht
   cases hb:m.testBit t.toNat with
   | false=>rfl
   | true=>exact absurd (mem_bts.mpr ⟨by lia,hb⟩) this
  ·intro z t ht
   refine ar λy=>?_
   have:=z t ht
   rw[(mem_bts.mp y).2] at this
   cases this
 unfold okK
 rw[dj]
 by_cases h2:maskN (jF pcs k)&&&m=0
 ·rw[show (maskN (jF pcs k)&&&m==0)=true by rw[h2]; rfl,i4,i4]
  rw[bH,bz,bz]
  constructor
  ·intro z
   have le:=hd.2 _ z
   have fit:=(jPE g h0 h1).mp h2 _ hd.1
   have hb:=lt.bnd _ hd.1
   rcases Int.lt_or_le ((jF pcs k).headD 0) (lowN m:Int) with y | y
   ·have:=jHK m ((jF pcs k).headD 0).toNat (by lia)
    rw[fit] at this
    cases this
   ·lia
  ·intro z
   rw[<- z]
   exact hd.1
 ·rw[show (maskN (jF pcs k)&&&m==0)=false by simpa using h2,bV,bV]
theorem jS8 {m:Nat}(hm:m<2 ^ w.toNat)(hn:m≠2 ^ w.toNat - 1):chAt (chs w.toNat ms pcs) m=(if (lowN m:Int)∈ms then [(-1,2 ^ lowN m)] else [])++((upto pcs.length).filter (okK w.toNat m pcs)).map λk=>(k,maskN (jF pcs k)):=by
 have hl:lowN m<w.toNat:=jIJ hm hn
 have z0:2 ^ lowN m&&&m=0:=by
  refine dW λi=>?_
  rw[hW,gS,ic]
  by_cases hi:lowN m=i
  ·rw[<- hi,jFA,bV]
  ·rw[aI hi,cS]
 unfold chAt chs
 rw[aB,jAM hl]
 show (qN ms pcs pcs.length (lowN m)).filter _=_
 unfold qN
 rw[ci,bL (by rw[jDE]; exact aj _),List.filter_map,lA]
 congr 1
 ·by_cases h:(lowN m:Int)∈ms
  ·rw[am h,gn (by show (2 ^ lowN m&&&m==0)=true; rw[z0]; rfl)]
   rfl
  ·rw[ai h]
   rfl
 ·congr 1
  refine List.filter_congr λk hk=>?_
  have kb:=(jDD pcs.length).bnd k hk
  rw[jRH g hm kb.1 kb.2,Bool.and_comm]
  rfl
theorem ch_gt {m:Nat}(hm:m<2 ^ w.toNat)(hn:m≠2 ^ w.toNat - 1){c:Int×Nat}(hc:c∈chAt (chs w.toNat ms pcs) m):m<m|||c.2/\m|||c.2<2 ^ w.toNat:=by
 have o:ChOk (chs w.toNat ms pcs):=jEO g
 have cl:(chs w.toNat ms pcs).length=w.toNat:=yS _ _ _ _
 have hl:lowN m<w.toNat:=jIJ hm hn
 unfold chAt at hc
 obtain⟨h1,h2⟩:=bU.mp hc
 rw[aB] at h1
 cases hg:(chs w.toNat ms pcs)[lowN m]? with
 | none=>rw[hg] at h1; cases h1
 | some cs=>
  rw[hg] at h1
  obtain⟨b1,b2,_⟩:=o.it _ _ hg c h1
  rw[cl] at b2
  refine⟨?_,Nat.or_lt_two_pow hm b2⟩
  have ne:m≠m|||c.2:=λe=>by
   have:=bQ (λx=>Nat.testBit x (lowN m)) e
   simp only [gB,jFA,b1,Bool.or_true] at this
   cases this
  have:=(Nat.left_le_or:m<=m|||c.2)
  lia
end
section
variable {fU:Addr}{fdU:FuncData}
abbrev jPL:List Str:=["found"]
theorem scWhole:FnScope jPL ["found"] (jB jDR):= {}
def jSF (T:Txt mg): { t:TS // JSs (XOf jPL "_law_whole" jDR P w K mg lG f lH A outer s H0 E) (jE jDR) t} :=
 have nd:=scWhole.nd
 ⟨_,(jD (jI ((jC6 (jC jL gD T.isinstance (by decide+kernel) (j3 (jv 0 rfl vL) (j3 (kQ (v:= .ty "int") gD T.int (by decide+kernel) rfl) j5 j4) j4) j4) (jBM (jPT (jC jL gD T.isinstance (by decide+kernel) (j3 (jv 0 rfl vL) (j3 (kQ (v:= .ty "bool") gD T.bool (by decide+kernel) rfl) j5 j4) j4) j4)))))))⟩
theorem jNX {fd:FuncData}(F:Fun K "_law_whole" "_law_whole" jDR f fd)(T:Txt mg):FnOk P w K mg lG CX0 1 f fd ["found"] spWh:=by
 refine F.ok scWhole (λvs H Q E h=>?_) (λlH A outer s H vs Q E hr h=>?_)
 ·obtain⟨_,_,rfl,_⟩:=h
  rfl
 ·obtain⟨v,o,rfl,hA,q⟩:=h
  obtain⟨t,ty,_,b1,b2,k1,k2,e⟩:=hA.ty K
  refine⟨_,(jSF T).2.h,?_⟩
  refine⟨_,rfl,_,_,_,b1,rfl,ty,k1,b1,rfl,?_⟩
  rw[<- e] at q
  cases b1 with
  | true=>exact iteT ⟨_,rfl,_,_,_,b2,rfl,ty,k2,b2,rfl,q⟩
  | false=>exact iteF q
noncomputable abbrev nUpto:List Str:=["thing","least","most"]
theorem scUpto:FnScope nUpto ["thing","least","most"] (jB sUpto):= {}
def spUp:Sp:=λvs H Q _=>∃v o lo hi,vs=[v, .int lo, .int hi]/\At H o v/\Q (.bl (upB lo hi o)) H
def uptoA (T:Txt mg)(CW:Can P w K mg lG "_law_whole" 1 fW fdW ["found"] spWh)(hr:Room 1 (XOf nUpto "_law_upto" sUpto P w K mg lG f lH A outer s H0 E).A): { t:TS // JSs (XOf nUpto "_law_upto" sUpto P w K mg lG f lH A outer s H0 E) (jE sUpto) t} :=
 have nd:=scUpto.nd
 ⟨_,(jD (jI ((jC6 (CW.je hr gD (j3 (jv 0 rfl vL) j5 j4) j4) (jBM (jOA op_le op_le (jv 1 rfl vL) (jv 0 rfl vL) (jv 2 rfl vL)))))))⟩
theorem jR4 {fd:FuncData}(F:Fun K "_law_upto" "_law_upto" sUpto f fd)(T:Txt mg)(CW:Can P w K mg lG "_law_whole" 1 fW fdW ["found"] spWh):FnOk P w K mg lG CX0 2 f fd ["thing","least","most"] spUp:=by
 refine F.ok scUpto (λvs H Q E h=>?_) (λlH A outer s H vs Q E hr h=>?_)
 ·obtain⟨_,_,_,_,rfl,_⟩:=h
  rfl
 ·obtain⟨v,o,lo,hi,rfl,hA,q⟩:=h
  refine⟨_,(uptoA T CW hr).2.h,?_⟩
  refine⟨_,rfl,v,o,rfl,hA,_,rfl,?_⟩
  cases o with
  | int i=>
   cases (show v= .int i from hA)
   refine iteT ⟨_,rfl,_,rfl,_,_,rfl,rfl,_,rfl,ite2 (λhy=>?_) (λhy=>?_)⟩
   ·refine⟨_,rfl,_,_,rfl,rfl,qb q ?_⟩
    have hy:lo<=i:=aE hy
    show (decide _&&decide _)=decide _
    rw[ar hy,gY]
   ·refine qb q ?_
    have hy:¬lo<=i:=λh=>hy (ar h)
    show (decide _&&decide _)=false
    rw[aI hy,cS]
  | oth=>exact iteF q
  | tup os=>exact iteF q
noncomputable abbrev nLotR:List Str:=["thing","wide"]
theorem scLotR:FnScope nLotR ["thing","wide"] (jB sLotR):= {}
def lotRA (T:Txt mg)(CU:Can P w K mg lG "_law_upto" 2 fU fdU ["thing","least","most"] spUp)(hr:Room 2 (XOf nLotR "_law_lot_right" sLotR P w K mg lG f lH A outer s H0 E).A): { t:TS // JSs (XOf nLotR "_law_lot_right" sLotR P w K mg lG f lH A outer s H0 E) (jE sLotR) t} :=
 have nd:=scLotR.nd
 ⟨_,(j8 (kL (jt_w (qU (yI (y8 (jC jL gD T.isinstance (by decide+kernel) (j3 (jv 0 rfl vL) (j3 (kQ (v:= .ty "tuple") gD T.tuple (by decide+kernel) rfl) j5 j4) j4) j4) kN)) (jBK (yI (y8 (jC (jAK rfl) gD T.all (by decide+kernel) (j3 (y9 (m:=[none,some 1]) (Nc:=["one","wide"]) rfl (jC4 (jv 0 rfl vL)) rfl (by decide+kernel) (by decide+kernel) (kP (psc:=jB sLotR)) (jU (N:=nLotR) rfl rfl (by decide+kernel)) (λcl C fp s H=>jZ (i:=0) (show (["one","wide"]:List Str).Nodup by decide+kernel) rfl qH) (λcl C fp s H=>yM) (λcl C fp s H=>(CU.je hr gl_b (j3 (jv 0 rfl kR) (j3 (j9) (j3 (jS jC0 (jv 1 rfl qD) (j9)) j5 yH) jJ) j4) j4)) qF) j5 jV) jV) kN))))) (jD (jI (je_bl))) jH)
   (jD (jI (jC (jAK rfl) gD T.all (by decide+kernel) (j3 (y9 (m:=[none,none]) (Nc:=["one","other"]) rfl (jPR gD T.zip (j3 (jv 0 rfl vL) (j3 (jY jHC (jv 0 rfl vL) (kJ (j9)) kO) j5 jP) j4) j4) rfl (by decide+kernel) (by decide+kernel) (kP (psc:=jB sLotR)) (jU (N:=nLotR) rfl rfl (by decide+kernel)) (λcl C fp s H=>jGL (i:=0) (j:=1) rfl (show (["one","other"]:List Str).Nodup by decide+kernel) rfl rfl (by decide+kernel) (by decide+kernel)) (λcl C fp s H=>yM) (λcl C fp s H=>(yN op_lt (jv 0 rfl kR) (jv 1 rfl kR) (jN _))) yO) j5 jV) jV))))⟩
theorem jR9 {fd:FuncData}(F:Fun K "_law_lot_right" "_law_lot_right" sLotR f fd)(T:Txt mg)(CU:Can P w K mg lG "_law_upto" 2 fU fdU ["thing","least","most"] spUp):FnOk P w K mg lG CX0 3 f fd ["thing","wide"] (spB2 lotB):=by
 refine F.ok scLotR (λvs H Q E h=>?_) (λlH A outer s H vs Q E hr h=>?_)
 ·obtain⟨_,_,_,rfl,_⟩:=h
  rfl
 ·obtain⟨v,o,w,rfl,hA,q⟩:=h
  obtain⟨t,ty,kt,_⟩:=hA.ty K
  refine⟨_,(lotRA T CU hr).2.h,?_⟩
  refine⟨_,rfl,_,_,_,_,rfl,ty,kt,_,rfl,?_⟩
  cases ht:isTup o with
  | false=>exact iteT (iteT (qb (q H (Ext.refl H)) (jRP ht)))
  | true=>
   refine iteF ?_
   obtain⟨os,a,vs,rfl,rfl,ha,h100,hx⟩:=hA.tupOf ht
   have hl:=hx.len
   have hn:vs.length<sizeLine:=by rw[aH]; lia
   refine⟨_,rfl,a,rfl,⟨_,SqT.of ha⟩,jEA (F:=upB 0 (w - 1)) ha hx hn (λσ'=>∃v,σ'=[v,some (.int w)]) ⟨_,rfl⟩ ?_ ?_⟩
   ·rintro σ' H' v o R S ⟨u,rfl⟩ e hA k
    dsimp only [yA,qG]
    rw[am rfl]
    exact⟨_,rfl,_,rfl,_,_,rfl,rfl,v,o,0,w - 1,rfl,hA,k _ H' ⟨_,rfl⟩ (Ext.refl _)⟩
   ·intro D H1 e1 hD
    refine⟨D,_,rfl,SqL.of hD,_,rfl,?_⟩
    rw[jN8]
    cases hi:os.all (upB 0 (w - 1)) with
    | false=>
     refine iteT (qb (q H1 e1) ?_)
     show (os.all (upB 0 (w - 1))&&_)=false
     rw[hi]
     rfl
    | true=>
     refine iteF ?_
     have hint:os.all isInt=true:=by
      rw[aV] at hi ⊢
      intro x hx
      have:=hi x hx
      cases x with
      | int i=>rfl
      | oth=>cases this
      | tup r=>cases this
     have hv:=hx.allInt hint
     have ha1:=e1 _ _ ha
     have hml:(os.map val).length=vs.length:=by rw[af,hl]
     refine⟨_,rfl,_,rfl,1,rfl,a,_,rfl,ha1,λr H2 hr2 e2=>?_⟩
     have ecut:cutV vs (some 1) none=vs.drop 1:=by
      unfold cutV
      have s1:HT.sIx vs.length 0 (some 1)=min 1 vs.length:=HT.sIx_nat _ _ 1
      rw[s1,HT.sIx_none]
      by_cases h1:vs.length=0
      ·have:vs=[]:=cz.mp h1
       subst this
       rfl
      ·rw[show min 1 vs.length=1 by lia]
       exact bL (by rw[cD]; lia)
     rw[ecut] at hr2
     refine⟨true,true,a,r,rfl,⟨_,SqT.of (e2 _ _ ha1)⟩,⟨_,SqT.of hr2⟩,jIZ (xs:=vs) (ys:=vs.drop 1) hn (λD i σ' H' zs=>(∃v1 v2,σ'=[v1,v2])/\zs=((adj (os.map val)).take i).map V.bl/\Ext H2 H'/\H' D=some (.lst zs)/\H2 D=none) ?_ ?_ ?_ ?_⟩
     ·intro D hD
      exact⟨⟨_,_,rfl⟩,rfl,(Ext.refl _).new hD _,j6,hD⟩
     ·rintro D i σ' H' zs hD ⟨_,rfl,ex,h2,_⟩
      refine⟨SqT.of (ex _ _ (e2 _ _ ha1)),SqT.of (ex _ _ hr2),h2,?_⟩
      rw[af,aY]
      lia
     ·rintro D i σ' H' zs x y t hD hx1 hy1 ht1 ⟨⟨v1,v2,rfl⟩,rfl,ex,h2,hn2⟩
      rw[gh,jo] at hy1
      have hlt:i+1<vs.length:=(ah.mp hy1).1
      rw[hv,getI (by lia)] at hx1 hy1
      cases hx1
      cases hy1
      have tD:D≠t:=jA h2 ht1
      refine⟨t,_,rfl,SqT.of j6,rfl,_,_,rfl,_,_,rfl,rfl,?_⟩
      dsimp only [yA,qG]
      rw[am rfl]
      refine⟨_,rfl,_,rfl,_,_,rfl,rfl,by rw[j7 tD]; exact h2,⟨_,_,rfl⟩,?_,(ex.new ht1 _).updNew hn2 _,j6,hn2⟩
      rw[jJ8 (by lia),aR]
      rfl
     ·rintro D2 σ' H' zs hD2 ⟨_,rfl,ex,h2,_⟩
      have hlen:min vs.length (vs.drop 1).length=(adj (os.map val)).length:=by
       rw[jNA,cD]
       lia
      rw[hlen,cF] at h2
      refine⟨D2,_,rfl,SqL.of h2,qb (q H' ((e1.trans e2).trans ex)) ?_⟩
      show (os.all (upB 0 (w - 1))&&_)=_
      rw[hi,gY]
end
end Eo
namespace L2
mutual
def wid:Tr->Nat
 | .lst ts=>max ts.length (wids ts)
 | .tup ts=>max ts.length (wids ts)
 | _=>0
def wids:List Tr->Nat
 | []=>0
 | t::ts=>max (wid t) (wids ts)
end
theorem jQ9 {ts:List Tr}{t:Tr}(h:t∈ts):wid t<=wids ts:=by
 induction ts with
 | nil=>cases h
 | cons a r ih=>
  rw[wids]
  rcases aF.mp h with q | q
  ·subst q; lia
  ·have:=ih q; lia
end L2
namespace Eo
open PySem L2
noncomputable abbrev nSame:List Str:=["found","due"]
theorem scSame:FnScope nSame ["found","due"] (jB sSame):= {}
def jDO:Sp:=λvs H Q _=>∃i:Int,vs=[.int i]/\Q (.bl true) H
theorem jQA {f:Addr}{fd:FuncData}(F:FnOk P w K mg lG CX0 1 f fd ["found"] spWh):FnOk P w K mg lG CX0 1 f fd ["found"] jDO:=F.imp λvs H Q E ⟨i,e,q⟩=>⟨.int i, .int i,e,jBO _ _,q⟩
def sameA {k:Nat}{spS:Sp}{f fW fS:Addr}{fdW fdS:FuncData}{lH:Value}{A:Around}{outer:List Env}{s:Shared}{H:Hp}{E:XK}(T:Txt mg)(CW:Can P w K mg lG "_law_whole" 1 fW fdW ["found"] jDO)(CS:Can P w K mg lG "_law_same" (k+1) fS fdS ["found","due"] spS)
  (hr:Room (k+1) (XOf nSame "_law_same" sSame P w K mg lG f lH A outer s H E).A): { t:TS // JSs (XOf nSame "_law_same" sSame P w K mg lG f lH A outer s H E) (jE sSame) t} :=
 have nd:=scSame.nd
 ⟨_,(j8 (kL (jO jPH (jv 1 rfl vL) (yX) (jN _)) (jD (jI (yN jPH (jv 0 rfl vL) (yX) (jN _)))) jH)
   (j8 (kL (y8 (jC jL gD T.isinstance (by decide+kernel) (j3 (jv 1 rfl vL) (j3 (kQ (v:= .ty "bool") gD T.bool (by decide+kernel) rfl) j5 j4) j4) j4) kN) (jD (jI ((jC6 (jC jL gD T.isinstance (by decide+kernel) (j3 (jv 0 rfl vL) (j3 (kQ (v:= .ty "bool") gD T.bool (by decide+kernel) rfl) j5 j4) j4) j4) (jBM (yN yR (jv 0 rfl vL) (jv 1 rfl vL) (jN _))))))) jH)
   (j8 (kL (y8 (jC jL gD T.isinstance (by decide+kernel) (j3 (jv 1 rfl vL) (j3 (kQ (v:= .ty "int") gD T.int (by decide+kernel) rfl) j5 j4) j4) j4) kN) (jD (jI ((jC6 (CW.je (hr.mono (by lia)) gD (j3 (jv 0 rfl vL) j5 j4) j4) (jBM (yN yR (jv 0 rfl vL) (jv 1 rfl vL) (jN _))))))) jH)
   (j8 (kL (y8 (jC jL gD T.isinstance (by decide+kernel) (j3 (jv 1 rfl vL) (j3 (kQ (v:= .ty "str") gD T.str (by decide+kernel) rfl) j5 j4) j4) j4) kN) (jD (jI ((jC6 (jC jL gD T.isinstance (by decide+kernel) (j3 (jv 0 rfl vL) (j3 (kQ (v:= .ty "str") gD T.str (by decide+kernel) rfl) j5 j4) j4) j4) (jBM (yN yR (jv 0 rfl vL) (jv 1 rfl vL) (jN _))))))) jH)
   (j8 (kL (jt_w (qU (jO op_ne (jC jL gD T.isinstance (by decide+kernel) (j3 (jv 1 rfl vL) (j3 (kQ (v:= .ty "tuple") gD T.tuple (by decide+kernel) rfl) j5 j4) j4) j4) (jC jL gD T.isinstance (by decide+kernel) (j3 (jv 0 rfl vL) (j3 (kQ (v:= .ty "tuple") gD T.tuple (by decide+kernel) rfl) j5 j4) j4) j4) (jN _)) (jBK (jO op_ne (jC jL gD T.isinstance (by decide+kernel) (j3 (jv 1 rfl vL) (j3 (kQ (v:= .ty "list") gD T.list (by decide+kernel) rfl) j5 j4) j4) j4) (jC jL gD T.isinstance (by decide+kernel) (j3 (jv 0 rfl vL) (j3 (kQ (v:= .ty "list") gD T.list (by decide+kernel) rfl) j5 j4) j4) j4) (jN _))))) (jD (jI (je_bl))) jH)
   (jD (jI ((jC6 (yN yR (jC jG gD T.len (by decide+kernel) (j3 (jv 0 rfl vL) j5 j4) j4) (jC jG gD T.len (by decide+kernel) (j3 (jv 1 rfl vL) j5 j4) j4) (jN _)) (jBM (jC (jAK rfl) gD T.all (by decide+kernel) (j3 (y9 (m:=[none,none]) (Nc:=["one","other"]) rfl (jPR gD T.zip (j3 (jv 0 rfl vL) (j3 (jv 1 rfl vL) j5 j4) j4) j4) rfl (by decide+kernel) (by decide+kernel) (kP (psc:=jB sSame)) (jU (N:=nSame) rfl rfl (by decide+kernel)) (λcl C fp s H=>jGL (i:=0) (j:=1) rfl (show (["one","other"]:List Str).Nodup by decide+kernel) rfl rfl (by decide+kernel) (by decide+kernel)) (λcl C fp s H=>yM) (λcl C fp s H=>(CS.je hr gl_b (j3 (jv 0 rfl kR) (j3 (jv 1 rfl kR) j5 j4) j4) j4)) yO) j5 jV) jV)))))))))))⟩
def spNo:Sp:=λ_ _ _ _=>False
theorem ok_no {k:Nat}{f:Addr}{fd:FuncData}{ps:List Str} :FnOk P w K mg lG CX0 k f fd ps spNo:=⟨λ_ _ _ _ h=>h.elim,λ_ _ _ _ _ _ _ _ _ _ _ _ _ h=>h.elim⟩
def jDP (d:Nat):Sp:=λvs H Q _=>∃(x y:V) (t:Tr),vs=[x,y]/\TAt H t x/\TAt H t y/\dep t<=d/\wid t<=1000000/\∀H',Ext H H'->Q (.bl true) H'
def jP6:Nat->Sp
 | 0=>spNo
 | d+1=>jDP d
theorem jOW (n:Nat):(List.replicate n true).all id=true:=by
 induction n with
 | zero=>rfl
 | succ n ih=>rw[List.replicate_succ,eW,ih]; rfl
theorem jI6 (d:Nat)(tp:Bool){H:Hp}{p q:Addr}{ts:List Tr}{vs ws:List V}{Q:VK}
  (hp:Sq tp K H p vs) (hq:Sq tp K H q ws) (ex:∀H',Ext H H'->Sq tp K H' p vs/\Sq tp K H' q ws) (h1:TsAt H ts vs) (h2:TsAt H ts ws) (hd:deps ts<d) (hw:ts.length<=1000000) (hws:wids ts<=1000000) (k:∀H',Ext H H'->Q (.bl true) H') {m:List (Option Nat)}{σ:St}
  (hm:m=[none,none]):
  qX m (gTup K 2 (gCons (yA 0) (gCons (yA 1) gNil))) qG (tCall (jP6 d) [] E0 (tCons (tVar 0) (tCons (tVar 1) tNil))) σ (λx H1=>∃(p:Addr) (bs:List Bool),[x]=[.ref p]/\SqL K H1 p (bs.map V.bl)/\Q (.bl (bs.all id)) H1) (Itz tp tp K p q) H:=by
 subst hm
 have l1:=h1.len
 have l2:=h2.len
 refine jIZ (xs:=vs) (ys:=ws) (by rw[aH]; lia) (λD i σ' H' zs=>(∃v1 v2,σ'=[v1,v2])/\zs=(List.replicate i true).map V.bl/\Ext H H'/\H' D=some (.lst zs)/\H D=none) ?_ ?_ ?_ ?_
 ·intro D hD
  exact⟨⟨_,_,rfl⟩,rfl,(Ext.refl H).new hD _,j6,hD⟩
 ·rintro D i σ' H' zs hD ⟨_,rfl,e,e2,_⟩
  obtain⟨q1,q2⟩:=ex H' e
  refine⟨q1,q2,e2,?_⟩
  rw[af,gI]
  exact aj _
 ·rintro D i σ' H' zs x y t hD hx hy ht ⟨⟨v1,v2,rfl⟩,rfl,e,e2,hn⟩
  obtain⟨u,hu,hxu⟩:=h1.get hx
  obtain⟨u',hu',hyu⟩:=h2.get hy
  rw[hu] at hu'
  cases hu'
  have tD:D≠t:=jA e2 ht
  have hmem:=az hu
  have e3:Ext H (upd H' t (.tup [x,y])):=e.new ht _
  refine⟨t,_,rfl,SqT.of j6,rfl,_,_,rfl,_,_,rfl,rfl,?_⟩
  dsimp only [yA,qG]
  rw[am rfl]
  cases d with
  | zero=>lia
  | succ d=>
   refine⟨_,rfl,_,rfl,x,y,u,rfl,hxu.ext e3,hyu.ext e3,by have:=jFO hmem; lia,by have:=jQ9 hmem; lia,λH4 e4=>⟨e4 _ _ (by rw[j7 tD]; exact e2),⟨_,_,rfl⟩,?_,(e3.trans e4).updNew hn _,j6,hn⟩⟩
   rw[List.replicate_succ',aR]
   rfl
 ·rintro D σ' H' zs hD ⟨_,rfl,e,e2,hn⟩
  refine⟨D,_,rfl,SqL.of e2,?_⟩
  rw[jOW]
  exact k H' e
theorem jG8 {f fW:Addr}{fd fdW:FuncData}(d:Nat)(F:Fun K "_law_same" "_law_same" sSame f fd)(T:Txt mg)(CW:Can P w K mg lG "_law_whole" 1 fW fdW ["found"] jDO)(CS:Can P w K mg lG "_law_same" (d+1) f fd ["found","due"] (jP6 d)):
  FnOk P w K mg lG CX0 (d+2) f fd ["found","due"] (jDP d):=by
 refine F.ok scSame (λvs H Q E h=>?_) (λlH A outer s H vs Q E hr h=>?_)
 ·obtain⟨_,_,_,rfl,_⟩:=h
  rfl
 ·obtain⟨x,y,t,rfl,hx,hy,hd,hw,k⟩:=h
  refine⟨_,(sameA T CW CS hr).2.h,?_⟩
  have k0:=k H (Ext.refl H)
  cases t with
  | non=>
   cases (show x= .non from hx)
   cases (show y= .non from hy)
   exact⟨_,rfl,rfl,_,rfl,iteT ⟨_,rfl,rfl,k0⟩⟩
  | bl b=>
   cases (show x= .bl b from hx)
   cases (show y= .bl b from hy)
   refine⟨_,rfl,rfl,_,rfl,iteF ?_⟩
   refine⟨_,rfl,_,_,_,true,rfl, .bl b,rfl,true,rfl,iteT ?_⟩
   refine⟨_,rfl,_,_,_,true,rfl, .bl b,rfl,true,rfl,iteT ⟨_,rfl,_,rfl,rfl,?_⟩⟩
   show Q (.bl (decide (V.bl b=V.bl b))) H
   rw[ar rfl]
   exact k0
  | int i=>
   cases (show x= .int i from hx)
   cases (show y= .int i from hy)
   refine⟨_,rfl,rfl,_,rfl,iteF ?_⟩
   refine⟨_,rfl,_,_,_,false,rfl, .int i,rfl,false,rfl,iteF ?_⟩
   refine⟨_,rfl,_,_,_,true,rfl, .int i,rfl,true,rfl,iteT ?_⟩
   refine⟨_,rfl,_,rfl,true,rfl,iteT ⟨_,rfl,_,rfl,rfl,?_⟩⟩
   show Q (.bl (decide (V.int i=V.int i))) H
   rw[ar rfl]
   exact k0
  | str z=>
   cases (show x= .str z from hx)
   cases (show y= .str z from hy)
   refine⟨_,rfl,rfl,_,rfl,iteF ?_⟩
   refine⟨_,rfl,_,_,_,false,rfl, .str z,rfl,false,rfl,iteF ?_⟩
   refine⟨_,rfl,_,_,_,false,rfl, .str z,rfl,false,rfl,iteF ?_⟩
   refine⟨_,rfl,_,_,_,true,rfl, .str z,rfl,true,rfl,iteT ?_⟩
   refine⟨_,rfl,_,_,_,true,rfl, .str z,rfl,true,rfl,iteT ⟨_,rfl,_,rfl,rfl,?_⟩⟩
   show Q (.bl (decide (V.str z=V.str z))) H
   rw[ar rfl]
   exact k0
  | lst ts=>
   obtain⟨p,vs,rfl,hp,h1⟩:=hx
   obtain⟨q,ws,rfl,hq,h2⟩:=hy
   rw[dep] at hd
   rw[wid] at hw
   refine⟨_,rfl,rfl,_,rfl,iteF ?_⟩
   refine⟨_,rfl,_,_,_,false,rfl, .lst hq,rfl,false,rfl,iteF ?_⟩
   refine⟨_,rfl,_,_,_,false,rfl, .lst hq,rfl,false,rfl,iteF ?_⟩
   refine⟨_,rfl,_,_,_,false,rfl, .lst hq,rfl,false,rfl,iteF ?_⟩
   refine⟨_,rfl,_,_,_,false,rfl, .lst hq,rfl,_,rfl,_,_,_,false,rfl, .lst hp,rfl,rfl,_,rfl,iteF ?_⟩
   refine⟨_,rfl,_,_,_,true,rfl, .lst hq,rfl,_,rfl,_,_,_,true,rfl, .lst hp,rfl,rfl,_,rfl,iteF ?_⟩
   refine⟨_,rfl,p,_,rfl, .inl (SqL.of hp),_,rfl,q,_,rfl, .inl (SqL.of hq),rfl,_,rfl,?_⟩
   rw[show (vs.length:Int)=(ws.length:Int) by rw[h1.len,h2.len],ar rfl]
   refine iteT ⟨_,rfl,_,rfl,false,false,p,q,rfl,⟨_,SqL.of hp⟩,⟨_,SqL.of hq⟩,?_⟩
   exact jI6 d false (SqL.of hp) (SqL.of hq) (λH' e=>⟨SqL.of (e _ _ hp),SqL.of (e _ _ hq)⟩) h1 h2 (by lia) (by lia) (by lia) k rfl
  | tup ts=>
   obtain⟨p,vs,rfl,hp,h1⟩:=hx
   obtain⟨q,ws,rfl,hq,h2⟩:=hy
   rw[dep] at hd
   rw[wid] at hw
   refine⟨_,rfl,rfl,_,rfl,iteF ?_⟩
   refine⟨_,rfl,_,_,_,false,rfl, .tup hq,rfl,false,rfl,iteF ?_⟩
   refine⟨_,rfl,_,_,_,false,rfl, .tup hq,rfl,false,rfl,iteF ?_⟩
   refine⟨_,rfl,_,_,_,false,rfl, .tup hq,rfl,false,rfl,iteF ?_⟩
   refine⟨_,rfl,_,_,_,true,rfl, .tup hq,rfl,_,rfl,_,_,_,true,rfl, .tup hp,rfl,rfl,_,rfl,iteF ?_⟩
   refine⟨_,rfl,_,_,_,false,rfl, .tup hq,rfl,_,rfl,_,_,_,false,rfl, .tup hp,rfl,rfl,_,rfl,iteF ?_⟩
   refine⟨_,rfl,p,_,rfl, .inr (SqT.of hp),_,rfl,q,_,rfl, .inr (SqT.of hq),rfl,_,rfl,?_⟩
   rw[show (vs.length:Int)=(ws.length:Int) by rw[h1.len,h2.len],ar rfl]
   refine iteT ⟨_,rfl,_,rfl,true,true,p,q,rfl,⟨_,SqT.of hp⟩,⟨_,SqT.of hq⟩,?_⟩
   exact jI6 d true (SqT.of hp) (SqT.of hq) (λH' e=>⟨SqT.of (e _ _ hp),SqT.of (e _ _ hq)⟩) h1 h2 (by lia) (by lia) (by lia) k rfl
theorem jIF {f fW:Addr}{fd fdW:FuncData}(F:Fun K "_law_same" "_law_same" sSame f fd)(T:Txt mg)(CW:Can P w K mg lG "_law_whole" 1 fW fdW ["found"] jDO)(hm:mg "_law_same" =some (.ref f))(kp:keepIn K (.ref f)=true)(hb:Binds K fd ["found","due"] []):
  ∀d:Nat,FnOk P w K mg lG CX0 (d+2) f fd ["found","due"] (jDP d)
 | 0=>jG8 0 F T CW ⟨ok_no,hm,kp,hb⟩
 | d+1=>jG8 (d+1) F T CW ⟨jIF F T CW hm kp hb d,hm,kp,hb⟩
end Eo
section
set_option maxRecDepth 4000000
namespace L2
open PySem
theorem jHB {ks:List (Option Expr)}{vs:List Expr}{pos:Pos}{o:Option Expr} :SwOk (.Dict ks vs pos) o:=⟨λ_ _=>rfl⟩
theorem jKF {x:Str}{pos:Pos}{o:Option Expr} :SwOk (.Name x pos) o:=⟨λ_ _=>rfl⟩
end L2
namespace Eo
open PySem L2
abbrev natV (n:Nat):V:= .int (n:Int)
def obTs:Ob->List Int
 | .tup os=>os.map val
 | _=> []
theorem jTJ {H:Hp}{n:Int}{o:Ob}{v:V}(h:lotB n o=true)(hA:At H o v):∃a,v= .ref a/\H a=some (.tup ((obTs o).map V.int))/\(obTs o).Pairwise (· < ·)/\∀k∈obTs o,0<=k/\k<n:=by
 cases o with
 | int i=>cases h
 | oth=>cases h
 | tup os=>
  obtain⟨a,vs,rfl,da,_,hx⟩:=hA
  obtain⟨e,p,b⟩:=jO6 h hx
  exact⟨a,rfl,by rw[da,e]; rfl,p,b⟩
def rowB (w:Int):Ob->Bool
 | .tup [l,n]=>lotB w l&&isInt n
 | _=>false
def rowM:Ob->Nat×Int
 | .tup [l,n]=>(maskN (obTs l),val n)
 | _=>(0,0)
theorem jKP {w:Int}{o:Ob}(h:isTup o=false):rowB w o=false:=by cases o <;> first | rfl | cases h
theorem jKS {w:Int}{os:List Ob}(h:¬os.length=2):rowB w (.tup os)=false:=by
 match os,h with
 | [],_=>rfl
 | [_],_=>rfl
 | [_,_],h=>exact absurd rfl h
 | _::_::_::_,_=>rfl
theorem jCY (n m:Nat):(btsN n m).length<=n:=by
 unfold btsN
 rw[af]
 have:=bP (λt=>m.testBit t) (List.range n)
 rwa [b9] at this
theorem jP8 {H:Hp}{w:Int}{o:Ob}{v:V}(h:rowB w o=true)(w0:0<=w)(hA:At H o v):∃b a,v= .ref b/\H b=some (.tup [.ref a, .int (rowM o).2])/\H a=some (.tup ((btsN w.toNat (rowM o).1).map V.int))/\(rowM o).1<2 ^ w.toNat:=by
 cases o with
 | int i=>cases h
 | oth=>cases h
 | tup os=>
  match os,h with
  | [l,n],h=>
   have h:(lotB w l&&isInt n)=true:=h
   obtain⟨h1,h2⟩:=dB.mp h
   obtain⟨b,vs,rfl,hb,_,v1,r1,rfl,a1,v2,r2,rfl,a2,rfl⟩:=hA
   obtain⟨a,rfl,ha,pr,bd⟩:=jTJ h1 a1
   have bd':∀t∈obTs l,0<=t/\t<(w.toNat:Int):=λt ht=>by have:=bd t ht; lia
   cases n with
   | oth=>cases h2
   | tup r=>cases h2
   | int i=>
    cases (show v2= .int i from a2)
    refine⟨b,a,rfl,hb,?_,?_⟩
    ·show H a=some (.tup ((btsN w.toNat (maskN (obTs l))).map V.int))
     rw[jOS pr bd']
     exact ha
    ·exact jE1 pr bd'
def lkM (kn:List (Nat×Int))(m:Nat):Option Int:=(kn.find? λe=>e.1==m).map (·.2)
def kvM (kn:List (Nat×Int)):List (Key×V):=kn.map λe=>((Sum.inl (e.1:Int):Key),V.int e.2)
def kvT (w:Nat)(kn:List (Nat×Int)):List (List Key×V):=kn.map λe=>(((btsN w e.1).map Sum.inl:List Key),V.int e.2)
theorem jDC (m:Nat):∀kn:List (Nat×Int),valV (kvM kn) (.inl (m:Int))=(lkM kn m).map V.int
 | []=>rfl
 | e::kn=>by
  show valV (((Sum.inl (e.1:Int):Key),V.int e.2)::kvM kn) _=_
  unfold lkM
  by_cases h:e.1=m
  ·subst h
   rw[yD rfl,js (by simp)]
   rfl
  ·rw[yE (λz=>h (by have:(e.1:Int)=(m:Int):=lE z; lia)),jDC m kn,jt (by simpa using h)]
   rfl
theorem jDB {w m:Nat}(hm:m<2 ^ w):∀{kn:List (Nat×Int)},(∀e∈kn,e.1<2 ^ w)->valV (kvT w kn) ((btsN w m).map Sum.inl)=(lkM kn m).map V.int
 | [],_=>rfl
 | e::kn,hk=>by
  show valV ((((btsN w e.1).map Sum.inl:List Key),V.int e.2)::kvT w kn) _=_
  have ih:=jDB hm (kn:=kn) λx hx=>hk x (ay _ hx)
  unfold lkM at ih ⊢
  by_cases h:e.1=m
  ·subst h
   rw[yD rfl,js (by simp)]
   rfl
  ·have ne:¬((btsN w e.1).map Sum.inl:List Key)=(btsN w m).map Sum.inl:=λz=>h (jMZ (hk e (ax ..)) hm (List.map_inj_right (λa b e=>lE e) |>.mp z))
   rw[yE ne,ih,jt (by simpa using h)]
theorem jE4 (l:List Int):(l.map (Sum.inl:Int->Key)).map kV=l.map V.int:=by
 rw[dH]
 rfl
def rnL (ch:Ch)(kn:List (Nat×Int))(m:Nat):List (Option Int):=(chAt ch m).map λc=>lkM kn (m|||c.2)
def rnS (l:List (Option Int)):Int:=(l.map λx=>x.getD 0).sum
def rnM (ch:Ch)(kn:List (Nat×Int))(m:Nat):Option Int:=if m=fullN ch then some 1 else if (rnL ch kn m).all Option.isSome=true then some (rnS (rnL ch kn m)) else none
def qJ (ch:Ch)(kn:List (Nat×Int))(r:Nat×Int):Bool:=(lkM kn r.1).isNone&&decide (rnM ch kn r.1=some r.2)
def stB (ch:Ch)(w:Int)(os:List Ob)(i:Nat):Bool:=match os[i]? with
 | some o=>rowB w o&&qJ ch ((os.take i).map rowM) (rowM o)
 | none=>true
def lastM:Option Ob->Option Int
 | some (.tup [.tup [], .int n])=>some n
 | _=>none
def cntM (ch:Ch)(w:Int):Option (List Ob)->Option Int
 | some os=>if (List.range os.length).all (stB ch w os)=true then lastM os.getLast? else none
 | none=>none
theorem jHW {ch:Ch}{w:Int}{os:List Ob}{i:Nat}(hi:i<os.length)(h:stB ch w os i=false):cntM ch w (some os)=none:=by
 show (if _ then _ else _)=_
 rw[ai]
 intro z
 have:=aV.mp z i (be.mpr hi)
 rw[h] at this
 cases this
theorem jS6 {ch:Ch}{w:Int}{os:List Ob}{i:Nat}{o:Ob}(hi:os[i]?=some o)(h:rowB w o=false):cntM ch w (some os)=none:=by
 refine jHW (i:=i) (ah.mp hi).1 ?_
 unfold stB
 rw[hi]
 show (rowB w o&&_)=false
 rw[h]
 rfl
theorem jOK {ch:Ch}{w:Int}{os:List Ob}{i:Nat}{o:Ob}(hi:os[i]?=some o)(h:qJ ch ((os.take i).map rowM) (rowM o)=false):cntM ch w (some os)=none:=by
 refine jHW (i:=i) (ah.mp hi).1 ?_
 unfold stB
 rw[hi]
 show (_&&qJ ch ((os.take i).map rowM) (rowM o))=false
 rw[h,bV]
theorem jJ2 {ch:Ch}{w:Int}{os:List Ob}(h:∀i,i<os.length->stB ch w os i=true):cntM ch w (some os)=lastM os.getLast?:=by
 show (if _ then _ else _)=_
 rw[am]
 exact aV.mpr λi hi=>h i (be.mp hi)
def oV:Option Int->V
 | some i=> .int i
 | none=> .non
def PapO (H:Hp)(v:V):Option (List Ob)->Prop
 | some os=>∃r us,v= .ref r/\H r=some (.tup us)/\Ats H os us/\us.length<=4000000
 | none=>∃o,At H o v/\isTup o=false
theorem PapO.ext {H H':Hp}(e:Ext H H'){v:V}{p:Option (List Ob)}(h:PapO H v p):PapO H' v p:=by
 cases p with
 | some os=>obtain⟨r,us,a,b,c,d⟩:=h; exact⟨r,us,a,e _ _ b,c.ext e,d⟩
 | none=>obtain⟨o,a,b⟩:=h; exact⟨o,a.ext e,b⟩
theorem PapO.ty (K:W.Frag){H:Hp}{v:V}{p:Option (List Ob)}(h:PapO H v p):∃t,TyOf K H v t/\kitOne K t (.type "tuple")=some p.isSome:=by
 cases p with
 | some os=>obtain⟨r,us,rfl,b,_⟩:=h; exact⟨_, .tup b,rfl⟩
 | none=>
  obtain⟨o,a,b⟩:=h
  obtain⟨t,ty,k,_⟩:=a.ty K
  rw[b] at k
  exact⟨t,ty,k⟩
theorem jLO {H:Hp}{w:Int}{o:Ob}{v:V}(h:rowB w o=true)(hA:At H o v):∃b a xs n,v= .ref b/\H b=some (.tup [.ref a, .int n])/\H a=some (.tup (xs:List V))/\xs.length<=100/\lastM (some o)=if xs=[] then some n else none:=by
 cases o with
 | int i=>cases h
 | oth=>cases h
 | tup os=>
  match os,h with
  | [l,n],h=>
   have h:(lotB w l&&isInt n)=true:=h
   obtain⟨h1,h2⟩:=dB.mp h
   obtain⟨b,vs,rfl,hb,_,v1,r1,rfl,a1,v2,r2,rfl,a2,rfl⟩:=hA
   cases l with
   | int i=>cases h1
   | oth=>cases h1
   | tup ls=>
    obtain⟨a,xs,rfl,ha,hl,hx⟩:=a1
    have ll:=hx.len
    cases n with
    | oth=>cases h2
    | tup r=>cases h2
    | int i=>
     cases (show v2= .int i from a2)
     refine⟨b,a,xs,i,rfl,hb,ha,hl,?_⟩
     cases ls with
     | nil=>
      cases (show xs=[] from hx)
      rfl
     | cons y ys=>
      rw[ai (λz=>by rw[z] at ll; cases ll)]
      rfl
end Eo
end
section
set_option maxRecDepth 4000000
namespace Eo
open PySem L2
section
variable {fF fA:Addr}{fdF fdA:FuncData}
abbrev jLC:List Str:=["thing","things"]
theorem scIsRow:FnScope jLC ["thing","things"] (jB jD1):= {}
def jTW (T:Txt mg)(CL:Can P w K mg lG "is_lot" 3 fL fdL ["thing","many"] (spB2 lotB))(CW:Can P w K mg lG "is_whole" 1 fW fdW ["thing"] spWh)(hr:Room 3 (XOf jLC "is_row" jD1 P w K mg lG f lH A outer s H0 E).A): { t:TS // JSs (XOf jLC "is_row" jD1 P w K mg lG f lH A outer s H0 E) (jE jD1) t} :=
 have nd:=scIsRow.nd
 ⟨_,(j8 (kL (jt_w (qU (yI (y8 (jC jL gD T.isinstance (by decide+kernel) (j3 (jv 0 rfl vL) (j3 (kQ (v:= .ty "tuple") gD T.tuple (by decide+kernel) rfl) j5 j4) j4) j4) kN)) (jBK (jO op_ne (jC jG gD T.len (by decide+kernel) (j3 (jv 0 rfl vL) j5 j4) j4) (j9) (jN _))))) (jD (jI (je_bl))) jH)
   (jD (jI ((jC6 (CL.je hr gD (j3 (jT jX (jv 0 rfl vL) (j9) jK) (j3 (jv 1 rfl vL) j5 j4) jP) jP) (jBM (CW.je (hr.mono (by decide)) gD (j3 (jT jX (jv 0 rfl vL) (j9) jK) j5 jP) jP)))))))⟩
theorem jNY {fd:FuncData}(F:Fun K "is_row" "is_row" jD1 f fd)(T:Txt mg)(CL:Can P w K mg lG "is_lot" 3 fL fdL ["thing","many"] (spB2 lotB))(CW:Can P w K mg lG "is_whole" 1 fW fdW ["thing"] spWh):FnOk P w K mg lG CX0 4 f fd ["thing","things"] (spB2 rowB):=by
 refine F.ok scIsRow (λvs H Q E h=>?_) (λlH A outer s H vs Q E hr h=>?_)
 ·obtain⟨_,_,_,rfl,_⟩:=h
  rfl
 ·obtain⟨v,o,w,rfl,hA,q⟩:=h
  obtain⟨t,ty,kt,_⟩:=hA.ty K
  refine⟨_,(jTW T CL CW hr).2.h,?_⟩
  refine⟨_,rfl,_,_,_,_,rfl,ty,kt,_,rfl,?_⟩
  cases ht:isTup o with
  | false=>exact iteT (iteT (qb (q H (Ext.refl H)) (jKP ht)))
  | true=>
   refine iteF ?_
   obtain⟨os,a,vs,rfl,rfl,ha,h100,hx⟩:=hA.tupOf ht
   have hl:=hx.len
   refine⟨_,rfl,a,_,rfl, .inr (SqT.of ha),rfl,_,rfl,?_⟩
   by_cases h2:vs.length=2
   ·refine iteNS (by rw[h2]; rfl) ?_
    obtain⟨x,y,a1,a2,rfl,rfl,hx1,hx2⟩:=hx.two h2
    refine⟨_,rfl,a,_,0,_,rfl,rfl,SqT.of ha,rfl,_,rfl,a1,x,w,rfl,hx1,λH1 e1=>⟨_,rfl,?_⟩⟩
    cases hL:lotB w x with
    | false=>
     refine iteF (qb (q H1 e1) ?_)
     show (lotB w x&&_)=false
     rw[hL]
     rfl
    | true=>
     refine iteT ?_
     refine⟨_,rfl,a,_,1,_,rfl,rfl,SqT.of (e1 _ _ ha),rfl,a2,y,rfl,hx2.ext e1,qb (q H1 e1) ?_⟩
     show (lotB w x&&isInt y)=isInt y
     rw[hL]
     rfl
   ·refine iteT' (by simp; lia) ?_
    exact qb (q H (Ext.refl H)) (jKS (by lia))
noncomputable abbrev nRNum:List Str:=["choices","mask","ahead","together","piece","more"]
theorem scRNum:FnScope nRNum ["choices","mask","ahead"] (jB sRNum):= {}
def jG3:Sp:=λvs H Q _=>∃(L D:Addr) (ch:Ch) (m:Nat) (kn:List (Nat×Int)),vs=[.ref L,natV m, .ref D]/\ChAt H L ch/\ChOk ch/\m<2 ^ ch.length/\H D=some (.dK (kvM kn))/\∀H',Ext H H'->Q (oV (rnM ch kn m)) H'
def rnumA (T:Txt mg)(CF:Can P w K mg lG "full_mask" 1 fF fdF ["choices"] jI4)(CA:Can P w K mg lG "choices_at" 1 fA fdA ["choices","mask"] spAt)(hr:Room 1 (XOf nRNum "right_number" sRNum P w K mg lG f lH A outer s H0 E).A): { t:TS // JSs (XOf nRNum "right_number" sRNum P w K mg lG f lH A outer s H0 E) (jE sRNum) t} :=
 have nd:=scRNum.nd
 have _h:=T
 ⟨_,(j8 (kL (jO yR (jv 1 rfl vL) (CF.je hr gD (j3 (jv 0 rfl vL) j5 j4) j4) (jN _)) (jD (jI (j9))) jH)
   (j8 (jQ (i:=3) nd rfl lL (j9) jDF)
   (j8 (jBL ck rfl (jB0 (CA.je hr gD (j3 (jv 0 rfl vL) (j3 (jv 1 rfl vL) j5 j4) j4) j4)) (jC5 (i:=4) (j:=5) nd rfl rfl (by decide+kernel) (by decide+kernel)) (j8 (kL (jLY (qW hr) (jS op_or (jv 1 rfl vL) (jv 5 rfl vL)) (jv 2 rfl vL) rfl) (jD (jI (yX))) jH)
   (jD (jTQ (i:=3) nd rfl lL (jFH (qW hr) (jv 2 rfl vL) (jS op_or (jv 1 rfl vL) (jv 5 rfl vL)) jP9) jTY))) yO)
   (jD (jI (jv 3 rfl vL))))))⟩
theorem jR7 {fd:FuncData}(F:Fun K "right_number" "right_number" sRNum f fd)(T:Txt mg)(CF:Can P w K mg lG "full_mask" 1 fF fdF ["choices"] jI4)(CA:Can P w K mg lG "choices_at" 1 fA fdA ["choices","mask"] spAt):FnOk P w K mg lG CX0 2 f fd ["choices","mask","ahead"] jG3:=by
 refine F.ok scRNum (λvs H Q E h=>?_) (λlH A outer s H vs Q E hr h=>?_)
 ·obtain⟨_,_,_,_,_,rfl,_⟩:=h
  rfl
 ·obtain⟨L,D,ch,m,kn,rfl,hL,o,hm,hD,q⟩:=h
  refine⟨_,(rnumA T CF CA hr).2.h,?_⟩
  refine⟨_,rfl,_,rfl,L,ch,rfl,hL,o.w,⟨rfl,_,rfl,ite2 (λh=>?_) (λh=>?_)⟩⟩
  ·have e:m=fullN ch:=by
    have:=V.int.inj (aE h)
    lia
   have:=q H (Ext.refl _)
   unfold rnM at this
   rw[am e] at this
   exact this
  ·have hn:m≠fullN ch:=λz=>h (ar (by rw[z]))
   have hq:rnM ch kn m=if (rnL ch kn m).all Option.isSome=true then some (rnS (rnL ch kn m)) else none:=by unfold rnM; rw[ai hn]
   refine⟨_,rfl,_,rfl,L,ch,m,rfl,hL,o,hm,hn,λr H1 hr1 e1 nr=>?_⟩
   obtain⟨vs,hv,ha⟩:=hr1
   have vl:=All2.len ha
   have rl:(rnL ch kn m).length=vs.length:=by unfold rnL; rw[af]; exact vl.symm
   refine⟨r,rfl,⟨_,SqL.of hv⟩,jFL (xs:=vs) (λi σ H'=>(∃v4 v5,σ=[some (.ref L),some (natV m),some (.ref D),some (.int (rnS ((rnL ch kn m).take i))),v4,v5])/\((rnL ch kn m).take i).all Option.isSome=true/\Ext H1 H') ⟨⟨_,_,rfl⟩,rfl,Ext.refl _⟩ (λi σ H' _ ⟨_,_,e⟩=>SqL.of (e _ _ hv)) ?_ ?_⟩
   ·rintro i x σ H2 hx ⟨⟨v4,v5,rfl⟩,sm,e2⟩
    obtain⟨c,hc,pq,rfl,hq'⟩:=All2.get' ha hx
    have rg:(rnL ch kn m)[i]?=some (lkM kn (m|||c.2)):=by unfold rnL; rw[aW,hc]; rfl
    refine⟨pq,_,rfl,SqT.of (e2 _ _ hq'),rfl,_,_,rfl,_,_,rfl,rfl,?_⟩
    have dg:DGet H2 D (.int (Builtin.bitOr (m:Int) (c.2:Int))) ((lkM kn (m|||c.2)).map V.int):=by
     rw[jN4,<- jDC]
     exact DGet.k (k:=Sum.inl ((m|||c.2:Nat):Int)) (e2 _ _ (e1 _ _ hD))
    cases hk:lkM kn (m|||c.2) with
    | none=>
     rw[hk] at dg
     refine⟨_,rfl,_,rfl,_,_,rfl,rfl,_,rfl,D,_,rfl,dg,_,rfl,iteT ?_⟩
     have:=q H2 (e1.trans e2)
     rw[hq,ai (λz=>by
      have:=aV.mp z _ (az rg)
      rw[hk] at this
      cases this)] at this
     exact this
    | some n=>
     rw[hk] at dg
     refine⟨_,rfl,_,rfl,_,_,rfl,rfl,_,rfl,D,_,rfl,dg,_,rfl,iteF ?_⟩
     refine⟨_,rfl,_,rfl,_,rfl,_,rfl,_,_,rfl,rfl,D,_,rfl,dg,?_⟩
     have tk:(rnL ch kn m).take (i+1)=(rnL ch kn m).take i++[some n]:=by rw[bN,rg,hk]; rfl
     have es:rnS ((rnL ch kn m).take (i+1))=rnS ((rnL ch kn m).take i)+n:=by
      rw[tk]
      unfold rnS
      rw[aR,List.sum_append]
      show _+(n+0)=_
      rw[Int.add_zero]
     refine⟨_,_,rfl,rfl,⟨some (.int c.1),some (.int ((c.2:Nat):Int)),?_⟩,by rw[tk,List.all_append,sm]; rfl,e2⟩
     rw[es]
     rfl
   ·rintro σ H2 ⟨⟨v4,v5,rfl⟩,sm,e2⟩
    rw[<- rl,cF] at sm
    have:=q H2 (e1.trans e2)
    rw[hq,am sm] at this
    rw[<- rl,cF]
    exact⟨_,rfl,this⟩
abbrev jBC:List Str:=["box","paper","choices","ahead","lot","number","mask"]
theorem scCounted:FnScope jBC ["box","paper"] (jB yK):= {}
def jDQ:Sp:=λvs H Q _=>∃(b:Addr) (v:V) (p:Option (List Ob)) (w:Int) (ms:List Int) (pcs:List (List Int×Int)),vs=[.ref b,v]/\BoxAt H b w ms pcs/\Good 16 32 w ms pcs/\PapO H v p/\∀H',Ext H H'->Q (oV (cntM (chs w.toNat ms pcs) w p)) H'
def jOL (T:Txt mg)(CM:Can P w K mg lG "mask_of" 1 fM fdM ["lot"] jD0)(CR:Can P w K mg lG "right_number" 2 fR fdR ["choices","mask","ahead"] jG3)(hr:Room 4 (XOf jBC "counted" yK P w K mg lG f lH A outer s H0 E).A): { t:TS // JSs (XOf jBC "counted" yK P w K mg lG f lH A outer s H0 E) (qC ((jE yK).getD 3 (.Pass ⟨0,0,0,0⟩))) t} :=
 have nd:=scCounted.nd
 have _h:=T
 ⟨_,(j8 (jQ (i:=6) nd rfl lL (CM.je (hr.mono (by decide)) gD (j3 (jv 4 rfl vL) j5 j4) j4) kE) (j8 (kL (jt_w (qU (jPV (qW hr) (jv 6 rfl vL) (jv 3 rfl vL) rfl) (jBK (jO op_ne (jv 5 rfl vL) (CR.je (hr.mono (by decide)) gD (j3 (jv 2 rfl vL) (j3 (jv 6 rfl vL) (j3 (jv 3 rfl vL) j5 j4) j4) j4) j4) (jN _))))) (jD (jI (yX))) jH) (jD (jFG (qW hr) (jv 3 rfl vL) (jv 6 rfl vL) (jv 5 rfl vL) jKF))))⟩
def cntA (T:Txt mg)(CI:Can P w K mg lG "is_row" 4 fI fdI ["thing","things"] (spB2 rowB))(CC:Can P w K mg lG "choices_of" 2 fC fdC ["box"] jBW)(CM:Can P w K mg lG "mask_of" 1 fM fdM ["lot"] jD0)(CR:Can P w K mg lG "right_number" 2 fR fdR ["choices","mask","ahead"] jG3)(hr:Room 4 (XOf jBC "counted" yK P w K mg lG f lH A outer s H0 E).A): { t:TS // JSs (XOf jBC "counted" yK P w K mg lG f lH A outer s H0 E) (jE yK) t} :=
 have nd:=scCounted.nd
 ⟨_,(j8 (kL (jt_w (qU (yI (y8 (jC jL gD T.isinstance (by decide+kernel) (j3 (jv 1 rfl vL) (j3 (kQ (v:= .ty "tuple") gD T.tuple (by decide+kernel) rfl) j5 j4) j4) j4) kN)) (qU (jO yR (jC jG gD T.len (by decide+kernel) (j3 (jv 1 rfl vL) j5 j4) j4) (j9) (jN _)) (jBK (yI (y8 (jC (jAK rfl) gD T.all (by decide+kernel) (j3 (y9 (m:=[none,some 0]) (Nc:=["row","box"]) rfl (jC4 (jv 1 rfl vL)) rfl (by decide+kernel) (by decide+kernel) (kP (psc:=jB yK)) (jU (N:=jBC) rfl rfl (by decide+kernel)) (λcl C fp s H=>jZ (i:=0) (show (["row","box"]:List Str).Nodup by decide+kernel) rfl qH) (λcl C fp s H=>yM) (λcl C fp s H=>(CI.je hr gl_b (j3 (jv 0 rfl kR) (j3 (jT jC7 (jv 1 rfl qD) (j9) jK) j5 jP) j4) j4)) qF) j5 jV) jV) kN)))))) (jD (jI (yX))) jH) (j8 (jQ (i:=2) nd rfl lL (CC.je (hr.mono (by decide)) gD (j3 (jv 0 rfl vC) j5 j4) j4) kE) (j8 (jQ (i:=3) nd rfl lL (jIL) jHB) (j8 (jBL ck rfl (jC4 (jv 1 rfl vL)) (jC5 (i:=4) (j:=5) nd rfl rfl (by decide+kernel) (by decide+kernel)) (jOL T CM CR hr).2 qF) (jD (jI (jPU (jO yR (jC jG gD T.len (by decide+kernel) (j3 (jT jX (jT jX (jv 1 rfl vL) (qS qI (j9)) px_un) (j9) jK) j5 jP) jP) (j9) (jN _)) (jT jX (jT jX (jv 1 rfl vL) (qS qI (j9)) px_un) (j9) jK) (yX))))))))⟩
theorem jO7 (os:List Ob){i:Nat}{o:Ob}(h:os[i]?=some o):(os.take (i+1)).map rowM=(os.take i).map rowM++[rowM o]:=by
 rw[bN,h,aR]
 rfl
theorem jRS {kn:List (Nat×Int)}{r:Nat×Int}(h:lkM kn r.1=none):putK (kvM kn) (Sum.inl (r.1:Int)) (.int r.2)=kvM (kn++[r]):=by
 rw[jIA _ (by rw[jDC,h]; rfl)]
 unfold kvM
 rw[aR]
 rfl
theorem jJN {fd:FuncData}(F:Fun K "counted" "counted" yK f fd)(T:Txt mg)(CI:Can P w K mg lG "is_row" 4 fI fdI ["thing","things"] (spB2 rowB))(CC:Can P w K mg lG "choices_of" 2 fC fdC ["box"] jBW)(CM:Can P w K mg lG "mask_of" 1 fM fdM ["lot"] jD0)(CR:Can P w K mg lG "right_number" 2 fR fdR ["choices","mask","ahead"] jG3):FnOk P w K mg lG CX0 5 f fd ["box","paper"] jDQ:=by
 refine F.ok scCounted (λvs H Q E h=>?_) (λlH A outer s H vs Q E hr h=>?_)
 ·obtain⟨_,_,_,_,_,_,rfl,_⟩:=h
  rfl
 ·obtain⟨b,v,p,w,ms,pcs,rfl,hB,g,pp,q⟩:=h
  refine⟨_,(cntA T CI CC CM CR hr).2.h,?_⟩
  have o:ChOk (chs w.toNat ms pcs):=jEO g
  have cl:(chs w.toNat ms pcs).length=w.toNat:=yS _ _ _ _
  have w0:=g.w0
  have w1:=g.w1
  obtain⟨t,ty,kt⟩:=pp.ty K
  obtain⟨qm,qp,ps,b1,b2,b3,b4⟩:=id hB.ex
  refine⟨_,rfl,_,_,_,_,rfl,ty,kt,_,rfl,?_⟩
  cases p with
  | none=>exact iteT (iteT (q H (Ext.refl H)))
  | some os=>
  refine iteF ?_
  obtain⟨r,us,rfl,hus,hx,ul⟩:=pp
  have hl:=hx.len
  refine⟨_,rfl,r,_,rfl, .inr (SqT.of hus),rfl,_,rfl,?_⟩
  by_cases h0:us.length=0
  ·refine iteT' (ar (by rw[h0]; rfl)) (iteT ?_)
   have:os=[]:=cz.mp (by lia)
   subst this
   exact q H (Ext.refl H)
  refine iteN (aI λz=>h0 (by have:=V.int.inj z; lia)) ?_
  refine⟨_,rfl,r,rfl,⟨_,SqT.of hus⟩,jEA (F:=rowB w) hus hx (by rw[aH]; lia) (λσ=>∃v,σ=[v,some (.ref b)]) ⟨_,rfl⟩ ?_ ?_⟩
  ·rintro σ' H' v o R S ⟨u,rfl⟩ e hA k
   dsimp only [yA,qG]
   rw[am rfl]
   exact⟨_,rfl,_,rfl,b,_,0,_,rfl,rfl,SqT.of (e _ _ b1),rfl,v,o,w,rfl,hA,λH'' e'=>k _ _ ⟨_,rfl⟩ e'⟩
  ·intro D H1 e1 d1
   refine⟨D,_,rfl,SqL.of d1,?_⟩
   rw[jN8]
   cases hrows:os.all (rowB w) with
   | false=>
    refine⟨_,rfl,iteT ?_⟩
    obtain⟨x,hx',hf⟩:∃x∈os,rowB w x=false:=by
     apply bJ
     intro hn
     rw[dY] at hrows
     exact hrows (aV.mpr λx hx=>by
      cases z:rowB w x with
      | true=>rfl
      | false=>exact absurd ⟨x,hx,z⟩ hn)
    obtain⟨i,hi⟩:=bw hx'
    have:=q H1 e1
    rw[jS6 hi hf] at this
    exact this
   | true=>
   have hrow:=aV.mp hrows
   refine⟨true,rfl,iteF ?_⟩
   refine⟨_,rfl,b,w,ms,pcs,rfl,hB.mono e1.tups,g,λL H2 c2 e2=>?_⟩
   intro Ah hAh
   have e3:Ext H2 (L2.upd H2 Ah (.dK [])):=(Ext.refl _).new hAh _
   have d3:(L2.upd H2 Ah (.dK [])) Ah=some (.dK []):=j6
   generalize L2.upd H2 Ah (.dK [])=H3 at e3 d3
   have E2:=e1.trans e2
   have r2:=E2 _ _ hus
   have hx2:=hx.ext E2
   refine⟨_,rfl,r,rfl,⟨_,SqT.of (e3 _ _ r2)⟩,jHS (xs:=us) (λi σ H'=>(∃v4 v5 v6,σ=[some (.ref b),some (.ref r),some (.ref L),some (.ref Ah),v4,v5,v6])/\Ext H2 H'/\H' Ah=some (.dK (kvM ((os.take i).map rowM)))/\∀j,j<i->stB (chs w.toNat ms pcs) w os j=true) ⟨⟨_,_,_,rfl⟩,e3,d3,λj h=>absurd h (cL _)⟩ (λi σ H' _ ⟨_,e,_⟩=>SqT.of (e _ _ r2)) ?_ ?_⟩
   ·rintro i x σ H4 hxi ⟨⟨v4,v5,v6,rfl⟩,e4,d4,al⟩
    obtain⟨oi,hoi,hA⟩:=hx2.get hxi
    have rb:=hrow oi (az hoi)
    obtain⟨bb,ba,rfl,h1,h2,nb⟩:=jP8 rb w0 hA
    generalize hrm:rowM oi=rm at h1 h2 nb
    obtain⟨m,n⟩:=rm
    dsimp only at h1 h2 nb
    have ri:=jAH w.toNat m
    have bl:=jCY w.toNat m
    refine⟨bb,_,rfl,SqT.of (e4 _ _ h1),rfl,_,_,rfl,_,_,rfl,rfl,?_⟩
    refine⟨_,rfl,ba,btsN w.toNat m,rfl,e4 _ _ h2,λx hx=>by have:=ri.bnd x hx; lia,by lia,λH5 e5=>?_⟩
    rw[jF9 nb]
    have d5:=e5 _ _ d4
    have dg:DGet H5 Ah (.int ((m:Nat):Int)) ((lkM ((os.take i).map rowM) m).map V.int):=by
     rw[<- jDC]
     exact DGet.k (k:=Sum.inl (m:Int)) d5
    have bad:qJ (chs w.toNat ms pcs) ((os.take i).map rowM) (m,n)=false->∀H',Ext H2 H'->Q .non H':=λh H' e'=>by
     have:=q H' (E2.trans e')
     rw[jOK hoi (by rw[hrm]; exact h)] at this
     exact this
    cases hk:lkM ((os.take i).map rowM) m with
    | some z=>
     rw[hk] at dg
     refine⟨_,rfl,_,rfl,Ah,_,rfl,dg,_,rfl,iteT (iteT (bad ?_ _ (e4.trans e5)))⟩
     unfold qJ
     rw[hk]
     rfl
    | none=>
     rw[hk] at dg
     refine⟨_,rfl,_,rfl,Ah,_,rfl,dg,_,rfl,iteF ?_⟩
     have c5:ChAt H5 L (chs w.toNat ms pcs):=c2.keep (λ_ _ h=>e5 _ _ (e4 _ _ h)) (e4.trans e5).tups
     refine⟨_,rfl,_,rfl,_,rfl,_,rfl,L,Ah,_,m,_,rfl,c5,o,by rw[cl]; exact nb,d5,λH6 e6=>?_⟩
     refine⟨by generalize rnM _ _ _=z; cases z <;> rfl,_,rfl,?_⟩
     by_cases hs:rnM (chs w.toNat ms pcs) ((os.take i).map rowM) m=some n
     ·rw[hs]
      refine iteN (by show (!decide (V.int n=V.int n))=false; simp) ?_
      have d6:=e6 _ _ d5
      have kl:(kvM ((os.take i).map rowM)).length<=4000000:=by
       unfold kvM
       rw[af,af,aY]
       lia
      refine⟨_,rfl,_,rfl,_,rfl,Ah,_,rfl,DPut.k (k:=Sum.inl (m:Int)) d6 (by rw[aH]; lia),⟨_,_,_,rfl⟩,((e4.trans e5).trans e6).updNew hAh _,?_,λj hj=>?_⟩
      ·have pk:=jRS (kn:=(os.take i).map rowM) (r:=(m,n)) hk
       show L2.upd H6 Ah (.dK (putK (kvM ((os.take i).map rowM)) (Sum.inl (m:Int)) (.int n))) Ah=_
       rw[pk,jO7 os hoi,hrm]
       exact j6
      ·by_cases hj2:j<i
       ·exact al j hj2
       ·have:j=i:=by lia
        subst this
        unfold stB
        rw[hoi]
        show (rowB w oi&&qJ _ _ (rowM oi))=true
        rw[rb,hrm]
        unfold qJ
        rw[hk]
        exact ar hs
     ·refine iteT' (by
       show (!decide (V.int n=oV _))=true
       rw[aI]
       ·rfl
       ·intro z
        apply hs
        cases hz:rnM (chs w.toNat ms pcs) ((os.take i).map rowM) m with
        | none=>rw[hz] at z; cases z
        | some k=>rw[hz] at z; cases z; rfl) (bad ?_ _ ((e4.trans e5).trans e6))
      unfold qJ
      rw[aI hs,bV]
   ·rintro σ H4 ⟨⟨v4,v5,v6,rfl⟩,e4,d4,al⟩
    have hn:cntM (chs w.toNat ms pcs) w (some os)=lastM os.getLast?:=jJ2 λj hj=>al j (by lia)
    have hlu:us[us.length - 1]?=some us[us.length - 1]:=aG (by lia)
    obtain⟨ol,hol,hA⟩:=hx2.get hlu
    have el:os.getLast?=some ol:=by rw[cZ,<- hl]; exact hol
    obtain⟨lb,la,xs,n,hv,h1,h2,xl,hlast⟩:=jLO (hrow ol (az hol)) hA
    have at1:atI us (-1)=some (V.ref lb):=jHY (by rw[hlu,hv])
    refine⟨_,rfl,1,rfl,r,_, -1,_,rfl,rfl,SqT.of (e4 _ _ r2),at1,lb,_,0,_,rfl,rfl,SqT.of (e4 _ _ h1),rfl,la,_,rfl, .inr (SqT.of (e4 _ _ h2)),⟨rfl,_,rfl,?_⟩⟩
    have:=q H4 (E2.trans e4)
    rw[hn,el,hlast] at this
    by_cases hx0:xs=[]
    ·subst hx0
     rw[am rfl] at this
     refine iteT' (ar rfl) ?_
     exact⟨_,rfl,1,rfl,r,_, -1,_,rfl,rfl,SqT.of (e4 _ _ r2),at1,lb,_,1,_,rfl,rfl,SqT.of (e4 _ _ h1),rfl,this⟩
    ·rw[ai hx0] at this
     refine iteN (aI λz=>hx0 (cz.mp (by have:=V.int.inj z; lia))) this
end
end Eo
end
namespace L2
open PySem
section
variable {X:Cx}
theorem jRZ {i o:Expr}{ty td:TE}{pos:Pos}(hu:X.A.units+1<cLine)(hi:JE X i ty)(ho:JE X o td)(h1:behindInMarks .In o=false):JE X (.Compare i [.In] [o] pos) (tDIn ty td):=⟨jT7 (jPF hu hi.h ho.h) h1⟩
theorem jGM {pos:Pos} :JE X (.Dict [] [] pos) jP1:=⟨jNV⟩
end
end L2
namespace Eo
open PySem L2
def TLs (H:Hp)(us:List V)(ws:List (List Int)):Prop:=All2 (λu l=>∃a,u=V.ref a/\H a=some (.tup (l.map V.int))) us ws
theorem TLs.mono {H H':Hp}{us:List V}{ws:List (List Int)}(t:Tups H H')(h:TLs H us ws):TLs H' us ws:=All2.imp (λ_ _ ⟨a,e,q⟩=>⟨a,e,t _ _ q⟩) h
def casL (w m:Nat)(ms:List Int)(pcs:List (List Int×Int))(i:Nat):List (List Int):=(if (lowN m:Int)∈ms then [btsN w (m|||2 ^ lowN m)] else [])++(((upto pcs.length).take i).filter (okK w m pcs)).map λk=>btsN w (m|||maskN (jF pcs k))
theorem jOO {w:Int}{ms:List Int}{pcs:List (List Int×Int)}(g:Good 16 32 w ms pcs){m:Nat}(hm:m<2 ^ w.toNat)(hn:m≠2 ^ w.toNat - 1):casL w.toNat m ms pcs pcs.length=(chAt (chs w.toNat ms pcs) m).map λc=>btsN w.toNat (m|||c.2):=by
 unfold casL
 rw[jS8 g hm hn,aR,bL (by rw[jDE]; exact aj _),dH]
 congr 1
 by_cases h:(lowN m:Int)∈ms
 ·rw[am h,am h]; rfl
 ·rw[ai h,ai h]; rfl
theorem jGU {w m:Nat}{ms:List Int}{pcs:List (List Int×Int)}{i:Nat}(hi:i<pcs.length):casL w m ms pcs (i+1)=casL w m ms pcs i++if okK w m pcs (i:Int)=true then [btsN w (m|||maskN (jF pcs (i:Int)))] else []:=by
 unfold casL
 rw[bN,jET hi,ci,aR,aX]
 congr 2
 show ((([(i:Int)]).filter _).map _)=_
 by_cases h:okK w m pcs (i:Int)=true
 ·rw[am h,gn h]; rfl
 ·rw[ai h,jf h]; rfl
abbrev jBJ:List Str:=["box","lot","thing","found","held","weight"]
theorem scCases:FnScope jBJ ["box","lot"] (jB yP):= {}
def yZ:Sp:=λvs H Q _=>∃(b a:Addr) (w:Int) (ms:List Int) (pcs:List (List Int×Int)) (m:Nat),vs=[.ref b, .ref a]/\BoxAt H b w ms pcs/\Good 16 32 w ms pcs/\H a=some (.tup ((btsN w.toNat m).map V.int))/\m<2 ^ w.toNat/\m≠2 ^ w.toNat - 1/\∀r us H',H' r=some (.lst us)->TLs H' us ((chAt (chs w.toNat ms pcs) m).map λc=>btsN w.toNat (m|||c.2))->Ext H H'->Q (.ref r) H'
def jON (T:Txt mg)(hr:Room 0 (XOf jBJ "_law_cases" yP P w K mg lG f lH A outer s H0 E).A): { t:TS // JSs (XOf jBJ "_law_cases" yP P w K mg lG f lH A outer s H0 E) (qC ((jE yP).getD 3 (.Pass ⟨0,0,0,0⟩))) t} :=
 have nd:=scCases.nd
 have _h:=hr
 ⟨_,(jD (kL (jt_w (jTP (jO jDY (jv 2 rfl vL) (jv 4 rfl vL) jF5) (jRV (yI (y8 (jC (jMY rfl) gD T.any (by decide+kernel) (j3 (y9 (m:=[none,some 1]) (Nc:=["one","lot"]) rfl (jC4 (jv 4 rfl vL)) rfl (by decide+kernel) (by decide+kernel) (kP (psc:=jB yP)) (jU (N:=jBJ) rfl rfl (by decide+kernel)) (λcl C fp s H=>jZ (i:=0) (show (["one","lot"]:List Str).Nodup by decide+kernel) rfl qH) (λcl C fp s H=>yM) (λcl C fp s H=>(yN jL4 (jv 0 rfl kR) (jv 1 rfl qD) jF5)) qF) j5 jV) jV) kN))))) (jD (jFF (je_bm eB fQ fV jC2 (jv 3 rfl vL) (j3 (kU jA0 gD T.tuple (by decide+kernel) (j3 (jC jD6 gD T.sorted (by decide+kernel) (j3 (jS jF4 (jv 1 rfl vC) (jv 4 rfl vL)) j5 yH) yH) j5 jM) jM) j5 jM) jM) kE)) jH))⟩
def jJ5 (T:Txt mg)(hr:Room 0 (XOf jBJ "_law_cases" yP P w K mg lG f lH A outer s H0 E).A): { t:TS // JSs (XOf jBJ "_law_cases" yP P w K mg lG f lH A outer s H0 E) ((jE yP).drop 3) t} :=
 have nd:=scCases.nd
 ⟨_,(j8 (jBL ck rfl (jC4 (jT jX (jv 0 rfl vL) (j9) jK)) (jC5 (i:=4) (j:=5) nd rfl rfl (by decide+kernel) (by decide+kernel)) (jON T hr).2 jPZ) (jD (jI (jv 3 rfl vL))))⟩
def jU6 (T:Txt mg)(hr:Room 0 (XOf jBJ "_law_cases" yP P w K mg lG f lH A outer s H0 E).A): { t:TS // JSs (XOf jBJ "_law_cases" yP P w K mg lG f lH A outer s H0 E) (jE yP) t} :=
 have nd:=scCases.nd
 ⟨_,(j8 (jQ (i:=2) nd rfl lL (jC (jMV rfl) gD T.min (by decide+kernel) (j3 (y9 (m:=[none,some 1]) (Nc:=["one","lot"]) rfl (jAT gD T.range (j3 (jT jX (jv 0 rfl vL) (j9) jK) j5 jP) jP) rfl (by decide+kernel) (by decide+kernel) (kP (psc:=jB yP)) (jU (N:=jBJ) rfl rfl (by decide+kernel)) (λcl C fp s H=>jZ (i:=0) (show (["one","lot"]:List Str).Nodup by decide+kernel) rfl qH) (λcl C fp s H=>jFE (jO jJL (jv 0 rfl kR) (jv 1 rfl qD) jF5)) (λcl C fp s H=>(jv 0 rfl kR)) yO) j5 jV) jV) kE) (j8 (jQ (i:=3) nd rfl lL (yB j5) jFZ) (j8 (kL (jO jDY (jv 2 rfl vL) (jT jX (jv 0 rfl vL) (j9) jK) jPK) (jD (jFF (je_bm eB fQ fV jC2 (jv 3 rfl vL) (j3 (kU jA0 gD T.tuple (by decide+kernel) (j3 (jC jD6 gD T.sorted (by decide+kernel) (j3 (jS jF4 (jv 1 rfl vC) (kZ (j3 (jv 2 rfl vL) j5 j4))) j5 yH) yH) j5 jM) jM) j5 jM) jM) kE)) jH) (jJ5 T hr).2)))⟩
theorem jRN (t:Nat):maskN [(t:Int)]=2 ^ t:=by
 unfold maskN
 rw[bg,jm,List.sum_cons,List.sum_nil,gE]
 rfl
theorem jJ4 (T:Txt mg)(hr:Room 0 (XOf jBJ "_law_cases" yP P w K mg lG f lH A outer s H0 E).A){D:Ends}{H H3:Hp}{b a Fd:Addr}{wi:Int}{ms:List Int}{pcs:List (List Int×Int)}{m:Nat}{us:List V}{v4 v5:Option V}(hB:BoxAt H b wi ms pcs)(g:Good 16 32 wi ms pcs)(ha:H a=some (.tup ((btsN wi.toNat m).map V.int)))(hm:m<2 ^ wi.toNat)(hn:m≠2 ^ wi.toNat - 1)(e3:Ext H H3)(nF:H Fd=none)(d3:H3 Fd=some (.lst us))(t3:TLs H3 us (casL wi.toNat m ms pcs 0))
  (q:∀r us H',H' r=some (.lst us)->TLs H' us ((chAt (chs wi.toNat ms pcs) m).map λc=>btsN wi.toNat (m|||c.2))->Ext H H'->D.rt (.ref r) H'):
  (jJ5 T hr).1 D [some (.ref b),some (.ref a),some (.int (lowN m:Int)),some (.ref Fd),v4,v5] H3:=by
 have w0:=g.w0
 have w1:=g.w1
 have gpl:=g.pl
 obtain⟨qm,qp,ps,b1,b2,b3,b4⟩:=id hB.ex
 have pl:=PcsAt.len b4
 have ri:=jAH wi.toNat m
 have bl:=jCY wi.toNat m
 have ul:=All2.len t3
 have c0:(casL wi.toNat m ms pcs 0).length<=1:=by
  unfold casL
  rw[fg]
  show (_++([]:List (List Int))).length<=1
  rw[bI]
  split <;> simp
 refine⟨_,rfl,b,_,2,_,rfl,rfl,SqT.of (e3 _ _ b1),rfl,qp,rfl,⟨_,SqT.of (e3 _ _ b3)⟩,jHS (xs:=ps) (λi σ H'=>(∃v4 v5,σ=[some (.ref b),some (.ref a),some (.int (lowN m:Int)),some (.ref Fd),v4,v5])/\Ext H H'/\∃us,H' Fd=some (.lst us)/\us.length<=1+i/\TLs H' us (casL wi.toNat m ms pcs i)) ⟨⟨_,_,rfl⟩,e3,us,d3,by lia,t3⟩ (λi σ H' _ ⟨_,e,_⟩=>SqT.of (e _ _ b3)) ?_ ?_⟩
 ·rintro i x σ H4 hx ⟨⟨v4,v5,rfl⟩,e4,us4,d4,l4,t4⟩
  have il:i<ps.length:=(ah.mp hx).1
  obtain⟨pc,hpc,pb,pq,rfl,hb,hq⟩:=PcsAt.at b4 hx
  have ti:jF pcs (i:Int)=pc.1:=by
   unfold jF
   rw[bu,aB,hpc]
   rfl
  have lt:=jCN g (k:=(i:Int)) (by lia) (by lia)
  rw[ti] at lt
  have tl:=jHE pc.1 0 wi lt.ris lt.bnd
  have sc:=jGU (w:=wi.toNat) (m:=m) (ms:=ms) (pcs:=pcs) (i:=i) (by lia)
  unfold okK at sc
  rw[ti] at sc
  have no:okK wi.toNat m pcs (i:Int)=false->∀{H':Hp}{us':List V},TLs H' us' (casL wi.toNat m ms pcs i)->TLs H' us' (casL wi.toNat m ms pcs (i+1)):=λh H' us' t=>by
   rw[jGU (by lia),h,ai ag,bI]
   exact t
  refine⟨pb,_,rfl,SqT.of (e4 _ _ hb),rfl,_,_,rfl,_,_,rfl,rfl,?_⟩
  refine⟨_,rfl,_,rfl,pq,_,rfl, .inr (SqT.of (e4 _ _ hq)),rfl,jB8 _,_,rfl,?_⟩
  rw[jC8,ai ag]
  refine ite2 (λh=>?_) (λh=>?_)
  ·refine⟨_,rfl,pq,rfl,⟨_,SqT.of (e4 _ _ hq)⟩,jJ0 (λσ=>∃v,σ=[v,some (.ref a)]) (mapZ pc.1 λy=>V.bl (decide (y∈btsN wi.toNat m))) (mapZ.ok _ _) (e4 _ _ hq) (by rw[aH,af]; lia) ⟨_,rfl⟩ ?_ ?_⟩
   ·rintro j y σ2 H5 zs5 hy ⟨v5,rfl⟩ e5 hz5 R1 R2 yes5 no5
    obtain⟨gg,hg,rfl⟩:∃g,pc.1[j]?=some g/\V.int g=y:=by simpa using hy
    dsimp only [yA,qG]
    rw[am rfl]
    refine⟨_,rfl,_,rfl,a,_,rfl, .inr (SqT.of (e5 _ _ (e4 _ _ ha))),rfl,jB8 _,?_⟩
    rw[jC8,ai ag]
    exact yes5 _ _ _ ⟨_,rfl⟩ (Ext.refl _) (mapZ.yes hz5 hg)
   ·intro D5 H5 zs5 d5 e5 nD5 hz5
    have hz5:=hz5.all (by rw[af]; exact aj _)
    subst hz5
    have d5:H5 D5=some (.lst ((pc.1.map λy=>decide (y∈btsN wi.toNat m)).map V.bl)):=by rw[dH]; exact d5
    refine⟨D5,_,rfl,SqL.of d5,_,rfl,?_⟩
    have E5:=e4.trans e5
    have f5:=e5 _ _ d4
    have hall:(pc.1.all λt=>decide (t∉btsN wi.toNat m))=!((pc.1.map λy=>decide (y∈btsN wi.toNat m)).any id):=by
     rw[any_map,bH,aV,iS,dY,Ne,df]
     constructor
     ·rintro z ⟨x,hx,hy⟩
      exact aE (z x hx) (aE hy)
     ·intro z x hx
      exact ar λy=>z ⟨x,hx,ar y⟩
    refine ite2 (λh2=>?_) (λh2=>?_)
    ·rw[<- hall] at h2
     have dj:∀t∈pc.1,t∉btsN wi.toNat m:=λt ht=>aE (aV.mp h2 t ht)
     refine⟨_,rfl, .inl ⟨rfl,_,SqL.of f5⟩,_,rfl,_,rfl,a,pq,_,_,rfl,rfl,E5 _ _ ha,E5 _ _ hq,by rw[af,af,aH]; lia,λr6 H6 d6 e6=>?_⟩
     have d6:H6 r6=some (.tup ((btsN wi.toNat m++pc.1).map V.int)):=by rw[aR]; exact d6
     refine⟨r6,btsN wi.toNat m++pc.1,rfl,d6,by rw[aJ]; lia,λl7 ns h7 ple pm=>?_⟩
     have en:ns=srt (btsN wi.toNat m++pc.1):=jP5 ple pm
     subst en
     rw[jP3 lt.ris (λt ht=>by have:=lt.bnd t ht; lia) dj]
     refine⟨l7,_,rfl, .inl ⟨SqL.of j6,λr8 h8=>?_⟩⟩
     have e8:Ext H6 (L2.upd (L2.upd H6 l7 (.lst ((btsN wi.toNat (m|||maskN pc.1)).map V.int))) r8 (.tup ((btsN wi.toNat (m|||maskN pc.1)).map V.int))):=((Ext.refl _).new h7 _).new h8 _
     have d8:(L2.upd (L2.upd H6 l7 (.lst ((btsN wi.toNat (m|||maskN pc.1)).map V.int))) r8 (.tup ((btsN wi.toNat (m|||maskN pc.1)).map V.int))) r8=some (.tup ((btsN wi.toNat (m|||maskN pc.1)).map V.int)):=j6
     generalize L2.upd (L2.upd H6 l7 (.lst ((btsN wi.toNat (m|||maskN pc.1)).map V.int))) r8 (.tup ((btsN wi.toNat (m|||maskN pc.1)).map V.int))=H8 at e8 d8
     have E8:=(e5.trans e6).trans e8
     have f8:=E8 _ _ d4
     refine⟨Fd,_,_,rfl,rfl,f8,by rw[aH]; lia,⟨_,_,rfl⟩,(e4.trans E8).updNew nF _,_,j6,by rw[aJ]; show _+1<=_; lia,?_⟩
     have TD:Tups H8 (L2.upd H8 Fd (.lst (us4++[V.ref r8]))):=λc xs h=>by rw[j7 (λz=>by rw[z,f8] at h; cases h)]; exact h
     rw[sc,am (by rw[h2,h]; rfl)]
     exact All2.snoc (TLs.mono (λc xs z=>TD _ _ (E8 _ _ z)) t4) ⟨r8,rfl,TD _ _ d8⟩
    ·rw[<- hall] at h2
     refine⟨⟨_,_,rfl⟩,e4.trans e5,us4,f5,by lia,no ?_ (TLs.mono e5.tups t4)⟩
     unfold okK
     rw[ti,dY.mpr h2,bV]
  ·refine⟨⟨_,_,rfl⟩,e4,us4,d4,by lia,no ?_ t4⟩
   unfold okK
   rw[ti,dY.mpr h]
   rfl
 ·rintro σ H4 ⟨⟨v4,v5,rfl⟩,e4,us4,d4,l4,t4⟩
  rw[pl,jOO g hm hn] at t4
  exact⟨_,rfl,q Fd us4 H4 d4 t4 e4⟩
theorem jO0 {fd:FuncData}(F:Fun K "_law_cases" "_law_cases" yP f fd)(T:Txt mg):FnOk P w K mg lG CX0 1 f fd ["box","lot"] yZ:=by
 refine F.ok scCases (λvs H Q E h=>?_) (λlH A outer s H vs Q E hr h=>?_)
 ·obtain⟨_,_,_,_,_,_,rfl,_⟩:=h
  rfl
 ·obtain⟨b,a,w,ms,pcs,m,rfl,hB,g,ha,hm,hn,q⟩:=h
  refine⟨_,(jU6 T hr).2.h,?_⟩
  have w0:=g.w0
  have w1:=g.w1
  have gpl:=g.pl
  obtain⟨qm,qp,ps,b1,b2,b3,b4⟩:=id hB.ex
  have pl:=PcsAt.len b4
  have ri:=jAH w.toNat m
  have bl:=jCY w.toNat m
  have hl:lowN m<w.toNat:=jIJ hm hn
  refine⟨_,rfl,b,_,0,_,rfl,rfl,SqT.of b1,rfl,w,rfl,by lia,by lia,jOJ (n:=w.toNat) (λσ=>∃v,σ=[v,some (.ref a)]) (outZ (upto w.toNat) (λt=>!decide (t∈btsN w.toNat m)) V.int) (outZ.ok _ _ _) (by rw[aH]; lia) ⟨_,rfl⟩ ?_ ?_⟩
  ·rintro j σ' H' zs hj ⟨v,rfl⟩ e hz S1 S2 yes no
   have e0:(0+(j:Int))=(j:Int):=by lia
   have hg:(upto w.toNat)[j]?=some (j:Int):=jET hj
   refine⟨_,rfl,_,rfl,a,_,rfl, .inr (SqT.of (e _ _ ha)),rfl,jB8 _,_,rfl,?_⟩
   rw[e0,jC8]
   refine ite2 (λh=>?_) (λh=>?_)
   ·rw[am rfl] at h
    exact⟨_,rfl,yes _ _ _ ⟨_,rfl⟩ (Ext.refl _) (hz.yes hg h)⟩
   ·rw[am rfl] at h
    exact no _ _ ⟨_,rfl⟩ (Ext.refl _) (hz.no hg (dY.mpr h))
  ·rintro D H1 zs hD e1 nD hz
   have hz:=hz.all (by rw[jDE]; exact aj _)
   subst hz
   have lowin:(lowN m:Int)∈(upto w.toNat).filter λt=>!decide (t∈btsN w.toNat m):=by
    refine bU.mpr ⟨az (jET hl),?_⟩
    rw[aI λz=>by have:=(mem_bts.mp z).2; rw[bu,jFA] at this; cases this]
    rfl
   refine⟨D,_,rfl,SqL.of hD,List.length_pos_of_mem lowin,λmn mm ml=>?_⟩
   have em:mn=(lowN m:Int):=by
    have h1:=ml _ lowin
    obtain⟨h2,h3⟩:=bU.mp mm
    have nb:=(jDD w.toNat).bnd mn h2
    have h4:mn∉btsN w.toNat m:=by simpa using h3
    rcases Int.lt_or_le mn (lowN m:Int) with y | y
    ·exact absurd (mem_bts.mpr ⟨by lia,jHK m mn.toNat (by lia)⟩) h4
    ·lia
   subst em
   refine⟨by show (0:Nat)<=_; decide,λFd H2 d2 e2 n2=>?_⟩
   have E2:=e1.trans e2
   have nF:H Fd=none:=by
    cases z:H Fd with
    | none=>rfl
    | some u=>rw[e1 _ _ z] at n2; cases n2
   refine⟨_,rfl,_,rfl,b,_,1,_,rfl,rfl,SqT.of (E2 _ _ b1),rfl,qm,_,rfl, .inr (SqT.of (E2 _ _ b2)),rfl,jB8 _,_,rfl,?_⟩
   rw[jC8,ai ag]
   have c0:casL w.toNat m ms pcs 0=if (lowN m:Int)∈ms then [btsN w.toNat (m|||2 ^ lowN m)] else []:=by
    unfold casL
    rw[fg]
    exact bI _
   refine ite2 (λh=>?_) (λh=>?_)
   ·have h:=aE h
    rw[am h] at c0
    refine⟨_,rfl, .inl ⟨rfl,_,SqL.of d2⟩,_,rfl,_,rfl,by show (1:Nat)<=_; decide,λt3 H3 d3 e3=>?_⟩
    refine⟨a,t3,_,_,rfl,rfl,e3 _ _ (E2 _ _ ha),d3,by rw[af,aH]; show _+1<=_; lia,λr4 H4 d4 e4=>?_⟩
    have d4:H4 r4=some (.tup ((btsN w.toNat m++[(lowN m:Int)]).map V.int)):=by rw[aR]; exact d4
    refine⟨r4,btsN w.toNat m++[(lowN m:Int)],rfl,d4,by rw[aJ]; show _+1<64; lia,λl5 ns h5 ple pm=>?_⟩
    have en:ns=srt (btsN w.toNat m++[(lowN m:Int)]):=jP5 ple pm
    subst en
    have so:=jP3 (n:=w.toNat) (m:=m) (l:=[(lowN m:Int)]) (ev _ _) (λt ht=>by rw[aN.mp ht]; lia) (λt ht z=>by
     rw[aN.mp ht] at z
     have:=(mem_bts.mp z).2
     rw[bu,jFA] at this
     cases this)
    rw[jRN] at so
    rw[so]
    refine⟨l5,_,rfl, .inl ⟨SqL.of j6,λr6 h6=>?_⟩⟩
    have e6:Ext H4 (L2.upd (L2.upd H4 l5 (.lst ((btsN w.toNat (m|||2 ^ lowN m)).map V.int))) r6 (.tup ((btsN w.toNat (m|||2 ^ lowN m)).map V.int))):=((Ext.refl _).new h5 _).new h6 _
    have d6:(L2.upd (L2.upd H4 l5 (.lst ((btsN w.toNat (m|||2 ^ lowN m)).map V.int))) r6 (.tup ((btsN w.toNat (m|||2 ^ lowN m)).map V.int))) r6=some (.tup ((btsN w.toNat (m|||2 ^ lowN m)).map V.int)):=j6
    generalize L2.upd (L2.upd H4 l5 (.lst ((btsN w.toNat (m|||2 ^ lowN m)).map V.int))) r6 (.tup ((btsN w.toNat (m|||2 ^ lowN m)).map V.int))=H6 at e6 d6
    have E6:=((e3.trans e4).trans e6)
    have f6:=E6 _ _ d2
    refine⟨Fd,_,_,rfl,rfl,f6,by show (0:Nat)<_; rw[aH]; decide,?_⟩
    have TD:Tups H6 (L2.upd H6 Fd (.lst ([]++[V.ref r6]))):=λc xs h=>by rw[j7 (λz=>by rw[z,f6] at h; cases h)]; exact h
    refine jJ4 T hr hB g ha hm hn ((E2.trans E6).updNew nF _) nF j6 ?_ q
    rw[c0]
    exact⟨⟨r6,rfl,TD _ _ d6⟩,trivial⟩
   ·have h:¬(lowN m:Int)∈ms:=λz=>h (ar z)
    rw[ai h] at c0
    exact jJ4 T hr hB g ha hm hn E2 nF d2 (by rw[c0]; trivial) q
end Eo
section
set_option maxRecDepth 4000000
namespace Eo
open PySem L2
def ifOf:Stmt->List Stmt
 | .If _ b _ _=>b
 | _=> []
noncomputable abbrev nCDue:List Str:=["box","paper","known","row","due","some"]
theorem scCDue:FnScope nCDue ["box","paper"] (jB qV):= {}
abbrev XDue (P:Program)(w:World)(K:W.Frag)(mg:Str->Option Value)(lG:Heap)(f:Addr)(lH:Value)(A:Around)(outer:List Env)(s:Shared)(H:Hp)(E:XK):Cx:=XOf nCDue "_law_counted_due" qV P w K mg lG f lH A outer s H E
section
variable (T:Txt mg)(CL:Can P w K mg lG "_law_lot_right" 3 fL fdL ["thing","wide"] (spB2 lotB))(CW:Can P w K mg lG "_law_whole" 1 fW fdW ["found"] spWh)(CC:Can P w K mg lG "_law_cases" 1 fC fdC ["box","lot"] yZ)(hr:Room 3 (XDue P w K mg lG f lH A outer s H0 E).A)
def jQ5: { t:TS // JSs (XDue P w K mg lG f lH A outer s H0 E) (ifOf ((qC ((jE qV).getD 2 (.Pass ⟨0,0,0,0⟩))).getD 3 (.Pass ⟨0,0,0,0⟩))) t} :=
 have nd:=scCDue.nd
 have _h:=CL
 have _h:=CW
 ⟨_,(j8 (jQ (i:=5) nd rfl lL (CC.je (hr.mono (by decide)) gD (j3 (jv 0 rfl vL) (j3 (jT jX (jv 3 rfl vL) (j9) jK) j5 jP) j4) j4) kE)
   (j8 (kL (yI (y8 (jC (jAK rfl) gD T.all (by decide+kernel) (j3 (y9 (m:=[none,some 2]) (Nc:=["lot","known"]) rfl (jB0 (jv 5 rfl vL)) rfl (by decide+kernel) (by decide+kernel) (kP (psc:=jB qV)) (jU (N:=nCDue) rfl rfl (by decide+kernel)) (λcl C fp s H=>jZ (i:=0) (show (["lot","known"]:List Str).Nodup by decide+kernel) rfl qH) (λcl C fp s H=>yM) (λcl C fp s H=>(jRZ (qW hr) (jv 0 rfl kR) (jv 1 rfl qD) rfl)) qF) j5 jV) jV) kN)) (jD (jI (yX))) jH)
   (jD (jQ (i:=4) nd rfl lL (jC (jCC rfl) gD T.sum (by decide+kernel) (j3 (y9 (m:=[none,some 2]) (Nc:=["lot","known"]) rfl (jB0 (jv 5 rfl vL)) rfl (by decide+kernel) (by decide+kernel) (kP (psc:=jB qV)) (jU (N:=nCDue) rfl rfl (by decide+kernel)) (λcl C fp s H=>jZ (i:=0) (show (["lot","known"]:List Str).Nodup by decide+kernel) rfl qH) (λcl C fp s H=>yM) (λcl C fp s H=>(jFH (qW hr) (jv 1 rfl qD) (jv 0 rfl kR) jAX)) qF) j5 jV) jV) kE))))⟩
def jIW: { t:TS // JSs (XDue P w K mg lG f lH A outer s H0 E) ((qC ((jE qV).getD 2 (.Pass ⟨0,0,0,0⟩))).drop 4) t} :=
 have nd:=scCDue.nd
 have _h:=CL
 have _h:=CW
 have _h:=CC
 have _h:=T
 ⟨_,(j8 (kL (jt_w (qU (jPV (qW hr) (jT jX (jv 3 rfl vL) (j9) jK) (jv 2 rfl vC) rfl) (jBK (jO op_ne (jT jX (jv 3 rfl vL) (j9) jK) (jv 4 rfl vL) (jN _))))) (jD (jI (yX))) jH) (jD (jFG (qW hr) (jv 2 rfl vC) (jT jX (jv 3 rfl vL) (j9) jK) (jv 4 rfl vL) jKF)))⟩
def jIX: { t:TS // JSs (XDue P w K mg lG f lH A outer s H0 E) (qC ((jE qV).getD 2 (.Pass ⟨0,0,0,0⟩))) t} :=
 have nd:=scCDue.nd
 ⟨_,(j8 (kL (jt_w (qU (yI (y8 (jC jL gD T.isinstance (by decide+kernel) (j3 (jv 3 rfl vL) (j3 (kQ (v:= .ty "tuple") gD T.tuple (by decide+kernel) rfl) j5 j4) j4) j4) kN)) (jBK (jO op_ne (jC jG gD T.len (by decide+kernel) (j3 (jv 3 rfl vL) j5 j4) j4) (j9) (jN _))))) (jD (jI (yX))) jH) (j8 (kL (jt_w (qU (yI (y8 (CL.je hr gD (j3 (jT jX (jv 3 rfl vL) (j9) jK) (j3 (jT jX (jv 0 rfl vL) (j9) jK) j5 jP) jP) jP) kN)) (jBK (yI (y8 (CW.je (hr.mono (by decide)) gD (j3 (jT jX (jv 3 rfl vL) (j9) jK) j5 jP) jP) kN))))) (jD (jI (yX))) jH) (j8 (jQ (i:=4) nd rfl lL (j9) jDF) (j8 (kL (jO op_lt (jC jG gD T.len (by decide+kernel) (j3 (jT jX (jv 3 rfl vL) (j9) jK) j5 jP) jP) (jT jX (jv 0 rfl vL) (j9) jK) (jN _)) (jQ5 T CL CW CC hr).2 jH) (jIW T CL CW CC hr).2))))⟩
def dueA: { t:TS // JSs (XDue P w K mg lG f lH A outer s H0 E) (jE qV) t} :=
 have nd:=scCDue.nd
 ⟨_,(j8 (jQ (i:=2) nd rfl loc_c (jGM) jHB) (j8 (kL (jt_w (qU (yI (y8 (jC jL gD T.isinstance (by decide+kernel) (j3 (jv 1 rfl vL) (j3 (kQ (v:= .ty "tuple") gD T.tuple (by decide+kernel) rfl) j5 j4) j4) j4) kN)) (jBK (jO (jL5 hr.units0) (jv 1 rfl vL) (kZ j5) (jN _))))) (jD (jI (yX))) jH) (j8 (jBL ck rfl (jC4 (jv 1 rfl vL)) (jZ (i:=3) nd rfl lL) (jIX T CL CW CC hr).2 qF) (jD (jI (jT yC (yB (j3 (yX) (j3 (jT jX (jT jX (jv 1 rfl vL) (qS qI (j9)) px_un) (j9) jK) j5 jP) jJ)) (kU jGX gD T.int (by decide+kernel) (j3 (yN (jL5 hr.units0) (jT jX (jT jX (jv 1 rfl vL) (qS qI (j9)) px_un) (j9) jK) (kZ j5) (jN _)) j5 jG7) jG7) jCL))))))⟩
theorem jQG {ch:Ch}{kn:List (Nat×Int)}{m:Nat} :((chAt ch m).map λc=>(lkM kn (m|||c.2)).isSome).all id=(rnL ch kn m).all Option.isSome:=by
 unfold rnL
 rw[im,im]
 rfl
theorem jK1 {D:Ends}{H:Hp}{b rb ra kn:Addr}{wi:Int}{ms:List Int}{pcs:List (List Int×Int)}{m:Nat}{l:List (Nat×Int)}{v1 v4 v5:Option V}{y:V}(hB:BoxAt H b wi ms pcs)(g:Good 16 32 wi ms pcs)(hrb:H rb=some (.tup [.ref ra,y]))(ha:H ra=some (.tup ((btsN wi.toNat m).map V.int)))(hm:m<2 ^ wi.toNat)(hn:m≠2 ^ wi.toNat - 1)(hk:H kn=some (.dT (kvT wi.toNat l)))(hl:∀k∈l,k.1<2 ^ wi.toNat)
  (no:(rnL (chs wi.toNat ms pcs) l m).all Option.isSome=false->∀H',Ext H H'->D.rt .non H')
  (nx:(rnL (chs wi.toNat ms pcs) l m).all Option.isSome=true->∀H' v5,Ext H H'->D.nx [some (.ref b),v1,some (.ref kn),some (.ref rb),some (.int (rnS (rnL (chs wi.toNat ms pcs) l m))),v5] H'):
  (jQ5 T CL CW CC hr).1 D [some (.ref b),v1,some (.ref kn),some (.ref rb),v4,v5] H:=by
 have o:ChOk (chs wi.toNat ms pcs):=jEO g
 have cl:(chs wi.toNat ms pcs).length=wi.toNat:=yS _ _ _ _
 refine⟨_,rfl,_,rfl,rb,_,0,_,rfl,rfl,SqT.of hrb,rfl,b,ra,wi,ms,pcs,m,rfl,hB,g,ha,hm,hn,λr us H1 d1 t1 e1=>?_⟩
 have ul:=All2.len t1
 rw[af] at ul
 have cl33:(chAt (chs wi.toNat ms pcs) m).length<=33:=by
  unfold chAt
  refine bM (bP _ _) ?_
  rw[aB]
  cases hg:(chs wi.toNat ms pcs)[lowN m]? with
  | none=>exact aS _
  | some cs=>exact o.len _ _ hg
 have get:∀{j:Nat}{x:V}{H':Hp},us[j]?=some x->Ext H1 H'->∃c a',(chAt (chs wi.toNat ms pcs) m)[j]?=some c/\x= .ref a'/\DGet H' kn (.ref a') ((lkM l (m|||c.2)).map V.int):=λ{j x H'} hx e=>by
  obtain⟨ws,hws,a',rfl,ha'⟩:=All2.get' t1 hx
  rw[aW] at hws
  cases hc:(chAt (chs wi.toNat ms pcs) m)[j]? with
  | none=>rw[hc] at hws; cases hws
  | some c=>
   rw[hc] at hws
   cases hws
   have cm:=az hc
   have gt:=ch_gt g hm hn cm
   have vv:=jDB (kn:=l) gt.2 hl
   refine⟨c,a',rfl,rfl,?_⟩
   rw[<- vv]
   exact DGet.t (e _ _ (e1 _ _ hk)) (by rw[jE4]; exact e _ _ ha')
 refine⟨_,rfl,r,rfl,⟨_,SqL.of d1⟩,jBH (λσ=>∃v,σ=[v,some (.ref kn)]) (mapZ (chAt (chs wi.toNat ms pcs) m) λc=>V.bl (lkM l (m|||c.2)).isSome) (mapZ.ok _ _) d1 (by rw[aH]; lia) ⟨_,rfl⟩ ?_ ?_⟩
 ·rintro j x σ' H' zs hx ⟨v,rfl⟩ e hz S1 S2 yes no
  obtain⟨c,a',hc,rfl,dg⟩:=get hx e
  dsimp only [yA,qG]
  rw[am rfl]
  refine⟨_,rfl,_,rfl,kn,_,rfl,dg,?_⟩
  rw[gC]
  exact yes _ _ _ ⟨_,rfl⟩ (Ext.refl _) (mapZ.yes hz hc)
 ·intro M H2 zs d2 e2 nM hz
  have hz:=hz.all (by rw[ul]; exact aj _)
  have hz2:zs=((chAt (chs wi.toNat ms pcs) m).map λc=>(lkM l (m|||c.2)).isSome).map V.bl:=by rw[hz,dH]; rfl
  rw[hz2] at d2
  refine⟨M,_,rfl,SqL.of d2,?_⟩
  rw[jQG]
  cases hA:(rnL (chs wi.toNat ms pcs) l m).all Option.isSome with
  | false=>exact⟨false,rfl,iteT (no hA H2 (e1.trans e2))⟩
  | true=>
  refine⟨true,rfl,iteF ?_⟩
  refine⟨_,rfl,r,rfl,⟨_,SqL.of (e2 _ _ d1)⟩,jBH (λσ=>∃v,σ=[v,some (.ref kn)]) (mapZ (chAt (chs wi.toNat ms pcs) m) λc=>V.int ((lkM l (m|||c.2)).getD 0)) (mapZ.ok _ _) (e2 _ _ d1) (by rw[aH]; lia) ⟨_,rfl⟩ ?_ ?_⟩
  ·rintro j x σ' H' zs hx ⟨v,rfl⟩ e hz S1 S2 yes no
   obtain⟨c,a',hc,rfl,dg⟩:=get hx (e2.trans e)
   have sm:(lkM l (m|||c.2)).isSome=true:=aV.mp hA _ (cY (az hc))
   obtain⟨n,hn'⟩:=fJ.mp sm
   rw[hn'] at dg
   dsimp only [yA,qG]
   rw[am rfl]
   have hy:∀{y:V},y=V.int n->mapZ (chAt (chs wi.toNat ms pcs) m) (λc=>V.int ((lkM l (m|||c.2)).getD 0)) H' (zs++[y]) (j+1):=λ{y} e=>by
    have:=mapZ.yes (H':=H') (f:=λc=>V.int ((lkM l (m|||c.2)).getD 0)) hz hc
    rw[hn'] at this
    rw[e]
    exact this
   exact⟨_,rfl,_,rfl,kn,_,rfl,dg,yes _ _ _ ⟨_,rfl⟩ (Ext.refl _) (hy rfl)⟩
  ·intro S H3 zs d3 e3 nS hz
   have hz:=hz.all (by rw[ul]; exact aj _)
   have hz2:zs=((rnL (chs wi.toNat ms pcs) l m).map λx=>x.getD 0).map V.int:=by
    unfold rnL
    rw[hz,dH,dH]
    rfl
   rw[hz2] at d3
   exact⟨S,_,rfl,SqL.of d3,nx hA H3 _ ((e1.trans e2).trans e3)⟩
theorem jRR {w0 m:Nat}{n:Int}{l:List (Nat×Int)}(hm:m<2 ^ w0)(hl:∀k∈l,k.1<2 ^ w0)(h:lkM l m=none):putK (kvT w0 l) ((btsN w0 m).map Sum.inl) (.int n)=kvT w0 (l++[(m,n)]):=by
 rw[jIA _ (by rw[jDB hm hl,h]; rfl)]
 unfold kvT
 rw[aR]
 rfl
theorem jD5 {D:Ends}{H:Hp}{b rb ra kn:Addr}{w0 m:Nat}{n d:Int}{l:List (Nat×Int)}{v1 v5:Option V}(hrb:H rb=some (.tup [.ref ra, .int n]))(ha:H ra=some (.tup ((btsN w0 m).map V.int)))(hm:m<2 ^ w0)(hk:H kn=some (.dT (kvT w0 l)))(hl:∀k∈l,k.1<2 ^ w0)(ll:l.length<=4000000)
  (no:((lkM l m).isNone&&decide (d=n))=false->D.rt .non H)
  (nx:((lkM l m).isNone&&decide (d=n))=true->∀H',H' kn=some (.dT (kvT w0 (l++[(m,n)])))->(∀c u,H c=some u->c≠kn->H' c=some u)->D.nx [some (.ref b),v1,some (.ref kn),some (.ref rb),some (.int d),v5] H'):
  (jIW T CL CW CC hr).1 D [some (.ref b),v1,some (.ref kn),some (.ref rb),some (.int d),v5] H:=by
 have vv:=jDB (kn:=l) hm hl
 have eb:H ra=some (.tup (((btsN w0 m).map (Sum.inl:Int->Key)).map kV)):=by rw[jE4]; exact ha
 have dg:DGet H kn (.ref ra) ((lkM l m).map V.int):=by
  rw[<- vv]
  exact DGet.t hk eb
 cases hf:lkM l m with
 | some z=>
  rw[hf] at dg no
  exact⟨_,rfl,rb,_,0,_,rfl,rfl,SqT.of hrb,rfl,_,rfl,kn,_,rfl,dg,_,rfl,iteT (iteT (no rfl))⟩
 | none=>
  rw[hf] at dg no nx
  refine⟨_,rfl,rb,_,0,_,rfl,rfl,SqT.of hrb,rfl,_,rfl,kn,_,rfl,dg,_,rfl,iteF ?_⟩
  by_cases hd:d=n
  ·subst hd
   refine⟨_,rfl,rb,_,1,_,rfl,rfl,SqT.of hrb,rfl,_,rfl,rfl,_,rfl,iteN (by show (!decide (V.int d=V.int d))=false; simp) ?_⟩
   have kl:(kvT w0 l).length<=4000000:=by
    unfold kvT
    rw[af]
    exact ll
   refine⟨_,rfl,_,rfl,_,rfl,rb,_,0,_,rfl,rfl,SqT.of hrb,rfl,kn,_,rfl,DPut.t hk eb (by rw[aH]; lia),?_⟩
   rw[jRR hm hl hf]
   exact nx (by simp) _ j6 λc u h n=>by rw[j7 n]; exact h
  ·refine⟨_,rfl,rb,_,1,_,rfl,rfl,SqT.of hrb,rfl,_,rfl,rfl,_,rfl,iteT' (by show (!decide (V.int n=V.int d))=true; simp; exact λz=>hd z.symm) (no (by simp [hd]))⟩
theorem jGR {D:Ends}{H:Hp}{b rb kn:Addr}{wi:Int}{ms:List Int}{pcs:List (List Int×Int)}{o:Ob}{l:List (Nat×Int)}{x:V}{v1 v4 v5:Option V}(hB:BoxAt H b wi ms pcs)(g:Good 16 32 wi ms pcs)(hA:At H o x)(hk:H kn=some (.dT (kvT wi.toNat l)))(hl:∀k∈l,k.1<2 ^ wi.toNat)(ll:l.length<=4000000)
  (no:(rowB wi o&&qJ (chs wi.toNat ms pcs) l (rowM o))=false->∀H',Ext H H'->D.rt .non H')
  (nx:(rowB wi o&&qJ (chs wi.toNat ms pcs) l (rowM o))=true->(rowM o).1<2 ^ wi.toNat->∀H' v4 v5,H' kn=some (.dT (kvT wi.toNat (l++[rowM o])))->(∀c u,H c=some u->c≠kn->H' c=some u)->D.nx [some (.ref b),v1,some (.ref kn),some x,v4,v5] H'):
  (jIX T CL CW CC hr).1 D [some (.ref b),v1,some (.ref kn),some x,v4,v5] H:=by
 have w0:=g.w0
 have w1:=g.w1
 obtain⟨qm,qp,ps,b1,b2,b3,b4⟩:=id hB.ex
 obtain⟨t,ty,kt,_⟩:=hA.ty K
 have bad:rowB wi o=false->∀H',Ext H H'->D.rt .non H':=λh=>no (by rw[h]; rfl)
 refine⟨_,rfl,_,_,_,_,rfl,ty,kt,_,rfl,?_⟩
 cases ht:isTup o with
 | false=>exact iteT (iteT (bad (jKP ht) _ (Ext.refl _)))
 | true=>
 refine iteF ?_
 obtain⟨os,rb,vs,rfl,rfl,ha,h100,hx⟩:=hA.tupOf ht
 have hln:=hx.len
 refine⟨_,rfl,rb,_,rfl, .inr (SqT.of ha),rfl,_,rfl,?_⟩
 by_cases h2:vs.length=2
 case neg=>exact iteT' (by simp; lia) (bad (jKS (by lia)) _ (Ext.refl _))
 refine iteNS (by rw[h2]; rfl) ?_
 obtain⟨y1,y2,a1,a2,rfl,rfl,hx1,hx2⟩:=hx.two h2
 refine⟨_,rfl,rb,_,0,_,rfl,rfl,SqT.of ha,rfl,_,rfl,b,_,0,_,rfl,rfl,SqT.of b1,rfl,a1,y1,wi,rfl,hx1,λH1 e1=>⟨_,rfl,?_⟩⟩
 cases hL:lotB wi y1 with
 | false=>exact iteT (iteT (bad (by show (lotB wi y1&&_)=false; rw[hL]; rfl) _ e1))
 | true=>
 refine iteF ⟨_,rfl,rb,_,1,_,rfl,rfl,SqT.of (e1 _ _ ha),rfl,a2,y2,rfl,hx2.ext e1,_,rfl,?_⟩
 cases hI:isInt y2 with
 | false=>exact iteT (bad (by show (lotB wi y1&&isInt y2)=false; rw[hL,hI]; rfl) _ e1)
 | true=>
 have hrow:rowB wi (.tup [y1,y2])=true:=by show (lotB wi y1&&isInt y2)=true; rw[hL,hI]; rfl
 refine iteF ?_
 obtain⟨rb',ra,e,h1,h2',nb⟩:=jP8 hrow w0 hA
 cases e
 generalize hrm:rowM (.tup [y1,y2])=rm at h1 h2' nb no nx
 obtain⟨m,n⟩:=rm
 dsimp only at h1 h2' nb
 have e12: [a1,a2]=[V.ref ra,V.int n]:=by rw[ha] at h1; injection h1 with h1; injection h1
 injection e12 with e1a e12
 injection e12 with e1b _
 subst e1a
 subst e1b
 have cl:(chs wi.toNat ms pcs).length=wi.toNat:=yS _ _ _ _
 have cf:fullN (chs wi.toNat ms pcs)=2 ^ wi.toNat - 1:=by unfold fullN; rw[cl]
 have no':qJ (chs wi.toNat ms pcs) l (m,n)=false->∀H',Ext H H'->D.rt .non H':=λh=>no (by rw[h,bV])
 have nx':=λ(h:qJ (chs wi.toNat ms pcs) l (m,n)=true)=>nx (by rw[hrow,h]; rfl)
 refine⟨_,rfl,rb,_,0,_,rfl,rfl,SqT.of (e1 _ _ ha),rfl,ra,_,rfl, .inr (SqT.of (e1 _ _ h2')),_,rfl,b,_,0,_,rfl,rfl,SqT.of (e1 _ _ b1),rfl,_,_,rfl,rfl,_,rfl,ite2 (λh=>?_) (λh=>?_)⟩
 ·have h:=aE h
  rw[af] at h
  have hn:m≠2 ^ wi.toNat - 1:=(jCD nb).mp (by lia)
  have sB:∀{d:Int},rnM (chs wi.toNat ms pcs) l m=some d->qJ (chs wi.toNat ms pcs) l (m,n)=((lkM l m).isNone&&decide (d=n)):=λ{d} hd=>by
   unfold qJ
   dsimp only
   rw[hd]
   simp
  have rq:rnM (chs wi.toNat ms pcs) l m=if (rnL (chs wi.toNat ms pcs) l m).all Option.isSome=true then some (rnS (rnL (chs wi.toNat ms pcs) l m)) else none:=by unfold rnM; rw[ai (by rw[cf]; exact hn)]
  refine jK1 T CL CW CC hr (hB.mono e1.tups) g (e1 _ _ ha) (e1 _ _ h2') nb hn (e1 _ _ hk) hl (λhA H2 e2=>?_) λhA H2 v5 e2=>?_
  ·refine no' ?_ H2 (e1.trans e2)
   rw[ai (by rw[hA]; exact ag)] at rq
   unfold qJ
   dsimp only
   rw[rq]
   simp
  ·rw[am hA] at rq
   have E2:=e1.trans e2
   refine jD5 T CL CW CC hr (E2 _ _ ha) (E2 _ _ h2') nb (E2 _ _ hk) hl ll (λh=>?_) λh H3 k3 e3=>?_
   ·exact no' (by rw[sB rq]; exact h) H2 E2
   ·exact nx' (by rw[sB rq]; exact h) nb H3 _ _ k3 λc u z n=>e3 _ _ (E2 _ _ z) n
 ·have e:m=2 ^ wi.toNat - 1:=bJ λz=>h (ar (by
   have:=(jCD nb).mpr z
   rw[af]
   lia))
  have rq:rnM (chs wi.toNat ms pcs) l m=some 1:=by unfold rnM; rw[am (by rw[cf]; exact e)]
  have sB:qJ (chs wi.toNat ms pcs) l (m,n)=((lkM l m).isNone&&decide ((1:Int)=n)):=by
   unfold qJ
   dsimp only
   rw[rq]
   simp
  refine jD5 T CL CW CC hr (e1 _ _ ha) (e1 _ _ h2') nb (e1 _ _ hk) hl ll (λh=>?_) λh H3 k3 e3=>?_
  ·exact no' (by rw[sB]; exact h) H1 e1
  ·exact nx' (by rw[sB]; exact h) nb H3 _ _ k3 λc u z n=>e3 _ _ (e1 _ _ z) n
end
def jKI:Sp:=λvs H Q _=>∃(b:Addr) (v:V) (p:Option (List Ob)) (w:Int) (ms:List Int) (pcs:List (List Int×Int)),vs=[.ref b,v]/\BoxAt H b w ms pcs/\Good 16 32 w ms pcs/\PapO H v p/\∀H',Ext H H'->Q (oV (cntM (chs w.toNat ms pcs) w p)) H'
theorem jRF {fd:FuncData}(F:Fun K "_law_counted_due" "_law_counted_due" qV f fd)(T:Txt mg)(CL:Can P w K mg lG "_law_lot_right" 3 fL fdL ["thing","wide"] (spB2 lotB))(CW:Can P w K mg lG "_law_whole" 1 fW fdW ["found"] spWh)(CC:Can P w K mg lG "_law_cases" 1 fC fdC ["box","lot"] yZ):FnOk P w K mg lG CX0 4 f fd ["box","paper"] jKI:=by
 refine F.ok scCDue (λvs H Q E h=>?_) (λlH A outer s H vs Q E hr h=>?_)
 ·obtain⟨_,_,_,_,_,_,rfl,_⟩:=h
  rfl
 ·obtain⟨b,v,p,w,ms,pcs,rfl,hB,g,pp,q⟩:=h
  refine⟨_,(dueA T CL CW CC hr).2.h,?_⟩
  have w0:=g.w0
  intro kn hkn
  have e1:Ext H (L2.upd H kn (.dT [])):=(Ext.refl _).new hkn _
  have d1:(L2.upd H kn (.dT [])) kn=some (.dT []):=j6
  generalize L2.upd H kn (.dT [])=H1 at e1 d1
  obtain⟨t,ty,kt⟩:=(pp.ext e1).ty K
  refine⟨_,rfl,_,_,_,_,rfl,ty,kt,_,rfl,?_⟩
  cases p with
  | none=>exact iteT (iteT (q H1 e1))
  | some os=>
  refine iteF ?_
  obtain⟨r,us,rfl,hus,hx,ul⟩:=pp
  have hl:=hx.len
  refine⟨_,rfl,by show (0:Nat)<=_; decide,λt2 H2 d2 e2=>⟨r,t2,us,rfl,rfl,SqT.of (e2 _ _ (e1 _ _ hus)),SqT.of d2,_,rfl,?_⟩⟩
  have E2:=e1.trans e2
  by_cases h0:us=[]
  ·have:os=[]:=cz.mp (by rw[<- hl,h0]; rfl)
   subst this
   exact iteT' (ar h0) (q H2 E2)
  refine iteN (aI h0) ?_
  refine⟨_,rfl,r,rfl,⟨_,SqT.of (E2 _ _ hus)⟩,jHS (xs:=us) (λi σ H'=>(∃v3 v4 v5,σ=[some (.ref b),some (.ref r),some (.ref kn),v3,v4,v5])/\Ext H H'/\H' kn=some (.dT (kvT w.toNat ((os.take i).map rowM)))/\∀j,j<i->stB (chs w.toNat ms pcs) w os j=true/\∀o,os[j]?=some o->(rowM o).1<2 ^ w.toNat) ⟨⟨_,_,_,rfl⟩,E2,e2 _ _ d1,λj h=>absurd h (cL _)⟩ (λi σ H' _ ⟨_,e,_⟩=>SqT.of (e _ _ hus)) ?_ ?_⟩
  ·rintro i x σ H3 hxi ⟨⟨v3,v4,v5,rfl⟩,e3,k3,al⟩
   obtain⟨o,ho,hA⟩:=(hx.ext e3).get hxi
   refine jGR T CL CW CC hr (rb:=0) (hB.mono e3.tups) g hA k3 (λk hk=>?_) (by rw[af,aY]; lia) (λh H4 e4=>?_) λh nb H4 v4 v5 k4 e4=>⟨⟨_,_,_,rfl⟩,(λc u z=>e4 _ _ (e3 _ _ z) λy=>by rw[y,hkn] at z; cases z),?_,λj hj=>?_⟩
   ·obtain⟨o',ho',rfl⟩:=bW.mp hk
    obtain⟨j,hj⟩:=bw ho'
    have jl:=(ah.mp hj).1
    rw[aY] at jl
    rw[cn (by lia)] at hj
    exact(al j (by lia)).2 _ hj
   ·have:=q H4 (e3.trans e4)
    have cb:cntM (chs w.toNat ms pcs) w (some os)=none:=jHW (i:=i) (ah.mp ho).1 (by unfold stB; rw[ho]; exact h)
    rw[cb] at this
    exact this
   ·rw[k4,bN,ho,aR]
    rfl
   ·by_cases hj2:j<i
    ·exact al j hj2
    ·have:j=i:=by lia
     subst this
     refine⟨by unfold stB; rw[ho]; exact h,λo' ho'=>?_⟩
     rw[ho] at ho'
     cases ho'
     exact nb
  ·rintro σ H3 ⟨⟨v3,v4,v5,rfl⟩,e3,k3,al⟩
   have hn:cntM (chs w.toNat ms pcs) w (some os)=lastM os.getLast?:=jJ2 λj hj=>(al j (by lia)).1
   have n0:0<us.length:=ie.mpr h0
   have hlu:us[us.length - 1]?=some us[us.length - 1]:=aG (by lia)
   obtain⟨ol,hol,hA⟩:=(hx.ext e3).get hlu
   have el:os.getLast?=some ol:=by rw[cZ,<- hl]; exact hol
   have rb:rowB w ol=true:=by
    have:=(al (us.length - 1) (by lia)).1
    unfold stB at this
    rw[hol] at this
    exact(dB.mp this).1
   obtain⟨lb,la,xs,n,hv,h1,h2,xl,hlast⟩:=jLO rb hA
   have at1:atI us (-1)=some (V.ref lb):=jHY (by rw[hlu,hv])
   have r3:=e3 _ _ hus
   refine⟨_,rfl,1,rfl,r,_, -1,_,rfl,rfl,SqT.of r3,at1,lb,_,1,_,rfl,rfl,SqT.of h1,rfl,by show (2:Nat)<=_; decide,λl4 H4 d4 e4 n4=>?_⟩
   refine⟨_,rfl,1,rfl,r,_, -1,_,rfl,rfl,SqT.of (e4 _ _ r3),at1,lb,_,0,_,rfl,rfl,SqT.of (e4 _ _ h1),rfl,by show (0:Nat)<=_; decide,λt5 H5 d5 e5=>⟨la,t5,xs,rfl,rfl,SqT.of (e5 _ _ (e4 _ _ h2)),SqT.of d5, .inr ⟨_,rfl,?_⟩⟩⟩
   have:=q H5 ((e3.trans e4).trans e5)
   rw[hn,el,hlast] at this
   by_cases hx0:xs=[]
   ·rw[am hx0] at this
    refine⟨l4,_,1,_,rfl,?_,SqL.of (e5 _ _ d4),rfl,this⟩
    rw[ar hx0]
    rfl
   ·rw[ai hx0] at this
    refine⟨l4,_,0,_,rfl,?_,SqL.of (e5 _ _ d4),rfl,this⟩
    rw[aI hx0]
    rfl
end Eo
end
namespace L2
open PySem
theorem Callee.imp {P:Program}{w:World}{K:W.Frag}{mg:Str->Option Value}{lG:Heap}{Z Z':Shared->Hp->Prop}{zh:Hp->Prop}{k:Nat}{a:Addr}{sp:Sp}(C:Callee P w K mg lG Z zh k a sp)(h:∀s H,Z' s H->Z s H):Callee P w K mg lG Z' zh k a sp:=
 ⟨C.fn,λA outer s H us vs Q E hr he hz=>C.run A outer s H us vs Q E hr he (h _ _ hz)⟩
end L2
namespace Eo
open PySem L2
end Eo
namespace L2
open PySem PySem.Spec PyProof.Rows
theorem jDA {prog:Program}{w:World}{A:Around}{E:Value->Shared->Prop}{s:Shared}{sl:Addr}{vs:Value}{n:Nat}{Q:Int×Int×Nat->Shared->Prop}(hs:s.heap.IsSliceOf sl .none .none vs)(ps:IsPart vs (some 1))
  (h:Q (0,1,n) s):wpAny (model prog w) A (Builtin.Slice.sliceApplied (.ref sl) (pure (n:Int))) Q E s:=by
 obtain⟨os,hos,hcs,hds⟩:=id hs
 unfold Builtin.Slice.sliceApplied Builtin.Slice.sliceFields
 refine aa (aa (bC hos hds (x:= .none) rfl (aa (bC hos hds (x:= .none) rfl (aa (bC hos hds (x:=vs) rfl (ae ?_)))))))
 refine aa (HT.slicePart_ ps ?_)
 show wpAny _ _ (if ((1:Int)==0)=true then _ else _) _ _ s
 rw[ai (by decide)]
 refine aa (fe (aa (fe (aa (ae ?_)))))
 show wpAny _ _ (pure ((0:Int),(1:Int),Builtin.Slice.slicePlaces 0 (n:Int) 1)) _ _ s
 have e:Builtin.Slice.slicePlaces 0 (n:Int) 1=n:=by
  unfold Builtin.Slice.slicePlaces
  rw[am (by decide)]
  split <;> lia
 rw[e]
 exact ae h
theorem jCS {prog:Program}{w:World}{A:Around}{E:Value->Shared->Prop}{s:Shared}{t sl:Addr}{its:List Value}{n:Nat}{vs:Value}{Q:Value->Shared->Prop}
  (e0:s.heap.get? t=some { cls:= .type "tuple",data:= .seq its.toArray n}) (hs:s.heap.IsSliceOf sl .none .none vs) (ps:IsPart vs (some 1)) (hz:its.length<=sizeLine)
  (h:Q (.ref t) s):wpAny (model prog w) A (getItem (.ref t) (.ref sl)) Q E s:=by
 have ht:IsTup s.heap t its.toArray:=⟨_,e0,rfl,n,rfl⟩
 obtain⟨os,hos,hcs,hds⟩:=id hs
 have hTs:s.TypeIs (.ref sl) "slice" :=⟨os,hos,hcs⟩
 unfold getItem
 try with_reducible refine bD ?_
 first | refine aa (ae ?_) | skip
 refine aa (gw ht.typeIs (by decide) (aa (bh (name:=Str.ofString "__getitem__") ht.typeIs aU
  (bo aU ht.typeIs fz (?_:wpAny (model prog w) _ (Builtin.Tuple.tupleItemsOf (.ref t) >>= _) _ _ s) (gd _ _)))))
 refine aa (iX ht (aa (dq hTs ?_)))
 rw[am (by decide)]
 refine aa (jDA (n:=its.toArray.size) hs ps ?_)
 show wpAny _ _ (if ((0:Int)==0&&(1:Int)==1&&its.toArray.size==its.toArray.size)=true then _ else _) _ _ s
 rw[am (by simp)]
 have ex:∀{A:Around}{Q:Bool->Shared->Prop},Q true s->wpAny (model prog w) A (Builtin.Tuple.tupleIsExact (.ref t)) Q E s:=λq=>by
  unfold Builtin.Tuple.tupleIsExact
  exact aa (dq ⟨_,e0,rfl⟩ (ae q))
 refine aa (ex ?_)
 rw[am rfl]
 exact aa (cx (ae ⟨_,rfl,ae h⟩))
def tStep (te:TE)(ts:TO):TE:=λσ H Q=>te σ H λx H1=>ts σ H1 λo H2=>∃a xs,x= .ref a/\H2 a=some (.tup xs)/\((o=some (-1)/\TupR H2 xs.reverse Q)\/(o=some 1/\Q (.ref a) H2))
theorem jRY {X:Cx}{e st:Expr}{te:TE}{ts:TO}{p2 pos:Pos}(he:JE X e te)(hst:JO X (some st) ts):JE X (.Subscript e (.Slice none none (some st) p2) pos) (tStep te ts):=⟨by
 intro lF s σ H Q I h
 refine jn (lJ (he.h lF s σ H _ I h) λv s1 ⟨x,H1,I1,r1,q1⟩=>?_)
 refine wpAny_Slice ?_
 rw[iY]
 refine ae (ae (lJ (hst.h lF s1 σ H1 _ I1 q1) λvst s2 ⟨o,H2,I2,ps,a,xs,ex,hx,q⟩=>?_))
 subst ex
 cases r1
 have I4:Inv X lF σ H2 { s2 with heap:=s2.heap.push { cls:= .type "slice",data:= .fields #[.none, .none,vst]}} :=I2.kept (t':=s2.toks) λb ob q=>ab _ q
 obtain⟨hz,its,r,n,e0⟩:=I4.hok a _ hx
 have hlen:=r.length
 show wpAny (model X.prog X.w) X.A (subscriptTail e (.Slice none none (some st) p2) (.ref a) (.ref s2.heap.objs.size)) (EP X lF σ Q) X.xe { s2 with heap:=s2.heap.push { cls:= .type "slice",data:= .fields #[.none, .none,vst]}}
 refine tail_any (ops:=[.ref a, .ref s2.heap.objs.size]) ⟨_,e0,rfl⟩ aU.lookup ?_ (by with_unfolding_all rfl)
 rcases q with ⟨eo,q⟩ | ⟨eo,q⟩
 ·subst eo
  refine jAU e0 (ge ..) ps (by lia) ?_
  exact⟨.ref _,_,I4.laid (t':=s2.toks) (o:= .tup xs.reverse) (λb ob q=>ab _ q) (aj _) ⟨by rw[fB]; exact hz,its.reverse,r.reverse,TupO.new _ _⟩,rfl,q.new (I4.hok.fresh (aj _))⟩
 ·subst eo
  exact jCS e0 (ge ..) ps (by lia) ⟨.ref _,_,I4,rfl,q⟩⟩
end L2
namespace Eo
open PySem L2
abbrev LamT:=Arguments×Expr×Scope×Pos
def kwLam:List Keyword->Option LamT
 | [⟨_, .Lambda a b sc p,_⟩]=>some (a,b,sc,p)
 | _=>none
def exLam:Expr->Option LamT
 | .Call _ _ ks _=>kwLam ks
 | _=>none
def stLam:Stmt->Option LamT
 | .Assign _ e _=>exLam e
 | .For _ e _ _ _=>exLam e
 | .If _ [.Assign _ e _] _ _=>exLam e
 | _=>none
def lamAt (i:Nat):LamT:=(stLam ((jE yW).getD i (.Pass ⟨0,0,0,0⟩))).getD (q0 yW, .Constant .none 0 ⟨0,0,0,0⟩,jB yW,⟨0,0,0,0⟩)
abbrev k1A:Arguments:=(lamAt 4).1
abbrev k1B:Expr:=(lamAt 4).2.1
abbrev k1S:Scope:=(lamAt 4).2.2.1
abbrev k2A:Arguments:=(lamAt 5).1
abbrev k2B:Expr:=(lamAt 5).2.1
abbrev k2S:Scope:=(lamAt 5).2.2.1
abbrev k3A:Arguments:=(lamAt 7).1
abbrev k3B:Expr:=(lamAt 7).2.1
abbrev k3S:Scope:=(lamAt 7).2.2.1
noncomputable abbrev nK1:List Str:=["lot","way"]
noncomputable abbrev nK2:List Str:=["lot"]
theorem scK1:NScope nK1 ["lot"] ["way"] k1S:=⟨rfl,rfl,rfl,by decide+kernel,rfl,by decide+kernel,by decide+kernel,λx h=>by
  have hl:∀y∈k1S.names,y.2= .free->y.1= "way" :=by decide+kernel
  rw[aN]
  exact hl _ (cq h) rfl,by decide+kernel⟩
theorem scK2:NScope nK2 ["lot"] [] k2S:=⟨rfl,rfl,rfl,by decide+kernel,rfl,by decide+kernel,by decide+kernel,λx h=>by
  have hl:∀y∈k2S.names,y.2≠ .free:=by decide+kernel
  exact absurd rfl (hl _ (cq h)),by decide+kernel⟩
theorem scK3:NScope nK2 ["lot"] [] k3S:=⟨rfl,rfl,rfl,by decide+kernel,rfl,by decide+kernel,by decide+kernel,λx h=>by
  have hl:∀y∈k3S.names,y.2≠ .free:=by decide+kernel
  exact absurd rfl (hl _ (cq h)),by decide+kernel⟩
abbrev qK:Str:= "_law_rows.<locals>.<lambda>"
abbrev TabR (H:Hp)(tb:Addr):Prop:=TabM H tb qK
structure K1I where
 w:Int
def zhK1 (cl:List (Str×Addr))(a c:Addr):Hp->Prop:=λH=>H a=some (.ext (nlP qK k1A k1B k1S cl a c))/\H c=some (.ext (ncP qK c))
theorem zhK1.ext {cl:List (Str×Addr)}(a c:Addr)(H H':Hp)(e:Ext H H')(h:zhK1 cl a c H):zhK1 cl a c H':=⟨e _ _ h.1,e _ _ h.2⟩
def zhK2 (a c:Addr):Hp->Prop:=λH=>H a=some (.ext (nlP qK k2A k2B k2S [] a c))/\H c=some (.ext (ncP qK c))
theorem zhK2.ext (a c:Addr)(H H':Hp)(e:Ext H H')(h:zhK2 a c H):zhK2 a c H':=⟨e _ _ h.1,e _ _ h.2⟩
def zhK3 (a c:Addr):Hp->Prop:=λH=>H a=some (.ext (nlP qK k3A k3B k3S [] a c))/\H c=some (.ext (ncP qK c))
theorem zhK3.ext (a c:Addr)(H H':Hp)(e:Ext H H')(h:zhK3 a c H):zhK3 a c H':=⟨e _ _ h.1,e _ _ h.2⟩
def k1F (wy:Int)(l:List Int):List Int:=(-(l.length:Int))::(if wy % 2=0 then l else l.reverse)
def k2F (l:List Int):List Int:=[-(maskN l:Int)]
def k3F (l:List Int):List Int:=[-(l.length:Int)]
def spK1 (i:K1I):Sp:=λvs H Q _=>∃(a:Addr) (l:List Int),vs=[.ref a]/\H a=some (.tup (l.map V.int))/\l.length<=100/\∀r H',PairR H' r (k1F i.w l)->Ext H H'->Q r H'
def spK2:Sp:=λvs H Q _=>∃(a:Addr) (l:List Int),vs=[.ref a]/\H a=some (.tup (l.map V.int))/\(∀t∈l,0<=t/\t<64)/\l.length<=64/\∀H',Ext H H'->Q (.int (-(maskN l:Int))) H'
def spK3:Sp:=λvs H Q _=>∃(a:Addr) (l:List Int),vs=[.ref a]/\H a=some (.tup (l.map V.int))/\Q (.int (-(l.length:Int))) H
def key1A (T:Txt mg): { t:TE // JE (cxN P w K mg lG nK1 qK k1S a (.ref c) cl A outer s H0) k1B t} :=⟨_,(kZ (j3 (qS qI (jC jG gl_n T.len (by decide+kernel) (j3 (jv 0 rfl vis_n) j5 j4) j4)) (j3 (jRY (jv 0 rfl vis_n) (kJ (jS jC0 (j9) (jS jC1 (j9) (jS jEK (jv 1 rfl (jSG (by decide+kernel))) (j9)))))) j5 jP) se_un))⟩
def key2A (T:Txt mg): { t:TE // JE (cxN P w K mg lG nK2 qK k2S a (.ref c) cl A outer s H0) k2B t} :=⟨_,(qS qI (jC (jCC rfl) gl_n T.sum (by decide+kernel) (j3 (y9 (m:=[none]) (Nc:=["one"]) rfl (jC4 (jv 0 rfl vis_n)) rfl (by decide+kernel) (by decide+kernel) (λy hy hf=>absurd hf (by revert y; decide+kernel)) (jU (N:=nK2) rfl rfl (by decide+kernel)) (λcl C fp s H=>jZ (i:=0) (show (["one"]:List Str).Nodup by decide+kernel) rfl qH) (λcl C fp s H=>yM) (λcl C fp s H=>(jS jGC (j9) (jv 0 rfl kR))) qF) j5 jV) jV))⟩
def key3A (T:Txt mg): { t:TE // JE (cxN P w K mg lG nK2 qK k3S a (.ref c) cl A outer s H0) k3B t} :=⟨_,(qS qI (jC jG gl_n T.len (by decide+kernel) (j3 (jv 0 rfl vis_n) j5 j4) j4))⟩
theorem jRC (i:K1I)(T:Txt mg):Callee P w K mg lG (λs H=>ClOk cl s H/\FvOk ["way"] [.int i.w] cl s) (zhK1 cl a c) 1 a (spK1 i):=by
 refine jMC (fv:=[.int i.w]) scK1 (λvs H Q E h=>?_) (λpm ctv us hl=>?_) λA outer s H vs Q E hr h=>?_
 ·obtain⟨_,_,rfl,_⟩:=h
  rfl
 ·match us,hl with
  | [_],_=>rfl
 ·obtain⟨r,l,rfl,hl,ll,q⟩:=h
  refine⟨_,(key1A T).2.h,?_⟩
  refine⟨_,rfl,r,_,rfl, .inr (SqT.of hl),_,rfl,_,rfl,?_⟩
  have e2:i.w % 2=0\/i.w % 2=1:=by lia
  have ll2:(2:Nat)<=sizeLine:=by decide
  refine⟨_,rfl,_,_,rfl,rfl,by show (0:Int)<2; decide,_,_,rfl,rfl, .inl ⟨by decide,by decide⟩,_,_,rfl,rfl,?_⟩
  rw[af]
  rcases e2 with e | e
  ·rw[e]
   refine⟨_,rfl,r,_,rfl,hl, .inr ⟨rfl,?_⟩⟩
   refine⟨ll2,λt H1 d1 e1=>q _ H1 ⟨t,r,_,l,rfl,d1,e1 _ _ hl,?_⟩ e1⟩
   unfold k1F
   rw[am e]
  ·rw[e]
   refine⟨_,rfl,r,_,rfl,hl, .inl ⟨rfl,λt1 H1 d1 e1=>?_⟩⟩
   refine⟨ll2,λt H2 d2 e2=>q _ H2 ⟨t,t1,_,l.reverse,rfl,d2,?_,?_⟩ (e1.trans e2)⟩
   ·rw[e2 _ _ d1,List.map_reverse]
   ·unfold k1F
    rw[ai (by lia)]
theorem jRB (T:Txt mg):Callee P w K mg lG ZT (zhK2 a c) 1 a spK2:=by
 refine Callee.imp (jMC (fv:=[]) scK2 (λvs H Q E h=>?_) (λpm ctv us hl=>?_) λA outer s H vs Q E hr h=>?_) λs H _=>⟨⟨λx y c h=>(by cases h),λx c h=>(by cases h)⟩,rfl,λi x v h=>(by cases h)⟩
 ·obtain⟨_,_,rfl,_⟩:=h
  rfl
 ·match us,hl with
  | [_],_=>rfl
 ·obtain⟨r,l,rfl,hl,lb,ll,q⟩:=h
  refine⟨_,(key2A T).2.h,?_⟩
  refine⟨_,rfl,r,rfl,⟨_,SqT.of hl⟩,jJ0 (xs:=l.map V.int) (λσ=>∃v,σ=[v]) (mapZ l λt=>V.int ((1:Int)*2 ^ t.toNat)) (mapZ.ok _ _) hl (by rw[aH,af]; lia) ⟨_,rfl⟩ ?_ ?_⟩
  ·rintro j x σ' H' zs hx ⟨v,rfl⟩ e hz S1 S2 yes no
   obtain⟨z,hz1,rfl⟩:=int_at hx
   have zb:=lb z (az hz1)
   dsimp only [yA,qG]
   rw[am rfl]
   exact⟨_,rfl,_,_,rfl,rfl,⟨by first | lia | decide,by first | lia | decide,by first | lia | decide⟩,yes _ _ _ ⟨_,rfl⟩ (Ext.refl _) (mapZ.yes hz hz1)⟩
  ·rintro D H' zs hD e nD hz
   have hz:=hz.all (by rw[af]; exact aj _)
   have hz2:zs=(l.map λt=>(1:Int)*2 ^ t.toNat).map V.int:=by rw[hz,dH]; rfl
   rw[hz2] at hD
   refine⟨D,_,rfl,SqL.of hD,_,rfl,?_⟩
   rw[jEL l λt ht=>(lb t ht).1]
   exact q _ e
theorem jRA (T:Txt mg):Callee P w K mg lG ZT (zhK3 a c) 1 a spK3:=by
 refine Callee.imp (jMC (fv:=[]) scK3 (λvs H Q E h=>?_) (λpm ctv us hl=>?_) λA outer s H vs Q E hr h=>?_) λs H _=>⟨⟨λx y c h=>(by cases h),λx c h=>(by cases h)⟩,rfl,λi x v h=>(by cases h)⟩
 ·obtain⟨_,_,rfl,_⟩:=h
  rfl
 ·match us,hl with
  | [_],_=>rfl
 ·obtain⟨r,l,rfl,hl,q⟩:=h
  refine⟨_,(key3A T).2.h,?_⟩
  refine⟨_,rfl,r,_,rfl, .inr (SqT.of hl),_,rfl,?_⟩
  rw[af]
  exact q
end Eo
namespace L2
open PySem PySem.Spec PyProof.Rows
section
variable {X:Cx}
open Classical in
theorem jJM (hu:X.A.units+101<cLine):OpR X (compareOp .NotIn) (λx y H Q=>∃u ts,TAt H u x/\TAt H (.lst ts) y/\deps ts<=100/\Q (.bl (!ts.any λt=>eqT t u)) H):=by
 intro lF s σ H x y v w Q I rx ry h
 obtain⟨u,ts,hx,⟨b,vs,rfl,hb,hts⟩,hd,q⟩:=h
 cases ry
 obtain⟨its,r,pl,_⟩:=I.list (SqL.of hb)
 have l1:=r.length
 have m1:=hts.len
 have at_:∀y∈its,∃t z,t∈ts/\TAt H t z/\RelV z y:=λy hy=>by
  obtain⟨j,hj,rfl⟩:=cr hy
  have hv:vs[j]?=some (vs[j]'(by lia)):=by simp [show j<vs.length by lia]
  obtain⟨y',hy',ry⟩:=r.get hv
  rw[aG hj] at hy'
  cases hy'
  obtain⟨t,ht,tz⟩:=hts.get hv
  exact⟨t,_,az ht,tz,ry⟩
 have of_:∀t∈ts,∃y∈its,∃z,TAt H t z/\RelV z y:=λt ht=>by
  obtain⟨j,hj,rfl⟩:=cr ht
  have hv:vs[j]?=some (vs[j]'(by lia)):=by simp [show j<vs.length by lia]
  obtain⟨y',hy',ry⟩:=r.get hv
  obtain⟨t,ht,tz⟩:=hts.get hv
  rw[aG hj] at ht
  cases ht
  exact⟨y',az hy',_,tz,ry⟩
 let e:Value->Bool:=λy=>decide (∃t z,t∈ts/\TAt H t z/\RelV z y/\eqT t u=true)
 have one:∀{t:Tr}{z:V}{y:Value},t∈ts->TAt H t z->RelV z y->e y=eqT t u:=λ{t z y} ht tz rz=>by
  show decide _=_
  cases he:eqT t u with
  | true=>exact ar ⟨t,z,ht,tz,rz,he⟩
  | false=>
   refine aI ?_
   rintro ⟨t',z',_,tz',rz',he'⟩
   have:z=z':=rz.inj rz'
   subst this
   have:t=t':=tz.inj tz'
   subst this
   rw[he] at he'
   cases he'
 refine SeqAt.notIn_listAt e pl.isList (λy hy=>?_) ⟨.bl _,H,I,rfl,?_⟩
 ·obtain⟨t,z,ht,tz,rz⟩:=at_ y (by simpa using hy)
  rw[one ht tz rz]
  have hd':=jFO ht
  exact jU2 I (dep t) t u z x y v _ rfl tz hx rz rx (by rw[cE]; lia)
 ·have ea:its.toArray.any e=ts.any λt=>eqT t u:=by
   rw[bH,df]
   constructor
   ·intro h
    obtain⟨y,hy,hye⟩:∃y∈its,e y=true:=by simpa [df] using h
    obtain⟨t,z,ht,tz,rz⟩:=at_ y hy
    rw[one ht tz rz] at hye
    exact⟨t,ht,hye⟩
   ·rintro ⟨t,ht,he⟩
    obtain⟨y,hy,z,tz,rz⟩:=of_ t ht
    have:∃y∈its,e y=true:=⟨y,hy,by rw[one ht tz rz]; exact he⟩
    simpa [df] using this
  rw[ea]
  exact q
end
end L2
section
namespace Eo
open PySem L2
theorem jFN:∀a b:List Int,eqTs (a.map Tr.int) (b.map Tr.int)=decide (a=b)
 | [],[]=>rfl
 | [],_::_=>by simp [eqTs]
 | _::_,[]=>by simp [eqTs]
 | x::a,y::b=>by
  show (eqT (.int x) (.int y)&&eqTs (a.map Tr.int) (b.map Tr.int))=_
  rw[jFN a b,bH]
  simp [eqT]
theorem jTI (l:List Int)(ls:List (List Int)):((ls.map λx=>Tr.tup (x.map Tr.int)).any λt=>eqT t (.tup (l.map Tr.int)))=decide (l∈ls):=by
 rw[any_map,bH,df,bz]
 constructor
 ·rintro ⟨x,hx,e⟩
  have e:eqTs (x.map Tr.int) (l.map Tr.int)=true:=e
  rw[jFN] at e
  rw[<- aE e]
  exact hx
 ·intro h
  exact⟨l,h,by show eqTs (l.map Tr.int) (l.map Tr.int)=true; rw[jFN]; simp⟩
theorem lot_T {H:Hp}{a:Addr}{l:List Int}(h:H a=some (.tup (l.map V.int))):TAt H (.tup (l.map Tr.int)) (.ref a):=⟨a,_,rfl,h,jPW l⟩
theorem TLs.T {H:Hp} :∀{us:List V}{ls:List (List Int)},TLs H us ls->TsAt H (ls.map λx=>Tr.tup (x.map Tr.int)) us
 | [],[],_=>rfl
 | _::_,_::_,⟨⟨a,e,h⟩,r⟩=>⟨_,_,rfl,by rw[e]; exact lot_T h,TLs.T r⟩
theorem jGS:∀ls:List (List Int),deps (ls.map λx=>Tr.tup (x.map Tr.int))<=1
 | []=>by simp [deps]
 | l::ls=>by
  show max (dep (.tup (l.map Tr.int))) (deps (ls.map λx=>Tr.tup (x.map Tr.int)))<=1
  have:=jGS ls
  have e:dep (.tup (l.map Tr.int))=deps (l.map Tr.int)+1:=by simp [dep]
  rw[e,jGT]
  lia
theorem jBS {n:Nat}{ks:List Nat}(nd:ks.Nodup)(hb:∀k∈ks,k<n):ks.length<=n:=by
 have sub:ks ⊆ List.range n:=λk hk=>be.mpr (hb k hk)
 have:=eg nd sub
 simpa using this
structure BI (w:Nat)(ch:Ch)(ls:List (List Int))(i k:Nat):Prop where
 lot:∀l∈ls,∃m,m<2 ^ w/\l=btsN w m
 cl:∀j m,j<i->m<2 ^ w->ls[j]?=some (btsN w m)->m≠2 ^ w - 1->∀c∈chAt ch m,btsN w (m|||c.2)∈ls
 le:i<=ls.length
 ex:∃ds:List Nat,ds.Nodup/\(∀d∈ds,d<2 ^ w/\btsN w d∈ls)/\ls.length<=300*ds.length/\k=301*(2 ^ w - ds.length)+(ls.length - i)
theorem BI.zero (w:Nat)(ch:Ch):∃k,BI w ch [[]] 0 k:=by
 have z:btsN w 0=[]:=jOQ w
 refine⟨_,λl hl=>⟨0,h9 _,by rw[aN.mp hl,z]⟩,λj m hj=>absurd hj (cL _),aS _,[0],by simp,λd hd=>?_,by show 1<=300; decide,rfl⟩
 rw[aN.mp hd,z]
 exact⟨h9 _,List.mem_singleton_self _⟩
theorem BI.len {w:Nat}{ch:Ch}{ls:List (List Int)}{i k:Nat}(b:BI w ch ls i k):ls.length<=300*2 ^ w:=by
 obtain⟨ds,nd,h,l,_⟩:=b.ex
 have:=jBS nd λd hd=>(h d hd).1
 lia
theorem BI.step {w:Nat}{ch:Ch}{ls add:List (List Int)}{i k m:Nat}(b:BI w ch ls i k)(hm:m<2 ^ w)(hi:ls[i]?=some (btsN w m))(ha:∀l∈add,l∉ls/\∃m,m<2 ^ w/\l=btsN w m)(al:add.length<=300)(hc:m≠2 ^ w - 1->∀c∈chAt ch m,btsN w (m|||c.2)∈ls++add):∃k',k'<k/\BI w ch (ls++add) (i+1) k':=by
 have il:=(ah.mp hi).1
 obtain⟨ds,nd,h,l,hk⟩:=b.ex
 have dl:=jBS nd λd hd=>(h d hd).1
 have core:∀k',(∃ds:List Nat,ds.Nodup/\(∀d∈ds,d<2 ^ w/\btsN w d∈ls++add)/\(ls++add).length<=300*ds.length/\k'=301*(2 ^ w - ds.length)+((ls++add).length - (i+1)))->BI w ch (ls++add) (i+1) k':=λk' ex=>by
  refine⟨λx hx=>?_,λj n hj hn hjn hne c hc'=>?_,by rw[aJ]; lia,ex⟩
  ·rcases aK.mp hx with hx | hx
   ·exact b.lot x hx
   ·exact(ha x hx).2
  ·have hj2:ls[j]?=some (btsN w n):=by
    rw[bS (by lia)] at hjn
    exact hjn
   by_cases e:j=i
   ·subst e
    rw[hi] at hj2
    have:=jMZ hm hn (bG hj2)
    subst this
    exact hc hne c hc'
   ·exact aQ _ (b.cl j n (by lia) hn hj2 hne c hc')
 cases add with
 | nil=>exact⟨_,by rw[bI]; lia,core _ ⟨ds,nd,λd hd=>⟨(h d hd).1,aQ _ (h d hd).2⟩,by rw[bI]; exact l,rfl⟩⟩
 | cons x add=>
  obtain⟨xn,n,hn,rfl⟩:=ha x (ax ..)
  have nn:n∉ds:=λz=>xn (h n z).2
  have nd2:(n::ds).Nodup:=dE.mpr ⟨nn,nd⟩
  have h2:∀d∈n::ds,d<2 ^ w/\btsN w d∈ls++btsN w n::add:=λd hd=>by
   rcases aF.mp hd with rfl | hd
   ·exact⟨hn,au _ (ax ..)⟩
   ·exact⟨(h d hd).1,aQ _ (h d hd).2⟩
  have dl2:=jBS nd2 λd hd=>(h2 d hd).1
  have e1:(n::ds).length=ds.length+1:=rfl
  have e2:(ls++btsN w n::add).length=ls.length+(btsN w n::add).length:=aJ
  exact⟨_,by rw[e1] at dl2 ⊢; rw[e2]; lia,core _ ⟨n::ds,nd2,h2,by rw[e1,e2]; lia,rfl⟩⟩
theorem BI.all {w:Nat}{ch:Ch}{ls:List (List Int)}{i k:Nat}(b:BI w ch ls i k)(h:¬i<ls.length){m:Nat}(hm:m<2 ^ w)(hl:btsN w m∈ls)(hne:m≠2 ^ w - 1){c:Int×Nat}(hc:c∈chAt ch m):btsN w (m|||c.2)∈ls:=by
 obtain⟨j,hj⟩:=bw hl
 have:=(ah.mp hj).1
 exact b.cl j m (by lia) hm hj hne c hc
theorem jOR {w m n:Nat}(h:m<m|||n)(hb:m|||n<2 ^ w):(btsN w m).length<(btsN w (m|||n)).length:=by
 unfold btsN
 rw[af,af]
 have e:(List.range w).filter (λt=>m.testBit t)=((List.range w).filter λt=>(m|||n).testBit t).filter λt=>m.testBit t:=by
  rw[lA]
  refine List.filter_congr λt _=>?_
  rw[gB]
  cases m.testBit t <;> rfl
 rw[e]
 refine List.length_filter_lt_length_iff_exists.mpr ?_
 apply bJ
 intro hn
 have:m|||n=m:=by
  refine dW λi=>?_
  by_cases hi:i<w
  ·cases z:m.testBit i with
   | true=>rw[gB,z]; rfl
   | false=>
    cases y:(m|||n).testBit i with
    | false=>rfl
    | true=>exact absurd ⟨i,bU.mpr ⟨be.mpr hi,y⟩,by rw[z]; exact ag⟩ hn
  ·have hw:∀x,x<2 ^ w->x.testBit i=false:=λx hx=>eM (aM hx (dX (by decide) (by lia)))
   rw[hw _ hb,hw _ (by lia)]
 lia
theorem jOX {qs:List (List Int)}(hp:qs.Pairwise λa b=>HT.lexLt (k3F b) (k3F a)=false){i:Nat}{l x:List Int}(hi:qs[i]?=some l)(hx:x∈qs)(hl:l.length<x.length):x∈qs.take i:=by
 obtain⟨j,hj⟩:=bw hx
 have jl:=(ah.mp hj).1
 have il:=(ah.mp hi).1
 have ji:j<i:=by
  rcases Nat.lt_trichotomy j i with z | z | z
  ·exact z
  ·subst z
   rw[hi] at hj
   cases hj
   lia
  ·have:=cH.mp hp i j il jl z
   have e1:qs[i]=l:=(ah.mp hi).2
   have e2:qs[j]=x:=(ah.mp hj).2
   rw[e1,e2] at this
   unfold k3F at this
   rw[HT.lexLt_cons,ai (by lia),gm] at this
   lia
 have:(qs.take i)[j]?=some x:=by rw[cn ji]; exact hj
 exact az this
def DInv (lI:List (List Key×V))(S:List (List Int)):Prop:=∀l∈S,∃n:Int,valV lI (l.map Sum.inl)=some (V.int n)
theorem DInv.put {lI:List (List Key×V)}{S:List (List Int)}(d:DInv lI S)(l:List Int)(n:Int):DInv (putK lI (l.map Sum.inl) (.int n)) (S++[l]):=λx hx=>by
 rw[jNG]
 by_cases e:(x.map Sum.inl:List Key)=l.map Sum.inl
 ·rw[am e]; exact⟨n,rfl⟩
 ·rw[ai e]
  rcases aK.mp hx with hx | hx
  ·exact d x hx
  ·exact absurd (by rw[aN.mp hx]) e
theorem jNP {κ:Type} [DecidableEq κ](lI:List (κ×V))(k:κ)(v:V):(putK lI k v).length<=lI.length+1:=by
 unfold putK
 split
 ·rw[af]; lia
 ·rw[aJ]; exact aj _
def whOf:Stmt->List Stmt
 | .While _ b _ _=>b
 | _=> []
noncomputable abbrev nRows:List Str:=["box","pot","found","at","way","some","known","lot"]
theorem scRows:FnScope nRows ["box","pot"] (jB yW):= {}
abbrev XRw (P:Program)(w:World)(K:W.Frag)(mg:Str->Option Value)(lG:Heap)(f c0:Addr)(A:Around)(outer:List Env)(s:Shared)(H:Hp)(E:XK):Cx:=XOf nRows "_law_rows" yW P w K mg lG f (.ref c0) A outer s H E
theorem fsK1:∀x∈(["way"]:List Str),k1S.names.lookup x=some .free:=by decide+kernel
theorem jU0:FsAt (XRw P w K mg lG f c0 A outer s H0 E) ["way"] [4]:=⟨rfl,λk x h=>by
 match k,h with
 | 0,h=>
  cases h
  exact⟨4,rfl,rfl, .inl (show (jB yW).names.lookup (("way" :String):Str)=some .cell by decide+kernel)⟩
 | k+1,h=>cases h⟩
section
variable (T:Txt mg)(CC:Can P w K mg lG "_law_cases" 1 fC fdC ["box","lot"] yZ)(hr:Room 3 (XRw P w K mg lG f c0 A outer s H0 E).A)
def rwIfA: { t:TS // JSs (XRw P w K mg lG f c0 A outer s H0 E) (ifOf ((whOf ((jE yW).getD 2 (.Pass ⟨0,0,0,0⟩))).getD 0 (.Pass ⟨0,0,0,0⟩))) t} :=
 have nd:=scRows.nd
 ⟨_,(jD (jQ (i:=2) nd rfl loc_c (jS yG (jv 2 rfl vC) (y9 (m:=[none,some 2]) (Nc:=["lot","found"]) rfl (jB0 (jC (jEC rfl hr.units101) gD T.sorted (by decide+kernel) (j3 (kU (jMT rfl hr.units101) gD T.set (by decide+kernel) (j3 (CC.je (hr.mono (by decide)) gD (j3 (jv 0 rfl vL) (j3 (jT yC (jv 2 rfl vC) (jv 3 rfl vL) jAX) j5 jP) j4) j4) j5 jM) jM) j5 jM) jM)) rfl (by decide+kernel) (by decide+kernel) (kP (psc:=jB yW)) (jU (N:=nRows) rfl rfl (by decide+kernel)) (λcl C fp s H=>jZ (i:=0) (show (["lot","found"]:List Str).Nodup by decide+kernel) rfl qH) (λcl C fp s H=>jFE (jO (jJM hr.units101) (jv 0 rfl kR) (jv 1 rfl qD) jF5)) (λcl C fp s H=>(jv 0 rfl kR)) yO)) jG0))⟩
def rwWhA: { t:TS // JSs (XRw P w K mg lG f c0 A outer s H0 E) (whOf ((jE yW).getD 2 (.Pass ⟨0,0,0,0⟩))) t} :=
 have nd:=scRows.nd
 ⟨_,(j8 (kL (jO op_lt (jC jG gD T.len (by decide+kernel) (j3 (jT yC (jv 2 rfl vC) (jv 3 rfl vL) jAX) j5 jP) jP) (jT jX (jv 0 rfl vL) (j9) jK) (jN _)) (rwIfA T CC hr).2 jH) (jD (jQ (i:=3) nd rfl lL (jS kT (jv 3 rfl vL) (j9)) jG0)))⟩
def jP7: { t:TS // JSs (XRw P w K mg lG f c0 A outer s H0 E) (qC ((jE yW).getD 7 (.Pass ⟨0,0,0,0⟩))) t} :=
 have nd:=scRows.nd
 ⟨_,(j8 (jFG (qW hr) (jv 6 rfl vC) (jv 7 rfl vL) j9 jDF) (jD (kL (jO op_lt (jC jG gD T.len (by decide+kernel) (j3 (jv 7 rfl vL) j5 j4) j4) (jT jX (jv 0 rfl vL) (j9) jK) (jN _)) (jD (jFG (qW hr) (jv 6 rfl vC) (jv 7 rfl vL) (jC (jCC rfl) gD T.sum (by decide+kernel) (j3 (y9 (m:=[none,some 6]) (Nc:=["there","known"]) rfl (jB0 (CC.je (hr.mono (by decide)) gD (j3 (jv 0 rfl vL) (j3 (jv 7 rfl vL) j5 j4) j4) j4)) rfl (by decide+kernel) (by decide+kernel) (kP (psc:=jB yW)) (jU (N:=nRows) rfl rfl (by decide+kernel)) (λcl C fp s H=>jZ (i:=0) (show (["there","known"]:List Str).Nodup by decide+kernel) rfl qH) (λcl C fp s H=>yM) (λcl C fp s H=>(jFH (qW hr) (jv 1 rfl qD) (jv 0 rfl kR) jAX)) yO) j5 jV) jV) kE)) jH)))⟩
end
def jDS (T:Txt mg)(CH:PySem.W.CodeHd lG c0 tb)(BM:BltAt lG mg)(CC:Can P w K mg lG "_law_cases" 1 fC fdC ["box","lot"] yZ)(hr:Room 3 (XRw P w K mg lG f c0 A outer s H0 E).A): { t:TS // JSs (XRw P w K mg lG f c0 A outer s H0 E) ((jE yW).drop 6) t} :=
 have nd:=scRows.nd
 ⟨_,(j8 (jQ (i:=6) nd rfl loc_c (jGM) jHB) (j8 (jBL ck rfl (jB0 (jCP (jB1 jLT (G:=λ(_:Unit) _=>True) (λ_ q c=>jRA T) (λ_ _ _ _ _ _ _=>trivial) zhK3.ext hr) gD T.sorted (by decide+kernel) (j3 (jv 2 rfl vC) j5 j4) (jHM (jHN rfl CH BM (λy hy hf=>absurd hf (by revert y; decide+kernel)) rfl) jLU) j4)) (jZ (i:=7) nd rfl lL) (jP7 T CC hr).2 yO) (jD (jI (y9 (m:=[none,some 6]) (Nc:=["lot","known"]) rfl (jB0 (jv 5 rfl vL)) rfl (by decide+kernel) (by decide+kernel) (kP (psc:=jB yW)) (jU (N:=nRows) rfl rfl (by decide+kernel)) (λcl C fp s H=>jZ (i:=0) (show (["lot","known"]:List Str).Nodup by decide+kernel) rfl qH) (λcl C fp s H=>yM) (λcl C fp s H=>(kZ (j3 (jv 0 rfl kR) (j3 (jFH (qW hr) (jv 1 rfl qD) (jv 0 rfl kR) jAX) j5 jP) j4))) qF)))))⟩
def rowsA (T:Txt mg)(CH:PySem.W.CodeHd lG c0 tb)(BM:BltAt lG mg)(CT:Can P w K mg lG "_law_take" 1 fT fdT ["pot","wide"] yF)(CC:Can P w K mg lG "_law_cases" 1 fC fdC ["box","lot"] yZ)(hr:Room 3 (XRw P w K mg lG f c0 A outer s H0 E).A): { t:TS // JSs (XRw P w K mg lG f c0 A outer s H0 E) (jE yW) t} :=
 have nd:=scRows.nd
 ⟨_,(j8 (jQ (i:=2) nd rfl loc_c (yB (j3 (kZ j5) j5 qA)) jFZ)
   (j8 (jQ (i:=3) nd rfl lL (j9) jDF)
   (j8 (jO9 ck (jO op_lt (jv 3 rfl vL) (jC jG gD T.len (by decide+kernel) (j3 (jv 2 rfl vC) j5 j4) j4) (jN _)) (rwWhA T CC hr).2)
   (j8 (jQ (i:=4) nd rfl loc_c (CT.je (hr.mono (by decide)) gD (j3 (jv 1 rfl vL) (j3 (j9) j5 jJ) j4) j4) kE)
   (j8 (jQ (i:=5) nd rfl lL (jCP (jB1 jRU (G:=λ(i:K1I) σ=>jI5 σ [4] [.int i.w]) (λi q c=>jRC i T) (λi lF s σ H I q=>⟨I.clOk (kP (psc:=jB yW)),I.fvOk (kP (psc:=jB yW)) fsK1 jU0 q⟩) zhK1.ext hr) gD T.sorted (by decide+kernel) (j3 (jv 2 rfl vC) j5 j4) (jHM (jHN rfl CH BM (kP (psc:=jB yW)) rfl) jLU) j4) kE)
   (j8 (kL (jO yR (jv 4 rfl vC) (j9) (jN _)) (jD (jQ (i:=5) nd rfl lL (jCP (jB1 jLT (G:=λ(_:Unit) _=>True) (λ_ q c=>jRB T) (λ_ _ _ _ _ _ _=>trivial) zhK2.ext hr) gD T.sorted (by decide+kernel) (j3 (jv 2 rfl vC) j5 j4) (jHM (jHN rfl CH BM (λy hy hf=>absurd hf (by revert y; decide+kernel)) rfl) jLU) j4) kE)) jH)
   (jDS T CH BM CC hr).2))))))⟩
theorem TLs.to {H:Hp}{us:List V}{ws:List (List Int)}(h:TLs H us ws):TsOf H us ws:=h
theorem jKO (T:Txt mg)(CC:Can P w K mg lG "_law_cases" 1 fC fdC ["box","lot"] yZ)(hr:Room 3 (XRw P w K mg lG f c0 A outer s H0 E).A){D:Ends}{H:Hp}{b F:Addr}{wi:Int}{ms:List Int}{pcs:List (List Int×Int)}{ls:List (List Int)}{us:List V}{m i:Nat}{v1 v4 v5 v6 v7:Option V}(hB:BoxAt H b wi ms pcs)(g:Good 16 32 wi ms pcs)(hF:H F=some (.lst us))(ht:TLs H us ls)(ll:ls.length<=100000)(hi:ls[i]?=some (btsN wi.toNat m))(hm:m<2 ^ wi.toNat)(hn:m≠2 ^ wi.toNat - 1)
  (nx:∀F' us' add H',H' F'=some (.lst us')->TLs H' us' (ls++add)->(∀l∈add,l∉ls/\∃m,m<2 ^ wi.toNat/\l=btsN wi.toNat m)->add.length<=300->(∀c∈chAt (chs wi.toNat ms pcs) m,btsN wi.toNat (m|||c.2)∈ls++add)->Ext H H'->H F'=none->D.nx [some (.ref b),v1,some (.ref F'),some (natV i),v4,v5,v6,v7] H'):
  (rwIfA T CC hr).1 D [some (.ref b),v1,some (.ref F),some (natV i),v4,v5,v6,v7] H:=by
 have ul:=All2.len ht
 obtain⟨x,hx,a,rfl,ha⟩:=All2.get ht hi
 have cl33:(chAt (chs wi.toNat ms pcs) m).length<=33:=by
  have o:ChOk (chs wi.toNat ms pcs):=jEO g
  unfold chAt
  refine bM (bP _ _) ?_
  rw[aB]
  cases hg:(chs wi.toNat ms pcs)[lowN m]? with
  | none=>exact aS _
  | some cs=>exact o.len _ _ hg
 refine⟨_,rfl,_,rfl,_,rfl,_,rfl,F,us,_,_,rfl,rfl,SqL.of hF,jAQ hx,b,a,wi,ms,pcs,m,rfl,hB,g,ha,hm,hn,λr us1 H1 d1 t1 e1=>?_⟩
 have ul1:=All2.len t1
 rw[af] at ul1
 refine⟨r,us1,_,rfl,SqL.of d1,t1.to,by lia,λl2 bs ws2 n2 ts2 mem2 len2=>?_⟩
 have e2:Ext H1 (L2.upd H1 l2 (SetRO (XRw P w K mg lG f c0 A outer s H0 E).w l2 bs)):=(Ext.refl _).new n2 _
 have d2:(L2.upd H1 l2 (SetRO (XRw P w K mg lG f c0 A outer s H0 E).w l2 bs)) l2=some (SetRO (XRw P w K mg lG f c0 A outer s H0 E).w l2 bs):=j6
 have ts2':TsOf (L2.upd H1 l2 (SetRO (XRw P w K mg lG f c0 A outer s H0 E).w l2 bs)) (bs.map V.ref) ws2:=TLs.mono e2.tups ts2
 generalize L2.upd H1 l2 (SetRO (XRw P w K mg lG f c0 A outer s H0 E).w l2 bs)=H2 at e2 d2 ts2'
 refine⟨l2,bs,ws2,rfl,d2,ts2',λl3 us3 ws3 n3 ts3 pm3=>?_⟩
 have e3:Ext H2 (L2.upd H2 l3 (.lst us3)):=(Ext.refl _).new n3 _
 have d3:(L2.upd H2 l3 (.lst us3)) l3=some (.lst us3):=j6
 have ts3':TLs (L2.upd H2 l3 (.lst us3)) us3 ws3:=TLs.mono e3.tups ts3
 generalize L2.upd H2 l3 (.lst us3)=H3 at e3 d3 ts3'
 have E3:=(e1.trans e2).trans e3
 have ul3:=All2.len ts3'
 have wl3:ws3.length<=300:=by rw[pm3.length_eq]; exact len2
 have mem3:∀z,z∈ws3↔z∈(chAt (chs wi.toNat ms pcs) m).map λc=>btsN wi.toNat (m|||c.2):=λz=>(pm3.mem_iff).trans (mem2 z)
 refine⟨l3,rfl,⟨_,SqL.of d3⟩,jBH (xs:=us3) (λσ=>∃v,σ=[v,some (.ref F)]) (λH' zs t=>TLs H' zs ((ws3.take t).filter λl=>!decide (l∈ls))) ⟨λH=>trivial,λH H' zs t tu hz=>TLs.mono tu hz,λH zs t hz=>?_⟩ d3 (by rw[aH]; lia) ⟨_,rfl⟩ ?_ ?_⟩
 ·rw[All2.len hz]
  exact bM (bP _ _) (ef _ _)
 ·rintro j x σ' H4 zs hx ⟨v,rfl⟩ e4 hz S1 S2 yes no
  obtain⟨l,hl,la,rfl,hla⟩:=All2.get' ts3' hx
  have tk:ws3.take (j+1)=ws3.take j++[l]:=by rw[bN,hl]; rfl
  have E4:=E3.trans e4
  refine⟨_,rfl,_,rfl, .tup (l.map Tr.int),_,lot_T (e4 _ _ hla),⟨F,us,rfl,E4 _ _ hF,TLs.T (TLs.mono E4.tups ht)⟩,bM (jGS ls) (by decide),_,rfl,?_⟩
  rw[jTI]
  refine ite2 (λh=>?_) (λh=>?_)
  ·refine⟨_,rfl,yes _ _ _ ⟨_,rfl⟩ (Ext.refl _) ?_⟩
   show TLs _ _ _
   rw[tk,ci,gn (p:=λl=>!decide (l∈ls)) h,ke]
   exact All2.snoc hz ⟨la,rfl,e4 _ _ hla⟩
  ·refine no _ _ ⟨_,rfl⟩ (Ext.refl _) ?_
   show TLs _ _ _
   rw[tk,ci,jf (p:=λl=>!decide (l∈ls)) h,ke,bI]
   exact hz
 ·rintro D4 H4 zs d4 e4 n4 hz
  rw[ul3,cF] at hz
  have zl:=All2.len hz
  have fl:=bP (λl=>!decide (l∈ls)) ws3
  have E4:=E3.trans e4
  refine⟨F,D4,us,zs,rfl,rfl,E4 _ _ hF,d4,by rw[aH]; lia,λF5 H5 d5 e5 n5=>?_⟩
  have E5:=E4.trans e5
  refine nx F5 _ _ H5 d5 (All2.append (TLs.mono E5.tups ht) (TLs.mono e5.tups hz)) (λl hl=>?_) (by lia) (λc hc=>?_) E5 ?_
  ·obtain⟨h1,h2⟩:=bU.mp hl
   refine⟨by simpa using h2,?_⟩
   obtain⟨c,hc,rfl⟩:=bW.mp ((mem3 l).mp h1)
   exact⟨_,(ch_gt g hm hn hc).2,rfl⟩
  ·by_cases hl:btsN wi.toNat (m|||c.2)∈ls
   ·exact aQ _ hl
   ·exact au _ (bU.mpr ⟨(mem3 _).mpr (cY hc),by simpa using hl⟩)
  ·cases z:H F5 with
   | none=>rfl
   | some o=>rw[E4 _ _ z] at n5; cases n5
theorem jKN (T:Txt mg)(CC:Can P w K mg lG "_law_cases" 1 fC fdC ["box","lot"] yZ)(hr:Room 3 (XRw P w K mg lG f c0 A outer s H0 E).A){D:Ends}{H:Hp}{b F:Addr}{wi:Int}{ms:List Int}{pcs:List (List Int×Int)}{ls:List (List Int)}{us:List V}{i k:Nat}{v1 v4 v5 v6 v7:Option V}(hB:BoxAt H b wi ms pcs)(g:Good 16 32 wi ms pcs)(hF:H F=some (.lst us))(ht:TLs H us ls)(ll:ls.length<=100000)(bi:BI wi.toNat (chs wi.toNat ms pcs) ls i k)(hi:i<ls.length)
  (nx:∀F' us' ls' k' H',k'<k->BI wi.toNat (chs wi.toNat ms pcs) ls' (i+1) k'->H' F'=some (.lst us')->TLs H' us' ls'->Ext H H'->(H F'=none\/F'=F)->D.nx [some (.ref b),v1,some (.ref F'),some (natV (i+1)),v4,v5,v6,v7] H'):
  (rwWhA T CC hr).1 D [some (.ref b),v1,some (.ref F),some (natV i),v4,v5,v6,v7] H:=by
 obtain⟨m,hm,el⟩:=bi.lot ls[i] (de hi)
 have hl:ls[i]?=some (btsN wi.toNat m):=by rw[aG hi,el]
 obtain⟨x,hx,a,rfl,ha⟩:=All2.get ht hl
 obtain⟨qm,qp,ps,b1,b2,b3,b4⟩:=id hB.ex
 have w0:=g.w0
 refine⟨_,rfl,_,rfl,F,us,_,_,rfl,rfl,SqL.of hF,jAQ hx,a,_,rfl, .inr (SqT.of ha),_,rfl,b,_,0,_,rfl,rfl,SqT.of b1,rfl,_,_,rfl,rfl,_,rfl,ite2 (λh=>?_) (λh=>?_)⟩
 ·have h:=aE h
  rw[af] at h
  have hn:m≠2 ^ wi.toNat - 1:=(jCD hm).mp (by lia)
  refine jKO T CC hr hB g hF ht ll hl hm hn λF' us' add H' d' t' ha al hc e' n'=>?_
  obtain⟨k',lt,bi'⟩:=bi.step hm hl ha al λ_=>hc
  exact⟨_,rfl,_,_,rfl,rfl,nx F' us' _ k' H' lt bi' d' t' e' (.inl n')⟩
 ·have e:m=2 ^ wi.toNat - 1:=bJ λz=>h (ar (by
   have:=(jCD hm).mpr z
   rw[af]
   lia))
  obtain⟨k',lt,bi'⟩:=bi.step (add:=[]) hm hl (λl hl=>by cases hl) (aS _) λz=>absurd e z
  rw[bI] at bi'
  exact⟨_,rfl,_,_,rfl,rfl,nx F us ls k' H lt bi' hF ht (Ext.refl _) (.inr rfl)⟩
theorem jJG (T:Txt mg)(CC:Can P w K mg lG "_law_cases" 1 fC fdC ["box","lot"] yZ)(hr:Room 3 (XRw P w K mg lG f c0 A outer s H0 E).A){D:Ends}{H:Hp}{b a kn:Addr}{wi:Int}{ms:List Int}{pcs:List (List Int×Int)}{S:List (List Int)}{m:Nat}{lI:List (List Key×V)}{v1 v2 v3 v4 v5:Option V}(hB:BoxAt H b wi ms pcs)(g:Good 16 32 wi ms pcs)(ha:H a=some (.tup ((btsN wi.toNat m).map V.int)))(hm:m<2 ^ wi.toNat)(hk:H kn=some (.dT lI))(di:DInv lI S)(kl:lI.length<=100000)(hc:m≠2 ^ wi.toNat - 1->∀c∈chAt (chs wi.toNat ms pcs) m,btsN wi.toNat (m|||c.2)∈S)
  (nx:∀lI' H',H' kn=some (.dT lI')->DInv lI' (S++[btsN wi.toNat m])->lI'.length<=lI.length+1->(∀c u,H c=some u->c≠kn->H' c=some u)->D.nx [some (.ref b),v1,v2,v3,v4,v5,some (.ref kn),some (.ref a)] H'):
  (jP7 T CC hr).1 D [some (.ref b),v1,v2,v3,v4,v5,some (.ref kn),some (.ref a)] H:=by
 obtain⟨qm,qp,ps,b1,b2,b3,b4⟩:=id hB.ex
 have w0:=g.w0
 have eb:∀{H':Hp},H' a=some (.tup ((btsN wi.toNat m).map V.int))->H' a=some (.tup (((btsN wi.toNat m).map (Sum.inl:Int->Key)).map kV)):=λh=>by rw[jE4]; exact h
 refine⟨_,rfl,_,rfl,kn,_,rfl,DPut.t hk (eb ha) (by rw[aH]; lia),?_⟩
 have e1:∀c u,H c=some u->c≠kn->(L2.upd H kn (.dT (putK lI ((btsN wi.toNat m).map Sum.inl) (.int 1)))) c=some u:=λc u h n=>by rw[j7 n]; exact h
 have d1:(L2.upd H kn (.dT (putK lI ((btsN wi.toNat m).map Sum.inl) (.int 1)))) kn=some (.dT (putK lI ((btsN wi.toNat m).map Sum.inl) (.int 1))):=j6
 have di1:=di.put (btsN wi.toNat m) 1
 have len1:=jNP lI ((btsN wi.toNat m).map Sum.inl:List Key) (.int 1)
 generalize L2.upd H kn (.dT (putK lI ((btsN wi.toNat m).map Sum.inl) (.int 1)))=H1 at e1 d1
 have tu1:Tups H H1:=λc xs h=>e1 _ _ h λz=>by rw[z,hk] at h; cases h
 have ha1:=tu1 _ _ ha
 have hB1:=hB.mono tu1
 refine⟨_,rfl,a,_,rfl, .inr (SqT.of ha1),_,rfl,b,_,0,_,rfl,rfl,SqT.of (tu1 _ _ b1),rfl,_,_,rfl,rfl,_,rfl,ite2 (λh=>?_) (λh=>?_)⟩
 ·have h:=aE h
  rw[af] at h
  have hn:m≠2 ^ wi.toNat - 1:=(jCD hm).mp (by lia)
  refine⟨_,rfl,_,rfl,b,a,wi,ms,pcs,m,rfl,hB1,g,ha1,hm,hn,λr us2 H2 d2 t2 e2=>?_⟩
  have ul2:=All2.len t2
  rw[af] at ul2
  have cl33:(chAt (chs wi.toNat ms pcs) m).length<=33:=by
   have o:ChOk (chs wi.toNat ms pcs):=jEO g
   unfold chAt
   refine bM (bP _ _) ?_
   rw[aB]
   cases hg:(chs wi.toNat ms pcs)[lowN m]? with
   | none=>exact aS _
   | some cs=>exact o.len _ _ hg
  have get:∀{j:Nat}{x:V}{H':Hp},us2[j]?=some x->Ext H2 H'->∃a' n,x= .ref a'/\DGet H' kn (.ref a') (some (V.int n)):=λ{j x H'} hx e=>by
   obtain⟨l,hl,a',rfl,ha'⟩:=All2.get' t2 hx
   rw[aW] at hl
   cases hc':(chAt (chs wi.toNat ms pcs) m)[j]? with
   | none=>rw[hc'] at hl; cases hl
   | some c=>
    rw[hc'] at hl
    cases hl
    obtain⟨n,hv⟩:=di1 _ (aQ _ (hc hn c (az hc')))
    refine⟨a',n,rfl,?_⟩
    rw[<- hv]
    exact DGet.t (e _ _ (e2 _ _ d1)) (by rw[jE4]; exact e _ _ ha')
  refine⟨r,rfl,⟨_,SqL.of d2⟩,jBH (xs:=us2) (λσ=>∃v,σ=[v,some (.ref kn)]) (λ_ zs t=>∃ns:List Int,zs=ns.map V.int/\ns.length=t) ⟨λ_=>⟨[],rfl,rfl⟩,λ_ _ _ _ _ h=>h,λ_ zs t ⟨ns,e1,e2⟩=>by rw[e1,af,e2]; exact aj _⟩ d2 (by rw[aH]; lia) ⟨_,rfl⟩ ?_ ?_⟩
  ·rintro j x σ' H' zs hx ⟨v,rfl⟩ e ⟨ns,rfl,nl⟩ S1 S2 yes no
   obtain⟨a',n,rfl,dg⟩:=get hx e
   dsimp only [yA,qG]
   rw[am rfl]
   exact⟨_,rfl,_,rfl,kn,_,rfl,dg,yes _ _ _ ⟨_,rfl⟩ (Ext.refl _) ⟨ns++[n],by rw[aR]; rfl,by rw[aJ,nl]; rfl⟩⟩
  ·rintro D3 H3 zs d3 e3 n3 ⟨ns,rfl,nl⟩
   refine⟨D3,_,rfl,SqL.of d3,?_⟩
   have E3:=e2.trans e3
   refine⟨_,rfl,_,rfl,kn,_,rfl,DPut.t (E3 _ _ d1) (eb (E3 _ _ ha1)) (by rw[aH]; lia),?_⟩
   have pl:(putK (putK lI ((btsN wi.toNat m).map Sum.inl) (.int 1)) ((btsN wi.toNat m).map Sum.inl:List Key) (.int ns.sum)).length<=lI.length+1:=by
    unfold putK
    have:((lI.any λkv=>decide (kv.1=((btsN wi.toNat m).map Sum.inl:List Key)))=true\/¬(lI.any λkv=>decide (kv.1=((btsN wi.toNat m).map Sum.inl:List Key)))=true):=Classical.em _
    rcases this with y | y
    ·rw[am y]
     split
     ·rw[af,af]; lia
     ·rw[aJ,af]; exact aj _
    ·rw[ai y,am (by rw[List.any_append]; simp)]
     rw[af,aJ]
     exact aj _
   refine nx _ _ j6 ?_ pl λc u z n=>by rw[j7 n]; exact E3 _ _ (e1 _ _ z n)
   have:=di1.put (btsN wi.toNat m) ns.sum
   exact λl hl=>this l (aQ _ hl)
 ·exact nx _ H1 d1 di1 len1 e1
noncomputable def lotV (H:Hp):V->List Int
 | .ref a=>match H a with
  | some (.tup xs)=>xs.map λv=>match v with
   | .int i=>i
   | _=>0
  | _=> []
 | _=> []
theorem jLK {H:Hp}{a:Addr}{x:List Int}(h:H a=some (.tup (x.map V.int))):lotV H (.ref a)=x:=by
 dsimp only [lotV]
 rw[h]
 show (x.map V.int).map _=x
 rw[dH]
 exact List.map_id _
theorem TLs.back {H:Hp} :∀{us:List V}{ws:List (List Int)},TLs H us ws->us.map (lotV H)=ws/\∀v∈us,∃a,v= .ref a/\H a=some (.tup ((lotV H v).map V.int))
 | [],[],_=>⟨rfl,λv hv=>by cases hv⟩
 | u::us,x::ws,h=>by
  obtain⟨⟨a,rfl,ha⟩,r⟩:=h
  obtain⟨r1,r2⟩:=TLs.back r
  refine⟨by rw[bg,jLK ha,r1],λv hv=>?_⟩
  rcases aF.mp hv with rfl | z
  ·exact⟨a,rfl,by rw[jLK ha]; exact ha⟩
  ·exact r2 v z
theorem TLs.of {H:Hp} :∀{us:List V},(∀v∈us,∃a,v= .ref a/\H a=some (.tup ((lotV H v).map V.int)))->TLs H us (us.map (lotV H))
 | [],_=>trivial
 | u::us,h=>⟨h u (ax ..),TLs.of λv hv=>h v (ay _ hv)⟩
theorem TLs.perm {H:Hp}{us us':List V}{ws:List (List Int)}(h:TLs H us ws)(p:us'.Perm us):TLs H us' (us'.map (lotV H))/\(us'.map (lotV H)).Perm ws:=by
 obtain⟨h1,h2⟩:=h.back
 exact⟨TLs.of λv hv=>h2 v (p.mem_iff.mp hv),by rw[<- h1]; exact p.map _⟩
def RwP (H:Hp)(u:V)(r:List Int×Int):Prop:=∃b a,u= .ref b/\H b=some (.tup [.ref a, .int r.2])/\H a=some (.tup (r.1.map V.int))
theorem RwP.mono {H H':Hp}(t:∀b xs,H b=some (.tup xs)->H' b=some (.tup xs)){u:V}{r:List Int×Int}(h:RwP H u r):RwP H' u r:=let ⟨b,a,e,x,y⟩:=h; ⟨b,a,e,t _ _ x,t _ _ y⟩
def rowO (r:List Int×Int):Ob:= .tup [.tup (r.1.map Ob.int), .int r.2]
theorem RwP.ats {H:Hp} :∀{us:List V}{rs:List (List Int×Int)},All2 (RwP H) us rs->(∀r∈rs,r.1.length<=7)->Ats H (rs.map rowO) us
 | [],[],_,_=>rfl
 | _::_,r::rs,⟨⟨b,a,e,x,y⟩,t⟩,h=>⟨_,_,rfl,by
   rw[e]
   exact qP x (by show (2:Nat)<=100; decide) ⟨_,_,rfl,qP y (by have:=h r (ax ..); rw[af]; lia) (Ats.ints r.1),_,_,rfl,rfl,rfl⟩,RwP.ats t λr hr=>h r (ay _ hr)⟩
def RowG (o:Ob):Prop:=∃(l:List Int) (n:Int),o= .tup [.tup (l.map Ob.int), .int n]/\l.length<=7
theorem jEZ (T:Txt mg)(CH:PySem.W.CodeHd lG c0 tb)(BM:BltAt lG mg)(CC:Can P w K mg lG "_law_cases" 1 fC fdC ["box","lot"] yZ)(hr:Room 3 (XRw P w K mg lG f c0 A outer s H0 E).A){D:Ends}{H:Hp}{b F S:Addr}{wi:Int}{ms:List Int}{pcs:List (List Int×Int)}{ls ls2:List (List Int)}{us us2:List V}{i k:Nat}{v1 v3 v4 v6 v7:Option V}(hB:BoxAt H b wi ms pcs)(g:Good 16 32 wi ms pcs)(w7:wi<=7)(hF:H F=some (.lst us))(ht:TLs H us ls)(ll:ls.length<=50000)(bi:BI wi.toNat (chs wi.toNat ms pcs) ls i k)(hi:¬i<ls.length)(hS:H S=some (.lst us2))(ht2:TLs H us2 ls2)(pm2:ls2.Perm ls)(tab:TabR H tb)
  (q:∀r us3 os H',H' r=some (.lst us3)->Ats H' os us3->(∀o∈os,RowG o)->us3.length<=50000->TabR H' tb->ExtT tb H H'->H r=none->D.rt (.ref r) H'):
  (jDS T CH BM CC hr).1 D [some (.ref b),v1,some (.ref F),v3,v4,some (.ref S),v6,v7] H:=by
 have w0:=g.w0
 intro kn hkn
 have e1:Ext H (L2.upd H kn (.dT [])):=(Ext.refl _).new hkn _
 have d1:(L2.upd H kn (.dT [])) kn=some (.dT []):=j6
 generalize L2.upd H kn (.dT [])=H1 at e1 d1
 have tab1:=tab.ext e1
 refine⟨_,rfl,tab1,λqa c1 H2 k1 k2 tab2 e2 n2=>?_⟩
 have X2:ExtT tb H H2:=(ExtT.of e1).trans e2
 have T2:Tups H H2:=λc xs h=>X2.atM tab h
 have hF2:=X2.atM tab hF
 have ht2':=ht.mono T2
 obtain⟨bk1,bk2⟩:=ht2'.back
 have lb:∀l∈ls,∃m,m<2 ^ wi.toNat/\l=btsN wi.toNat m:=bi.lot
 have ul:=All2.len ht
 refine⟨F,us,qa,c1,λv=>k3F (lotV H2 v),(),trivial,rfl,rfl,SqL.of hF2,⟨k1,k2⟩,λv hv=>let ⟨a,e,_⟩:=bk2 v hv; ⟨a,e⟩,λv hv H3 Q3 e3 k3=>?_,λl us' H3 nl pm pw e3 d3=>?_⟩
 ·obtain⟨a,rfl,ha⟩:=bk2 v hv
  exact⟨a,_,rfl,e3 _ _ ha,k3 _ _ ⟨_,rfl,rfl⟩ (Ext.refl _)⟩
 have tp:=ht2'.perm pm
 generalize hqs:us'.map (lotV H2)=qs at tp
 have pw':qs.Pairwise λa b=>HT.lexLt (k3F b) (k3F a)=false:=by rw[<- hqs]; exact dZ.mpr pw
 have tq:=tp.1.mono e3.tups
 have qlen:=All2.len tq
 have ql:qs.length=ls.length:=tp.2.length_eq
 have X3:ExtT tb H H3:=X2.trans (ExtT.of e3)
 have tab3:=tab2.ext e3
 have kn3:H3 kn=some (.dT []):=e3 _ _ (e2.atM tab1 d1)
 have T3:Tups H H3:=λc xs h=>X3.atM tab h
 refine⟨l,rfl,⟨_,SqL.of d3⟩,jFL (xs:=us') (λj σ H'=>(∃v7,σ=[some (.ref b),v1,some (.ref F),v3,v4,some (.ref S),some (.ref kn),v7])/\(∀c u,H3 c=some u->c≠kn->H' c=some u)/\∃lI,H' kn=some (.dT lI)/\DInv lI (qs.take j)/\lI.length<=j) ⟨⟨_,rfl⟩,λ_ _ h _=>h,[],kn3,λ(l:List Int) (hl:l∈qs.take 0)=>(by rw[fg] at hl; cases hl),aj _⟩ (λj σ H' _ ⟨_,k,_⟩=>SqL.of (k _ _ d3 λz=>by rw[z,kn3] at d3; cases d3)) ?_ ?_⟩
 ·rintro j x σ H4 hx ⟨⟨v7,rfl⟩,k4,lI,hk,di,kl⟩
  obtain⟨lt,hlt,a,rfl,ha⟩:=All2.get' tq hx
  have ltm:lt∈ls:=tp.2.mem_iff.mp (az hlt)
  obtain⟨m,hm,rfl⟩:=lb _ ltm
  have T4:Tups H3 H4:=λc xs h=>k4 _ _ h λz=>by rw[z,kn3] at h; cases h
  have jl:=(ah.mp hlt).1
  refine jJG T CC hr ((hB.mono T3).mono T4) g (T4 _ _ ha) hm hk di (by lia) (λhn c hc=>?_) λlI' H5 k5 di5 kl5 e5=>⟨⟨_,rfl⟩,λc u h n=>e5 _ _ (k4 _ _ h n) n,lI',k5,?_,by lia⟩
  ·have gt:=ch_gt g hm hn hc
   have inl:=bi.all hi hm ltm hn hc
   exact jOX pw' hlt (tp.2.mem_iff.mpr inl) (jOR gt.1 gt.2)
  ·rw[bN,hlt]
   exact di5
 ·rintro σ H4 ⟨⟨v7,rfl⟩,k4,lI,hk,di,kl⟩
  rw[qlen,cF] at di
  have T4:Tups H3 H4:=λc xs h=>k4 _ _ h λz=>by rw[z,kn3] at h; cases h
  have X4:ExtT tb H H4:=λc u h n=>k4 _ _ (X3 _ _ h n) λz=>by rw[z,hkn] at h; cases h
  have hS4:=X4.atM tab hS
  have t24:=ht2.mono λc xs h=>X4.atM tab h
  have ul2:=All2.len ht2
  have l2:ls2.length=ls.length:=pm2.length_eq
  have tab4:TabR H4 tb:=by
   obtain⟨es,h1,h2⟩:=tab3
   exact⟨es,k4 _ _ h1 λz=>(by rw[z,kn3] at h1; cases h1),λx hx=>k4 _ _ (h2 x hx) λz=>by have:=h2 x hx; rw[z,kn3] at this; cases this⟩
  refine⟨_,rfl,S,rfl,⟨_,SqL.of hS4⟩,jBH (xs:=us2) (λσ=>∃v,σ=[v,some (.ref kn)]) (λH' zs t=>∃rs,All2 (RwP H') zs rs/\(∀r∈rs,r.1.length<=7)/\rs.length=t) ⟨λ_=>⟨[],trivial,λo h=>(by cases h),rfl⟩,λH5 H6 zs t tu ⟨rs,a1,a2,a3⟩=>⟨rs,a1.imp λ_ _ h=>h.mono tu,a2,a3⟩,λH5 zs t ⟨rs,a1,a2,a3⟩=>by rw[All2.len a1,a3]; exact aj _⟩ hS4 (by rw[aH]; lia) ⟨_,rfl⟩ ?_ ?_⟩
  ·rintro j x σ' H5 zs hx ⟨v,rfl⟩ e5 ⟨rs,a1,a2,a3⟩ S1 S2 yes no
   obtain⟨lt,hlt,a,rfl,ha⟩:=All2.get' t24 hx
   have ltm:lt∈ls:=pm2.mem_iff.mp (az hlt)
   obtain⟨n,hv⟩:=di lt (tp.2.mem_iff.mpr ltm)
   obtain⟨m,hm,hlm⟩:=lb _ ltm
   have dg:DGet H5 kn (.ref a) (some (V.int n)):=by
    rw[<- hv]
    exact DGet.t (e5 _ _ hk) (by rw[jE4]; exact e5 _ _ ha)
   dsimp only [yA,qG]
   rw[am rfl]
   refine⟨_,rfl,_,rfl,_,rfl,kn,_,rfl,dg,by show (2:Nat)<=_; decide,λt6 H6 d6 e6=>yes _ _ _ ⟨_,rfl⟩ e6 ⟨rs++[(lt,n)],All2.snoc (a1.imp λ_ _ h=>h.mono e6.tups) ⟨t6,a,rfl,d6,e6 _ _ (e5 _ _ ha)⟩,λr hr=>?_,by rw[aJ,a3]; rfl⟩⟩
   rcases aK.mp hr with hr | hr
   ·exact a2 r hr
   ·rw[aN.mp hr]
    have:=jCY wi.toNat m
    rw[hlm]
    show (btsN wi.toNat m).length<=7
    lia
  ·rintro R H5 zs d5 e5 n5 ⟨rs,a1,a2,a3⟩
   refine q R zs _ H5 d5 (RwP.ats a1 a2) (λo ho=>by obtain⟨r,hr,rfl⟩:=bW.mp ho; exact⟨r.1,r.2,rfl,a2 r hr⟩) (by rw[All2.len a1,a3]; lia) (tab4.ext e5) (X4.trans (ExtT.of e5)) ?_
   cases z:H R with
   | none=>rfl
   | some o=>
    by_cases y:R=tb
    ·obtain⟨ps,h⟩:=tab4.is
     rw[y,h] at n5
     cases n5
    ·rw[X4 _ _ z y] at n5
     cases n5
def jKG (tb:Addr):Sp:=λvs H Q _=>∃(b p:Addr) (N w:Int) (ms:List Int) (pcs:List (List Int×Int)),vs=[.ref b, .ref p]/\BoxAt H b w ms pcs/\Good 16 32 w ms pcs/\w<=7/\H p=some (.lst [.int N])/\0<=N/\TabR H tb/\
 ∀r us os N' H',H' r=some (.lst us)->Ats H' os us->(∀o∈os,RowG o)->us.length<=50000->H' p=some (.lst [.int N'])->0<=N'->TabR H' tb->(∀c u,H c=some u->c≠p->c≠tb->H' c=some u)->H r=none->Q (.ref r) H'
theorem jR6 {fd:FuncData}(F:FunC K "_law_rows" "_law_rows" yW f fd c0)(T:Txt mg)(CH:PySem.W.CodeHd lG c0 tb)(BM:BltAt lG mg)(CT:Can P w K mg lG "_law_take" 1 fT fdT ["pot","wide"] yF)(CC:Can P w K mg lG "_law_cases" 1 fC fdC ["box","lot"] yZ):FnOk P w K mg lG CX0 4 f fd ["box","pot"] (jKG tb):=by
 refine F.ok scRows (λvs H Q E h=>?_) (λA outer s H vs Q E hr h=>?_)
 ·obtain⟨_,_,_,_,_,_,rfl,_⟩:=h
  rfl
 ·obtain⟨b,p,N,wi,ms,pcs,rfl,hB,g,w7,hp,hN,tab,q⟩:=h
  refine⟨_,(rowsA T CH BM CT CC hr).2.h,?_⟩
  have w0:=g.w0
  have p7:2 ^ wi.toNat<=2 ^ 7:=dX (by decide) (by lia)
  have p7':(2 ^ 7:Nat)=128:=by decide
  refine⟨by show (0:Nat)<=_; decide,λt0 H1 d1 e1=>⟨by show (1:Nat)<=_; decide,λF0 H2 d2 e2 n2=>?_⟩⟩
  have E2:=e1.trans e2
  have nF:H F0=none:=by
   cases z:H F0 with
   | none=>rfl
   | some o=>rw[e1 _ _ z] at n2; cases n2
  obtain⟨k0,b0⟩:=BI.zero wi.toNat (chs wi.toNat ms pcs)
  refine⟨λk σ H'=>∃(F:Addr) (us:List V) (ls:List (List Int)) (i:Nat),σ=[some (.ref b),some (.ref p),some (.ref F),some (natV i),none,none,none,none]/\Ext H H'/\H' F=some (.lst us)/\TLs H' us ls/\H F=none/\BI wi.toNat (chs wi.toNat ms pcs) ls i k,⟨k0,F0,_,[[]],0,rfl,E2,d2,⟨⟨t0,rfl,e2 _ _ d1⟩,trivial⟩,nF,b0⟩,?_⟩
  rintro k σ H3 ⟨F,us,ls,i,rfl,e3,d3,t3,nF,bi⟩
  have ul:=All2.len t3
  have bl:=bi.len
  refine⟨_,rfl,_,rfl,F,_,rfl, .inl (SqL.of d3),_,_,rfl,rfl,_,rfl,ite2 (λh=>?_) (λh=>?_)⟩
  ·have h:=aE h
   refine⟨λσ' H'=>∃(F':Addr) (us':List V) (ls':List (List Int)) (k':Nat),k'<k/\σ'=[some (.ref b),some (.ref p),some (.ref F'),some (natV (i+1)),none,none,none,none]/\Ext H H'/\H' F'=some (.lst us')/\TLs H' us' ls'/\H F'=none/\BI wi.toNat (chs wi.toNat ms pcs) ls' (i+1) k',λσ' H' ⟨F',us',ls',k',lt,r1,r2,r3,r4,r5,r6⟩=>⟨k',lt,F',us',ls',i+1,r1,r2,r3,r4,r5,r6⟩,?_⟩
   refine jKN T CC hr (hB.mono e3.tups) g d3 t3 (by lia) bi (by lia) λF' us' ls' k' H4 lt bi' d4 t4 e4 nF'=>⟨F',us',ls',k',lt,rfl,e3.trans e4,d4,t4,?_,bi'⟩
   rcases nF' with z | z
   ·cases y:H F' with
    | none=>rfl
    | some o=>rw[e3 _ _ y] at z; cases z
   ·rw[z]; exact nF
  ·have hi:¬i<ls.length:=λz=>h (ar (by lia))
   refine⟨_,rfl,p,N,3,rfl,e3 _ _ hp,hN,by decide,by decide,λN4 r hN4 r0 r1=>?_⟩
   have pF:F≠p:=λz=>by rw[z,hp] at nF; cases nF
   have k4:∀c u,H3 c=some u->c≠p->(L2.upd H3 p (.lst [.int N4])) c=some u:=λc u h n=>by rw[j7 n]; exact h
   have d4:(L2.upd H3 p (.lst [.int N4])) p=some (.lst [.int N4]):=j6
   generalize L2.upd H3 p (.lst [.int N4])=H4 at k4 d4
   have pp:=e3 _ _ hp
   have T4:Tups H3 H4:=λc xs h=>k4 _ _ h λz=>by rw[z,pp] at h; cases h
   have tab4:TabR H4 tb:=by
    obtain⟨es,h1,h2⟩:=tab.ext e3
    exact⟨es,k4 _ _ h1 λz=>(by rw[z,pp] at h1; cases h1),λx hx=>k4 _ _ (h2 x hx) λz=>by have:=h2 x hx; rw[z,pp] at this; cases this⟩
   have F4:=k4 _ _ d3 pF
   have t4:=t3.mono T4
   have hB4:=(hB.mono e3.tups).mono T4
   have K4:∀c u,H c=some u->c≠p->H4 c=some u:=λc u h n=>k4 _ _ (e3 _ _ h) n
   have fin:∀(S:Addr) (us2:List V) (ls2:List (List Int)) (H5:Hp) (v6 v7:Option V),H5 F=some (.lst us)->TLs H5 us ls->H5 S=some (.lst us2)->TLs H5 us2 ls2->ls2.Perm ls->TabR H5 tb->BoxAt H5 b wi ms pcs->H5 p=some (.lst [.int N4])->(∀c u,H c=some u->c≠p->c≠tb->H5 c=some u)->
     (jDS (f:=f) (A:=A) (outer:=outer) (s:=s) (H0:=H) (E:=E) T CH BM CC hr).1 { nx:=λ_ H'=>Q .non H',rt:=Q} [some (.ref b),some (.ref p),some (.ref F),some (natV i),some (.int r),some (.ref S),v6,v7] H5:=λS us2 ls2 H5 v6 v7 hF5 t5 hS5 ts5 pm tb5 hB5 hp5 k5=>by
    refine jEZ (f:=f) (A:=A) (outer:=outer) (s:=s) (H0:=H) (E:=E) T CH BM CC hr hB5 g w7 hF5 t5 (by lia) bi hi hS5 ts5 pm tb5 λR us3 os H6 d6 a6 g6 l6 tb6 x6 n6=>?_
    refine q R us3 os N4 H6 d6 a6 g6 l6 (x6.atM tb5 hp5) hN4 tb6 (λc u h n1 n2=>x6 _ _ (k5 _ _ h n1 n2) n2) ?_
    cases z:H R with
    | none=>rfl
    | some o=>
     by_cases y1:R=p
     ·rw[y1,hp5] at n6; cases n6
     ·by_cases y2:R=tb
      ·obtain⟨ps,h⟩:=tb5.is
       rw[y2,h] at n6; cases n6
      ·rw[k5 _ _ z y1 y2] at n6; cases n6
   have ptb:p≠tb:=tab.ne hp (by intro _ z; cases z)
   refine⟨_,rfl,tab4,λqa c1 H5 k1 k2 tab5 e5 n5=>?_⟩
   have T5:Tups H4 H5:=λc xs h=>e5.atM tab4 h
   have t5:=t4.mono T5
   have F5:=e5.atM tab4 F4
   obtain⟨bk1,bk2⟩:=t5.back
   have lotl:∀v∈us,(lotV H5 v).length<=7/\∀t∈lotV H5 v,0<=t/\t<64:=λv hv=>by
    have:lotV H5 v∈ls:=by rw[<- bk1]; exact cY hv
    obtain⟨m,hm,hl⟩:=bi.lot _ this
    have b1:=jCY wi.toNat m
    have b2:=jAH wi.toNat m
    rw[hl]
    exact⟨by lia,λt ht=>by have:=b2.bnd t ht; lia⟩
   refine⟨F,us,qa,c1,λv=>k1F r (lotV H5 v),⟨r⟩,rfl,rfl,rfl,SqL.of F5,⟨k1,k2⟩,λv hv=>let ⟨a,e,_⟩:=bk2 v hv; ⟨a,e⟩,λv hv H6 Q6 e6 k6=>?_,λS us' H6 nS pm _ e6 d6=>?_⟩
   ·have ll:=(lotl v hv).1
    obtain⟨a,rfl,ha⟩:=bk2 v hv
    exact⟨a,_,rfl,e6 _ _ ha,by lia,λr7 H7 pr e7=>k6 _ _ pr e7⟩
   have tp:=t5.perm pm
   have X6:ExtT tb H4 H6:=e5.trans (ExtT.of e6)
   have tab6:=tab5.ext e6
   have T6:Tups H4 H6:=λc xs h=>X6.atM tab4 h
   have K6:∀c u,H c=some u->c≠p->c≠tb->H6 c=some u:=λc u h n1 n2=>X6 _ _ (K4 _ _ h n1) n2
   refine⟨_,rfl,rfl,_,rfl,ite2 (λh=>?_) (λh=>?_)⟩
   ·-- the second sort
    refine⟨_,rfl,tab6,λqb c2 H7 k3 k4' tab7 e7 n7=>?_⟩
    have T7:Tups H4 H7:=λc xs h=>e7.atM tab6 (T6 _ _ h)
    have t7:=t4.mono T7
    have F7:H7 F=some (.lst us):=e7.atM tab6 (X6.atM tab4 F4)
    obtain⟨bj1,bj2⟩:=t7.back
    have lotl7:∀v∈us,(lotV H7 v).length<=7/\∀t∈lotV H7 v,0<=t/\t<64:=λv hv=>by
     have:lotV H7 v∈ls:=by rw[<- bj1]; exact cY hv
     obtain⟨m,hm,hl⟩:=bi.lot _ this
     have b1:=jCY wi.toNat m
     have b2:=jAH wi.toNat m
     rw[hl]
     exact⟨by lia,λt ht=>by have:=b2.bnd t ht; lia⟩
    refine⟨F,us,qb,c2,λv=>k2F (lotV H7 v),(),trivial,rfl,rfl,SqL.of F7,⟨k3,k4'⟩,λv hv=>let ⟨a,e,_⟩:=bj2 v hv; ⟨a,e⟩,λv hv H8 Q8 e8 k8=>?_,λS2 us2 H8 nS2 pm2 _ e8 d8=>?_⟩
    ·have ll:=lotl7 v hv
     obtain⟨a,rfl,ha⟩:=bj2 v hv
     exact⟨a,_,rfl,e8 _ _ ha,ll.2,by lia,λH9 e9=>k8 _ _ ⟨_,rfl,rfl⟩ e9⟩
    have tp2:=t7.perm pm2
    exact fin S2 us2 _ H8 _ _ (e8 _ _ F7) (t7.mono e8.tups) d8 (tp2.1.mono e8.tups) tp2.2 (tab7.ext e8) ((hB4.mono T7).mono e8.tups) (e8 _ _ (e7.atM tab6 (X6.atM tab4 d4))) λc u h n1 n2=>e8 _ _ (e7 _ _ (K6 _ _ h n1 n2) n2)
   ·exact fin S us' _ H6 _ _ (e6 _ _ F5) (t5.mono e6.tups) d6 (tp.1.mono e6.tups) tp.2 tab6 (hB4.mono T6) (X6.atM tab4 d4) K6
theorem Ats.rev {H:Hp} :∀{os:List Ob}{vs:List V},Ats H os vs->Ats H os.reverse vs.reverse
 | [],_,h=>by cases (show _=[] from h); rfl
 | o::os,_,⟨v,r,e,h,t⟩=>by
  subst e
  rw[dQ,dQ]
  exact(Ats.rev t).append ⟨v,[],rfl,h,rfl⟩
def RowN (n:Nat)(o:Ob):Prop:=∀ls x,o= .tup [.tup ls,x]->ls.length<=n/\∀y∈ls,isTup y=false
theorem RowN.up {n m:Nat}{o:Ob}(h:RowN n o)(l:n<=m):RowN m o:=λls x e=>⟨bM (h ls x e).1 l,(h ls x e).2⟩
theorem jJZ (l:List Int):∀y∈l.map Ob.int,isTup y=false:=λy hy=>by
 obtain⟨i,_,rfl⟩:=bW.mp hy
 rfl
theorem RowG.n {o:Ob}(h:RowG o):RowN 7 o:=λls x e=>by
 obtain⟨l,n,rfl,hl⟩:=h
 injection e with e
 injection e with e _
 injection e with e
 rw[<- e,af]
 exact⟨hl,jJZ l⟩
structure LotN (H:Hp)(n:Nat)(a:Addr)(vs:List V):Prop where
 at':H a=some (.tup vs)
 ex:∃ls,Ats H ls vs/\ls.length<=n/\∀y∈ls,isTup y=false
theorem LotN.len {H:Hp}{n:Nat}{a:Addr}{vs:List V}(h:LotN H n a vs):vs.length<=n:=by
 obtain⟨ls,a1,a2,_⟩:=h.ex
 rw[a1.len]
 exact a2
theorem LotN.mono {H H':Hp}(k:Kp H H'){n:Nat}{a:Addr}{vs:List V}(h:LotN H n a vs):LotN H' n a vs:=⟨k.t _ _ h.at',let ⟨ls,a1,a2⟩:=h.ex; ⟨ls,Ats.mono k _ _ a1,a2⟩⟩
theorem LotN.row {H:Hp}{n:Nat}{a t:Addr}{vs:List V}{y:V}{o:Ob}(h:LotN H n a vs)(hn:n<=100)(hA:At H o y)(ht:H t=some (.tup [.ref a,y])):∃o,At H o (.ref t)/\RowN n o:=by
 obtain⟨ls,a1,a2,a3⟩:=h.ex
 refine⟨.tup [.tup ls,o],qP ht (by show (2:Nat)<=100; decide) ⟨_,_,rfl,qP h.at' (by rw[a1.len]; lia) a1,_,_,rfl,hA,rfl⟩,λls' x e=>?_⟩
 injection e with e
 injection e with e _
 injection e with e
 rw[<- e]
 exact⟨a2,a3⟩
theorem jKR {n:Nat} :RowN n .oth:=λ_ _ e=>by cases e
theorem jQF {n:Nat}{o:Ob} :RowN n (.tup [o]):=λ_ _ e=>by injection e with e; injection e with _ e; cases e
theorem jKQ {n:Nat}{o x y:Ob} :RowN n (.tup [o,x,y]):=λ_ _ e=>by injection e with e; injection e with _ e; injection e with _ e; cases e
theorem jNN {n:Nat}{ls:List Ob}(h:∀y∈ls,isTup y=false):RowN n (.tup ls):=λls' x e=>by
 injection e with e
 subst e
 have:=h _ (ax ..)
 cases this
def RwsAt (H:Hp)(n B:Nat)(us:List V):Prop:=us.length<=B/\∃os,Ats H os us/\∀o∈os,RowN n o
theorem RwsAt.mono {H H':Hp}{n B:Nat}{us:List V}(k:Kp H H')(h:RwsAt H n B us):RwsAt H' n B us:=let ⟨l,os,a,b⟩:=h; ⟨l,os,Ats.mono k _ _ a,b⟩
theorem RwsAt.ext {H H':Hp}{n B:Nat}{us:List V}(k:Ext H H')(h:RwsAt H n B us):RwsAt H' n B us:=h.mono (.of k)
theorem RwsAt.up {H:Hp}{n B m C:Nat}{us:List V}(h:RwsAt H n B us)(l:n<=m)(l2:B<=C):RwsAt H m C us:=let ⟨a,os,b,c⟩:=h; ⟨bM a l2,os,b,λo ho=>(c o ho).up l⟩
theorem RwsAt.app {H:Hp}{n B C:Nat}{us vs:List V}(h:RwsAt H n B us)(h2:RwsAt H n C vs):RwsAt H n (B+C) (us++vs):=by
 obtain⟨a,os,b,c⟩:=h
 obtain⟨a2,os2,b2,c2⟩:=h2
 exact⟨by rw[aJ]; lia,os++os2,b.append b2,λo ho=>(aK.mp ho).elim (c o) (c2 o)⟩
theorem RwsAt.one {H:Hp}{n:Nat}{v:V}{o:Ob}(h:At H o v)(r:RowN n o):RwsAt H n 1 [v]:=⟨aj _,[o],⟨v,[],rfl,h,rfl⟩,λx hx=>by rw[aN.mp hx]; exact r⟩
theorem RwsAt.cut {H:Hp}{n B:Nat}{us:List V}(h:RwsAt H n B us)(lo hi:Option Int):RwsAt H n B (cutV us lo hi):=by
 obtain⟨a,os,b,c⟩:=h
 refine⟨?_,(os.drop (HT.sIx us.length 0 lo)).take (HT.sIx us.length us.length hi - HT.sIx us.length 0 lo),(b.drop _).take _,λo ho=>c o (cc (cg ho))⟩
 unfold cutV
 rw[aY,cD]
 lia
theorem RwsAt.at {H:Hp}{n B:Nat}{us:List V}(h:RwsAt H n B us){i:Nat}{v:V}(hi:us[i]?=some v):∃o,At H o v/\RowN n o:=by
 obtain⟨_,os,b,c⟩:=h
 obtain⟨o,ho,hA⟩:=b.get hi
 exact⟨o,hA,c o (az ho)⟩
def BQ (H:Hp)(p:Addr)(n B:Nat)(rt:VK):Prop:=∀r us' N' H',r≠p->H' r=some (.lst us')->RwsAt H' n B us'->H' p=some (.lst [.int N'])->0<=N'->Keep H H' p->rt (.ref r) H'
theorem BQ.up {H:Hp}{p:Addr}{n B m C:Nat}{rt:VK}(h:BQ H p m C rt)(l:n<=m)(l2:B<=C):BQ H p n B rt:=λr us N H' z a b c d e=>h r us N H' z a (b.up l l2) c d e
theorem jAL {H:Hp}{p:Addr}{o:HO} :Keep H (L2.upd H p o) p:=λx o hx n=>by rw[j7 n]; exact hx
theorem Keep.tr {H H1 H2:Hp}{p:Addr}(a:Keep H H1 p)(b:Keep H1 H2 p):Keep H H2 p:=λc o h n=>b c o (a c o h n) n
theorem Keep.ex {H H1 H2:Hp}{p:Addr}(a:Keep H H1 p)(b:Ext H1 H2):Keep H H2 p:=λc o h n=>b c o (a c o h n)
theorem Keep.of {H H1:Hp}{p:Addr}(b:Ext H H1):Keep H H1 p:=λc o h _=>b c o h
theorem cutR {H:Hp}{l:Addr}{us:List V}{n B:Nat}{lo hi:Option Int}{Q:VK}(hl:H l=some (.lst us))(hs:RwsAt H n B us)(k:∀r s1 H1,H r=none->H1 r=some (.lst s1)->RwsAt H1 n B s1->Ext H H1->Q (.ref r) H1):rSlL K (.ref l) lo hi H Q:=
 ⟨l,_,rfl,SqL.of hl,λr h=>k r _ _ h j6 ((hs.cut lo hi).ext ((Ext.refl _).new h _)) ((Ext.refl _).new h _)⟩
theorem qB {H:Hp}{p r:Addr}{o:HO}(hp:H p=some o)(n:H r=none):r≠p:=λz=>by rw[z,hp] at n; cases n
theorem catR {H:Hp}{a b:Addr}{us vs:List V}{n B C:Nat}{Q:VK}(ha:H a=some (.lst us))(hb:H b=some (.lst vs))(wa:RwsAt H n B us)(wb:RwsAt H n C vs)(hn:B+C<=4000000)(k:∀r H1,H r=none->H1 r=some (.lst (us++vs))->RwsAt H1 n (B+C) (us++vs)->Ext H H1->Q (.ref r) H1):∃l b' xs zs,V.ref a=V.ref l/\V.ref b=V.ref b'/\H l=some (HO.lst xs)/\H b'=some (HO.lst zs)/\xs.length+zs.length<=sizeLine/\LstR H (xs++zs) Q:=by
 refine⟨a,b,_,_,rfl,rfl,ha,hb,?_,λr H1 d e z=>k r H1 z d ((wa.app wb).ext e) e⟩
 rw[aH]
 have:=wa.1
 have:=wb.1
 lia
noncomputable abbrev nBent:List Str:=["pot","rows","most","at","way","one","lot","number","rest","to","odd"]
theorem scBent:FnScope nBent ["pot","rows","most"] (jB qR):= {}
abbrev XBent (P:Program)(w:World)(K:W.Frag)(mg:Str->Option Value)(lG:Heap)(f:Addr)(lH:Value)(A:Around)(outer:List Env)(s:Shared)(H:Hp)(E:XK):Cx:=XOf nBent "_law_bent" qR P w K mg lG f lH A outer s H E
section
variable (T:Txt mg)(CT:Can P w K mg lG "_law_take" 1 fT fdT ["pot","wide"] yF)(CW:Can P w K mg lG "_law_whole" 1 fW fdW ["found"] spWh)(hr:Room 1 (XBent P w K mg lG f lH A outer s H0 E).A)
def b11A: { t:TS // JSs (XBent P w K mg lG f lH A outer s H0 E) ((jE qR).drop 11) t} :=
 have nd:=scBent.nd
 have _h:=T
 have _h:=CT
 have _h:=CW
 have _h:=hr
 ⟨_,(j8 (kL (jO yR (jv 4 rfl vL) (j9) (jN _)) (jD (jI (jY kY (jv 1 rfl vL) kO (kJ (qS qI (j9)))))) jH)
   (jD (jI (jv 1 rfl vL))))⟩
def b10A: { t:TS // JSs (XBent P w K mg lG f lH A outer s H0 E) ((jE qR).drop 10) t} :=
 have nd:=scBent.nd
 have _h:=T
 have _h:=CT
 have _h:=CW
 have _h:=hr
 ⟨_,(j8 (kL (jO yR (jv 4 rfl vL) (j9) (jN _)) (jD (jI (jS yG (jS yG (jY kY (jv 1 rfl vL) kO (kJ (jv 3 rfl vL))) (yB (j3 (jT yC (yB (j3 (kZ (j3 (jv 6 rfl vL) j5 j4)) (j3 (yB (j3 (jv 6 rfl vL) (j3 (jv 7 rfl vL) j5 j4) j4)) (j3 (kZ (j3 (jv 6 rfl vL) (j3 (jv 7 rfl vL) (j3 (j9) j5 jJ) j4) j4)) (j3 (jv 6 rfl vL) (j3 (yX) j5 jJ) j4) qA) jSM) qA)) (CT.je hr gD (j3 (jv 0 rfl vL) (j3 (j9) j5 jJ) j4) j4) jCL) j5 jP))) (jY kY (jv 1 rfl vL) (kJ (jS kT (jv 3 rfl vL) (j9))) kO)))) jH) (b11A T CT CW hr).2)⟩
def b9A: { t:TS // JSs (XBent P w K mg lG f lH A outer s H0 E) ((jE qR).drop 9) t} :=
 have nd:=scBent.nd
 have _h:=T
 have _h:=CT
 have _h:=CW
 have _h:=hr
 ⟨_,(j8 (kL (jO yR (jv 4 rfl vL) (j9) (jN _)) (j8 (jQ (i:=10) nd rfl lL (yB (j3 (jS jF4 (jv 6 rfl vL) (kZ (j3 (jv 2 rfl vL) j5 j4))) (j3 (jTT (jv 6 rfl vL) (kJ (qS qI (j9)))) (j3 (jS jF4 (jv 6 rfl vL) (jY jHC (jv 6 rfl vL) (kJ (qS qI (j9))) kO)) (j3 (kU jK3 gD T.list (by decide+kernel) (j3 (jv 6 rfl vL) j5 j4) j4) (j3 (kZ (j3 (j9) j5 jJ)) (j3 (jY jHC (jv 6 rfl vL) (kJ (j9)) kO) (j3 (yX) (j3 (kZ (j3 (je_bl) j5 jJ)) j5 qA) jJ) jP) qA) jM) yH) jP) yH)) jFZ)
   (jD (jI (jS yG (jS yG (jY kY (jv 1 rfl vL) kO (kJ (jv 3 rfl vL))) (yB (j3 (kZ (j3 (jT yC (jv 10 rfl vL) (CT.je hr gD (j3 (jv 0 rfl vL) (j3 (j9) j5 jJ) j4) j4) jCL) (j3 (jv 7 rfl vL) j5 j4) jP)) j5 qA))) (jY kY (jv 1 rfl vL) (kJ (jS kT (jv 3 rfl vL) (j9))) kO))))) jH) (b10A T CT CW hr).2)⟩
def b8A: { t:TS // JSs (XBent P w K mg lG f lH A outer s H0 E) ((jE qR).drop 8) t} :=
 have nd:=scBent.nd
 have _h:=T
 have _h:=CT
 have _h:=CW
 have _h:=hr
 ⟨_,(j8 (kL (jO yR (jv 4 rfl vL) (j9) (jN _)) (j8 (jQ (i:=10) nd rfl lL (jT yC (yB (j3 (jS kT (jv 7 rfl vL) (j9)) (j3 (qS qI (jv 7 rfl vL)) (j3 (yN yR (jv 7 rfl vL) (j9) (jN _)) (j3 (yX) (j3 (kZ (j3 (jv 7 rfl vL) j5 j4)) j5 qA) jJ) jG7) se_un) yH)) (CT.je hr gD (j3 (jv 0 rfl vL) (j3 (j9) j5 jJ) j4) j4) jCL) jI3)
   (jD (jI (jS yG (jS yG (jY kY (jv 1 rfl vL) kO (kJ (jv 3 rfl vL))) (yB (j3 (kZ (j3 (jv 6 rfl vL) (j3 (jv 10 rfl vL) j5 j4) j4)) j5 qA))) (jY kY (jv 1 rfl vL) (kJ (jS kT (jv 3 rfl vL) (j9))) kO))))) jH) (b9A T CT CW hr).2)⟩
def b7A: { t:TS // JSs (XBent P w K mg lG f lH A outer s H0 E) ((jE qR).drop 7) t} :=
 have nd:=scBent.nd
 have _h:=T
 have _h:=CT
 have _h:=CW
 have _h:=hr
 ⟨_,(j8 (kL (jO yR (jv 4 rfl vL) (j9) (jN _)) (j8 (jQ (i:=8) nd rfl lL (jS yG (jY kY (jv 1 rfl vL) kO (kJ (jv 3 rfl vL))) (jY kY (jv 1 rfl vL) (kJ (jS kT (jv 3 rfl vL) (j9))) kO)) jG0)
   (j8 (jQ (i:=9) nd rfl lL (CT.je hr gD (j3 (jv 0 rfl vL) (j3 (jS kT (jC jG gD T.len (by decide+kernel) (j3 (jv 8 rfl vL) j5 j4) j4) (j9)) j5 yH) j4) j4) kE)
   (jD (jI (jS yG (jS yG (jY kY (jv 8 rfl vL) kO (kJ (jv 9 rfl vL))) (yB (j3 (jT yC (jv 1 rfl vL) (jv 3 rfl vL) jAX) j5 jP))) (jY kY (jv 8 rfl vL) (kJ (jv 9 rfl vL)) kO)))))) jH) (b8A T CT CW hr).2)⟩
def b5A: { t:TS // JSs (XBent P w K mg lG f lH A outer s H0 E) ((jE qR).drop 5) t} :=
 have nd:=scBent.nd
 have _h:=T
 have _h:=CT
 have _h:=CW
 have _h:=hr
 ⟨_,(j8 (kL (jO yR (jv 4 rfl vL) (j9) (jN _)) (jD (jI (jS yG (jY kY (jv 1 rfl vL) kO (kJ (jv 3 rfl vL))) (jY kY (jv 1 rfl vL) (kJ (jS kT (jv 3 rfl vL) (j9))) kO)))) jH) (j8 (kL (jO yR (jv 4 rfl vL) (j9) (jN _)) (jD (jI (jS yG (jY kY (jv 1 rfl vL) kO (kJ (jS kT (jv 3 rfl vL) (j9)))) (jY kY (jv 1 rfl vL) (kJ (jv 3 rfl vL)) kO)))) jH) (b7A T CT CW hr).2))⟩
def goneA: { t:TS // JSs (XBent P w K mg lG f lH A outer s H0 E) (ifOf ((jE qR).getD 3 (.Pass ⟨0,0,0,0⟩))) t} :=
 have nd:=scBent.nd
 have _h:=T
 have _h:=CT
 have _h:=CW
 have _h:=hr
 ⟨_,(jD (jI (jS yG (jY kY (jv 1 rfl vL) kO (kJ (jv 3 rfl vL))) (jY kY (jv 1 rfl vL) (kJ (jS kT (jv 3 rfl vL) (j9))) kO))))⟩
def b0A: { t:TS // JSs (XBent P w K mg lG f lH A outer s H0 E) (jE qR) t} :=
 have nd:=scBent.nd
 have _h:=T
 have _h:=CT
 have _h:=CW
 have _h:=hr
 ⟨_,(j8 (jQ (i:=3) nd rfl lL (CT.je hr gD (j3 (jv 0 rfl vL) (j3 (jC jG gD T.len (by decide+kernel) (j3 (jv 1 rfl vL) j5 j4) j4) j5 jM) j4) j4) kE) (j8 (jQ (i:=4) nd rfl lL (CT.je hr gD (j3 (jv 0 rfl vL) (j3 (j9) j5 jJ) j4) j4) kE) (j8 (jQ (i:=5) nd rfl lL (jT yC (jv 1 rfl vL) (jv 3 rfl vL) jAX) jI3) (j8 (kL (jt_w (qU (yI (y8 (jC jL gD T.isinstance (by decide+kernel) (j3 (jv 5 rfl vL) (j3 (kQ (v:= .ty "tuple") gD T.tuple (by decide+kernel) rfl) j5 j4) j4) j4) kN)) (qU (jO op_ne (jC jG gD T.len (by decide+kernel) (j3 (jv 5 rfl vL) j5 j4) j4) (j9) (jN _)) (qU (yI (y8 (jC jL gD T.isinstance (by decide+kernel) (j3 (jT jX (jv 5 rfl vL) (j9) jK) (j3 (kQ (v:= .ty "tuple") gD T.tuple (by decide+kernel) rfl) j5 j4) jP) jP) kN)) (jBK (yI (y8 (CW.je hr gD (j3 (jT jX (jv 5 rfl vL) (j9) jK) j5 jP) jP) kN))))))) (goneA T CT CW hr).2 jH) (j8 (jTR (jv 5 rfl vL) (jC5 (i:=6) (j:=7) nd rfl rfl (by decide+kernel) (by decide+kernel))) (b5A T CT CW hr).2)))))⟩
end
section
variable (T:Txt mg)(CT:Can P w K mg lG "_law_take" 1 fT fdT ["pot","wide"] yF)(CW:Can P w K mg lG "_law_whole" 1 fW fdW ["found"] spWh)(hr:Room 1 (XBent P w K mg lG f lH A outer s H0 E).A)
variable {D:Ends}{H:Hp}{p l ra:Addr}{N a wy num most:Int}{us vs:List V}{n B:Nat}{x:V}
theorem jOU {v2 v5 v6 v7 v8 v9 v10:Option V}(lp:l≠p)(hp:H p=some (.lst [.int N]))(hN:0<=N)(hl:H l=some (.lst us))(hs:RwsAt H n B us)(q:BQ H p n B D.rt):
  (b11A T CT CW hr).1 D [some (.ref p),some (.ref l),v2,some (.int a),some (.int wy),v5,v6,v7,v8,v9,v10] H:=by
 refine⟨_,rfl,rfl,_,rfl,ite2 (λh=>?_) (λh=>?_)⟩
 ·refine⟨_,rfl,1,rfl,_,rfl,cutR hl hs λr1 s1 H1 n1 d1 w1 e1=>?_⟩
  exact q r1 s1 N H1 (qB hp n1) d1 w1 (e1 _ _ hp) hN (Keep.of e1)
 ·exact⟨_,rfl,q l us N H lp hl hs hp hN (Keep.of (Ext.refl _))⟩
theorem Ats.cutL {H:Hp}{ls:List Ob}{vs:List V}(h:Ats H ls vs)(lo hi:Option Int)(f:∀y∈ls,isTup y=false):∃ls',Ats H ls' (cutV vs lo hi)/\ls'.length<=ls.length/\∀y∈ls',isTup y=false:=by
 refine⟨(ls.drop (HT.sIx vs.length 0 lo)).take (HT.sIx vs.length vs.length hi - HT.sIx vs.length 0 lo),(h.drop _).take _,?_,λo ho=>f o (cc (cg ho))⟩
 rw[aY,cD]
 lia
theorem jOH (vs:List V)(lo hi:Option Int):(cutV vs lo hi).length<=vs.length:=by
 unfold cutV
 rw[aY,cD]
 lia
theorem jIT {H H1 H7:Hp}{p l r1 r7:Addr}{us s1:List V}{y:V}{N2:Int}{n B:Nat}{rt:VK}(lp:l≠p)(hp:∃N,H p=some (.lst [.int N]))(hl:H l=some (.lst us))(hs:RwsAt H n B us)(bb:B<=900000)(e1:Ext H H1)(K1:Keep H1 H7 p)(p7:H7 p=some (.lst [.int N2]))(hN2:0<=N2)(n1:H r1=none)(d1:H1 r1=some (.lst s1))(w1:RwsAt H1 n B s1)(d7:H7 r7=some (.lst [y])){o:Ob}(hA:At H7 o y)(hR:RowN (2*n+1) o)(q:BQ H p (2*n+1) (B+1+B) rt){lo hi:Option Int} :
  ∃a b xs zs,V.ref r1=V.ref a/\V.ref r7=V.ref b/\H7 a=some (HO.lst xs)/\H7 b=some (HO.lst zs)/\xs.length+zs.length<=sizeLine/\LstR H7 (xs++zs) λx H8=>rSlL K (.ref l) lo hi H8 λx2 H9=>∃a b xs zs,x=V.ref a/\x2=V.ref b/\H9 a=some (HO.lst xs)/\H9 b=some (HO.lst zs)/\xs.length+zs.length<=sizeLine/\LstR H9 (xs++zs) rt:=by
 obtain⟨N,hp⟩:=hp
 have K7:Keep H H7 p:=λc o h n=>K1 _ _ (e1 _ _ h) n
 have kp:Kp H H7:=Kp.keep K7 hp p7
 have kp1:Kp H1 H7:=Kp.keep K1 (e1 _ _ hp) p7
 have d17:H7 r1=some (.lst s1):=K1 _ _ d1 (qB hp n1)
 have wy:RwsAt H7 (2*n+1) 1 [y]:=RwsAt.one hA hR
 refine catR d17 d7 ((w1.mono kp1).up (m:=2*n+1) (C:=B) (by lia) (aj _)) wy (by lia) λr8 H8 n8 d8 w8 e8=>?_
 have hl8:H8 l=some (.lst us):=e8 _ _ (K7 _ _ hl lp)
 refine cutR hl8 ((hs.mono (kp.trans (.of e8))).up (m:=2*n+1) (C:=B) (by lia) (aj _)) λr9 s9 H9 n9 d9 w9 e9=>?_
 refine catR (e9 _ _ d8) d9 (w8.ext e9) w9 (by lia) λr10 H10 n10 d10 w10 e10=>?_
 have p9:=e9 _ _ (e8 _ _ p7)
 exact q r10 _ N2 H10 (qB p9 n10) d10 w10 (e10 _ _ p9) hN2 (K7.ex ((e8.trans e9).trans e10))
theorem ints5 {r:Int}(h0:0<=r)(h1:r<5):r=0\/r=1\/r=2\/r=3\/r=4:=by lia
theorem ints8 {r:Int}(h0:0<=r)(h1:r<8):r=0\/r=1\/r=2\/r=3\/r=4\/r=5\/r=6\/r=7:=by lia
theorem LotN.o {H:Hp}{n:Nat}{ra:Addr}{vs:List V}(lo:LotN H n ra vs)(nb:n<=100):∃ls,At H (.tup ls) (.ref ra)/\∀y∈ls,isTup y=false:=by
 obtain⟨ls,a1,a2,a3⟩:=lo.ex
 exact⟨ls,qP lo.at' (by rw[a1.len]; lia) a1,a3⟩
theorem jOV {v2 v5 v8 v9 v10:Option V}(lp:l≠p)(hp:H p=some (.lst [.int N]))(hN:0<=N)(hl:H l=some (.lst us))(hs:RwsAt H n B us)(lo:LotN H n ra vs)(nb:n<=40)(bb:B<=900000)(q:BQ H p (2*n+1) (B+1+B) D.rt):
  (b10A T CT CW hr).1 D [some (.ref p),some (.ref l),v2,some (.int a),some (.int wy),v5,some (.ref ra),some (.int num),v8,v9,v10] H:=by
 refine⟨_,rfl,rfl,_,rfl,ite2 (λh=>?_) (λh=>?_)⟩
 ·refine⟨_,rfl,_,rfl,a,rfl,cutR hl hs λr1 s1 H1 n1 d1 w1 e1=>?_⟩
  refine⟨_,rfl,by show (1:Nat)<=_; decide,λt2 H2 d2 e2=>?_⟩
  refine⟨_,rfl,_,rfl,by show (2:Nat)<=_; decide,λl3 H3 d3 e3 n3=>?_⟩
  refine⟨_,rfl,_,rfl,by show (3:Nat)<=_; decide,λt4 H4 d4 e4=>?_⟩
  refine⟨_,rfl,by show (5:Nat)<=_; decide,λl5 H5 d5 e5 n5=>?_⟩
  have E4:=((e1.trans e2).trans e3).trans e4
  have E5:=E4.trans e5
  refine⟨_,rfl,p,_,5,rfl,E5 _ _ hp,hN,by decide,by decide,λN2 r hN2 r0 r1'=>?_⟩
  have hp6:(L2.upd H5 p (.lst [.int N2])) p=some (.lst [.int N2]):=j6
  have k6:Keep H5 (L2.upd H5 p (.lst [.int N2])) p:=jAL
  generalize L2.upd H5 p (.lst [.int N2])=H6 at hp6 k6
  have p6:Kp H5 H6:=Kp.keep k6 (E5 _ _ hp) hp6
  have l5p:l5≠p:=qB (E4 _ _ hp) n5
  obtain⟨ls,aL,a3⟩:=lo.o (by lia)
  obtain⟨y,o,hy,hA,hR⟩:∃y o,atI [V.ref t2,V.ref l3,V.ref t4,V.ref ra,V.non] r=some y/\At H5 o y/\RowN n o:=by
   rcases ints5 r0 r1' with rfl | rfl | rfl | rfl | rfl
   ·exact⟨_, .tup [.tup ls],rfl,qP (e5 _ _ (e4 _ _ (e3 _ _ d2))) (by show (1:Nat)<=100; decide) ⟨_,_,rfl,aL.ext E5,rfl⟩,jQF⟩
   ·exact⟨_,_,rfl,jN5 (e5 _ _ (e4 _ _ d3)),jKR⟩
   ·exact⟨_, .tup [.tup ls, .int num, .int 0],rfl,qP (e5 _ _ d4) (by show (3:Nat)<=100; decide) ⟨_,_,rfl,aL.ext E5,_,_,rfl,jBO _ _,_,_,rfl,jBO _ _,rfl⟩,jKQ⟩
   ·exact⟨_,_,rfl,aL.ext E5,jNN a3⟩
   ·exact⟨_,_,rfl,jJ6 _,jKR⟩
  refine⟨l5,_,r,_,rfl,rfl,SqL.of (k6 _ _ d5 l5p),hy,by show (1:Nat)<=_; decide,λl7 H7 d7 e7 n7=>?_⟩
  have K7:Kp H H7:=((Kp.of E5).trans p6).trans (.of e7)
  have K17:Kp H1 H7:=((Kp.of (((e2.trans e3).trans e4).trans e5)).trans p6).trans (.of e7)
  have d17:H7 r1=some (.lst s1):=e7 _ _ (k6 _ _ (e5 _ _ (e4 _ _ (e3 _ _ (e2 _ _ d1)))) (qB hp n1))
  have wy:RwsAt H7 (2*n+1) 1 [y]:=RwsAt.one ((At.mono p6 _ _ hA).ext e7) (hR.up (by lia))
  refine catR d17 d7 ((w1.mono K17).up (m:=2*n+1) (C:=B) (by lia) (aj _)) wy (by lia) λr8 H8 n8 d8 w8 e8=>?_
  have hl8:H8 l=some (.lst us):=e8 _ _ (e7 _ _ (k6 _ _ (E5 _ _ hl) lp))
  refine⟨_,rfl,_,rfl,_,_,rfl,rfl,_,rfl,?_⟩
  dsimp only [jB4]
  refine cutR hl8 ((hs.mono (K7.trans (.of e8))).up (m:=2*n+1) (C:=B) (by lia) (aj _)) λr9 s9 H9 n9 d9 w9 e9=>?_
  refine catR (e9 _ _ d8) d9 (w8.ext e9) w9 (by lia) λr10 H10 n10 d10 w10 e10=>?_
  have K10:Keep H H10 p:=((Keep.of E5).tr k6).ex ((e7.trans e8).trans (e9.trans e10))
  have p9:=e9 _ _ (e8 _ _ (e7 _ _ hp6))
  exact q r10 _ N2 H10 (qB p9 n10) d10 w10 (e10 _ _ p9) hN2 K10
 ·exact jOU T CT CW hr lp hp hN hl hs (q.up (by lia) (by lia))
theorem jS9 {v5 v8 v9 v10:Option V}(lp:l≠p)(hp:H p=some (.lst [.int N]))(hN:0<=N)(hl:H l=some (.lst us))(hs:RwsAt H n B us)(lo:LotN H n ra vs)(nb:n<=40)(bb:B<=900000)(q:BQ H p (2*n+1) (B+1+B) D.rt):
  (b9A T CT CW hr).1 D [some (.ref p),some (.ref l),some (.int most),some (.int a),some (.int wy),v5,some (.ref ra),some (.int num),v8,v9,v10] H:=by
 refine⟨_,rfl,rfl,_,rfl,ite2 (λh=>?_) (λh=>?_)⟩
 ·have ln:=lo.len
  have cl1:=jOH vs (some (-1)) none
  refine⟨_,rfl,_,rfl,by show (1:Nat)<=_; decide,λt1 H1 d1 e1=>?_⟩
  refine⟨ra,t1,_,_,rfl,rfl,e1 _ _ lo.at',d1,by rw[aH]; show _+1<=_; lia,λt2 H2 d2 e2=>?_⟩
  have E2:=e1.trans e2
  refine⟨_,rfl,1,rfl,_,rfl,rfl,ra,_,rfl,E2 _ _ lo.at',λt3 H3 d3 e3=>?_⟩
  have E3:=E2.trans e3
  refine⟨_,rfl,_,rfl,1,rfl,_,rfl,ra,_,rfl,E3 _ _ lo.at',λt4 H4 d4 e4=>?_⟩
  have E4:=E3.trans e4
  refine⟨ra,t4,_,_,rfl,rfl,E4 _ _ lo.at',d4,by rw[aH]; lia,λt5 H5 d5 e5=>?_⟩
  have E5:=E4.trans e5
  refine⟨_,rfl,ra,_,rfl,E5 _ _ lo.at',λl6 H6 d6 e6 n6=>?_⟩
  refine⟨by show (1:Nat)<=_; decide,λt7 H7 d7 e7=>?_⟩
  have E7:=(E5.trans e6).trans e7
  refine⟨_,rfl,_,rfl,ra,_,rfl,E7 _ _ lo.at',λt8 H8 d8 e8=>?_⟩
  refine⟨by show (1:Nat)<=_; decide,λt9 H9 d9 e9=>?_⟩
  refine⟨by show (8:Nat)<=_; decide,λL HL dL eL nL=>?_⟩
  have E9:=(E7.trans e8).trans e9
  have EL:=E9.trans eL
  obtain⟨ls,a1,a2,a3⟩:=lo.ex
  have T:∀{t:Addr}{ws:List V}{os:List Ob}{Hx:Hp},Hx t=some (.tup ws)->Ext Hx HL->Ats H os ws->os.length<=2*n+1->(∀y∈os,isTup y=false)->∃o,At HL o (.ref t)/\RowN (2*n+1) (.tup [o, .int num]):=λ{t ws os Hx} h e a l f=>⟨.tup os,qP (e _ _ h) (by rw[a.len]; lia) (a.ext EL),λls' x ee=>by
   injection ee with ee
   injection ee with ee _
   injection ee with ee
   rw[<- ee]
   exact⟨l,f⟩⟩
  have O:∀{v:V},At HL .oth v->∃o,At HL o v/\RowN (2*n+1) (.tup [o, .int num]):=λ{v} h=>⟨.oth,h,λls' x ee=>by
   injection ee with ee
   injection ee with ee _
   cases ee⟩
  have get:∀r:Int,0<=r->r<8->∃y o,atI [V.ref t2,V.ref t3,V.ref t5,V.ref l6,V.ref t7,V.ref t8,V.non,V.ref t9] r=some y/\At HL o y/\RowN (2*n+1) (.tup [o, .int num]):=λr r0 r1=>by
   rcases ints8 r0 r1 with rfl | rfl | rfl | rfl | rfl | rfl | rfl | rfl
   ·obtain⟨o,ho⟩:=T (os:=ls++[.int most]) d2 ((((((e3.trans e4).trans e5).trans e6).trans e7).trans (e8.trans e9)).trans eL) (a1.append ⟨_,[],rfl,jBO _ _,rfl⟩) (by rw[aJ]; show _+1<=_; lia) (λy hy=>(aK.mp hy).elim (a3 y) λh=>by rw[aN.mp h]; rfl)
    exact⟨_,o,rfl,ho⟩
   ·obtain⟨o,ho⟩:=T (os:=ls.reverse) d3 (((((e4.trans e5).trans e6).trans e7).trans (e8.trans e9)).trans eL) a1.rev (by rw[fB]; lia) (λy hy=>a3 y (List.mem_reverse.mp hy))
    exact⟨_,o,rfl,ho⟩
   ·obtain⟨lc,b1,b2,b3⟩:=a1.cutL (some (-1)) none a3
    obtain⟨o,ho⟩:=T (os:=ls++lc) d5 (((e6.trans e7).trans (e8.trans e9)).trans eL) (a1.append b1) (by rw[aJ]; lia) (λy hy=>(aK.mp hy).elim (a3 y) (b3 y))
    exact⟨_,o,rfl,ho⟩
   ·obtain⟨o,ho⟩:=O (jN5 (eL _ _ (e9 _ _ (e8 _ _ (e7 _ _ d6)))))
    exact⟨_,o,rfl,ho⟩
   ·obtain⟨o,ho⟩:=T (os:=[.int 0]) d7 ((e8.trans e9).trans eL) ⟨_,_,rfl,jBO _ _,rfl⟩ (by show (1:Nat)<=_; lia) (λy hy=>by rw[aN.mp hy]; rfl)
    exact⟨_,o,rfl,ho⟩
   ·obtain⟨lc,b1,b2,b3⟩:=a1.cutL (some 1) none a3
    obtain⟨o,ho⟩:=T (os:=lc) d8 (e9.trans eL) b1 (by lia) b3
    exact⟨_,o,rfl,ho⟩
   ·obtain⟨o,ho⟩:=O (jJ6 _)
    exact⟨_,o,rfl,ho⟩
   ·obtain⟨o,ho⟩:=T (os:=[.oth]) d9 eL ⟨_,_,rfl,at_bl _ _,rfl⟩ (by show (1:Nat)<=_; lia) (λy hy=>by rw[aN.mp hy]; rfl)
    exact⟨_,o,rfl,ho⟩
  refine⟨_,rfl,_,rfl,a,rfl,cutR (EL _ _ hl) (hs.ext EL) λr1 s1 HA nA dA wA eA=>?_⟩
  have EA:=EL.trans eA
  have pL:=EL _ _ hp
  refine⟨_,rfl,_,rfl,p,_,8,rfl,EA _ _ hp,hN,by decide,by decide,λN2 r hN2 r0 r1'=>?_⟩
  have hpB:(L2.upd HA p (.lst [.int N2])) p=some (.lst [.int N2]):=j6
  have kB:Keep HA (L2.upd HA p (.lst [.int N2])) p:=jAL
  generalize L2.upd HA p (.lst [.int N2])=HB at hpB kB
  have pB:Kp HA HB:=Kp.keep kB (EA _ _ hp) hpB
  have Lp:L≠p:=qB (E9 _ _ hp) nL
  obtain⟨y,o,hy,hA,hR⟩:=get r r0 r1'
  refine⟨L,_,r,_,rfl,rfl,SqL.of (kB _ _ (eA _ _ dL) Lp),hy,_,rfl,by show (2:Nat)<=_; decide,λtC HC dC eC=>?_⟩
  refine⟨by show (1:Nat)<=_; decide,λlD HD dD eD nD=>?_⟩
  have hAD:At HD (.tup [o, .int num]) (.ref tC):=qP (eD _ _ dC) (by show (2:Nat)<=100; decide) ⟨_,_,rfl,((At.mono pB _ _ (hA.ext eA)).ext (eC.trans eD)),_,_,rfl,jBO _ _,rfl⟩
  have:=jIT (K:=K) (H:=HL) (lo:=some (a+1)) (hi:=none) lp ⟨N,pL⟩ (EL _ _ hl) (hs.ext EL) bb eA (kB.ex (eC.trans eD)) (eD _ _ (eC _ _ hpB)) hN2 nA dA wA dD hAD hR (rt:=D.rt) λr us' N' H' z1 z2 z3 z4 z5 z6=>q r us' N' H' z1 z2 z3 z4 z5 λc o h n=>z6 _ _ (EL _ _ h) n
  obtain⟨x1,x2,x3,x4,x5,x6,x7,x8,x9,xA⟩:=this
  refine⟨x1,x2,x3,x4,x5,x6,x7,x8,x9,λR HR dR eR nR=>?_⟩
  exact⟨_,rfl,_,rfl,_,_,rfl,rfl,_,rfl,xA R HR dR eR nR⟩
 ·exact jOV T CT CW hr lp hp hN hl hs lo nb bb q
theorem jSA {v5 v8 v9 v10:Option V}(lp:l≠p)(hp:H p=some (.lst [.int N]))(hN:0<=N)(hl:H l=some (.lst us))(hs:RwsAt H n B us)(lo:LotN H n ra vs)(nb:n<=40)(bb:B<=900000)(q:BQ H p (2*n+1) (B+1+B) D.rt):
  (b8A T CT CW hr).1 D [some (.ref p),some (.ref l),some (.int most),some (.int a),some (.int wy),v5,some (.ref ra),some (.int num),v8,v9,v10] H:=by
 refine⟨_,rfl,rfl,_,rfl,ite2 (λh=>?_) (λh=>?_)⟩
 ·refine⟨_,rfl,_,_,rfl,rfl,_,rfl,_,rfl,_,rfl,rfl,?_⟩
  refine⟨_,rfl,by show (1:Nat)<=_; decide,λt1 H1 d1 e1=>?_⟩
  refine⟨by show (5:Nat)<=_; decide,λL HL dL eL nL=>?_⟩
  have EL:=e1.trans eL
  refine⟨_,rfl,p,_,5,rfl,EL _ _ hp,hN,by decide,by decide,λN2 r hN2 r0 r1'=>?_⟩
  have hpB:(L2.upd HL p (.lst [.int N2])) p=some (.lst [.int N2]):=j6
  have kB:Keep HL (L2.upd HL p (.lst [.int N2])) p:=jAL
  generalize L2.upd HL p (.lst [.int N2])=HB at hpB kB
  have pB:Kp HL HB:=Kp.keep kB (EL _ _ hp) hpB
  have Lp:L≠p:=qB (e1 _ _ hp) nL
  obtain⟨y,o,hy,hA⟩:∃y o,atI [V.int (num+1),V.int (-num),V.bl (decide (V.int num=V.int 1)),V.non,V.ref t1] r=some y/\At HL o y:=by
   rcases ints5 r0 r1' with rfl | rfl | rfl | rfl | rfl
   ·exact⟨_,_,rfl,jBO _ _⟩
   ·exact⟨_,_,rfl,jBO _ _⟩
   ·exact⟨_,_,rfl,at_bl _ _⟩
   ·exact⟨_,_,rfl,jJ6 _⟩
   ·exact⟨_, .tup [.int num],rfl,qP (eL _ _ d1) (by show (1:Nat)<=100; decide) ⟨_,_,rfl,jBO _ _,rfl⟩⟩
  refine⟨L,_,r,_,rfl,rfl,SqL.of (kB _ _ dL Lp),hy,?_⟩
  have KB:Keep H HB p:=(Keep.of EL).tr kB
  have pHB:Kp H HB:=Kp.keep KB hp hpB
  have hlB:=KB _ _ hl lp
  have hsB:=hs.mono pHB
  have loB:=lo.mono pHB
  refine⟨_,rfl,_,rfl,a,rfl,cutR hlB hsB λr1 s1 HA nA dA wA eA=>?_⟩
  refine⟨_,rfl,_,rfl,by show (2:Nat)<=_; decide,λtC HC dC eC=>?_⟩
  refine⟨by show (1:Nat)<=_; decide,λlD HD dD eD nD=>?_⟩
  have ED:=(eA.trans eC).trans eD
  obtain⟨o2,hA2,hR2⟩:=(loB.mono (.of ED)).row (by lia) ((At.mono pB _ _ hA).ext ED) (eD _ _ dC)
  have:=jIT (K:=K) (H:=HB) (lo:=some (a+1)) (hi:=none) lp ⟨N2,hpB⟩ hlB hsB bb eA (Keep.of (eC.trans eD)) (eD _ _ (eC _ _ (eA _ _ hpB))) hN2 nA dA wA dD hA2 (hR2.up (by lia)) (rt:=D.rt) λr us' N' H' z1 z2 z3 z4 z5 z6=>q r us' N' H' z1 z2 z3 z4 z5 (KB.tr z6)
  obtain⟨x1,x2,x3,x4,x5,x6,x7,x8,x9,xA⟩:=this
  refine⟨x1,x2,x3,x4,x5,x6,x7,x8,x9,λR HR dR eR nR=>?_⟩
  exact⟨_,rfl,_,rfl,_,_,rfl,rfl,_,rfl,xA R HR dR eR nR⟩
 ·exact jS9 T CT CW hr lp hp hN hl hs lo nb bb q
theorem jSB {v5 v8 v9 v10:Option V}(lp:l≠p)(hp:H p=some (.lst [.int N]))(hN:0<=N)(hl:H l=some (.lst us))(hs:RwsAt H n B us)(hx:atI us a=some x)(lo:LotN H n ra vs)(nb:n<=40)(bb:B<=900000)(q:BQ H p (2*n+1) (4*B+1) D.rt):
  (b7A T CT CW hr).1 D [some (.ref p),some (.ref l),some (.int most),some (.int a),some (.int wy),v5,some (.ref ra),some (.int num),v8,v9,v10] H:=by
 refine⟨_,rfl,rfl,_,rfl,ite2 (λh=>?_) (λh=>?_)⟩
 ·refine⟨_,rfl,_,rfl,a,rfl,cutR hl hs λr1 s1 H1 n1 d1 w1 e1=>?_⟩
  refine⟨_,rfl,_,rfl,_,_,rfl,rfl,_,rfl,?_⟩
  dsimp only [jB4]
  refine cutR (e1 _ _ hl) (hs.ext e1) λr2 s2 H2 n2 d2 w2 e2=>?_
  refine catR (e2 _ _ d1) d2 (w1.ext e2) w2 (by lia) λR H3 nR dR wR e3=>?_
  have E3:=(e1.trans e2).trans e3
  have Rp:R≠p:=qB (e2 _ _ (e1 _ _ hp)) nR
  have Rl:=wR.1
  refine⟨_,rfl,_,rfl,R,_,rfl, .inl (SqL.of dR),_,_,rfl,rfl,p,_,_,rfl,E3 _ _ hp,hN,by lia,by lia,λN2 r hN2 r0 r1'=>?_⟩
  have hpB:(L2.upd H3 p (.lst [.int N2])) p=some (.lst [.int N2]):=j6
  have kB:Keep H3 (L2.upd H3 p (.lst [.int N2])) p:=jAL
  generalize L2.upd H3 p (.lst [.int N2])=HB at hpB kB
  have pB:Kp H3 HB:=Kp.keep kB (E3 _ _ hp) hpB
  have KB:Keep H HB p:=(Keep.of E3).tr kB
  have pHB:Kp H HB:=Kp.keep KB hp hpB
  have dRB:=kB _ _ dR Rp
  have wRB:=wR.mono pB
  refine⟨_,rfl,_,rfl,r,rfl,cutR dRB wRB λr4 s4 H4 n4 d4 w4 e4=>?_⟩
  refine⟨_,rfl,_,rfl,l,us,a,x,rfl,rfl,SqL.of (e4 _ _ (KB _ _ hl lp)),hx,by show (1:Nat)<=_; decide,λl5 H5 d5 e5 n5=>?_⟩
  obtain⟨j,hj⟩:∃j:Nat,us[j]?=some x:=by
   unfold atI at hx
   cases hi:ixN us.length a with
   | none=>rw[hi] at hx; cases hx
   | some j=>rw[hi] at hx; exact⟨j,hx⟩
  obtain⟨o,hA,hR⟩:=hs.at hj
  have w5:RwsAt H5 n 1 [x]:=RwsAt.one (((At.mono pHB _ _ hA).ext e4).ext e5) hR
  refine catR (e5 _ _ d4) d5 (w4.ext e5) w5 (by lia) λr6 H6 n6 d6 w6 e6=>?_
  refine⟨_,rfl,_,rfl,r,rfl,?_⟩
  dsimp only [jB4]
  have e46:=(e4.trans e5).trans e6
  refine cutR (e46 _ _ dRB) (wRB.ext e46) λr7 s7 H7 n7 d7 w7 e7=>?_
  refine catR (e7 _ _ d6) d7 (w6.ext e7) w7 (by lia) λr8 H8 n8 d8 w8 e8=>?_
  have e48:=(e46.trans e7).trans e8
  exact q r8 _ N2 H8 (qB (e7 _ _ (e46 _ _ hpB)) n8) d8 (w8.up (by lia) (by lia)) (e48 _ _ hpB) hN2 (KB.ex e48)
 ·exact jSA T CT CW hr lp hp hN hl hs lo nb (by lia) (q.up (aj _) (by lia))
theorem jSC {v5 v8 v9 v10:Option V}(lp:l≠p)(hp:H p=some (.lst [.int N]))(hN:0<=N)(hl:H l=some (.lst us))(hs:RwsAt H n B us)(hx:atI us a=some x)(lo:LotN H n ra vs)(nb:n<=40)(bb:B<=900000)(q:BQ H p (2*n+1) (4*B+1) D.rt):
  (b5A T CT CW hr).1 D [some (.ref p),some (.ref l),some (.int most),some (.int a),some (.int wy),v5,some (.ref ra),some (.int num),v8,v9,v10] H:=by
 refine⟨_,rfl,rfl,_,rfl,ite2 (λh=>?_) (λh=>?_)⟩
 ·refine⟨_,rfl,_,rfl,a,rfl,cutR hl hs λr1 s1 H1 n1 d1 w1 e1=>?_⟩
  refine⟨_,rfl,_,rfl,_,_,rfl,rfl,_,rfl,?_⟩
  dsimp only [jB4]
  refine cutR (e1 _ _ hl) (hs.ext e1) λr2 s2 H2 n2 d2 w2 e2=>?_
  refine catR (e2 _ _ d1) d2 (w1.ext e2) w2 (by lia) λR H3 nR dR wR e3=>?_
  have E3:=(e1.trans e2).trans e3
  exact q R _ N H3 (qB (e2 _ _ (e1 _ _ hp)) nR) dR (wR.up (by lia) (by lia)) (E3 _ _ hp) hN (Keep.of E3)
 refine⟨_,rfl,rfl,_,rfl,ite2 (λh=>?_) (λh=>?_)⟩
 ·refine⟨_,rfl,_,rfl,_,_,rfl,rfl,_,rfl,cutR hl hs λr1 s1 H1 n1 d1 w1 e1=>?_⟩
  refine⟨_,rfl,_,rfl,a,rfl,?_⟩
  dsimp only [jB4]
  refine cutR (e1 _ _ hl) (hs.ext e1) λr2 s2 H2 n2 d2 w2 e2=>?_
  refine catR (e2 _ _ d1) d2 (w1.ext e2) w2 (by lia) λR H3 nR dR wR e3=>?_
  have E3:=(e1.trans e2).trans e3
  exact q R _ N H3 (qB (e2 _ _ (e1 _ _ hp)) nR) dR (wR.up (by lia) (by lia)) (E3 _ _ hp) hN (Keep.of E3)
 ·exact jSB T CT CW hr lp hp hN hl hs hx lo nb bb q
theorem jM5 {v2 v4 v5 v6 v7 v8 v9 v10:Option V}(hp:H p=some (.lst [.int N]))(hN:0<=N)(hl:H l=some (.lst us))(hs:RwsAt H n B us)(bb:B<=900000)(q:BQ H p (2*n+1) (4*B+1) D.rt):
  (goneA T CT CW hr).1 D [some (.ref p),some (.ref l),v2,some (.int a),v4,v5,v6,v7,v8,v9,v10] H:=by
 refine⟨_,rfl,_,rfl,a,rfl,cutR hl hs λr1 s1 H1 n1 d1 w1 e1=>?_⟩
 refine⟨_,rfl,_,rfl,_,_,rfl,rfl,_,rfl,?_⟩
 dsimp only [jB4]
 refine cutR (e1 _ _ hl) (hs.ext e1) λr2 s2 H2 n2 d2 w2 e2=>?_
 refine catR (e2 _ _ d1) d2 (w1.ext e2) w2 (by lia) λR H3 nR dR wR e3=>?_
 have E3:=(e1.trans e2).trans e3
 exact q R _ N H3 (qB (e2 _ _ (e1 _ _ hp)) nR) dR (wR.up (by lia) (by lia)) (E3 _ _ hp) hN (Keep.of E3)
end
def jKJ:Sp:=λvs H Q _=>∃(p l:Addr) (N most:Int) (us:List V) (n B:Nat),vs=[.ref p, .ref l, .int most]/\l≠p/\H p=some (.lst [.int N])/\0<=N/\H l=some (.lst us)/\RwsAt H n B us/\us≠ []/\n<=40/\B<=900000/\BQ H p (2*n+1) (4*B+1) Q
theorem jRG {fd:FuncData}(F:Fun K "_law_bent" "_law_bent" qR f fd)(T:Txt mg)(CT:Can P w K mg lG "_law_take" 1 fT fdT ["pot","wide"] yF)(CW:Can P w K mg lG "_law_whole" 1 fW fdW ["found"] spWh):FnOk P w K mg lG CX0 2 f fd ["pot","rows","most"] jKJ:=by
 refine F.ok scBent (λvs H Q E h=>?_) (λlH A outer s H vs Q E hr h=>?_)
 ·obtain⟨_,_,_,_,_,_,_,rfl,_⟩:=h
  rfl
 ·obtain⟨p,l,N,most,us,n,B,rfl,lp,hp,hN,hl,hs,hne,nb,bb,q⟩:=h
  refine⟨_,(b0A T CT CW hr).2.h,?_⟩
  have ul:=hs.1
  have u0:0<us.length:=ie.mpr hne
  refine⟨_,rfl,_,rfl,l,_,rfl, .inl (SqL.of hl),p,_,_,rfl,hp,hN,by lia,by lia,λN1 a hN1 a0 a1=>?_⟩
  have p1:(L2.upd H p (.lst [.int N1])) p=some (.lst [.int N1]):=j6
  have k1:Keep H (L2.upd H p (.lst [.int N1])) p:=jAL
  generalize L2.upd H p (.lst [.int N1])=H1 at p1 k1
  refine⟨_,rfl,p,_,9,rfl,p1,hN1,by decide,by decide,λN2 wy hN2 _ _=>?_⟩
  have p2:(L2.upd H1 p (.lst [.int N2])) p=some (.lst [.int N2]):=j6
  have k2':Keep H1 (L2.upd H1 p (.lst [.int N2])) p:=jAL
  generalize L2.upd H1 p (.lst [.int N2])=H2 at p2 k2'
  have k2:Keep H H2 p:=k1.tr k2'
  have kp:Kp H H2:=Kp.keep k2 hp p2
  have hl2:=k2 _ _ hl lp
  have hs2:=hs.mono kp
  have q2:BQ H2 p (2*n+1) (4*B+1) Q:=λr us' N' H' z1 z2 z3 z4 z5 z6=>q r us' N' H' z1 z2 z3 z4 z5 (k2.tr z6)
  obtain⟨j,rfl⟩:∃j:Nat,a=(j:Int):=⟨a.toNat,by lia⟩
  have hj:j<us.length:=by lia
  have hjx:us[j]?=some us[j]:=aG hj
  have hx:atI us (j:Int)=some us[j]:=jAQ hjx
  generalize us[j]=x at hjx hx
  obtain⟨o,hA,hR⟩:=hs2.at hjx
  refine⟨_,rfl,_,rfl,l,us,_,x,rfl,rfl,SqL.of hl2,hx,?_⟩
  obtain⟨t,ty,kt,_⟩:=hA.ty K
  have gone:=jM5 (H0:=H) (E:=E) (f:=f) (outer:=outer) (s:=s) (A:=A) T CT CW hr (D:= { nx:=λ_ H'=>Q .non H',rt:=Q}) (v2:=some (.int most)) (v4:=some (.int wy)) (v5:=some x) (v6:=none) (v7:=none) (v8:=none) (v9:=none) (v10:=none) (a:=(j:Int)) p2 hN2 hl2 hs2 bb q2
  refine⟨_,rfl,_,_,_,_,rfl,ty,kt,_,rfl,?_⟩
  cases ht:isTup o with
  | false=>exact iteT (iteT gone)
  | true=>
  refine iteF ?_
  obtain⟨os,rb,ws,rfl,rfl,hrb,h100,hx'⟩:=hA.tupOf ht
  refine⟨_,rfl,rb,_,rfl, .inr (SqT.of hrb),rfl,_,rfl,?_⟩
  by_cases h2:ws.length=2
  case neg=>exact iteT' (by simp; lia) (iteT gone)
  refine iteNS (by rw[h2]; rfl) ?_
  obtain⟨y1,y2,a1',a2',rfl,rfl,hx1,hx2⟩:=hx'.two h2
  obtain⟨t1,ty1,kt1,_⟩:=hx1.ty K
  refine⟨_,rfl,rb,_,0,_,rfl,rfl,SqT.of hrb,rfl,_,_,_,_,rfl,ty1,kt1,_,rfl,?_⟩
  cases ht1:isTup y1 with
  | false=>exact iteT (iteT gone)
  | true=>
  refine iteF ?_
  refine⟨_,rfl,rb,_,1,_,rfl,rfl,SqT.of hrb,rfl,a2',y2,rfl,hx2,_,rfl,?_⟩
  cases hI:isInt y2 with
  | false=>exact iteT gone
  | true=>
  refine iteF ?_
  obtain⟨ls,ra,vs,rfl,rfl,hra,hv100,hls⟩:=hx1.tupOf ht1
  cases y2 with
  | oth=>cases hI
  | tup r=>cases hI
  | int num=>
  cases (show a2'= .int num from hx2)
  obtain⟨l1,l2⟩:=hR ls _ rfl
  refine⟨_,rfl,rb,_,rfl,SqT.of hrb,rfl,_,_,rfl,_,_,rfl,rfl,?_⟩
  exact jSC (H0:=H) (E:=E) (f:=f) (outer:=outer) (s:=s) (A:=A) T CT CW hr lp p2 hN2 hl2 hs2 hx ⟨hra,ls,hls,l1,l2⟩ nb bb q2
def oT:Option Int->Tr
 | some i=> .int i
 | none=> .non
theorem oT_at {H:Hp}(o:Option Int):TAt H (oT o) (oV o):=by cases o <;> rfl
theorem jPJ (o:Option Int):dep (oT o)<=4:=by cases o <;> simp [oT,dep]
theorem jPI (o:Option Int):wid (oT o)<=1000000:=by cases o <;> simp [oT,wid]
def nT:Nat->Nat
 | 0=>7
 | i+1=>2*nT i+1
def bT:Nat->Nat
 | 0=>50000
 | i+1=>4*bT i+1
theorem nb_T {i:Nat}(h:i<3):nT i<=40/\bT i<=900000:=by
 match i,h with
 | 0,_=>decide
 | 1,_=>decide
 | 2,_=>decide
theorem b_T {i:Nat}(h:i<=3):bT i<=4000000:=by
 match i,h with
 | 0,_=>decide
 | 1,_=>decide
 | 2,_=>decide
 | 3,_=>decide
theorem jFY {H H':Hp}{p tb:Addr}{q:Str}{xs:List V}(t:TabM H tb q)(hp:H p=some (.lst xs))(k:Keep H H' p):TabM H' tb q:=by
 obtain⟨es,h1,h2⟩:=t
 exact⟨es,k _ _ h1 λz=>(by rw[z,hp] at h1; cases h1),λx hx=>k _ _ (h2 x hx) λz=>by have:=h2 x hx; rw[z,hp] at this; cases this⟩
section
variable {fP fX fN fD fS fK:Addr}{fdP fdX fdN fdD fdS fdK:FuncData}
noncomputable abbrev nLaw:List Str:=["script","k","pot","box","rows","turn","paper"]
theorem scLaw:FnScope nLaw ["script"] (jB sLaw):= {}
abbrev XLaw (P:Program)(w:World)(K:W.Frag)(mg:Str->Option Value)(lG:Heap)(f:Addr)(lH:Value)(A:Around)(outer:List Env)(s:Shared)(H:Hp)(E:XK):Cx:=XOf nLaw "law" sLaw P w K mg lG f lH A outer s H E
structure LW (P:Program)(w:World)(K:W.Frag)(mg:Str->Option Value)(lG:Heap)(fC fP fT fX fR fN fD fS fK tb:Addr)(fdC fdP fdT fdX fdR fdN fdD fdS fdK:FuncData):Prop where
 T:Txt mg
 CC:Can P w K mg lG "_law_cell_at" 1 fC fdC ["script","k"] (jKH K)
 CP:Can P w K mg lG "_law_pot" 1 fP fdP ["cell"] spPot
 CT:Can P w K mg lG "_law_take" 1 fT fdT ["pot","wide"] yF
 CX:Can P w K mg lG "_law_box" 3 fX fdX ["pot","most_things","most_pieces"] spBox
 CR:Can P w K mg lG "_law_rows" 4 fR fdR ["box","pot"] (jKG tb)
 CN:Can P w K mg lG "_law_bent" 2 fN fdN ["pot","rows","most"] jKJ
 CD:Can P w K mg lG "_law_counted_due" 4 fD fdD ["box","paper"] jKI
 CS:Can P w K mg lG "_law_same" 6 fS fdS ["found","due"] (jDP 4)
 CK:Can P w K mg lG "counted" 5 fK fdK ["box","paper"] jDQ
section
variable (G:LW P w K mg lG fC fP fT fX fR fN fD fS fK tb fdC fdP fdT fdX fdR fdN fdD fdS fdK)(hr:Room 6 (XLaw P w K mg lG f lH A outer s H0 E).A)
def ltnA: { t:TS // JSs (XLaw P w K mg lG f lH A outer s H0 E) (qC ((qC ((jE sLaw).getD 0 (.Pass ⟨0,0,0,0⟩))).getD 4 (.Pass ⟨0,0,0,0⟩))) t} :=
 have nd:=scLaw.nd
 ⟨_,(jD (kL (jO (jR2 hr.units0) (jv 4 rfl vL) (yB j5) (jN _)) (jD (jQ (i:=4) nd rfl lL (G.CN.je (hr.mono (by decide)) gD (j3 (jv 2 rfl vL) (j3 (jv 4 rfl vL) (j3 (jT jX (jv 3 rfl vL) (j9) jK) j5 jP) j4) j4) j4) kE)) jH))⟩
def lppA: { t:TS // JSs (XLaw P w K mg lG f lH A outer s H0 E) (qC ((qC ((jE sLaw).getD 0 (.Pass ⟨0,0,0,0⟩))).getD 5 (.Pass ⟨0,0,0,0⟩))) t} :=
 have nd:=scLaw.nd
 ⟨_,(jD (kL (yI (y8 (G.CS.je hr gD (j3 (G.CK.je (hr.mono (by decide)) gD (j3 (jv 3 rfl vL) (j3 (jv 6 rfl vL) j5 j4) j4) j4) (j3 (G.CD.je (hr.mono (by decide)) gD (j3 (jv 3 rfl vL) (j3 (jv 6 rfl vL) j5 j4) j4) j4) j5 jM) jM) jM) kN)) (jD (jI (je_bl))) jH))⟩
def ltlA: { t:TS // JSs (XLaw P w K mg lG f lH A outer s H0 E) ((qC ((jE sLaw).getD 0 (.Pass ⟨0,0,0,0⟩))).drop 4) t} :=
 have nd:=scLaw.nd
 ⟨_,(j8 (jBL ck rfl (jAT gD G.T.range (j3 (jS kT (j9) (G.CT.je (hr.mono (by decide)) gD (j3 (jv 2 rfl vL) (j3 (j9) j5 jJ) j4) j4)) j5 yH) yH) (jZ (i:=5) nd rfl lL) (ltnA G hr).2 yO) (jD (jBL ck rfl (jB0 (yB (j3 (kU jA0 gD G.T.tuple (by decide+kernel) (j3 (jv 4 rfl vL) j5 j4) j4) (j3 (jT yC (yB (j3 (jv 4 rfl vL) (j3 (yX) (j3 (j9) (j3 (kZ j5) (j3 (jTS) (j3 (jIL) (j3 (kZ (j3 (kZ j5) j5 qA)) j5 qA) jQE) jJ) qA) jJ) jJ) j4)) (G.CT.je (hr.mono (by decide)) gD (j3 (jv 2 rfl vL) (j3 (j9) j5 jJ) j4) j4) jCL) j5 jP) jM))) (jZ (i:=6) nd rfl lL) (lppA G hr).2 jU1)))⟩
def jPM: { t:TS // JSs (XLaw P w K mg lG f lH A outer s H0 E) (qC ((jE sLaw).getD 0 (.Pass ⟨0,0,0,0⟩))) t} :=
 have nd:=scLaw.nd
 ⟨_,(j8 (jQ (i:=2) nd rfl lL (G.CP.je (hr.mono (by decide)) gD (j3 (G.CC.je (hr.mono (by decide)) gD (j3 (jv 0 rfl vL) (j3 (jv 1 rfl vL) j5 j4) j4) j4) j5 jM) jM) kE) (j8 (jQ (i:=3) nd rfl lL (G.CX.je (hr.mono (by decide)) gD (j3 (jv 2 rfl vL) (j3 (j9) (j3 (j9) j5 jJ) jJ) j4) j4) kE) (j8 (jQ (i:=4) nd rfl lL (G.CR.je (hr.mono (by decide)) gD (j3 (jv 3 rfl vL) (j3 (jv 2 rfl vL) j5 j4) j4) j4) kE) (j8 (kL (yI (y8 (G.CS.je hr gD (j3 (G.CK.je (hr.mono (by decide)) gD (j3 (jv 3 rfl vL) (j3 (kU jA0 gD G.T.tuple (by decide+kernel) (j3 (jv 4 rfl vL) j5 j4) j4) j5 jM) j4) j4) (j3 (G.CD.je (hr.mono (by decide)) gD (j3 (jv 3 rfl vL) (j3 (kU jA0 gD G.T.tuple (by decide+kernel) (j3 (jv 4 rfl vL) j5 j4) j4) j5 jM) j4) j4) j5 jM) jM) jM) kN)) (jD (jI (je_bl))) jH) (ltlA G hr).2))))⟩
def lawA: { t:TS // JSs (XLaw P w K mg lG f lH A outer s H0 E) (jE sLaw) t} :=
 have nd:=scLaw.nd
 ⟨_,(j8 (jBL ck rfl (jAT gD G.T.range (j3 (jC (jMX rfl) gD G.T.max (by decide+kernel) (j3 (j9) (j3 (jC (jMW rfl) gD G.T.min (by decide+kernel) (j3 (jC jG gD G.T.len (by decide+kernel) (j3 (jv 0 rfl vL) j5 j4) j4) (j3 (j9) j5 jJ) jM) jM) j5 jM) jJ) jJ) j5 jM) jM) (jZ (i:=1) nd rfl lL) (jPM G hr).2 yO) (jD (jI (je_bl))))⟩
theorem jO4 {D:Ends}{H:Hp}{b:Addr}{x:V}{po:Option (List Ob)}{wi:Int}{ms:List Int}{pcs:List (List Int×Int)}{v0 v1 v2 v4 v5:Option V}(hB:BoxAt H b wi ms pcs)(g:Good 16 32 wi ms pcs)(hp:PapO H x po)(nx:∀H',Ext H H'->D.nx [v0,v1,v2,some (.ref b),v4,v5,some x] H'):
  (lppA G hr).1 D [v0,v1,v2,some (.ref b),v4,v5,some x] H:=by
 refine⟨_,rfl,_,rfl,b,x,po,wi,ms,pcs,rfl,hB,g,hp,λH1 e1=>?_⟩
 refine⟨_,rfl,_,rfl,b,x,po,wi,ms,pcs,rfl,hB.mono e1.tups,g,hp.ext e1,λH2 e2=>?_⟩
 exact⟨_,_,_,rfl,oT_at _,oT_at _,jPJ _,jPI _,λH3 e3=>⟨true,rfl,iteF (nx H3 ((e1.trans e2).trans e3))⟩⟩
theorem jO3 {D:Ends}{H:Hp}{b p r:Addr}{N wi:Int}{ms:List Int}{pcs:List (List Int×Int)}{us:List V}{v0 v1 v5 v6:Option V}(hB:BoxAt H b wi ms pcs)(g:Good 16 32 wi ms pcs)(rp:r≠p)(hp:H p=some (.lst [.int N]))(hN:0<=N)(hl:H r=some (.lst us))(hs:RwsAt H (nT 0) (bT 0) us)(tab:TabR H tb)
  (nx:∀H' v4 v5 v6,TabR H' tb->Keep H H' p->D.nx [v0,v1,some (.ref p),some (.ref b),v4,v5,v6] H'):
  (ltlA G hr).1 D [v0,v1,some (.ref p),some (.ref b),some (.ref r),v5,v6] H:=by
 obtain⟨qm,qp,ps,b1,b2,b3,b4⟩:=id hB.ex
 refine⟨_,rfl,p,N,3,rfl,hp,hN,by decide,by decide,λN1 c hN1 c0 c1=>?_⟩
 have p1:(L2.upd H p (.lst [.int N1])) p=some (.lst [.int N1]):=j6
 have k1:Keep H (L2.upd H p (.lst [.int N1])) p:=jAL
 generalize L2.upd H p (.lst [.int N1])=H1 at p1 k1
 have kp1:Kp H H1:=Kp.keep k1 hp p1
 refine⟨_,_,rfl,rfl,1+c,rfl,by lia,by lia,jCA (lo:=0) (n:=(1+c).toNat) (λi σ H'=>∃(l:Addr) (us':List V) (N':Int) (v5 v6:Option V),σ=[v0,v1,some (.ref p),some (.ref b),some (.ref l),v5,v6]/\l≠p/\H' l=some (.lst us')/\RwsAt H' (nT i) (bT i) us'/\H' p=some (.lst [.int N'])/\0<=N'/\Keep H H' p) ⟨r,us,N1,_,_,rfl,rp,k1 _ _ hl rp,hs.mono kp1,p1,hN1,k1⟩ ?_ ?_⟩
 ·rintro i σ H2 hi ⟨l,us',N',v5,v6,rfl,lp,hl2,hs2,hp2,hN2,k2⟩
  have kp2:Kp H H2:=Kp.keep k2 hp hp2
  obtain⟨nb,bb⟩:=nb_T (i:=i) (by lia)
  refine⟨_,rfl,by show (0:Nat)<=_; decide,λt3 H3 d3 e3 n3=>?_⟩
  refine⟨l,t3,us',rfl,rfl,e3 _ _ hl2,d3,_,rfl,ite2 (λh=>?_) (λh=>?_)⟩
  ·have hne:us'≠ []:=λz=>by rw[z] at h; simp at h
   refine⟨_,rfl,_,rfl,_,rfl,b,_,0,_,rfl,rfl,SqT.of (e3 _ _ (k2 _ _ b1 λz=>by rw[z,hp] at b1; cases b1)),rfl,?_⟩
   refine⟨p,l,N',wi,us',nT i,bT i,rfl,lp,e3 _ _ hp2,hN2,e3 _ _ hl2,hs2.ext e3,hne,nb,bb,λR us4 N4 H4 Rp d4 w4 p4 hN4 k4=>?_⟩
   exact⟨R,us4,N4,_,_,rfl,Rp,d4,w4,p4,hN4,λc o h n=>k4 _ _ (e3 _ _ (k2 _ _ h n)) n⟩
  ·exact⟨l,us',N',_,_,rfl,lp,e3 _ _ hl2,(hs2.ext e3).up (by show _<=2*nT i+1; lia) (by show _<=4*bT i+1; lia),e3 _ _ hp2,hN2,λc o h n=>e3 _ _ (k2 _ _ h n)⟩
 ·rintro σ H2 ⟨l,us',N',v5,v6,rfl,lp,hl2,hs2,hp2,hN2,k2⟩
  have bb:=b_T (i:=(1+c).toNat) (by lia)
  have hB2:BoxAt H2 b wi ms pcs:=hB.mono (k2.tups hp)
  obtain⟨ul,os,hos,_⟩:=hs2
  have lz:us'.length<=sizeLine:=by rw[aH]; lia
  refine⟨_,rfl,l,_,rfl, .inl ⟨SqL.of hl2,λt3 h3=>?_⟩⟩
  have e3:Ext H2 (L2.upd H2 t3 (.tup us')):=(Ext.refl _).new h3 _
  have d3:(L2.upd H2 t3 (.tup us')) t3=some (.tup us'):=j6
  generalize L2.upd H2 t3 (.tup us')=H3 at e3 d3
  refine⟨_,rfl,by show (0:Nat)<=_; decide,λt4 H4 d4 e4=>?_⟩
  intro dk hdk
  have e5:Ext H4 (L2.upd H4 dk (.dK [])):=(Ext.refl _).new hdk _
  have d5:(L2.upd H4 dk (.dK [])) dk=some (.dK []):=j6
  generalize L2.upd H4 dk (.dK [])=H5 at e5 d5
  refine⟨by show (0:Nat)<=_; decide,λt6 H6 d6 e6=>⟨by show (1:Nat)<=_; decide,λt7 H7 d7 e7=>?_⟩⟩
  refine⟨by show (7:Nat)<=_; decide,λL HL dL eL nL=>?_⟩
  have E7:=((e3.trans e4).trans (e5.trans e6)).trans e7
  have EL:=E7.trans eL
  refine⟨_,rfl,p,N',7,rfl,EL _ _ hp2,hN2,by decide,by decide,λN8 z hN8 z0 z1=>?_⟩
  have p8:(L2.upd HL p (.lst [.int N8])) p=some (.lst [.int N8]):=j6
  have k8:Keep HL (L2.upd HL p (.lst [.int N8])) p:=jAL
  generalize L2.upd HL p (.lst [.int N8])=H8 at p8 k8
  have kp8:Kp HL H8:=Kp.keep k8 (EL _ _ hp2) p8
  have Lp:L≠p:=qB (E7 _ _ hp2) nL
  have pt:PapO H8 (.ref t3) (some os):=⟨t3,us',rfl,kp8.t _ _ (eL _ _ (e7 _ _ (e6 _ _ (e5 _ _ (e4 _ _ d3))))),Ats.mono kp8 _ _ (hos.ext EL),by lia⟩
  obtain⟨y,po,hy,hpo⟩:∃y po,atI [V.ref l,V.non,V.int 7,V.ref t4,V.str "paper",V.ref dk,V.ref t7] z=some y/\PapO H8 y po:=by
   have zz:z=0\/z=1\/z=2\/z=3\/z=4\/z=5\/z=6:=by lia
   rcases zz with rfl | rfl | rfl | rfl | rfl | rfl | rfl
   ·exact⟨_,none,rfl, .oth,At.mono kp8 _ _ (jN5 (EL _ _ hl2)),rfl⟩
   ·exact⟨_,none,rfl, .oth,jJ6 _,rfl⟩
   ·exact⟨_,none,rfl, .int 7,jBO _ _,rfl⟩
   ·exact⟨_,some [],rfl,t4,[],rfl,kp8.t _ _ (eL _ _ (e7 _ _ (e6 _ _ (e5 _ _ d4)))),rfl,aS _⟩
   ·exact⟨_,none,rfl, .oth,jU7 _ _,rfl⟩
   ·exact⟨_,none,rfl, .oth,At.mono kp8 _ _ (jU8 (eL _ _ (e7 _ _ (e6 _ _ d5)))),rfl⟩
   ·exact⟨_,some [.tup []],rfl,t7,[.ref t6],rfl,kp8.t _ _ (eL _ _ d7),⟨_,_,rfl,qP (kp8.t _ _ (eL _ _ (e7 _ _ d6))) (by show (0:Nat)<=100; decide) rfl,rfl⟩,by show (1:Nat)<=_; decide⟩
  refine⟨L,_,z,_,rfl,rfl,SqL.of (k8 _ _ dL Lp),hy,by show (2:Nat)<=_; decide,λM H9 d9 e9 n9=>?_⟩
  have K9:Keep H H9 p:=λc o h n=>e9 _ _ (k8 _ _ (EL _ _ (k2 _ _ h n)) n)
  have hB9:BoxAt H9 b wi ms pcs:=hB.mono λc xs h=>K9 _ _ h λy=>by rw[y,hp] at h; cases h
  refine⟨M,rfl,⟨_,SqL.of d9⟩,jFL (xs:=[.ref t3,y]) (λi σ H'=>(∃v6,σ=[v0,v1,some (.ref p),some (.ref b),some (.ref l),v5,v6])/\Ext H9 H') ⟨⟨_,rfl⟩,Ext.refl _⟩ (λi σ H' _ ⟨_,e⟩=>SqL.of (e _ _ d9)) ?_ ?_⟩
  ·rintro i x σ H' hx ⟨⟨v6,rfl⟩,e⟩
   have hx':∃po,PapO H9 x po:=by
    match i,hx with
    | 0,hx=>cases hx; exact⟨_,pt.ext e9⟩
    | 1,hx=>cases hx; exact⟨_,hpo.ext e9⟩
   obtain⟨po',hpo'⟩:=hx'
   exact jO4 G hr (hB9.mono e.tups) g (hpo'.ext e) λH'' e'=>⟨⟨_,rfl⟩,e.trans e'⟩
  ·rintro σ H' ⟨⟨v6,rfl⟩,e⟩
   have K':Keep H H' p:=λc o h n=>e _ _ (K9 _ _ h n)
   exact nx H' _ _ _ (jFY tab hp K') K'
theorem jKA {D:Ends}{H:Hp}{a:Addr}{ns:List Int}{k:Int}{v2 v3 v4 v5 v6:Option V}(hS:SqL K H a (ns.map V.int))(k0:0<=k)(tab:TabR H tb)
  (nx:∀H' v2 v3 v4 v5 v6,TabR H' tb->ExtT tb H H'->D.nx [some (.ref a),some (.int k),v2,v3,v4,v5,v6] H'):
  (jPM G hr).1 D [some (.ref a),some (.int k),v2,v3,v4,v5,v6] H:=by
 refine⟨_,rfl,_,rfl,a,ns,k,rfl,hS,k0,λc=>⟨c,rfl,λp N hp hN=>?_⟩⟩
 have e1:Ext H (L2.upd H p (.lst [.int N])):=(Ext.refl _).new hp _
 have p1:(L2.upd H p (.lst [.int N])) p=some (.lst [.int N]):=j6
 generalize L2.upd H p (.lst [.int N])=H1 at e1 p1
 refine⟨_,rfl,p,N,7,9,rfl,p1,hN,by decide,by decide,by decide,by decide,λb N2 wi ms pcs H2 c1 c2 hB2 g2 c5=>?_⟩
 have g:=g2.wide (mt':=16) (mp':=32) (by decide) (by decide)
 have tab2:TabR H2 tb:=jFY (tab.ext e1) p1 c5
 refine⟨_,rfl,_,rfl,b,p,N2,wi,ms,pcs,rfl,hB2,g,g2.w1,c2,c1,tab2,λr us os N3 H3 d3 a3 g3 l3 p3 hN3 tab3 k3 n3=>?_⟩
 have X3:ExtT tb H H3:=λc u h n=>k3 _ _ (c5 _ _ (e1 _ _ h) λz=>by rw[z,hp] at h; cases h) (λz=>by rw[z,hp] at h; cases h) n
 have rp:r≠p:=qB c2 n3
 have ptb:p≠tb:=tab2.ne c2 (by intro _ z; cases z)
 have hB3:BoxAt H3 b wi ms pcs:=hB2.mono λc xs h=>k3 _ _ h (λz=>by rw[z,c2] at h; cases h) (tab2.ne h (by intro _ z; cases z))
 have rw3:RwsAt H3 (nT 0) (bT 0) us:=⟨l3,os,a3,λo ho=>(g3 o ho).n⟩
 have po:∀{t:Addr}{H':Hp},H' t=some (.tup us)->Ext H3 H'->PapO H' (.ref t) (some os):=λh e=>⟨_,us,rfl,h,a3.ext e,by lia⟩
 refine⟨_,rfl,_,rfl,r,_,rfl, .inl ⟨SqL.of d3,λt4 h4=>?_⟩⟩
 have e4:Ext H3 (L2.upd H3 t4 (.tup us)):=(Ext.refl _).new h4 _
 have d4:(L2.upd H3 t4 (.tup us)) t4=some (.tup us):=j6
 generalize L2.upd H3 t4 (.tup us)=H4 at e4 d4
 refine⟨b,_,some os,wi,ms,pcs,rfl,hB3.mono e4.tups,g,po d4 e4,λH5 e5=>?_⟩
 have E5:=e4.trans e5
 refine⟨_,rfl,_,rfl,r,_,rfl, .inl ⟨SqL.of (E5 _ _ d3),λt6 h6=>?_⟩⟩
 have e6:Ext H5 (L2.upd H5 t6 (.tup us)):=(Ext.refl _).new h6 _
 have d6:(L2.upd H5 t6 (.tup us)) t6=some (.tup us):=j6
 generalize L2.upd H5 t6 (.tup us)=H6 at e6 d6
 have E6:=E5.trans e6
 refine⟨b,_,some os,wi,ms,pcs,rfl,hB3.mono E6.tups,g,po d6 E6,λH7 e7=>?_⟩
 have E7:=E6.trans e7
 refine⟨_,_,_,rfl,oT_at _,oT_at _,jPJ _,jPI _,λH8 e8=>⟨true,rfl,iteF ?_⟩⟩
 have E8:=E7.trans e8
 refine jO3 G hr (hB3.mono E8.tups) g rp (E8 _ _ p3) hN3 (E8 _ _ d3) (rw3.ext E8) (tab3.ext E8) λH9 v4 v5 v6 tab9 k9=>?_
 exact nx H9 _ _ _ _ _ tab9 λc u h n=>k9 _ _ (E8 _ _ (X3 _ _ h n)) λz=>by rw[z,hp] at h; cases h
end
def spLaw (K:W.Frag)(tb:Addr):Sp:=λvs H Q _=>∃(a:Addr) (ns:List Int),vs=[.ref a]/\SqL K H a (ns.map V.int)/\ns.length<=63/\TabR H tb/\∀H',Q (.bl true) H'
theorem jTF {fd:FuncData}(F:Fun K "law" "law" sLaw f fd)(G:LW P w K mg lG fC fP fT fX fR fN fD fS fK tb fdC fdP fdT fdX fdR fdN fdD fdS fdK):FnOk P w K mg lG CX0 7 f fd ["script"] (spLaw K tb):=by
 refine F.ok scLaw (λvs H Q E h=>?_) (λlH A outer s H vs Q E hr h=>?_)
 ·obtain⟨_,_,rfl,_⟩:=h
  rfl
 ·obtain⟨a,ns,rfl,hS,hlen,tab,q⟩:=h
  refine⟨_,(lawA G hr).2.h,?_⟩
  have hl:∃m:Int,(if (if (10:Int)<((ns.map V.int).length:Int) then (10:Int) else ((ns.map V.int).length:Int))>1 then (if (10:Int)<((ns.map V.int).length:Int) then (10:Int) else ((ns.map V.int).length:Int)) else 1)=m/\0<=m/\m<=10:=⟨_,rfl,by split <;> lia,by split <;> (try split) <;> lia⟩
  obtain⟨m,hm,m0,m6⟩:=hl
  refine⟨_,rfl,a,_,rfl, .inl hS,_,_,rfl,_,_,rfl,m,by rw[<- hm],by lia,by lia,jCA (lo:=0) (n:=m.toNat) (λi σ H'=>TabR H' tb/\ExtT tb H H'/\∃v1 v2 v3 v4 v5 v6,σ=[some (.ref a),v1,v2,v3,v4,v5,v6]) ⟨tab,ExtT.refl _,_,_,_,_,_,_,rfl⟩ ?_ ?_⟩
  ·rintro i σ H1 hi ⟨T1,X1,v1,v2,v3,v4,v5,v6,rfl⟩
   have hS1:SqL K H1 a (ns.map V.int):=by
    rcases hS with (h | ⟨o,h⟩) | h
    ·exact .inl (.inl (X1.atM tab h))
    ·exact .inl (.inr ⟨o,X1.atM tab h⟩)
    ·exact .inr h
   exact jKA G hr hS1 (by lia) T1 λH2 v2 v3 v4 v5 v6 T2 X2=>⟨T2,X1.trans X2,_,_,_,_,_,_,rfl⟩
  ·rintro σ H1 ⟨T1,X1,v1,v2,v3,v4,v5,v6,rfl⟩
   exact q H1
end
theorem lenU1 {P:List Value->Prop} :∀{us:List Value},us.length=1->(∀a,P [a])->P us
 | [a],_,h=>h a
theorem lenU2 {P:List Value->Prop} :∀{us:List Value},us.length=2->(∀a b,P [a,b])->P us
 | [a,b],_,h=>h a b
theorem lenU3 {P:List Value->Prop} :∀{us:List Value},us.length=3->(∀a b c,P [a,b,c])->P us
 | [a,b,c],_,h=>h a b c
abbrev zN (K:W.Frag)(x:Str):=PySem.W.nsIn K mainGlobals x
abbrev zr (f:Addr):Option (Option Value):=some (some (.ref f))
abbrev zl (x:Str)(st:Stmt)(oc:Value)(od:Option Addr)(kV dc pm:Value)(an:Option Addr)(cd ct:Value)(sl:Array (Option Value)):Option Obj:=some ⟨oc,od, .func (PySem.W.fnOf x x (q0 st) (jE st) (jB st) .none kV dc pm an cd ct),sl⟩
abbrev zc:=PySem.W.codeIn
abbrev zk (K:W.Frag)(f:Addr):=keepIn K (.ref f)
theorem zb1 {K:W.Frag}{x q p1:Str}{st:Stmt}{f:Addr}{fd:FuncData}(F:Fun K x q st f fd)(h:∀(kV doc pm:Value) (an:Option Addr) (lH ct u1:Value),bindArgs (PySem.W.fnOf x q (q0 st) (jE st) (jB st) .none kV doc pm an lH ct) ⟨[u1],[]⟩=pure [(p1,u1)]:=by intros; rfl):Binds K fd [p1] []:=F.binds λkV doc pm an lH ct us hl=>lenU1 (P:=λus=>bindArgs _ ⟨us,[]⟩=pure (List.zip _ us)) hl λu1=>h kV doc pm an lH ct u1
theorem zb2 {K:W.Frag}{x q p1 p2:Str}{st:Stmt}{f:Addr}{fd:FuncData}(F:Fun K x q st f fd)(h:∀(kV doc pm:Value) (an:Option Addr) (lH ct u1 u2:Value),bindArgs (PySem.W.fnOf x q (q0 st) (jE st) (jB st) .none kV doc pm an lH ct) ⟨[u1,u2],[]⟩=pure [(p1,u1),(p2,u2)]:=by intros; rfl):Binds K fd [p1,p2] []:=F.binds λkV doc pm an lH ct us hl=>lenU2 (P:=λus=>bindArgs _ ⟨us,[]⟩=pure (List.zip _ us)) hl λu1 u2=>h kV doc pm an lH ct u1 u2
theorem zb3 {K:W.Frag}{x q p1 p2 p3:Str}{st:Stmt}{f:Addr}{fd:FuncData}(F:Fun K x q st f fd)(h:∀(kV doc pm:Value) (an:Option Addr) (lH ct u1 u2 u3:Value),bindArgs (PySem.W.fnOf x q (q0 st) (jE st) (jB st) .none kV doc pm an lH ct) ⟨[u1,u2,u3],[]⟩=pure [(p1,u1),(p2,u2),(p3,u3)]:=by intros; rfl):Binds K fd [p1,p2,p3] []:=F.binds λkV doc pm an lH ct us hl=>lenU3 (P:=λus=>bindArgs _ ⟨us,[]⟩=pure (List.zip _ us)) hl λu1 u2 u3=>h kV doc pm an lH ct u1 u2 u3
set_option autoImplicit true
set_option relaxedAutoImplicit true
set_option maxHeartbeats 8000000 in
theorem all_mk {l:PySem.W.OpenLaw}{w:World}{K:W.Frag}{h:Heap}{mg:Str->Option Value}{fa f1 f2 f3 f4 f5 f6 f7 f8 f9 f10 f11 f12 f13 f14 f15 f16 f17 f18 f19 f20 f21 f22 f23 f24:Addr}(X:K.In h)(G:h.Ns mainGlobals mg)(hfa:mg "law" =some (.ref fa))
  (a1:zN K "is_whole" =zr f1) (l1:K.lookup f1=zl "is_whole" jBQ oc1 od1 kV1 dc1 pm1 an1 cd1 ct1 sl1) (c1:zc K cd1 "is_whole" =true) (k1:zk K f1=true)
  (a2:zN K "is_rising" =zr f2) (l2:K.lookup f2=zl "is_rising" jAN oc2 od2 kV2 dc2 pm2 an2 cd2 ct2 sl2) (c2:zc K cd2 "is_rising" =true) (k2:zk K f2=true)
  (a3:zN K "is_lot" =zr f3) (l3:K.lookup f3=zl "is_lot" jD2 oc3 od3 kV3 dc3 pm3 an3 cd3 ct3 sl3) (c3:zc K cd3 "is_lot" =true) (k3:zk K f3=true)
  (a4:zN K "mask_of" =zr f4) (l4:K.lookup f4=zl "mask_of" sMask oc4 od4 kV4 dc4 pm4 an4 cd4 ct4 sl4) (c4:zc K cd4 "mask_of" =true) (k4:zk K f4=true)
  (a5:zN K "choices_of" =zr f5) (l5:K.lookup f5=zl "choices_of" yL oc5 od5 kV5 dc5 pm5 an5 cd5 ct5 sl5) (c5:zc K cd5 "choices_of" =true) (k5:zk K f5=true)
  (a6:zN K "full_mask" =zr f6) (l6:K.lookup f6=zl "full_mask" sFull oc6 od6 kV6 dc6 pm6 an6 cd6 ct6 sl6) (c6:zc K cd6 "full_mask" =true) (k6:zk K f6=true)
  (a7:zN K "choices_at" =zr f7) (l7:K.lookup f7=zl "choices_at" sAt oc7 od7 kV7 dc7 pm7 an7 cd7 ct7 sl7) (c7:zc K cd7 "choices_at" =true) (k7:zk K f7=true)
  (a8:zN K "is_row" =zr f8) (l8:K.lookup f8=zl "is_row" jD1 oc8 od8 kV8 dc8 pm8 an8 cd8 ct8 sl8) (c8:zc K cd8 "is_row" =true) (k8:zk K f8=true)
  (a9:zN K "right_number" =zr f9) (l9:K.lookup f9=zl "right_number" sRNum oc9 od9 kV9 dc9 pm9 an9 cd9 ct9 sl9) (c9:zc K cd9 "right_number" =true) (k9:zk K f9=true)
  (a10:zN K "counted" =zr f10) (l10:K.lookup f10=zl "counted" yK oc10 od10 kV10 dc10 pm10 an10 cd10 ct10 sl10) (c10:zc K cd10 "counted" =true) (k10:zk K f10=true)
  (a11:zN K "_law_cell_at" =zr f11) (l11:K.lookup f11=zl "_law_cell_at" sCell oc11 od11 kV11 dc11 pm11 an11 cd11 ct11 sl11) (c11:zc K cd11 "_law_cell_at" =true) (k11:zk K f11=true)
  (a12:zN K "_law_pot" =zr f12) (l12:K.lookup f12=zl "_law_pot" sPot oc12 od12 kV12 dc12 pm12 an12 cd12 ct12 sl12) (c12:zc K cd12 "_law_pot" =true) (k12:zk K f12=true)
  (a13:zN K "_law_take" =zr f13) (l13:K.lookup f13=zl "_law_take" sTake oc13 od13 kV13 dc13 pm13 an13 cd13 ct13 sl13) (c13:zc K cd13 "_law_take" =true) (k13:zk K f13=true)
  (a14:zN K "_law_lot" =zr f14) (l14:K.lookup f14=zl "_law_lot" sLot oc14 od14 kV14 dc14 pm14 an14 cd14 ct14 sl14) (c14:zc K cd14 "_law_lot" =true) (k14:zk K f14=true)
  (a15:zN K "_law_box" =zr f15) (l15:K.lookup f15=zl "_law_box" sBox oc15 od15 kV15 dc15 pm15 an15 cd15 ct15 sl15) (c15:zc K cd15 "_law_box" =true) (k15:zk K f15=true)
  (a16:zN K "_law_whole" =zr f16) (l16:K.lookup f16=zl "_law_whole" jDR oc16 od16 kV16 dc16 pm16 an16 cd16 ct16 sl16) (c16:zc K cd16 "_law_whole" =true) (k16:zk K f16=true)
  (a17:zN K "_law_same" =zr f17) (l17:K.lookup f17=zl "_law_same" sSame oc17 od17 kV17 dc17 pm17 an17 cd17 ct17 sl17) (c17:zc K cd17 "_law_same" =true) (k17:zk K f17=true)
  (a18:zN K "_law_cases" =zr f18) (l18:K.lookup f18=zl "_law_cases" yP oc18 od18 kV18 dc18 pm18 an18 cd18 ct18 sl18) (c18:zc K cd18 "_law_cases" =true) (k18:zk K f18=true)
  (a19:zN K "_law_upto" =zr f19) (l19:K.lookup f19=zl "_law_upto" sUpto oc19 od19 kV19 dc19 pm19 an19 cd19 ct19 sl19) (c19:zc K cd19 "_law_upto" =true) (k19:zk K f19=true)
  (a20:zN K "_law_lot_right" =zr f20) (l20:K.lookup f20=zl "_law_lot_right" sLotR oc20 od20 kV20 dc20 pm20 an20 cd20 ct20 sl20) (c20:zc K cd20 "_law_lot_right" =true) (k20:zk K f20=true)
  (a21:zN K "_law_counted_due" =zr f21) (l21:K.lookup f21=zl "_law_counted_due" qV oc21 od21 kV21 dc21 pm21 an21 cd21 ct21 sl21) (c21:zc K cd21 "_law_counted_due" =true) (k21:zk K f21=true)
  (a22:zN K "_law_rows" =zr f22) (l22:K.lookup f22=zl "_law_rows" yW oc22 od22 kV22 dc22 pm22 an22 cd22 ct22 sl22) (c22:zc K cd22 "_law_rows" =true) (k22:zk K f22=true)
  (a23:zN K "_law_bent" =zr f23) (l23:K.lookup f23=zl "_law_bent" qR oc23 od23 kV23 dc23 pm23 an23 cd23 ct23 sl23) (c23:zc K cd23 "_law_bent" =true) (k23:zk K f23=true)
  (a24:zN K "law" =zr f24) (l24:K.lookup f24=zl "law" sLaw oc24 od24 kV24 dc24 pm24 an24 cd24 ct24 sl24) (c24:zc K cd24 "law" =true) (k24:zk K f24=true)
   (z1:zN K "len" =some none) (z2:zN K "range" =some none) (z3:zN K "tuple" =some none) (z4:zN K "sorted" =some none) (z5:zN K "set" =some none) (z6:zN K "list" =some none) (z7:zN K "int" =some none) (z8:zN K "isinstance" =some none) (z9:zN K "bool" =some none) (z10:zN K "str" =some none) (z11:zN K "all" =some none) (z12:zN K "zip" =some none) (z13:zN K "max" =some none) (z14:zN K "min" =some none) (z15:zN K "any" =some none) (z16:zN K "abs" =some none) (z17:zN K "sum" =some none) (z18:zN K "enumerate" =some none) (z19:zN K "dict" =some none) {tb1 cc1:Addr}(cde1:cd22= .ref cc1) (hcd1:codeHdIn K cc1 tb1=true) {bmA:Addr}(xb1:zN K "__builtins__" =zr bmA) (xb2:K.lookup bmA=some ⟨.type "module",some builtinsNs, .plain,#[]⟩) (xb3:bmA≠builtinsNs) (xb4:bmA≠mainGlobals):
  ∃fd:FuncData,(∀(s:Shared) (v:Value),BindsTo s fd ⟨[v],[]⟩ [("script",v)])/\∀lG:Heap,K.In lG->lG.Ns mainGlobals mg->FnOk l.prog w K mg lG CX0 7 fa fd ["script"] (spLaw K tb1):=by
 have e:=hfa.symm.trans (gW X G a24)
 cases e
 have T:Txt mg:=⟨aZ X G z1,aZ X G z2,aZ X G z3,aZ X G z4,aZ X G z5,aZ X G z6,aZ X G z7,aZ X G z8,aZ X G z9,aZ X G z10,aZ X G z11,aZ X G z12,aZ X G z13,aZ X G z14,aZ X G z15,aZ X G z16,aZ X G z17,aZ X G z18,aZ X G z19⟩
 have F1:=y0 (st:=jBQ) l1 c1 k1
 have F2:=y0 (st:=jAN) l2 c2 k2
 have F3:=y0 (st:=jD2) l3 c3 k3
 have F4:=y0 (st:=sMask) l4 c4 k4
 have F5:=y0 (st:=yL) l5 c5 k5
 have F6:=y0 (st:=sFull) l6 c6 k6
 have F7:=y0 (st:=sAt) l7 c7 k7
 have F8:=y0 (st:=jD1) l8 c8 k8
 have F9:=y0 (st:=sRNum) l9 c9 k9
 have F10:=y0 (st:=yK) l10 c10 k10
 have F11:=y0 (st:=sCell) l11 c11 k11
 have F12:=y0 (st:=sPot) l12 c12 k12
 have F13:=y0 (st:=sTake) l13 c13 k13
 have F14:=y0 (st:=sLot) l14 c14 k14
 have F15:=y0 (st:=sBox) l15 c15 k15
 have F16:=y0 (st:=jDR) l16 c16 k16
 have F17:=y0 (st:=sSame) l17 c17 k17
 have F18:=y0 (st:=yP) l18 c18 k18
 have F19:=y0 (st:=sUpto) l19 c19 k19
 have F20:=y0 (st:=sLotR) l20 c20 k20
 have F21:=y0 (st:=qV) l21 c21 k21
 have F22:=y0 (st:=yW) l22 c22 k22
 have b22:Binds K _ ["box","pot"] []:=zb2 F22
 have F23:=y0 (st:=qR) l23 c23 k23
 have F24:=y0 (st:=sLaw) l24 c24 k24
 refine⟨PySem.W.fnOf "law" "law" (q0 sLaw) (jE sLaw) (jB sLaw) .none kV24 dc24 pm24 an24 cd24 ct24,λs v=> .of_eq rfl,λlG KB _=>?_⟩
 have M:=λ{x:Str}{f:Addr}(a:PySem.W.nsIn K mainGlobals x=some (some (.ref f)))=>gW X G a
 have M':=λ{x:Str}{v:Value}(a:PySem.W.nsIn K mainGlobals x=some (some v))=>gW X G a
 have CD1:PySem.W.CodeHd lG cc1 tb1:=kz KB hcd1
 have FC1:FunC K "_law_rows" "_law_rows" yW f22 _ cc1:=⟨_,_,_,_,_,_,_,_,rfl,cde1 ▸ l22,cde1 ▸ c22⟩
 have BM:BltAt lG mg:=⟨bmA,_,gW X G xb1,xb3,xb4,KB _ _ xb2,rfl,rfl,rfl⟩
 have C1:Can l.prog w K mg lG "is_whole" 1 f1 _ ["thing"] spWh:=⟨jL8 F1 T,M a1,k1,(zb1 F1)⟩
 have C2:Can l.prog w K mg lG "is_rising" 2 f2 _ ["thing"] (spB risB):=⟨jL9 F2 T C1,M a2,k2,(zb1 F2)⟩
 have C3:Can l.prog w K mg lG "is_lot" 3 f3 _ ["thing","many"] (spB2 lotB):=⟨jNZ F3 T C2,M a3,k3,(zb2 F3)⟩
 have C4:Can l.prog w K mg lG "mask_of" 1 f4 _ ["lot"] jD0:=⟨jR8 F4 T,M a4,k4,(zb1 F4)⟩
 have C5:Can l.prog w K mg lG "choices_of" 2 f5 _ ["box"] jBW:=⟨jJO F5 T C4,M a5,k5,(zb1 F5)⟩
 have C6:Can l.prog w K mg lG "full_mask" 1 f6 _ ["choices"] jI4:=⟨jRD F6 T,M a6,k6,(zb1 F6)⟩
 have C7:Can l.prog w K mg lG "choices_at" 1 f7 _ ["choices","mask"] spAt:=⟨ok_at F7 T,M a7,k7,(zb2 F7)⟩
 have C8:Can l.prog w K mg lG "is_row" 4 f8 _ ["thing","things"] (spB2 rowB):=⟨jNY F8 T C3 C1,M a8,k8,(zb2 F8)⟩
 have C9:Can l.prog w K mg lG "right_number" 2 f9 _ ["choices","mask","ahead"] jG3:=⟨jR7 F9 T C6 C7,M a9,k9,(zb3 F9)⟩
 have C10:Can l.prog w K mg lG "counted" 5 f10 _ ["box","paper"] jDQ:=⟨jJN F10 T C8 C5 C4 C9,M a10,k10,(zb2 F10)⟩
 have C11:Can l.prog w K mg lG "_law_cell_at" 1 f11 _ ["script","k"] (jKH K):=⟨jRE F11 T,M a11,k11,(zb2 F11)⟩
 have C12:Can l.prog w K mg lG "_law_pot" 1 f12 _ ["cell"] spPot:=⟨jTD F12 T,M a12,k12,(zb1 F12)⟩
 have C13:Can l.prog w K mg lG "_law_take" 1 f13 _ ["pot","wide"] yF:=⟨jR5 F13,M a13,k13,(zb2 F13)⟩
 have C14:Can l.prog w K mg lG "_law_lot" 2 f14 _ ["pot","wide"] qT:=⟨jTE F14 T C13,M a14,k14,(zb2 F14)⟩
 have C15:Can l.prog w K mg lG "_law_box" 3 f15 _ ["pot","most_things","most_pieces"] spBox:=⟨jTG F15 T C13 C14,M a15,k15,(zb3 F15)⟩
 have C16:Can l.prog w K mg lG "_law_whole" 1 f16 _ ["found"] spWh:=⟨jNX F16 T,M a16,k16,(zb1 F16)⟩
 have CWI:Can l.prog w K mg lG "_law_whole" 1 f16 _ ["found"] jDO:=⟨jQA C16.G,M a16,k16,(zb1 F16)⟩
 have C17:Can l.prog w K mg lG "_law_same" 6 f17 _ ["found","due"] (jDP 4):=⟨jIF F17 T CWI (M a17) k17 (zb2 F17) 4,M a17,k17,(zb2 F17)⟩
 have C18:Can l.prog w K mg lG "_law_cases" 1 f18 _ ["box","lot"] yZ:=⟨jO0 F18 T,M a18,k18,(zb2 F18)⟩
 have C19:Can l.prog w K mg lG "_law_upto" 2 f19 _ ["thing","least","most"] spUp:=⟨jR4 F19 T C16,M a19,k19,(zb3 F19)⟩
 have C20:Can l.prog w K mg lG "_law_lot_right" 3 f20 _ ["thing","wide"] (spB2 lotB):=⟨jR9 F20 T C19,M a20,k20,(zb2 F20)⟩
 have C21:Can l.prog w K mg lG "_law_counted_due" 4 f21 _ ["box","paper"] jKI:=⟨jRF F21 T C20 C16 C18,M a21,k21,(zb2 F21)⟩
 have C22:Can l.prog w K mg lG "_law_rows" 4 f22 _ ["box","pot"] (jKG tb1):=⟨jR6 FC1 T CD1 BM C13 C18,M a22,k22,b22⟩
 have C23:Can l.prog w K mg lG "_law_bent" 2 f23 _ ["pot","rows","most"] jKJ:=⟨jRG F23 T C13 C16,M a23,k23,(zb3 F23)⟩
 exact jTF F24 ⟨T,C11,C12,C13,C15,C22,C23,C21,C17,C10⟩
theorem walk {l:PySem.W.OpenLaw}{q:Program}{loose:List Str}{XP:(Str->Option Value)->Heap->Prop}{YP:World->Heap->Prop}{d:DefRec}{K:Params->W.Frag}(hn:l.most=some 63)(hdf:d.params.defaults=[]){tb1:Addr}{cc1:Addr}
  (hY:∀(w:World) (h:Heap),YP w h->(K w.params).In h/\∀T∈[tb1],h.get? T=some (tabObj #[])) (hcd:∀w:World,codeHdIn (K w.params) cc1 tb1=true) (hKT:∀w:World,∀T∈[tb1],(K w.params).lookup T=none) (hnd:([tb1]:List Addr).Nodup)
  (F:∀(w:World) (mg:Str->Option Value) (fa:Addr) (h:Heap),(K w.params).In h->h.Ns mainGlobals mg->mg d.name=some (.ref fa)->
   ∃fd:FuncData,(∀(s:Shared) (u:Value),BindsTo s fd ⟨[u],[]⟩ [("script",u)])/\∀lG:Heap,(K w.params).In lG->lG.Ns mainGlobals mg->FnOk l.prog w (K w.params) mg lG CX0 7 fa fd ["script"] (spLaw (K w.params) tb1)):
  PySem.W.WalkO q loose XP YP l.row.toRowW d [] (λf vs=>PySem.call f vs):=
 L2.walk_ofTs (cts:=[(cc1,tb1)]) (n:=63) (k:=7) (x:= "script") (CX:=λ_=>CX0) (sp:=λw=>spLaw (K w.params) tb1) hn (by decide) hdf ⟨rfl,by decide,by decide⟩ hY (λw p hp=>by
  obtain _h0:=hcd w
  simp only [aF,bA,dv] at hp
  rcases hp with rfl <;> assumption) hKT F (λ_ H a ns hl hT hS=>⟨a,ns,rfl,hS,hl,⟨[],hT _ ax,λx h=>by cases h⟩,λ_=>rfl⟩) λ_ _ _ _ _ z=>z
end Eo
open PySem PySem.W PyProof.Rows
set_option maxRecDepth 100000 in
set_option maxHeartbeats 0 in
theorem PySem.Challenge.cw_eachonce_k26_count_papers_looked_at_holds : PySem.Challenge.rw_eachonce_k26_count_papers_looked_at.Holds := by
 w_on
 refine holds_law (by decide+kernel) λsaid=>?_
 refine holds_open (q:=Eo.vw) (loose:=[]) (Xt:=λs=>xlAt Eo.vw [] s&&recOk (RowW.records (OpenRow.toRowW PySem.Challenge.rw_eachonce_k26_count_papers_looked_at.row)) s) (XP:=XL Eo.vw []) (Yf:=Hook.obs Eo.kH) (Ya:=Hook.val Eo.kH) (YP:=Hook.says Eo.kH) (N:=3100) Eo.left (Hook.of Eo.kH) (Hook.keeps Eo.kH) (λs e=>xl_of s (dB.mp e).1) XL.keeps (by rfl) (by rfl) (by rfl) (λs e=>recFacts_of (dB.mp e).2) rfl said (by decide+kernel) ⟨rfl,rfl,rfl,rfl,rfl,by decide+kernel⟩ ?hw ?hc
 case hw=>w_witness2
 refine Eo.walk (l:=PySem.Challenge.rw_eachonce_k26_count_papers_looked_at) (K:=Eo.kK) rfl rfl (tb1:=141) (cc1:=143) (λw h Y=>⟨PySem.W.km_in_of Y,PySem.W.km_tabs_of Y⟩) (λw=>by kernel_rfl) (λw T hm=>by
   simp only [aF,bA,dv] at hm
   rcases hm with rfl <;> kernel_rfl) (by decide) ?F
 case F=>
  intro w mg fa h KX G hmg
  k_fill
  refine' Eo.all_mk KX G hmg _ _ _ _ _ _ _ _ _ _ _ _ _ _ _ _ _ _ _ _ _ _ _ _ _ _ _ _ _ _ _ _ _ _ _ _ _ _ _ _ _ _ _ _ _ _ _ _ _ _ _ _ _ _ _ _ _ _ _ _ _ _ _ _ _ _ _ _ _ _ _ _ _ _ _ _ _ _ _ _ _ _ _ _ _ _ _ _ _ _ _ _ _ _ _ _ _ _ _ _ _ _ _ _ _ _ _ _ _ _ _ _ _ _ _ (tb1:=141) rfl (by kernel_rfl) (bmA:=4) (by kernel_rfl) (by kernel_rfl) (by decide) (by decide)
  all_goals ((try delta Eo.zN); (try delta Eo.zr); (try delta Eo.zl); (try delta Eo.zc); (try delta Eo.zk); try k_is)
end
