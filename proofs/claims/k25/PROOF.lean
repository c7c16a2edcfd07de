import PyProof.Rows.All
import KE.KDictList
import KE.KDictOf
import KE.KFromBytes
import KE.KIsAll
import KE.KLam
import KE.KNestM
import KE.KSortTup
import PySem.Challenge.RW_eachonce_k25_count_papers_told
noncomputable section
set_option Elab.async false
set_option linter.all false
set_option maxRecDepth 100000
def aa:=@PySem.wpAny_bind
def ab:=@PySem.Heap.get?_push_of_some
def ae:=@List.length_map
def af:=@PySem.wpAny_pure
def ag:=@Bool.false_ne_true
def ah:=@List.getElem?_eq_some_iff
def ai:=@Nat.le_refl
def aj:=@PySem.Heap.get?_push_size
def ak:=@if_neg
def am:=@if_pos
def ao:=@PySem.Heap.lt_size
def aq:=@PyProof.Rows.wpS_bind
def ar:=@List.getElem?_eq_getElem
def aw:=@PyProof.Rows.wpS_pure
def ax:=@decide_eq_true
def ay:=@List.mem_of_getElem?
def az:=@List.length_append
def aA:=@List.size_toArray
def aB:=@List.getD_eq_getElem?_getD
def aC:=@Array.length_toList
def aE:=@PySem.sizeLine_eq
def aF:=@List.mem_cons
def aG:=@List.mem_append_right
def aH:=@List.mem_singleton
def aI:=@List.mem_append
def aJ:=@List.mem_cons_self
def aK:=@List.mem_cons_of_mem
def aL:=@of_decide_eq_true
def aM:=@List.append_assoc
def aN:=@List.map_append
def aO:=@Nat.ne_of_lt
def aP:=@decide_eq_false
def aQ:=@List.mem_append_left
def aR:=@Nat.lt_of_lt_of_le
def aS:=@PySem.W.mg_none_of
def aU:=@List.getElem?_map
def aV:=@List.length_take
def aW:=@List.length_cons
def aX:=@List.getElem?_append_right
def aY:=@Nat.zero_le
def aZ:=@List.append_nil
def ba:=@Array.toList_append
def bb:=@decide_eq_true_iff
def be:=@List.map_cons
def bf:=@Int.toNat_natCast
def bg:=@List.take_append_drop
def bh:=@List.take_add_one
def bi:=@List.lookup_cons
def bj:=@List.all_eq_true
def bo:=@List.mem_range
def bq:=@List.not_mem_nil
def br:=@PySem.wpAny_setField_rec
def bu:=@PySem.wpAny_callSpecial?_slot
def bv:=@PySem.wpAny_call_entry
def bw:=@Array.getElem?_toList
def bx:=@Option.some.inj
def bz:=@List.take_of_length_le
def bA:=@PySem.wpAny_field
def bB:=@Bool.eq_iff_iff
def bC:=@Bool.and_eq_true
def bD:=@PySem.wpAny_newObj_type
def bE:=@List.length_range
def bF:=@List.mem_map
def bG:=@PyProof.Rows.wpS_forRange
def bH:=@PyProof.Rows.slot_tuple_getitem
def bI:=@List.length_filter_le
def bJ:=@Nat.le_trans
def bK:=@List.map_map
def bL:=@congrArg
def bM:=@PySem.Heap.size_push
def bN:=@List.getElem?_append_left
def bO:=@List.pairwise_iff_getElem
def bP:=@List.mem_filter
def bQ:=@List.getElem?_take_of_lt
def bR:=@List.take_length
def bS:=@beq_eq_false_iff_ne
def bU:=@PySem.wpAny_mono
def bV:=@List.filter_append
def bW:=@List.mem_of_mem_take
def bX:=@Nat.pow_le_pow_right
def bY:=@PySem.wpAny_holding
def bZ:=@PySem.W.kia_one
def b0:=@PySem.PassesOwn.never
def cb:=@Int.le_of_lt
def cc:=@Nat.lt_succ_of_lt
def ce:=@Nat.lt_irrefl
def cf:=@PySem.codeAny_builtin
def cg:=@List.pairwise_cons
def ci:=@List.pairwise_append
def cj:=@List.mem_of_mem_drop
def ck:=@PySem.Around.under_plainId
def cn:=@List.getElem?_of_mem
def cq:=@Nat.add_sub_cancel_left
def cr:=@PySem.F.plainAttrs_list
def cw:=@PyProof.Rows.callWith_type1
def cx:=@PySem.wpAny_rule
def cy:=@Int.le_trans
def cz:=@Nat.mod_two_eq_zero_or_one
def cA:=@PySem.mem_of_lookup
def cB:=@PySem.wpAny_loadPart'
def cC:=@List.getLast?_eq_getElem?
def cD:=@List.Perm.append_left
def cE:=@List.getElem?_eq_none
def cF:=@Nat.ne_of_gt
def cG:=@PyProof.Rows.wpS_mono
def cH:=@Int.le_refl
def cI:=@Array.toList_reverse
def cJ:=@PySem.wpAny_truthy_bool
def cK:=@PySem.wpAny_pyIter_list
def cL:=@PySem.wpAny_setState_of
def cM:=@List.nodup_cons
def cN:=@List.length_take_le
def cO:=@PySem.Heap.get?_update_other
def cP:=@List.length_drop
def cQ:=@List.getElem_mem
def cR:=@Bool.and_false
def cS:=@or_false
def cU:=@PySem.wpAny_seqItems
def cV:=@Array.perm_iff_toList_perm
def cW:=@PySem.Heap.get?_update_self
def cX:=@List.perm_append_comm
def cY:=@List.extract_eq_take_drop
def cZ:=@Classical.byContradiction
def da:=@PySem.wpAny_passesOwn
def db:=@PySem.sizeLine_eq
def dc:=@List.take_sublist
def de:=@Array.toList_push
def df:=@List.pairwise_map
def dh:=@PySem.F.slot_list_append
def di:=@PySem.F.type_list_append
def dk:=@List.getElem_of_mem
def dn:=@List.map_congr_left
def dq:=@PySem.F.plain_list_iadd
def dr:=@Nat.le_of_lt
def dv:=@Ne.symm
def dw:=@PySem.wpAny_Call_Name_kw
def dy:=@PyProof.Rows.wpS_modify
def dz:=@Nat.testBit_lt_two_pow
def dA:=@List.of_mem_zip
def dB:=@List.length_nil
def dC:=@List.find?_cons
def dD:=@PySem.wpAny_attempt
def dE:=@Bool.eq_false_iff
def dF:=@Bool.false_and
def dG:=@Array.toList_extract
def dH:=@Array.toArray_toList
def dI:=@Nat.eq_of_testBit_eq
def dJ:=@PySem.codeAny_mono
def dL:=@PySem.wpAny_askSetting
def dM:=@Nat.le_add_right
def dN:=@Nat.testBit_zero
def dO:=@List.filter_cons
def dP:=@List.getLastD_eq_getLast?
def dQ:=@List.reverse_append
def dR:=@List.getElem?_range
def dS:=@PySem.F.args_tuple_add_2
def dU:=@List.sum_cons
def dW:=@Int.natCast_nonneg
def dX:=@PySem.tupleKind_room_in1
def dY:=@List.getElem?_drop
def dZ:=@PySem.F.entry_tuple_add
def d0:=@List.length_eq_zero_iff
def d9:=@decide_eq_false_iff_not
def ed:=@List.pairwise_singleton
def eg:=@PySem.W.cellsFrom_some
def eh:=@PySem.F.slot_tuple_add
def ek:=@PySem.wpAny_typeOf
def eC:=@PySem.Calls.callWith_builtin
def eD:=@List.nodup_append
def eE:=@Bool.not_eq_true'
def eF:=@List.Perm.append_right
def eG:=@List.take_zero
def eJ:=@List.pairwise_lt_range
def eL:=@Nat.testBit_eq_decide_div_mod_eq
def eM:=@List.length_pos_of_mem
def eN:=@List.length_replicate
def eQ:=@PySem.builtinLookup_eq_fast
def eR:=@PySem.wpAny_load
def eS:=@PySem.wpAny_isInstance
def eU:=@List.any_eq_true
def eV:=@Nat.zero_testBit
def eW:=@PySem.Paired.length
def eX:=@List.any_cons
def eY:=@PySem.W.mg_of
def eZ:=@PySem.plainId_quiet
def fb:=@PySem.wpAny_newList
def fc:=@Sum.inl.inj
def fe:=@PySem.wpAny_updateSeq_pair
def ff:=@List.eq_nil_of_length_eq_zero
def fg:=@Bool.and_eq_true_iff
def fh:=@PySem.wpAny_execs_nil
def fi:=@Nat.not_lt_zero
def fj:=@Nat.testBit_and
def fk:=@Nat.two_pow_pos
def fm:=@List.range_succ
def fo:=@List.filterMap_cons
def fq:=@PySem.Heap.SameBut.update
def fr:=@Nat.testBit_two_pow
def ft:=@if_true
def fu:=@Nat.lt_trans
def fw:=@PySem.F.plain_proto_collect
def fz:=@Nat.add_zero
def fB:=@PyProof.Rows.wpS_get
def fE:=@Nat.testBit_two_pow_sub_one
def fH:=@PySem.F.slot_int_bit_length
def fJ:=@PySem.F.type_int_bit_length
def fN:=@PySem.Calls.Name_function_global
def fO:=@Int.fdiv_eq_ediv_of_nonneg
def fY:=@PySem.wpAny_newFunctionEnv_cells
def fZ:=@PySem.wpAny_runValue
def ga:=@Nat.testBit_or
def gb:=@List.drop_drop
def gc:=@Array.toList_setIfInBounds
def gd:=@PySem.Calls.call_function_entry
def ge:=@List.drop_sublist
def gf:=@Option.some.injEq
def gh:=@Nat.le_succ
def gi:=@PySem.wpAny_pyIter_slot
def gj:=@Option.isSome_map
def gk:=@decide_eq_true_eq
def gm:=@PySem.wpAny_standAt
def gn:=@List.all_cons
def gq:=@PySem.wpAny_onRaise
def gu:=@PyProof.Rows.listUpdate_at
def gw:=@List.getElem?_replicate
def gx:=@PySem.noFill_tuple_add
def gy:=@Nat.lt_succ_self
def gz:=@List.zipIdx_cons
def gA:=@PyProof.Rows.wpS_lift
def gB:=@PySem.F.slot_dict_items
def gC:=@List.filter_cons_of_pos
def gE:=@List.getElem?_set_self
def gF:=@List.map_nil
def gG:=@Nat.add_comm
def gH:=@PySem.Walks.list
def gI:=@List.drop_eq_nil_of_le
def gJ:=@Nat.sub_self
def gK:=@PySem.F.plainAttrs_int
def gL:=@List.forIn_cons
def gM:=@PySem.typeLookup_type
def gN:=@List.Perm.of_eq
def gO:=@Bool.or_eq_true
def gP:=@List.length_singleton
def gQ:=@PySem.F.slot_set_iter
def gR:=@List.set_append_right
def gS:=@List.getElem?_set_ne
def gU:=@List.nodup_nil
def gW:=@PySem.isSubtype_type
def gX:=@PySem.entryFor_alias
def gY:=@PySem.isSubtype_stop
def gZ:=@PySem.wpAny_letGo
def g4:=@PySem.wpAny_newTuple
def g6:=@Nat.pow_lt_pow_right
def g7:=@List.drop_zero
def g8:=@List.reverse_reverse
def g9:=@PySem.evalArgs_none
def hG:=@List.take_succ_cons
def hV:=@PySem.W.codeHd_of_K
def hZ:=@List.replicate_succ
def h9:=@Bool.not_true
def ic:=@List.map_take
def ie:=@Bool.true_and
def ig:=@List.mem_filterMap
def ij:=@PySem.W.codeRec_of
def ik:=@Nat.lt_of_le_of_lt
def im:=@List.zip_cons_cons
def io:=@of_decide_eq_false
def iq:=@beq_iff_eq
def ir:=@Int.emod_lt_of_pos
def iu:=@Nat.and_one_is_mod
def iw:=@Int.natAbs_natCast
def ix:=@List.map_replicate
def iy:=@List.mem_replicate
def iA:=@Bool.or_true
def iB:=@Nat.lt_or_ge
def iC:=@List.map_id
def iE:=@not_or
open PySem.W (codeHdIn envX findIn instObj keepIn kitOne kitx_dict kitx_list kla_obj lookIn methodObj mg_of mroIn plainGet tabObj)
open List (replicate)
open Option (getD_none)
section
namespace L2
open PySem PySem.Spec PyProof.Rows
def jG (s:Stmt):Arguments:=match s with
 | .FunctionDef _ a _ _ _ _ _ _ _ _=>a
 | _=> { posonlyargs:=[],args:=[],vararg:=none,kwonlyargs:=[],kw_defaults:=[],kwarg:=none,defaults:=[]}
def jB (s:Stmt):List Stmt:=match s with
 | .FunctionDef _ _ b _ _ _ _ _ _ _=>b
 | _=> []
def j7 (s:Stmt):Scope:=match s with
 | .FunctionDef _ _ _ _ _ _ sc _ _ _=>sc
 | _=> { kind:= .function,names:=[],isGenerator:=false,isCoroutine:=false}
end L2
end
section
namespace Eo
open PySem L2
noncomputable def top (i:Nat):Stmt:=PySem.Challenge.pw_eachonce_k25_count_papers_told.main.body.getD i (.Pass ⟨0,0,0,0⟩)
abbrev jAN:Stmt:=top 1
abbrev yH:Stmt:=top 2
abbrev jB6:Stmt:=top 3
abbrev sMask:Stmt:=top 4
abbrev jB4:Stmt:=top 5
abbrev kT:Stmt:=top 7
abbrev sFull:Stmt:=top 8
abbrev sAt:Stmt:=top 9
abbrev sMet:Stmt:=top 10
abbrev q0:Stmt:=top 11
abbrev yT:Stmt:=top 12
abbrev sMany:Stmt:=top 13
abbrev jB5:Stmt:=top 15
abbrev sRNum:Stmt:=top 16
abbrev kS:Stmt:=top 17
abbrev qH:Stmt:=top 18
abbrev sCell:Stmt:=top 20
abbrev sPot:Stmt:=top 21
abbrev sTake:Stmt:=top 22
abbrev sLot:Stmt:=top 23
abbrev sBox:Stmt:=top 24
abbrev jBL:Stmt:=top 25
abbrev qD:Stmt:=top 26
abbrev y0:Stmt:=top 27
abbrev sUpto:Stmt:=top 28
abbrev qE:Stmt:=top 29
abbrev qA:Stmt:=top 30
abbrev sLaw:Stmt:=top 31
noncomputable def kC (x:Str)(t:Nat)(l n:Int)(a:Nat)(X Y:Value)(z:Nat)(u:Int)(v:Nat):Obj:=⟨.type "code",none, .fields #[.str x t, .str x (t+1), .str "/claim/cut.py" (t+2), .int l 0, .int n 0, .int 0 0, .int 0 0, .int 3 0, .ref a, .bool true, .int 181 0, .ref (a+1), .none,X,Y, .ref z, .int u 0, .int l 0, .str "/claim/cut.py" v],#[]⟩
noncomputable def kF (x:Str)(s:Stmt)(m:Str)(t c:Nat):Obj:=⟨.type "function",none, .func (PySem.W.fnOf x x (jG s) (jB s) (j7 s) .none .none .none (.str m t) none (.ref c) .none),#[]⟩
noncomputable def kM (P:Params):Obj:=
 let e (x:Str) (t:Nat) (v:Value):DictEntry:=⟨PyData.keyHash P x, .str x t,v⟩
 ⟨.type "dict",none, .dict #[e "__name__" 165 (.str "law_eachonce_k25_count_papers_told" 310),e "__doc__" 166 (.none),e "__package__" 167 (.none),e "__loader__" 168 (.builtin "__main__.__loader__#opaque"),e "__spec__" 169 (.none),e "__annotations__" 170 (.ref 6),e "__builtins__" 171 (.ref 4),e "__file__" 173 (.str "/claim/cut.py" 172),e "__cached__" 174 (.none),e "is_whole" 195 (.ref 21),e "is_rising" 201 (.ref 26),e "is_lot" 209 (.ref 33),e "mask_of" 215 (.ref 38),e "lot_of" 221 (.ref 43),e "choices_of" 229 (.ref 48),e "full_mask" 236 (.ref 55),e "choices_at" 242 (.ref 60),e "masks_met" 255 (.ref 67),e "gathered" 261 (.ref 72),e "ways_of" 268 (.ref 79),e "many" 275 (.ref 86),e "is_row" 285 (.ref 93),e "right_number" 297 (.ref 100),e "counted" 303 (.ref 105),e "count_paper" 309 (.ref 110),e "_law_cell_at" 319 (.ref 117),e "_law_pot" 329 (.ref 124),e "_law_take" 338 (.ref 131),e "_law_lot" 344 (.ref 136),e "_law_box" 350 (.ref 141),e "_law_whole" 357 (.ref 148),e "_law_same" 363 (.ref 153),e "_law_cases" 369 (.ref 158),e "_law_upto" 378 (.ref 165),e "_law_lot_right" 384 (.ref 170),e "_law_counted_due" 390 (.ref 175),e "law" 404 (.ref 182)] 37,#[]⟩
noncomputable def kK (P:Params):W.Frag:=(nat_lit 3,kM P)::(nat_lit 4,⟨.type "module",some 0, .plain,#[]⟩)::(nat_lit 20,kC "is_whole" 189 2 1 15 (.ref 17) (.ref 18) 19 193 194)::(nat_lit 21,kF "is_whole" jAN "eachonce.kinds" 187 20)::(nat_lit 25,kC "is_rising" 196 4 1 22 (.none) (.none) 24 199 200)::(nat_lit 26,kF "is_rising" yH "eachonce.kinds" 187 25)::(nat_lit 32,kC "is_lot" 202 10 2 27 (.ref 29) (.ref 30) 31 207 208)::(nat_lit 33,kF "is_lot" jB6 "eachonce.kinds" 187 32)::(nat_lit 37,kC "mask_of" 210 14 1 34 (.none) (.none) 36 213 214)::(nat_lit 38,kF "mask_of" sMask "eachonce.kinds" 187 37)::(nat_lit 42,kC "lot_of" 216 16 1 39 (.none) (.none) 41 219 220)::(nat_lit 43,kF "lot_of" jB4 "eachonce.kinds" 187 42)::(nat_lit 47,kC "choices_of" 224 19 1 44 (.none) (.none) 46 227 228)::(nat_lit 48,kF "choices_of" kT "eachonce.coverings" 222 47)::(nat_lit 54,kC "full_mask" 230 24 1 49 (.ref 51) (.ref 52) 53 234 235)::(nat_lit 55,kF "full_mask" sFull "eachonce.coverings" 222 54)::(nat_lit 59,kC "choices_at" 237 26 2 56 (.none) (.none) 58 240 241)::(nat_lit 60,kF "choices_at" sAt "eachonce.coverings" 222 59)::(nat_lit 66,kC "masks_met" 243 29 1 61 (.ref 63) (.ref 64) 65 253 254)::(nat_lit 67,kF "masks_met" sMet "eachonce.coverings" 222 66)::(nat_lit 71,kC "gathered" 256 41 3 68 (.none) (.none) 70 259 260)::(nat_lit 72,kF "gathered" q0 "eachonce.coverings" 222 71)::(nat_lit 78,kC "ways_of" 262 50 1 73 (.ref 75) (.ref 76) 77 266 267)::(nat_lit 79,kF "ways_of" yT "eachonce.coverings" 222 78)::(nat_lit 85,kC "many" 269 52 1 80 (.ref 82) (.ref 83) 84 273 274)::(nat_lit 86,kF "many" sMany "eachonce.coverings" 222 85)::(nat_lit 92,kC "is_row" 278 55 2 87 (.ref 89) (.ref 90) 91 283 284)::(nat_lit 93,kF "is_row" jB5 "eachonce.countpapers" 276 92)::(nat_lit 99,kC "right_number" 286 59 3 94 (.ref 96) (.ref 97) 98 295 296)::(nat_lit 100,kF "right_number" sRNum "eachonce.countpapers" 276 99)::(nat_lit 104,kC "counted" 298 68 2 101 (.none) (.none) 103 301 302)::(nat_lit 105,kF "counted" kS "eachonce.countpapers" 276 104)::(nat_lit 109,kC "count_paper" 304 79 1 106 (.none) (.none) 108 307 308)::(nat_lit 110,kF "count_paper" qH "eachonce.countpapers" 276 109)::(nat_lit 116,kC "_law_cell_at" 312 82 2 111 (.ref 113) (.ref 114) 115 317 318)::(nat_lit 117,kF "_law_cell_at" sCell "law_eachonce_k25_count_papers_told" 310 116)::(nat_lit 123,kC "_law_pot" 320 86 1 118 (.ref 120) (.ref 121) 122 327 328)::(nat_lit 124,kF "_law_pot" sPot "law_eachonce_k25_count_papers_told" 310 123)::(nat_lit 130,kC "_law_take" 330 95 2 125 (.ref 127) (.ref 128) 129 336 337)::(nat_lit 131,kF "_law_take" sTake "law_eachonce_k25_count_papers_told" 310 130)::(nat_lit 135,kC "_law_lot" 339 99 2 132 (.none) (.none) 134 342 343)::(nat_lit 136,kF "_law_lot" sLot "law_eachonce_k25_count_papers_told" 310 135)::(nat_lit 140,kC "_law_box" 345 108 3 137 (.none) (.none) 139 348 349)::(nat_lit 141,kF "_law_box" sBox "law_eachonce_k25_count_papers_told" 310 140)::(nat_lit 147,kC "_law_whole" 351 126 1 142 (.ref 144) (.ref 145) 146 355 356)::(nat_lit 148,kF "_law_whole" jBL "law_eachonce_k25_count_papers_told" 310 147)::(nat_lit 152,kC "_law_same" 358 128 2 149 (.none) (.none) 151 361 362)::(nat_lit 153,kF "_law_same" qD "law_eachonce_k25_count_papers_told" 310 152)::(nat_lit 157,kC "_law_cases" 364 140 2 154 (.none) (.none) 156 367 368)::(nat_lit 158,kF "_law_cases" y0 "law_eachonce_k25_count_papers_told" 310 157)::(nat_lit 164,kC "_law_upto" 370 149 3 159 (.ref 161) (.ref 162) 163 376 377)::(nat_lit 165,kF "_law_upto" sUpto "law_eachonce_k25_count_papers_told" 310 164)::(nat_lit 169,kC "_law_lot_right" 379 151 2 166 (.none) (.none) 168 382 383)::(nat_lit 170,kF "_law_lot_right" qE "law_eachonce_k25_count_papers_told" 310 169)::(nat_lit 174,kC "_law_counted_due" 385 155 2 171 (.none) (.none) 173 388 389)::(nat_lit 175,kF "_law_counted_due" qA "law_eachonce_k25_count_papers_told" 310 174)::(nat_lit 181,kC "law" 391 174 1 176 (.ref 178) (.ref 179) 180 402 403)::(nat_lit 182,kF "law" sLaw "law_eachonce_k25_count_papers_told" 310 181)::[]
noncomputable def kA:List Addr:=[3,4,20,21,25,26,32,33,37,38,42,43,47,48,54,55,59,60,66,67,71,72,78,79,85,86,92,93,99,100,104,105,109,110,116,117,123,124,130,131,135,136,140,141,147,148,152,153,157,158,164,165,169,170,174,175,181,182]
noncomputable def vw:Program:= { PySem.Challenge.pw_eachonce_k25_count_papers_told with main:= { PySem.Challenge.pw_eachonce_k25_count_papers_told.main with body:=[top 1,top 2,top 3,top 4,top 5,top 7,top 8,top 9,top 10,top 11,top 12,top 13,top 15,top 16,top 17,top 18,top 20,top 21,top 22,top 23,top 24,top 25,top 26,top 27,top 28,top 29,top 30,top 31]}}
theorem kA_eq:∀ P,kA=(kK P).map (·.1):=fun _=>by kernel_rfl
noncomputable abbrev kH:PySem.W.Hook:=PySem.W.kmHook kK kA kA_eq [74]
set_option maxHeartbeats 0 in
theorem left:PySem.W.LeftO PySem.Challenge.rw_eachonce_k25_count_papers_told.prog vw [] (fun s=>PySem.W.xlAt vw [] s&&PySem.W.recOk (PySem.W.RowW.records (PySem.W.OpenRow.toRowW PySem.Challenge.rw_eachonce_k25_count_papers_told.row)) s) (PySem.W.Hook.obs kH) (PySem.W.Hook.val kH) 6900:=fun w=>by kernel_rfl
end Eo
end
section
namespace L2
open PySem PySem.Spec PyProof.Rows
abbrev Key:=Sum Int Str
def keyIs:Key->Value->Bool
 | .inl k,v=>Value.isInt k v
 | .inr x,v=>Value.isStrOf x v
def keyH (w:World):Key->Int
 | .inl k=>hashInt k
 | .inr x=>hashStr w x
theorem kJ:∀ {k:Key}{v:Value},keyIs k v=true->(∃ i t,k=Sum.inl i/\v=Value.int i t)\/(∃ x t,k=Sum.inr x/\v=Value.str x t)
 | .inl i,v,h=>by
  obtain⟨t,e⟩:=Value.isInt_shape (k:=i) (v:=v) h
  exact .inl ⟨i,t,rfl,e⟩
 | .inr x,v,h=>by
  obtain⟨t,e⟩:=Value.isStrOf_shape (x:=x) (v:=v) h
  exact .inr ⟨x,t,rfl,e⟩
theorem jKH (i:Int)(t:Tok):keyIs (.inl i) (.int i t)=true:=by simp [keyIs,Value.isInt]
theorem jKG (x:Str)(t:Tok):keyIs (.inr x) (.str x t)=true:=by simp [keyIs,Value.isStrOf]
theorem jRH (a b:Int):decide ((Sum.inl a:Key)=Sum.inl b)=(a==b):=by
 by_cases e:a=b
 ·subst e; simp
 ·have h:¬ (Sum.inl a:Key)=Sum.inl b:=fun q=>e (fc q)
  rw[aP h]
  exact(bS.mpr e).symm
theorem jRE (a b:Str):decide ((Sum.inr a:Key)=Sum.inr b)=decide (a=b):=by
 by_cases e:a=b
 ·subst e; simp
 ·have h:¬ (Sum.inr a:Key)=Sum.inr b:=fun q=>e (Sum.inr.inj q)
  rw[aP h,aP e]
theorem jRG (a:Int)(b:Str):decide ((Sum.inl a:Key)=Sum.inr b)=false:=aP (fun q=>nomatch q)
theorem jRF (a:Str)(b:Int):decide ((Sum.inr a:Key)=Sum.inl b)=false:=aP (fun q=>nomatch q)
def kD (prog:Program)(w:World):PySem.KeyKind prog w Key where
 is:=keyIs
 hash:=keyH w
 inj:=fun v a b ha hb=>by
  rcases kJ ha with ⟨i,t,rfl,rfl⟩ | ⟨x,t,rfl,rfl⟩
  ·rcases kJ hb with ⟨j,u,rfl,e⟩ | ⟨y,u,rfl,e⟩
   ·injection e with e1 _; rw[e1]
   ·exact nomatch e
  ·rcases kJ hb with ⟨j,u,rfl,e⟩ | ⟨y,u,rfl,e⟩
   ·exact nomatch e
   ·injection e with e1 _; rw[e1]
 byValue:=fun k v h=>by
  rcases kJ h with ⟨i,t,rfl,rfl⟩ | ⟨x,t,rfl,rfl⟩ <;> rfl
 pyHash:=fun hv h=>by
  rcases kJ hv with ⟨i,t,rfl,rfl⟩ | ⟨x,t,rfl,rfl⟩
  ·exact wpAny_pyHash_int h
  ·exact wpAny_pyHash_str h
 eqBool:=fun hu hv h=>by
  rcases kJ hu with ⟨i,t,rfl,rfl⟩ | ⟨x,t,rfl,rfl⟩
  ·rcases kJ hv with ⟨j,u,rfl,rfl⟩ | ⟨y,u,rfl,rfl⟩
   ·rw[jRH] at h; exact wpAny_eqBool_int h
   ·rw[jRG] at h; exact SeqAt.EqAt.int_str i t y u _ _ _ _ h
  ·rcases kJ hv with ⟨j,u,rfl,rfl⟩ | ⟨y,u,rfl,rfl⟩
   ·rw[jRF] at h; exact SeqAt.EqAt.str_int x t j u _ _ _ _ h
   ·rw[jRE] at h; exact wpAny_eqBool_str h
 «strs»:=fun k x t v h=>by
  rcases kJ h with ⟨i,u,rfl,e⟩ | ⟨y,u,rfl,e⟩
  ·exact nomatch e
  ·injection e with e1 _
   subst e1
   cases v <;> rfl
theorem jGS (prog:Program)(w:World)(i:Int)(t:Tok):(kD prog w).is (.inl i) (.int i t)=true:=jKH i t
theorem jGR (prog:Program)(w:World)(x:Str)(t:Tok):(kD prog w).is (.inr x) (.str x t)=true:=jKG x t
end L2
namespace L2
open PySem PySem.Spec PyProof.Rows
inductive V where
 | non | bl (b:Bool) | int (i:Int) | str (x:Str) | byt (b:Array UInt8) | flt (b:UInt64) | ref (a:Addr) | ty (n:String)
 deriving DecidableEq
def RelV:V->Value->Prop
 | .non,u=>u=Value.none
 | .bl b,u=>u=Value.bool b
 | .int i,u=>∃ t,u=Value.int i t
 | .str x,u=>∃ t,u=Value.str x t
 | .byt b,u=>∃ t,u=Value.bytes b t
 | .flt b,u=>∃ t,u=Value.float b t
 | .ref a,u=>u=Value.ref a
 | .ty n,u=>u=Value.type n
abbrev Vals:List V->List Value->Prop:=Paired RelV
theorem Vals.length {xs:List V}{us:List Value}(r:Vals xs us):xs.length=us.length:=eW r
theorem Vals.get:∀ {xs:List V}{us:List Value}{i:Nat}{x:V},Vals xs us->xs[i]?=some x->∃ u,us[i]?=some u/\RelV x u
 | _,_,_,_, .nil,e=>by simp at e
 | _,_,0,_, .cons r _,e=>by simp at e; subst e; exact⟨_,rfl,r⟩
 | _,_,i+1,x, .cons _ t,e=>by
  obtain⟨u,h1,h2⟩:=Vals.get (i:=i) (x:=x) t (by simpa using e)
  exact⟨u,by simpa using h1,h2⟩
theorem Vals.set {x:V}{u:Value}(r:RelV x u):∀ {xs:List V}{us:List Value}(i:Nat),Vals xs us->Vals (xs.set i x) (us.set i u)
 | _,_,_, .nil=> .nil
 | _,_,0, .cons _ t=> .cons r t
 | _,_,i+1, .cons q t=> .cons q (Vals.set r i t)
theorem Vals.append:∀ {xs ys:List V}{us ws:List Value},Vals xs us->Vals ys ws->Vals (xs++ys) (us++ws)
 | _,_,_,_, .nil,s=>s
 | _,_,_,_, .cons r t,s=> .cons r (Vals.append t s)
theorem Vals.take:∀ {xs:List V}{us:List Value}(n:Nat),Vals xs us->Vals (xs.take n) (us.take n)
 | _,_,0,_=> .nil
 | _,_,_+1, .nil=> .nil
 | _,_,n+1, .cons r t=> .cons r (Vals.take n t)
theorem Vals.drop:∀ {xs:List V}{us:List Value}(n:Nat),Vals xs us->Vals (xs.drop n) (us.drop n)
 | _,_,0,r=>r
 | _,_,_+1, .nil=> .nil
 | _,_,n+1, .cons _ t=>Vals.drop n t
def RelO:Option V->Option Value->Prop
 | some v,some u=>RelV v u
 | none,none=>True
 | _,_=>False
def KV {κ:Type} :List (κ×V)->List (κ×Value)->Prop:=Paired fun (p:κ×V) (q:κ×Value)=>p.1=q.1/\RelV p.2 q.2
noncomputable def kV:Key->V
 | .inl i=> .int i
 | .inr x=> .str x
def TupO (h:Heap)(a:Addr)(items:Array Value):Prop:=∃ n,h.get? a=some { cls:= .type "tuple",data:= .seq items n}
theorem TupO.isTup {h:Heap}{a:Addr}{items:Array Value}(x:TupO h a items):IsTup h a items:=let ⟨n,e⟩:=x; ⟨_,e,rfl,n,rfl⟩
theorem TupO.new (h:Heap)(items:Array Value):TupO (h.push { cls:= .type "tuple",data:= .seq items}) h.objs.size items:=⟨0,aj _ rfl⟩
inductive HO where
  | lst (xs:List V)
  | tup (xs:List V)
  | dK (kvs:List (Key×V)) | dT (kvs:List (List Key×V))
  | set (S:Int->Bool) (n:Nat)
  | ins (C dx:Addr) (fs:List (Str×V))
  | own (x:Addr)
  | xd (fs:List (Str×V))
  | met (f x:Addr)
  | rng (lo hi:Int)
  | frz (o:Obj) (u:HO)
  | tbl (ps:Array Value)
  | ext (φ:Heap->Prop)
abbrev Hp:=Addr->Option HO
def upd (H:Hp)(a:Addr)(o:HO):Hp:=fun b=>if b=a then some o else H b
theorem j5 {H:Hp}{a:Addr}{o:HO} :upd H a o a=some o:=by unfold upd; rw[am rfl]
theorem j8 {H:Hp}{a b:Addr}{o:HO}(h:b≠a):upd H a o b=H b:=by unfold upd; rw[ak h]
theorem ne_of {H:Hp}{a b:Addr}{o u:HO}(h:H a=some o)(h':H b=some u)(d:o≠u):a≠b:=by
 intro e; subst e; rw[h] at h'; exact d (bx h')
theorem j9 {H:Hp}{a b:Addr}{o:HO}(h:H a=some o)(h':H b=none):a≠b:=by
 intro e; subst e; rw[h] at h'; cases h'
section
variable (P:Program)(w:World)
def ObjOk (H:Hp)(h:Heap)(a:Addr):HO->Prop
 | .lst xs=>xs.length<=sizeLine/\∃ (its:List Value) (n:Nat),Vals xs its/\h.get? a=some { cls:= .type "list",data:= .seq its.toArray n}
 | .tup xs=>xs.length<=sizeLine/\∃ its:List Value,Vals xs its/\TupO h a its.toArray
 | .dK kvs=>kvs.length<=sizeLine/\(a==sysModules)=false/\∃ vs,KV kvs vs/\h.DictOf (kD P w) a vs
 | .dT kvs=>kvs.length<=sizeLine/\(a==sysModules)=false/\∃ xs:List (List Key×Addr×Value),
   Paired (fun (p:List Key×V) (q:List Key×Addr×Value)=>p.1=q.1/\H q.2.1=some (.tup (p.1.map kV))/\RelV p.2 q.2.2) kvs xs/\
   ∃ o es ep,h.get? a=some o/\o.ExactDict/\o.data= .dict es ep/\es.toList=xs.map (entryOfKey (tupleKind (kD P w)))/\(xs.map (·.1)).Nodup
 | .set S n=>h.SetOf (intKind P w) a S n
 | .ins C dx fs=>H dx=some (.own a)/\fs.length<=1000/\dx≠a/\h.get? a=some (instObj C dx)/\
   ∃ mA,h.Ns1 dx mA/\(∀ f,RelO (fs.lookup f) (mA f))/\PySem.Within mA (fs.map (·.1))
 | .own _=>∃ o,h.get? a=some o
 | .xd fs=>∃ mA,h.Ns1 a mA/\∀ f,RelO (fs.lookup f) (mA f)
 | .rng lo hi=>∃ t u v,h.get? a=some { cls:= .type "range",data:= .fields #[.int lo t, .int hi u, .int 1 v]}
 | .frz o u=>h.get? a=some o/\ObjOk H h a u
 | .tbl ps=>h.get? a=some { cls:= .none,data:= .fields ps}
 | .met f x=>h.get? a=some (methodObj (.ref f) (.ref x))
 | .ext φ=>φ h/\(∃ o,h.get? a=some o)/\∀ h1 h2:Heap,φ h1->(∀ o,h1.get? a=some o->h2.get? a=some o)->φ h2
def HOk (H:Hp)(h:Heap):Prop:=∀ a o,H a=some o->ObjOk P w H h a o
end
section
variable {P:Program}{w:World}{H H':Hp}{h h':Heap}{a:Addr}{o:HO}
theorem ObjOk.lt (x:ObjOk P w H h a o):a<h.objs.size:=by
 cases o with
 | lst xs=>obtain⟨_,_,_,_,e⟩:=x; exact ao e
 | tup xs=>obtain⟨_,_,_,_,e⟩:=x; exact ao e
 | dK kvs=>obtain⟨_,_,_,_,o,_,_,e,_⟩:=x; exact ao e
 | dT kvs=>obtain⟨_,_,_,_,o,_,_,e,_⟩:=x; exact ao e
 | set S n=>obtain⟨o,_,_,_,e,_⟩:=x; exact ao e
 | ins C dx fs=>obtain⟨_,_,_,e,_⟩:=x; exact ao e
 | own y=>obtain⟨_,e⟩:=x; exact ao e
 | xd fs=>obtain⟨_,⟨_,_,_,e,_⟩,_⟩:=x; exact ao e
 | rng lo hi=>obtain⟨_,_,_,e⟩:=x; exact ao e
 | frz ob u=>obtain⟨e,_⟩:=x; exact ao e
 | tbl ps=>exact ao (show h.get? a=some _ from x)
 | met f y=>exact ao (show h.get? a=some _ from x)
 | ext φ=>obtain⟨_,⟨_,e⟩,_⟩:=x; exact ao e
theorem Paired.mapP {α β:Type}{F G:α->β->Prop} :∀ {l₁:List α}{l₂:List β},Paired F l₁ l₂->(∀ a b,F a b->G a b)->Paired G l₁ l₂
 | _,_, .nil,_=> .nil
 | _,_, .cons r t,f=> .cons (f _ _ r) (Paired.mapP t f)
theorem ObjOk.stay (x:ObjOk P w H h a o)(k:∀ b u,(b=a\/H b=some (.own a))->h.get? b=some u->h'.get? b=some u)
  (ho:∀ b,H b=some (.own a)->H' b=some (.own a)) (ht:∀ b xs,H b=some (.tup xs)->H' b=some (.tup xs)):ObjOk P w H' h' a o:=by
 induction o with
 | lst xs=>obtain⟨z,its,n,r,e⟩:=x; exact⟨z,its,n,r,k _ _ (.inl rfl) e⟩
 | tup xs=>obtain⟨z,its,r,n,e⟩:=x; exact⟨z,its,r,n,k _ _ (.inl rfl) e⟩
 | dK kvs=>obtain⟨z,y,vs,r,ob,es,ep,e,c⟩:=x; exact⟨z,y,vs,r,ob,es,ep,k _ _ (.inl rfl) e,c⟩
 | dT kvs=>
  obtain⟨z,y,xs,r,ob,es,ep,e,c⟩:=x
  exact⟨z,y,xs,Paired.mapP r fun p q z=>⟨z.1,ht _ _ z.2.1,z.2.2⟩,ob,es,ep,k _ _ (.inl rfl) e,c⟩
 | set S n=>obtain⟨ob,es,ep,t,e,c⟩:=x; exact⟨ob,es,ep,t,k _ _ (.inl rfl) e,c⟩
 | ins C dx fs=>
  obtain⟨d,z,ne,e,mA,⟨od,es,ep,e2,c⟩,r⟩:=x
  exact⟨ho _ d,z,ne,k _ _ (.inl rfl) e,mA,⟨od,es,ep,k _ _ (.inr d) e2,c⟩,r⟩
 | own y=>obtain⟨ob,e⟩:=x; exact⟨ob,k _ _ (.inl rfl) e⟩
 | xd fs=>obtain⟨mA,⟨od,es,ep,e,c⟩,r⟩:=x; exact⟨mA,⟨od,es,ep,k _ _ (.inl rfl) e,c⟩,r⟩
 | rng lo hi=>obtain⟨t,u,v,e⟩:=x; exact⟨t,u,v,k _ _ (.inl rfl) e⟩
 | frz ob u ih=>obtain⟨e,q⟩:=x; exact⟨k _ _ (.inl rfl) e,ih q⟩
 | tbl ps=>
  have e:h.get? a=some { cls:= .none,data:= .fields ps} :=x
  show h'.get? a=some { cls:= .none,data:= .fields ps}
  exact k a _ (.inl rfl) e
 | met f y=>
  have e:h.get? a=some (methodObj (.ref f) (.ref y)):=x
  show h'.get? a=some (methodObj (.ref f) (.ref y))
  exact k a _ (.inl rfl) e
 | ext φ=>obtain⟨p,⟨o,e⟩,st⟩:=x; exact⟨st _ _ p fun o q=>k _ _ (.inl rfl) q,⟨o,k _ _ (.inl rfl) e⟩,st⟩
theorem HOk.lt (x:HOk P w H h)(e:H a=some o):a<h.objs.size:=(x a o e).lt
theorem HOk.fresh (x:HOk P w H h)(e:h.objs.size<=a):H a=none:=by
 cases q:H a with
 | none=>rfl
 | some u=>exact absurd (aR (x.lt q) e) (ce _)
theorem HOk.kept (x:HOk P w H h)(k:∀ b u,h.get? b=some u->h'.get? b=some u):HOk P w H h':=fun a o e=>
 (x a o e).stay (fun b u _ q=>k b u q) (fun _ q=>q) fun _ _ q=>q
theorem HOk.laid (x:HOk P w H h)(k:∀ b u,h.get? b=some u->h'.get? b=some u)(hp:h.objs.size<=a)(new:ObjOk P w (upd H a o) h' a o):HOk P w (upd H a o) h':=fun b u e=>by
 have hn:=x.fresh hp
 by_cases hb:b=a
 ·subst hb; rw[j5] at e; cases e; exact new
 ·rw[j8 hb] at e
  exact(x b u e).stay (fun c v _ q=>k c v q) (fun c q=>by rw[j8 (j9 q hn)]; exact q) fun c xs q=>by rw[j8 (j9 q hn)]; exact q
end
def Rd (H:Hp)(a:Addr)(u:HO):Prop:=H a=some u\/∃ o,H a=some (.frz o u)
theorem Rd.ok {P:Program}{w:World}{H:Hp}{h:Heap}{a:Addr}{u:HO}(r:Rd H a u)(x:HOk P w H h):ObjOk P w H h a u:=by
 rcases r with r | ⟨o,r⟩
 ·exact x a u r
 ·obtain⟨_,q⟩:=x a _ r
  exact q
def Mut:Option HO->Prop
 | some (.lst _)=>True
 | some (.dK _)=>True
 | some (.dT _)=>True
 | some (.set _ _)=>True
 | some (.ins _ _ _)=>True
 | some (.ext _)=>True
 | _=>False
section
variable {P:Program}{w:World}{H:Hp}{h h':Heap}{x e:Addr}{o':HO}
theorem HOk.write (ok:HOk P w H h)(mu:Mut (H x))(he:e=x\/H e=some (.own x))(k:∀ b u,b≠e->h.get? b=some u->h'.get? b=some u)(heo:∃ u,h'.get? e=some u)
  (new:ObjOk P w (upd H x o') h' x o'):HOk P w (upd H x o') h':=fun b u q=>by
 have nown:∀ c y,H c=some (.own y)->c≠x:=fun c y r z=>by subst z; rw[r] at mu; exact mu
 have ntup:∀ c xs,H c=some (.tup xs)->c≠x:=fun c xs r z=>by subst z; rw[r] at mu; exact mu
 by_cases hb:b=x
 ·subst hb; rw[j5] at q; cases q; exact new
 ·rw[j8 hb] at q
  by_cases hbe:b=e
  ·have q':H b=some (.own x):=by
    rcases he with z | z
    ·exact absurd (hbe.trans z) hb
    ·rw[hbe]; exact z
   rw[q] at q'; cases q'
   obtain⟨v,hv⟩:=heo
   exact⟨v,by rw[hbe]; exact hv⟩
  ·refine(ok b u q).stay (fun c v hc r=>k c v ?_ r) (fun c r=>by rw[j8 (nown c b r)]; exact r) fun c xs r=>by rw[j8 (ntup c xs r)]; exact r
   rcases hc with rfl | hc
   ·exact hbe
   ·rintro rfl
    rcases he with z | z
    ·exact nown c b hc z
    ·rw[hc] at z; cases z; exact hb rfl
end
structure Un (fs ex:List Addr)(H H':Hp)(h h':Heap):Prop where
 keep:∀ b o,h.get? b=some o->H b=none->b∉fs->b∉ex->h'.get? b=some o
 slot:∀ b o,h.get? b=some o->H b=none->b∈fs->b∉ex->∃ sl,h'.get? b=some { o with slots:=sl}
 free:∀ b o,h.get? b=some o->H b=none->b∉ex->H' b=none
 there:∀ b o,h.get? b=some o->b∉ex->∃ o',h'.get? b=some o'
 tups:∀ b xs,H b=some (.tup xs)->H' b=some (.tup xs)
 frzs:∀ b o u,H b=some (.frz o u)->H' b=some (.frz o u)
 tbls:∀ b ps,H b=some (.tbl ps)->∃ more,H' b=some (.tbl (ps++more))
section
variable {fs fs' ex ex':List Addr}{H H1 H2:Hp}{h h1 h2 h':Heap}{a x e:Addr}{o:HO}
theorem Un.any (u:Un fs ex H H1 h h1){b:Addr}{ob:Obj}(q:h.get? b=some ob)(n:H b=none)(hx:b∉ex):∃ sl,h1.get? b=some { ob with slots:=sl} :=by
 by_cases hb:b∈fs
 ·exact u.slot b ob q n hb hx
 ·exact⟨ob.slots,u.keep b ob q n hb hx⟩
theorem Un.kept (k:∀ b u,h.get? b=some u->h'.get? b=some u):Un fs ex H H h h':=
 ⟨fun b ob q _ _ _=>k b ob q,fun b ob q _ _ _=>⟨ob.slots,k b ob q⟩,fun _ _ _ n _=>n,fun b ob q _=>⟨ob,k b ob q⟩,fun _ _ q=>q,fun _ _ _ q=>q,fun _ ps q=>⟨#[],by rw[q]; simp⟩⟩
theorem Un.refl:Un fs ex H H h h:=Un.kept fun _ _ q=>q
theorem Un.laid (k:∀ b u,h.get? b=some u->h'.get? b=some u)(hp:h.objs.size<=a)(hn:H a=none):Un fs ex H (upd H a o) h h' where
 keep:=fun b u q _ _ _=>k b u q
 slot:=fun b u q _ _ _=>⟨u.slots,k b u q⟩
 free:=fun b u q n _=>by rw[j8 (aO (aR (ao q) hp))]; exact n
 there:=fun b u q _=>⟨u,k b u q⟩
 tups:=fun b xs q=>by rw[j8 (j9 q hn)]; exact q
 frzs:=fun b u xs q=>by rw[j8 (j9 q hn)]; exact q
 tbls:=fun b ps q=>⟨#[],by rw[j8 (j9 q hn),q]; simp⟩
theorem Un.write (mu:Mut (H x))(he:e=x\/H e=some (.own x))(k:∀ b u,b≠e->h.get? b=some u->h'.get? b=some u)(heo:∃ u,h'.get? e=some u):Un fs ex H (upd H x o) h h':=by
 have hx:∀ b,H b=none->b≠x:=fun b n z=>by subst z; rw[n] at mu; exact mu
 have hb:∀ b,H b=none->b≠e:=fun b n z=>by
  subst z
  rcases he with r | r
  ·exact hx b n r
  ·rw[n] at r; cases r
 have hm:∀ b u,H b=some u->¬ Mut (some u)->b≠x:=fun b u q nm z=>by subst z; rw[q] at mu; exact nm mu
 refine⟨fun b u q n _ _=>k b u (hb b n) q,fun b u q n _ _=>⟨u.slots,k b u (hb b n) q⟩,fun b u q n _=>by rw[j8 (hx b n)]; exact n,fun b u q _=>?_,
  fun b xs q=>by rw[j8 (hm b _ q fun z=>z)]; exact q,fun b u xs q=>by rw[j8 (hm b _ q fun z=>z)]; exact q,fun b ps q=>⟨#[],by rw[j8 (hm b _ q fun z=>z),q]; simp⟩⟩
 by_cases hbe:b=e
 ·subst hbe; exact heo
 ·exact⟨u,k b u hbe q⟩
end
def trk (h:Heap)(H:Hp):List Addr:=(List.range h.objs.size).filter fun a=>(H a).isSome
def hidT (h:Heap)(H:Hp):Heap:=PySem.W.hideAll h (trk h H)
theorem jKT (h:Heap)(H:Hp):(hidT h H).objs.size=h.objs.size:=PySem.W.hideAll_size _ _
theorem jMN {h:Heap}{H:Hp}{b:Addr}{o:Obj}(e:h.get? b=some o)(n:H b=none):(hidT h H).get? b=some o:=
 PySem.W.hideAll_get _ e fun hm=>by
  have q:(H b).isSome=true:=(bP.mp hm).2
  rw[n] at q; simp at q
theorem jPD {h:Heap}{H:Hp}{b:Addr}{o:Obj}(e:(hidT h H).get? b=some o):h.get? b=some o/\H b=none:=by
 have e':h.get? b=some o:=PySem.W.of_hideAll (trk h H) e
 refine⟨e',?_⟩
 cases q:H b with
 | none=>rfl
 | some x=>
  have hm:b∈trk h H:=bP.mpr ⟨bo.mpr (ao e'),by simp [q]⟩
  have z:(hidT h H).get? b=none:=PySem.W.hideAll_none (trk h H) hm
  rw[z] at e; cases e
end L2
namespace L2
open PySem PySem.Spec PyProof.Rows
structure Mod (K:W.Frag)(mg:Str->Option Value)(base:Heap):Prop where
 kin:K.In base
 glob:base.Ns mainGlobals mg
 blt:∃ mb,base.Ns builtinsNs mb/\∀ x:Str,x≠ "__name__" ->mb x=bootBuiltins x
 nolimit:base.NoLimit
structure Cx where
 prog:Program
 w:World
 K:W.Frag
 mg:Str->Option Value
 base:Heap
 A:Around
 N:List Str
 s₀:Shared
 H₀:Hp
 env:Env
 outer:List Env
 stack:List Env
 ex:List Addr
 fn:Str->Bool
 calm:Bool
 pn:List (Addr×Obj)
 xe:Value->Shared->Prop
def frs (l:List Env):List Addr:=l.filterMap (·.frame)
abbrev Cx.fs (X:Cx):List Addr:=frs X.outer
def Vis (sc:Scope)(x:Str):Prop:=sc.names.lookup x=some .local\/sc.names.lookup x=some .cell\/sc.names.lookup x=some .free
def Loc (sc:Scope)(x:Str):Prop:=sc.names.lookup x=some .local\/sc.names.lookup x=some .cell
def Look (env:Env)(h:Heap)(m:Str->Option Value)(x:Str)(u:Value):Prop:=
 (env.kindOf x=some .local/\m x=some u)\/((env.kindOf x=some .cell\/env.kindOf x=some .free)/\∃ c,env.cells.lookup x=some c/\h.IsCell c (some u))
structure Cx.Ok (X:Cx):Prop where
 mod:Mod X.K X.mg X.base
 kind:X.env.scope.kind= .function
 glob:X.env.globals=mainGlobals
 blt:X.env.builtins=builtinsNs
 above:X.s₀.heap.objs.size<=X.env.locals
 inj:∀ x y c,X.env.cells.lookup x=some c->X.env.cells.lookup y=some c->x=y
 has:∀ x,(X.env.kindOf x=some .cell\/X.env.kindOf x=some .free)->∃ c,X.env.cells.lookup x=some c
 cab:∀ x c,X.fn x=true->X.env.cells.lookup x=some c->X.s₀.heap.objs.size<=c
 hd:X.calm=true->X.A.handled=none
 frames:X.A.frames=some X.stack
 stk:X.stack=X.outer\/(X.stack=X.env::X.outer/\X.env.frame=some X.env.locals)
 exf:∀ b∈X.ex,b≠X.env.locals/\∀ x c,X.env.cells.lookup x=some c->c≠b
 bs:∀ b o,X.base.get? b=some o->X.s₀.heap.get? b=some o/\X.H₀ b=none
 bsz:X.base.objs.size<=X.s₀.heap.objs.size
 noex:∀ b o,X.base.get? b=some o->b∉X.ex
 exfs:∀ b∈X.ex,b∉X.fs
 funs:X.s₀.heap.FunFrames X.base X.outer
 frf:∀ b∈X.fs,X.H₀ b=none
structure Inv (X:Cx)(pins:List (Addr×Obj))(σ:List (Option V))(H:Hp)(s:Shared):Prop where
 ok:X.Ok
 os:s.os=X.s₀.os
 bare:AllBare s.gens
 base:Un X.fs X.ex X.H₀ H X.s₀.heap s.heap
 loc:∃ m,s.heap.Ns X.env.locals m/\∀ (i:Nat) (x:Str) (v:V),X.N[i]?=some x->σ[i]?=some (some v)->Vis X.env.scope x->∃ u,RelV v u/\Look X.env s.heap m x u
 cell:∀ x c,X.env.cells.lookup x=some c->∃ v,s.heap.IsCell c v
 free:H X.env.locals=none
 freeC:∀ x c,X.env.cells.lookup x=some c->H c=none
 pin:∀ p∈X.pn++pins,s.heap.get? p.1=some p.2/\H p.1=none/\p.1≠X.env.locals/\p.1∉X.fs/\∀ v,p.2.data≠ .cell v
 hok:HOk X.prog X.w H s.heap
 len:σ.length=X.N.length
section
variable {X:Cx}{pins:List (Addr×Obj)}{σ:List (Option V)}{H H':Hp}{s:Shared}{h':Heap}
theorem Cx.Ok.nofr (ok:X.Ok){b:Addr}{o:Obj}(e:X.base.get? b=some o):b∉X.fs:=fun hb=>by
 have:=(ok.funs.mem hb).1
 rw[e] at this; cases this
theorem Inv.bs (I:Inv X pins σ H s):∀ b o,X.base.get? b=some o->s.heap.get? b=some o/\H b=none:=fun b o e=>
 ⟨I.base.keep b o (I.ok.bs b o e).1 (I.ok.bs b o e).2 (I.ok.nofr e) (I.ok.noex b o e),I.base.free b o (I.ok.bs b o e).1 (I.ok.bs b o e).2 (I.ok.noex b o e)⟩
theorem Inv.bk (I:Inv X pins σ H s):∀ b o,X.base.get? b=some o->s.heap.get? b=some o:=fun b o e=>(I.bs b o e).1
theorem Inv.mod (I:Inv X pins σ H s):Mod X.K X.mg X.base:=I.ok.mod
theorem Inv.kIn (I:Inv X pins σ H s):X.K.In s.heap:=I.ok.mod.kin.keeps I.bk
theorem Inv.lt (I:Inv X pins σ H s):X.env.locals<s.heap.objs.size:=let ⟨_,hn,_⟩:=I.loc; hn.lt
theorem Inv.sz (I:Inv X pins σ H s):X.s₀.heap.objs.size<=s.heap.objs.size:=bJ I.ok.above (dr I.lt)
theorem Inv.nofs (I:Inv X pins σ H s){a:Addr}(h:s.heap.objs.size<=a):a∉X.fs:=fun hb=>by
 obtain⟨_,o,ho,_⟩:=I.ok.funs.mem hb
 exact absurd (aR (ao ho) (bJ I.sz h)) (ce _)
theorem Inv.cne (I:Inv X pins σ H s):∀ x c,X.env.cells.lookup x=some c->c≠X.env.locals:=fun x c e z=>by
 obtain⟨v,o,ho,hd⟩:=I.cell x c e
 obtain⟨m,⟨o',es,ep,ho',hd',_⟩,_⟩:=I.loc
 rw[z,ho'] at ho; cases ho; rw[hd'] at hd; cases hd
theorem Inv.funs (I:Inv X pins σ H s):s.heap.FunFrames X.base X.outer:=by
 have all:∀ (l:List Env),(∀ b∈frs l,b∈X.fs)->X.s₀.heap.FunFrames X.base l->s.heap.FunFrames X.base l:=by
  intro l
  induction l with
  | nil=>intro _ _; trivial
  | cons env r ih=>
   intro hs hl
   obtain⟨hk,⟨L,o,hf,hn,ho,hd⟩,hr⟩:=hl
   have hL:L∈X.fs:=hs L (by unfold frs; rw[fo,hf]; exact aJ)
   obtain⟨sl,e⟩:=I.base.slot L o ho (I.ok.frf L hL) hL fun z=>I.ok.exfs L z hL
   exact⟨hk,⟨L,_,hf,hn,e,hd⟩,ih (fun b hb=>hs b (by unfold frs; rw[fo,hf]; exact aK _ hb)) hr⟩
 exact all X.outer (fun _ hb=>hb) I.ok.funs
theorem Inv.stack (I:Inv X pins σ H s):s.heap.FunFrames X.base X.stack:=by
 rcases I.ok.stk with e | ⟨e,hf⟩
 ·rw[e]; exact I.funs
 ·rw[e]
  obtain⟨m,hn,_⟩:=I.loc
  refine .cons (by rw[I.ok.kind]; decide) hf hn ?_ I.funs
  exact Heap.get?_none_of_le (bJ I.ok.bsz I.ok.above)
theorem Inv.stkSub (I:Inv X pins σ H s):∀ b∈frs X.stack,b∈X.env.locals::X.fs:=fun b hb=>by
 rcases I.ok.stk with e | ⟨e,hf⟩
 ·rw[e] at hb; exact aK _ hb
 ·rw[e] at hb
  unfold frs at hb
  rw[fo,hf] at hb
  exact hb
theorem Inv.stkFree (I:Inv X pins σ H s):∀ b∈frs X.stack,H b=none:=fun b hb=>by
 rcases aF.mp (I.stkSub b hb) with e | hb
 ·rw[e]; exact I.free
 ·obtain⟨_,o,ho,_⟩:=I.ok.funs.mem hb
  exact I.base.free b o ho (I.ok.frf b hb) fun z=>I.ok.exfs b z hb
theorem Inv.step {g':Array GenState}{t':Nat}{d':Drawn}{ch:List Addr}(I:Inv X pins σ H s)
  (hch:∀ b∈ch,(b∈X.ex\/X.s₀.heap.objs.size<=b)/\b≠X.env.locals/\(∀ x c,X.env.cells.lookup x=some c->c≠b)/\∀ p∈X.pn++pins,p.1≠b)
  (keep:∀ b o,b≠X.env.locals->b∉X.fs->b∉ch->s.heap.get? b=some o->H b=none->h'.get? b=some o)
  (slot:∀ b o,b≠X.env.locals->b∈X.fs->b∉ch->s.heap.get? b=some o->H b=none->∃ sl,h'.get? b=some { o with slots:=sl}) (free:∀ b o,b∉ch->s.heap.get? b=some o->H b=none->H' b=none)
  (there:∀ b o,b∉ch->s.heap.get? b=some o->∃ o',h'.get? b=some o')
  (tups:∀ b xs,H b=some (.tup xs)->H' b=some (.tup xs)) (frzs:∀ b o u,H b=some (.frz o u)->H' b=some (.frz o u)) (tbls:∀ b ps,H b=some (.tbl ps)->∃ more,H' b=some (.tbl (ps++more)))
  (ns:∀ m,s.heap.Ns X.env.locals m->h'.Ns X.env.locals m) (hok:HOk X.prog X.w H' h') (hg:AllBare g'):
  Inv X pins σ H' { s with heap:=h',gens:=g',drawn:=d',toks:=t'} :=by
 have neL:∀ b o,X.s₀.heap.get? b=some o->b≠X.env.locals:=fun b o e=>aO (aR (ao e) I.ok.above)
 have neC:∀ b o,X.s₀.heap.get? b=some o->b∉X.ex->b∉ch:=fun b o e hx hb=>by
  rcases (hch b hb).1 with z | z
  ·exact hx z
  ·exact absurd (aR (ao e) z) (ce _)
 have cellK:∀ x c,X.env.cells.lookup x=some c->∀ v,s.heap.IsCell c v->h'.IsCell c v:=fun x c e v ⟨o,ho,hd⟩=>by
  have nch:c∉ch:=fun z=>(hch c z).2.2.1 x c e rfl
  by_cases hc:c∈X.fs
  ·obtain⟨sl,q⟩:=slot c o (I.cne x c e) hc nch ho (I.freeC x c e)
   exact⟨_,q,hd⟩
  ·exact⟨o,keep c o (I.cne x c e) hc nch ho (I.freeC x c e),hd⟩
 refine⟨I.ok,I.os,hg,⟨fun b o e n hb hx=>?_,fun b o e n hb hx=>?_,fun b o e n hx=>?_,fun b o e hx=>?_,fun b xs e=>tups b xs (I.base.tups b xs e),fun b o xs e=>frzs b o xs (I.base.frzs b o xs e),fun b ps e=>?_⟩,?_,fun x c e=>?_,?_,fun x c e=>?_,fun p hp=>?_,hok,I.len⟩
 ·exact keep b o (neL b o e) hb (neC b o e hx) (I.base.keep b o e n hb hx) (I.base.free b o e n hx)
 ·obtain⟨sl,e1⟩:=I.base.slot b o e n hb hx
  obtain⟨sl',e2⟩:=slot b _ (neL b o e) hb (neC b o e hx) e1 (I.base.free b o e n hx)
  exact⟨sl',e2⟩
 ·obtain⟨o',e1⟩:=I.base.there b o e hx
  exact free b o' (neC b o e hx) e1 (I.base.free b o e n hx)
 ·obtain⟨o',e1⟩:=I.base.there b o e hx
  exact there b o' (neC b o e hx) e1
 ·obtain⟨m1,e1⟩:=I.base.tbls b ps e
  obtain⟨m2,e2⟩:=tbls b _ e1
  exact⟨m1++m2,by rw[e2,Array.append_assoc]⟩
 ·obtain⟨m,hn,hl⟩:=I.loc
  refine⟨m,ns m hn,fun i x v e1 e2 e3=>?_⟩
  obtain⟨u,r,l⟩:=hl i x v e1 e2 e3
  refine⟨u,r,?_⟩
  rcases l with l | ⟨k,c,e,z⟩
  ·exact .inl l
  ·exact .inr ⟨k,c,e,cellK x c e _ z⟩
 ·obtain⟨v,z⟩:=I.cell x c e
  exact⟨v,cellK x c e v z⟩
 ·obtain⟨m,⟨o,_,_,ho,_⟩,_⟩:=I.loc
  exact free _ o (fun z=>(hch _ z).2.1 rfl) ho I.free
 ·obtain⟨v,o,ho,hd⟩:=I.cell x c e
  exact free c o (fun z=>(hch c z).2.2.1 x c e rfl) ho (I.freeC x c e)
 ·obtain⟨e,n,ne,nf,d⟩:=I.pin p hp
  have nch:p.1∉ch:=fun z=>(hch p.1 z).2.2.2 p hp rfl
  exact⟨keep p.1 p.2 ne nf nch e n,free p.1 p.2 nch e n,ne,nf,d⟩
theorem Inv.un {t':Nat}(I:Inv X pins σ H s)(u:Un X.fs [] H H' s.heap h')(hok:HOk X.prog X.w H' h'):Inv X pins σ H' { s with heap:=h',toks:=t'} :=by
 obtain⟨m,⟨o,es,ep,ho,r⟩,_⟩:=id I.loc
 obtain⟨sl,hL⟩:=u.any ho I.free (by simp)
 exact I.step (g':=s.gens) (d':=s.drawn) (ch:=[]) (fun _ z=>nomatch z) (fun b o _ hb _ e n=>u.keep b o e n hb (by simp)) (fun b o _ hb _ e n=>u.slot b o e n hb (by simp)) (fun b o _ e n=>u.free b o e n (by simp)) (fun b o _ e=>u.there b o e (by simp)) u.tups u.frzs u.tbls (fun m' hm=>by
  obtain⟨o',es',ep',ho',r'⟩:=hm
  rw[ho] at ho'; cases ho'
  exact⟨_,es',ep',hL,r'⟩) hok I.bare
theorem Inv.call {g':Array GenState}{t':Nat}{d':Drawn}{ch:List Addr}(I:Inv X pins σ H s)(u:Un (frs X.stack) ch H H' s.heap h')(hok:HOk X.prog X.w H' h')(hg:AllBare g')
  (hch:∀ b∈ch,(b∈X.ex\/X.s₀.heap.objs.size<=b)/\b≠X.env.locals/\(∀ x c,X.env.cells.lookup x=some c->c≠b)/\∀ p∈X.pn++pins,p.1≠b):
  Inv X pins σ H' { s with heap:=h',gens:=g',drawn:=d',toks:=t'} :=by
 obtain⟨m,⟨o,es,ep,ho,r⟩,_⟩:=id I.loc
 obtain⟨sl,hL⟩:=u.any ho I.free fun z=>(hch _ z).2.1 rfl
 exact I.step (ch:=ch) hch (fun b o hL hb hc e n=>u.keep b o e n (fun z=>(aF.mp (I.stkSub b z)).elim hL hb) hc) (fun b o _ _ hc e n=>u.any e n hc) (fun b o hc e n=>u.free b o e n hc) (fun b o hc e=>u.there b o e hc) u.tups u.frzs u.tbls (fun m' hm=>by
  obtain⟨o',es',ep',ho',r'⟩:=hm
  rw[ho] at ho'; cases ho'
  exact⟨_,es',ep',hL,r'⟩) hok hg
theorem Inv.turned {t':Nat}{it:Addr}(I:Inv X pins σ H s)(k:∀ b o,b≠it->s.heap.get? b=some o->h'.get? b=some o)(hn:H it=none)(hL:it≠X.env.locals)
  (h1:it∈X.ex\/X.s₀.heap.objs.size<=it) (h2:∀ x c,X.env.cells.lookup x=some c->c≠it) (h3:∀ p∈X.pn++pins,p.1≠it):Inv X pins σ H { s with heap:=h',toks:=t'} :=by
 have nit:∀ b u,H b=some u->b≠it:=fun b u e z=>by rw[z,hn] at e; cases e
 refine I.step (g':=s.gens) (d':=s.drawn) (ch:=[it]) (fun b hb=>?_) (fun b o _ _ hc e _=>k b o (fun z=>hc (by simp [z])) e) (fun b o _ _ hc e _=>⟨o.slots,k b o (fun z=>hc (by simp [z])) e⟩) (fun _ _ _ _ n=>n)
  (fun b o hc e=>⟨o,k b o (fun z=>hc (by simp [z])) e⟩) (fun _ _ e=>e) (fun _ _ _ e=>e) (fun b ps e=>⟨#[],by rw[e]; simp⟩) (fun m hm=>?_) (fun b u e=>?_) I.bare
 ·have e:b=it:=by simpa using hb
  subst e
  exact⟨h1,hL,h2,h3⟩
 ·obtain⟨o,es,ep,ho,r⟩:=hm
  exact⟨o,es,ep,k _ o (dv hL) ho,r⟩
 ·refine(I.hok b u e).stay (fun c v hc q=>k c v ?_ q) (fun _ q=>q) fun _ _ q=>q
  rcases hc with z | z
  ·rw[z]; exact nit b u e
  ·exact nit c _ z
theorem Inv.tok (I:Inv X pins σ H s)(t:Nat):Inv X pins σ H { s with toks:=t} :=I.un (h':=s.heap) (t':=t) Un.refl I.hok
theorem Inv.kept {t':Nat}(I:Inv X pins σ H s)(k:∀ b u,s.heap.get? b=some u->h'.get? b=some u):Inv X pins σ H { s with heap:=h',toks:=t'} :=I.un (Un.kept k) (I.hok.kept k)
theorem Inv.laid {a:Addr}{o:HO}{t':Nat}(I:Inv X pins σ H s)(k:∀ b u,s.heap.get? b=some u->h'.get? b=some u)(hp:s.heap.objs.size<=a)(new:ObjOk X.prog X.w (upd H a o) h' a o):
  Inv X pins σ (upd H a o) { s with heap:=h',toks:=t'} :=I.un (Un.laid k hp (I.hok.fresh hp)) (I.hok.laid k hp new)
theorem Inv.write {x e:Addr}{o:HO}{t':Nat}(I:Inv X pins σ H s)(mu:Mut (H x))(he:e=x\/H e=some (.own x))(k:∀ b u,b≠e->s.heap.get? b=some u->h'.get? b=some u)(heo:∃ u,h'.get? e=some u)
  (new:ObjOk X.prog X.w (upd H x o) h' x o):Inv X pins σ (upd H x o) { s with heap:=h',toks:=t'} :=I.un (Un.write mu he k heo) (I.hok.write mu he k heo new)
theorem Inv.pins_of {pins':List (Addr×Obj)}(I:Inv X pins σ H s)(h:∀ p∈pins',s.heap.get? p.1=some p.2/\H p.1=none/\p.1≠X.env.locals/\p.1∉X.fs/\∀ v,p.2.data≠ .cell v):Inv X pins' σ H s:=
 ⟨I.ok,I.os,I.bare,I.base,I.loc,I.cell,I.free,I.freeC,fun p hp=>(aI.mp hp).elim (fun z=>I.pin p (aQ _ z)) (h p),I.hok,I.len⟩
theorem jHP {N:List Str}(hN:N.Nodup){i j:Nat}{x:Str}(a:N[i]?=some x)(b:N[j]?=some x):i=j:=by
 obtain⟨h1,e1⟩:=ah.mp a
 obtain⟨h2,e2⟩:=ah.mp b
 exact(List.getElem_inj hN).mp (e1.trans e2.symm)
theorem jFD {M:Model}{A:Around}{E:Value->Shared->Prop}{i:Nat}{x:Str}{v:V}{u:Value}{Q:Unit->Shared->Prop}(I:Inv X pins σ H s)(hN:X.N.Nodup)(hi:X.N[i]?=some x)(hx:Loc X.env.scope x)(r:RelV v u)
  (h:∀ s',Inv X pins (σ.set i (some v)) H s'->(∃ a,Heap.SameBut a s.heap s'.heap/\(a=X.env.locals\/X.env.cells.lookup x=some a))->Q () s') (hf:X.fn x=true\/X.env.scope.names.lookup x=some .local:=by first | exact .inl rfl | exact .inr rfl | assumption):wpAny M A (storeName X.env x u) Q E s:=by
 obtain⟨m,hn,hl⟩:=id I.loc
 have hcls:(X.env.scope.kind== .class || (X.env.scope.kind== .module&&X.env.locals != X.env.globals))=false:=by rw[I.ok.kind]; rfl
 have hiσ:i<σ.length:=by rw[I.len]; exact(ah.mp hi).1
 have cne:=I.cne
 have tracked:∀ {a:Addr}{h':Heap},(∃ o,s.heap.get? a=some o/\H a=none)->Heap.SameBut a s.heap h'->HOk X.prog X.w H h':=fun {a h'} ha hs b ob e=>by
  obtain⟨_,_,hfree⟩:=ha
  refine(I.hok b ob e).stay (fun c w' hc q=>(hs.2 c ?_).trans q) (fun _ q=>q) fun _ _ q=>q
  rintro rfl
  rcases hc with rfl | hc
  ·rw[hfree] at e; cases e
  ·rw[hfree] at hc; cases hc
 rcases hx with hk | hk
 ·refine wpAny_storeName_local hk hn (fun h' hn' hs=>?_) hcls
  obtain⟨oL,_,_,hoL,_⟩:=id hn
  refine h _ ⟨I.ok,I.os,I.bare,⟨fun b o e n hb hx=>?_,fun b o e n hb hx=>?_,I.base.free,fun b o e hx=>?_,I.base.tups,I.base.frzs,I.base.tbls⟩,⟨_,hn',fun j y v' e1 e2 e3=>?_⟩,fun y c e=>?_,I.free,I.freeC,fun p hp=>?_,tracked ⟨oL,hoL,I.free⟩ hs,by simpa using I.len⟩ ⟨_,hs, .inl rfl⟩
  ·exact(hs.2 b (aO (aR (ao e) I.ok.above))).trans (I.base.keep b o e n hb hx)
  ·obtain⟨sl,e1⟩:=I.base.slot b o e n hb hx
   exact⟨sl,(hs.2 b (aO (aR (ao e) I.ok.above))).trans e1⟩
  ·obtain⟨o',e1⟩:=I.base.there b o e hx
   exact⟨o',(hs.2 b (aO (aR (ao e) I.ok.above))).trans e1⟩
  ·by_cases hj:j=i
   ·subst hj
    rw[hi] at e1; cases e1
    rw[gE hiσ] at e2
    cases e2
    exact⟨u,r, .inl ⟨hk,by simp⟩⟩
   ·rw[gS (dv hj)] at e2
    obtain⟨u',r',q⟩:=hl j y v' e1 e2 e3
    refine⟨u',r',?_⟩
    rcases q with ⟨k,e⟩ | ⟨k,c,e,z⟩
    ·refine .inl ⟨k,?_⟩
     have:y≠x:=fun e=>hj (jHP hN e1 (e ▸ hi))
     simp [this,e]
    ·exact .inr ⟨k,c,e,z.sameBut hs (cne y c e)⟩
  ·obtain⟨w',z⟩:=I.cell y c e
   exact⟨w',z.sameBut hs (cne y c e)⟩
  ·obtain⟨e,n,ne,nf,d⟩:=I.pin p hp
   exact⟨(hs.2 p.1 ne).trans e,n,ne,nf,d⟩
 ·have hfn:X.fn x=true:=by
   rcases hf with z | z
   ·exact z
   ·rw[z] at hk; cases hk
  obtain⟨c,hc⟩:=I.ok.has x (.inl hk)
  obtain⟨w',z⟩:=I.cell x c hc
  refine wpAny_storeName_cell I.ok.kind hk hc z (fun h' hc' hs=>?_)
  obtain⟨oc,hoc,hocd⟩:=id z
  refine h { s with heap:=h'} ⟨I.ok,I.os,I.bare,⟨fun b o e n hb hx=>?_,fun b o e n hb hx=>?_,I.base.free,fun b o e hx=>?_,I.base.tups,I.base.frzs,I.base.tbls⟩,⟨m,hn.sameBut hs (dv (cne x c hc)),fun j y v' e1 e2 e3=>?_⟩,fun y c' e=>?_,I.free,I.freeC,fun p hp=>?_,tracked ⟨oc,hoc,I.freeC x c hc⟩ hs,by simpa using I.len⟩ ⟨c,hs, .inr hc⟩
  ·exact(hs.2 b (aO (aR (ao e) (I.ok.cab x c hfn hc)))).trans (I.base.keep b o e n hb hx)
  ·obtain⟨sl,e1⟩:=I.base.slot b o e n hb hx
   exact⟨sl,(hs.2 b (aO (aR (ao e) (I.ok.cab x c hfn hc)))).trans e1⟩
  ·obtain⟨o',e1⟩:=I.base.there b o e hx
   exact⟨o',(hs.2 b (aO (aR (ao e) (I.ok.cab x c hfn hc)))).trans e1⟩
  ·by_cases hj:j=i
   ·subst hj
    rw[hi] at e1; cases e1
    rw[gE hiσ] at e2
    cases e2
    exact⟨u,r, .inr ⟨.inl hk,c,hc,hc'⟩⟩
   ·rw[gS (dv hj)] at e2
    obtain⟨u',r',q⟩:=hl j y v' e1 e2 e3
    refine⟨u',r',?_⟩
    rcases q with q | ⟨k,c',e,z'⟩
    ·exact .inl q
    ·refine .inr ⟨k,c',e,z'.sameBut hs ?_⟩
     rintro rfl
     exact hj (jHP hN e1 (I.ok.inj _ _ _ e hc ▸ hi))
  ·by_cases hcc:c'=c
   ·subst hcc; exact⟨_,hc'⟩
   ·obtain⟨w2,z2⟩:=I.cell y c' e
    exact⟨w2,z2.sameBut hs hcc⟩
  ·obtain⟨e,n,ne,nf,d⟩:=I.pin p hp
   refine⟨(hs.2 p.1 ?_).trans e,n,ne,nf,d⟩
   intro q
   rw[q,hoc] at e
   have q':oc=p.2:=bx e
   exact d w' (by rw[<- q']; exact hocd)
theorem jEG {M:Model}{A:Around}{E:Value->Shared->Prop}{i:Nat}{x:Str}{v:V}{u:Value}{Q:Unit->Shared->Prop}(I:Inv X pins σ H s)(hN:X.N.Nodup)(hi:X.N[i]?=some x)(hx:Loc X.env.scope x)(r:RelV v u)
  (h:∀ s',Inv X pins (σ.set i (some v)) H s'->Q () s') (hf:X.fn x=true\/X.env.scope.names.lookup x=some .local:=by first | exact .inl rfl | exact .inr rfl | assumption):wpAny M A (storeName X.env x u) Q E s:=
 jFD I hN hi hx r (fun s' I' _=>h s' I') hf
theorem Inv.call' {s':Shared}{ch:List Addr}(I:Inv X pins σ H s)(ho:s'.os=s.os)(u:Un (frs X.stack) ch H H' s.heap s'.heap)(hok:HOk X.prog X.w H' s'.heap)(hg:AllBare s'.gens)
  (hch:∀ b∈ch,(b∈X.ex\/X.s₀.heap.objs.size<=b)/\b≠X.env.locals/\(∀ x c,X.env.cells.lookup x=some c->c≠b)/\∀ p∈X.pn++pins,p.1≠b):Inv X pins σ H' s':=by
 obtain⟨h',g',d',t',o'⟩:=s'
 have e:o'=s.os:=ho
 subst e
 exact I.call (g':=g') (t':=t') (d':=d') u hok hg hch
end
abbrev XK:=Value->Option Addr->Hp->Prop
abbrev St:=List (Option V)
abbrev VK:=V->Hp->Prop
abbrev TE:=St->Hp->VK->Prop
abbrev TT:=St->Hp->(Bool->Hp->Prop)->Prop
abbrev TA:=St->Hp->(List V->Hp->Prop)->Prop
structure Ends where
 nx:St->Hp->Prop
 rt:VK
 bk:St->Hp->Prop:=fun _ _=>False
 ct:St->Hp->Prop:=fun _ _=>False
abbrev TS:=Ends->St->Hp->Prop
def EP (X:Cx)(pins:List (Addr×Obj))(σ:St)(Q:VK)(u:Value)(s':Shared):Prop:=∃ v H',Inv X pins σ H' s'/\RelV v u/\Q v H'
def TP (X:Cx)(pins:List (Addr×Obj))(σ:St)(Q:Bool->Hp->Prop)(b:Bool)(s':Shared):Prop:=∃ H',Inv X pins σ H' s'/\Q b H'
def AP (X:Cx)(pins:List (Addr×Obj))(σ:St)(Q:List V->Hp->Prop)(us:List Value)(s':Shared):Prop:=∃ vs H',Inv X pins σ H' s'/\Vals vs us/\Q vs H'
def SP (X:Cx)(pins:List (Addr×Obj))(D:Ends)(f:Flow)(s':Shared):Prop:=
 match f with
 | .next=>∃ σ' H',Inv X pins σ' H' s'/\D.nx σ' H'
 | .brk=>∃ σ' H',Inv X pins σ' H' s'/\D.bk σ' H'
 | .cont=>∃ σ' H',Inv X pins σ' H' s'/\D.ct σ' H'
 | .ret u=>∃ v σ' H',Inv X pins σ' H' s'/\RelV v u/\D.rt v H'
def PE (X:Cx)(e:Expr)(t:TE):Prop:=
 ∀ (pins:List (Addr×Obj)) (s:Shared) (σ:St) (H:Hp) (Q:VK),Inv X pins σ H s->t σ H Q->wpAny (model X.prog X.w) X.A (eval e X.env) (EP X pins σ Q) X.xe s
def PT (X:Cx)(e:Expr)(t:TT):Prop:=
 ∀ (pins:List (Addr×Obj)) (s:Shared) (σ:St) (H:Hp) (Q:Bool->Hp->Prop),Inv X pins σ H s->t σ H Q->wpAny (model X.prog X.w) X.A (isTrue e X.env (eval e X.env)) (TP X pins σ Q) X.xe s
def PW (X:Cx)(e:Expr)(t:TT):Prop:=
 ∀ (whole:Sem Value) (pins:List (Addr×Obj)) (s:Shared) (σ:St) (H:Hp) (Q:Bool->Hp->Prop),Inv X pins σ H s->t σ H Q->wpAny (model X.prog X.w) X.A (isTrue e X.env whole) (TP X pins σ Q) X.xe s
theorem PW.pt {X:Cx}{e:Expr}{t:TT}(h:PW X e t):PT X e t:=h _
def PA (X:Cx)(es:List Expr)(t:TA):Prop:=
 ∀ (pos:Pos) (pins:List (Addr×Obj)) (s:Shared) (σ:St) (H:Hp) (Q:List V->Hp->Prop),Inv X pins σ H s->t σ H Q->wpAny (model X.prog X.w) X.A (spliced (backTo pos (starEach es X.env))) (AP X pins σ Q) X.xe s
def PS (X:Cx)(st:Stmt)(t:TS):Prop:=
 ∀ (pins:List (Addr×Obj)) (s:Shared) (σ:St) (H:Hp) (D:Ends),Inv X pins σ H s->t D σ H->wpAny (model X.prog X.w) X.A (exec st X.env) (SP X pins D) X.xe s
def PSs (X:Cx)(st:List Stmt)(t:TS):Prop:=
 ∀ (pins:List (Addr×Obj)) (s:Shared) (σ:St) (H:Hp) (D:Ends),Inv X pins σ H s->t D σ H->wpAny (model X.prog X.w) X.A (execs st X.env) (SP X pins D) X.xe s
theorem thn {α:Type}{t:Sem α}{Q Q':α->Shared->Prop}{M:Model}{A:Around}{E:Value->Shared->Prop}{s:Shared}(h:wpAny M A t Q E s)(hQ:∀ a s,Q a s->Q' a s):wpAny M A t Q' E s:=bU h hQ fun _ _ x=>x
end L2
namespace L2
open PySem PySem.Spec PyProof.Rows
section
variable {X:Cx}
def tVar (i:Nat):TE:=fun σ H Q=>∃ v,σ[i]?=some (some v)/\Q v H
def tC (v:V):TE:=fun _ H Q=>Q v H
theorem jJW {i:Nat}{x:Str}{pos:Pos}(hN:X.N[i]?=some x)(hv:Vis X.env.scope x)(hd:(x==("__debug__" :Str))=false:=by decide)(hcd:(x==("__classdict__" :Str))=false:=by decide):PE X (.Name x pos) (tVar i):=by
 intro pins s σ H Q I h
 obtain⟨v,e,h⟩:=h
 obtain⟨m,hn,hl⟩:=I.loc
 obtain⟨u,r,l⟩:=hl i x v hN e hv
 have fin:EP X pins σ Q u s:=⟨v,H,I,r,h⟩
 rcases l with ⟨hk,hm⟩ | ⟨hk,c,hc,hcell⟩
 ·exact wpAny_Name (wpAny_loadName_local I.ok.kind hk hn hm fin) hd
 ·rcases hk with hk | hk
  ·exact wpAny_Name (wpAny_loadName_cell I.ok.kind hk hc hcell fin) hd
  ·exact wpAny_Name (wpAny_loadName_free I.ok.kind hk hc hcell fin hcd) hd
theorem jM {i j pos} :PE X (.Constant (.int i) j pos) (tC (.int i)):=fun _ _ _ H _ I h=>wpAny_Constant_int ⟨.int i,H,I.tok _,⟨_,rfl⟩,h⟩
theorem pe_bl {b j pos} :PE X (.Constant (.bool b) j pos) (tC (.bl b)):=fun _ _ _ H _ I h=>Constant_bool ⟨.bl b,H,I,rfl,h⟩
theorem jQZ {j pos} :PE X (.Constant .none j pos) (tC .non):=fun _ _ _ H _ I h=>Constant_none ⟨.non,H,I,rfl,h⟩
def Gl (X:Cx)(x:Str):Prop:=X.env.kindOf x=some .globalImplicit
theorem jPI {E:Value->Shared->Prop}{pins:List (Addr×Obj)}{s:Shared}{σ:St}{H:Hp}{x:Str}{u:Value}{pos:Pos}{Q:Value->Shared->Prop}(I:Inv X pins σ H s)(hg:Gl X x)(hm:X.mg x=some u)(h:Q u s)
  (hd:(x==("__debug__" :Str))=false:=by decide):wpAny (model X.prog X.w) X.A (eval (.Name x pos) X.env) Q E s:=
 fN I.ok.kind hg (Calls.loadGlobal_global (by rw[I.ok.glob]; exact I.mod.glob.keeps I.bk) hm h) hd
theorem jCM {E:Value->Shared->Prop}{pins:List (Addr×Obj)}{s:Shared}{σ:St}{H:Hp}{x:Str}{u:Value}{pos:Pos}{Q:Value->Shared->Prop}(I:Inv X pins σ H s)(hg:Gl X x)(hm:X.mg x=none)(hv:bootBuiltins x=some u)(h:Q u s)
  (hn:x≠ "__name__" :=by decide) (hd:(x==("__debug__" :Str))=false:=by decide):wpAny (model X.prog X.w) X.A (eval (.Name x pos) X.env) Q E s:=by
 obtain⟨mb,h1,h2⟩:=I.mod.blt
 exact fN I.ok.kind hg (Calls.loadGlobal_builtin (by rw[I.ok.glob]; exact I.mod.glob.keeps I.bk) hm (by rw[I.ok.blt]; exact h1.keeps I.bk) ((h2 x hn).trans hv) h) hd
theorem jOY {x:Str}{v:V}{u:Value}{pos:Pos}(hg:Gl X x)(hm:X.mg x=none)(hv:bootBuiltins x=some u)(r:RelV v u)(hn:x≠ "__name__" :=by decide)(hd:(x==("__debug__" :Str))=false:=by decide):PE X (.Name x pos) (tC v):=
 fun _ _ _ H _ I h=>jCM I hg hm hv ⟨v,H,I,r,h⟩ hn hd
variable {a b:Expr}{ta tb:TE}{pos:Pos}
def PC (X:Cx)(op:CmpOp)(a b:Expr)(t:TE):Prop:=
 ∀ (pins:List (Addr×Obj)) (s:Shared) (σ:St) (H:Hp) (Q:VK),Inv X pins σ H s->t σ H Q->
  wpAny (model X.prog X.w) X.A (eval a X.env) (fun v s₁=>wpAny (model X.prog X.w) X.A (eval b X.env) (fun u s₂=>wpAny (model X.prog X.w) X.A (compareOp op v u) (EP X pins σ Q) X.xe s₂) X.xe s₁) X.xe s
def tB (t:TE):TT:=fun σ H Q=>t σ H fun x H1=>∃ c,x= .bl c/\Q c H1
theorem jR0 {op:CmpOp}{t:TE}(h:PC X op a b t)(h1:behindInMarks op b=false:=by first | exact nobehind _ (by decide) (by decide) | rfl):PE X (.Compare a [op] [b] pos) t:=fun pins s σ H Q I hw=>wpAny_Compare1 (h pins s σ H Q I hw) h1
theorem jNH {op:CmpOp}{t:TE}(h:PC X op a b t)(h1:behindInMarks op b=false:=by first | exact nobehind _ (by decide) (by decide) | rfl):PT X (.Compare a [op] [b] pos) (tB t):=by
 intro pins s σ H Q I hw
 refine wpAny_isTrue_Compare1 (thn (h pins s σ H _ I hw) fun v s1 h1=>thn h1 fun u s2 h2=>thn h2 fun c s3 ⟨x,H1,I1,r1,q1⟩=>?_) h1
 obtain⟨d,rfl,q⟩:=q1
 cases r1
 exact cJ ⟨H1,I1,q⟩
theorem jQN {e:Expr}{t:TE}(h:PE X e t)(he:∀ whole,isTrue e X.env whole=(do let v <- whole; standAt e.pos; holding [v] (truthy v)):=by intro _; rfl):PT X e (tB t):=by
 intro pins s σ H Q I hw
 refine isTrue_plain (thn (h pins s σ H _ I hw) fun v s1 ⟨x,H1,I1,r1,q1⟩=>?_) (he _)
 obtain⟨d,rfl,q⟩:=q1
 cases r1
 exact cJ ⟨H1,I1,q⟩
variable {tA tB':TT}{rest:List Expr}
def tAnd (t u:TT):TT:=fun σ H Q=>t σ H fun c H1=>if c=true then u σ H1 Q else Q false H1
def tOr (t u:TT):TT:=fun σ H Q=>t σ H fun c H1=>if c=true then Q true H1 else u σ H1 Q
def tNot (t:TT):TT:=fun σ H Q=>t σ H fun c H1=>Q (!c) H1
theorem jOE (ha:PT X a tA):PW X (.BoolOp .And [a] pos) tA:=by
 intro wh pins s σ H Q I h
 refine isTrue_and (thn (ha pins s σ H Q I h) fun c s1 e=>?_)
 cases c with
 | true=>exact isTrue_and_nil e
 | false=>exact e
theorem jQL (ha:PT X a tA):PW X (.BoolOp .Or [a] pos) tA:=by
 intro wh pins s σ H Q I h
 refine isTrue_or (thn (ha pins s σ H Q I h) fun c s1 e=>?_)
 cases c with
 | false=>exact isTrue_or_nil e
 | true=>exact e
theorem jQM (ha:PT X a tA)(hb:PW X (.BoolOp .And (b::rest) pos) tB'):PW X (.BoolOp .And (a::b::rest) pos) (tAnd tA tB'):=by
 intro wh pins s σ H Q I h
 refine isTrue_and (thn (ha pins s σ H _ I h) fun c s1 ⟨H1,I1,q1⟩=>?_)
 cases c with
 | true=>exact hb wh pins s1 σ H1 Q I1 q1
 | false=>exact⟨H1,I1,q1⟩
theorem pw_or (ha:PT X a tA)(hb:PW X (.BoolOp .Or (b::rest) pos) tB'):PW X (.BoolOp .Or (a::b::rest) pos) (tOr tA tB'):=by
 intro wh pins s σ H Q I h
 refine isTrue_or (thn (ha pins s σ H _ I h) fun c s1 ⟨H1,I1,q1⟩=>?_)
 cases c with
 | true=>exact⟨H1,I1,q1⟩
 | false=>exact hb wh pins s1 σ H1 Q I1 q1
theorem jQO (ha:PT X a tA):PT X (.UnaryOp .Not a pos) (tNot tA):=by
 intro pins s σ H Q I h
 exact isTrue_not (ha pins s σ H (fun c H1=>Q (!c) H1) I h)
def tAndV (ta tb:TE):TE:=fun σ H Q=>ta σ H fun x H1=>∃ c,x= .bl c/\if c=true then tb σ H1 Q else Q (.bl false) H1
def tOrV (ta tb:TE):TE:=fun σ H Q=>ta σ H fun x H1=>∃ c,x= .bl c/\if c=true then Q (.bl true) H1 else tb σ H1 Q
def tNotV (ta:TE):TE:=fun σ H Q=>ta σ H fun x H1=>∃ c,x= .bl c/\Q (.bl (!c)) H1
theorem jQX {op}{t:TE}(h:PE X a t):PE X (.BoolOp op [a] pos) t:=fun pins s σ H Q I hw=>BoolOp_one (h pins s σ H Q I hw)
theorem jR3 (ha:PE X a ta)(hb:PE X (.BoolOp .And (b::rest) pos) tb):PE X (.BoolOp .And (a::b::rest) pos) (tAndV ta tb):=by
 intro pins s σ H Q I h
 refine BoolOp_and (thn (ha pins s σ H _ I h) fun v s1 ⟨x,H1,I1,r1,q1⟩=>?_)
 obtain⟨c,rfl,q1⟩:=q1
 cases r1
 refine cJ ?_
 cases c with
 | true=>exact hb pins s1 σ H1 Q I1 q1
 | false=>exact⟨.bl false,H1,I1,rfl,q1⟩
theorem pe_or (ha:PE X a ta)(hb:PE X (.BoolOp .Or (b::rest) pos) tb):PE X (.BoolOp .Or (a::b::rest) pos) (tOrV ta tb):=by
 intro pins s σ H Q I h
 refine BoolOp_or (thn (ha pins s σ H _ I h) fun v s1 ⟨x,H1,I1,r1,q1⟩=>?_)
 obtain⟨c,rfl,q1⟩:=q1
 cases r1
 refine cJ ?_
 cases c with
 | false=>exact hb pins s1 σ H1 Q I1 q1
 | true=>exact⟨.bl true,H1,I1,rfl,q1⟩
theorem jQY (ha:PE X a ta):PE X (.UnaryOp .Not a pos) (tNotV ta):=by
 intro pins s σ H Q I h
 refine UnaryOp_ (thn (ha pins s σ H _ I h) fun v s1 ⟨x,H1,I1,r1,q1⟩=>?_)
 obtain⟨c,rfl,q1⟩:=q1
 cases r1
 exact not_of (cJ ⟨.bl (!c),H1,I1,rfl,q1⟩)
def tIf (t:TT)(ta tb:TE):TE:=fun σ H Q=>t σ H fun c H1=>if c=true then ta σ H1 Q else tb σ H1 Q
theorem jM4 {c:Expr}(hc:PT X c tA)(ha:PE X a ta)(hb:PE X b tb):PE X (.IfExp c a b pos) (tIf tA ta tb):=by
 intro pins s σ H Q I h
 refine wpAny_IfExp (thn (hc pins s σ H _ I h) fun d s1 ⟨H1,I1,q1⟩=>?_)
 cases d with
 | true=>exact ha pins s1 σ H1 Q I1 q1
 | false=>exact hb pins s1 σ H1 Q I1 q1
end
end L2
namespace L2
open PySem PySem.Spec PyProof.Rows
def SqL (K:W.Frag)(H:Hp)(a:Addr)(xs:List V):Prop:=
 Rd H a (.lst xs)\/
  ∃ (o:Obj) (its:Array Value) (n:Nat),K.lookup a=some o/\o.cls= .type "list" /\o.dict=none/\o.data= .seq its n/\its.size<=sizeLine/\Vals xs its.toList
def SqT (K:W.Frag)(H:Hp)(a:Addr)(xs:List V):Prop:=
 Rd H a (.tup xs)\/
  ∃ (o:Obj) (its:Array Value) (n:Nat),K.lookup a=some o/\o.cls= .type "tuple" /\o.data= .seq its n/\its.size<=sizeLine/\Vals xs its.toList
noncomputable def absV:Value->Option V
 | .none=>some .non
 | .bool b=>some (.bl b)
 | .int i _=>some (.int i)
 | .str x _=>some (.str x)
 | .bytes b _=>some (.byt b)
 | .float b _=>some (.flt b)
 | .ref a=>some (.ref a)
 | .type n=>some (.ty n)
 | _=>none
theorem RelV.abs {x:V}{u:Value}(r:RelV x u):absV u=some x:=by
 cases x with
 | non=>cases r; rfl
 | bl _=>cases r; rfl
 | int _=>obtain⟨t,rfl⟩:=r; rfl
 | str _=>obtain⟨t,rfl⟩:=r; rfl
 | byt _=>obtain⟨t,rfl⟩:=r; rfl
 | flt _=>obtain⟨t,rfl⟩:=r; rfl
 | ref _=>cases r; rfl
 | ty _=>cases r; rfl
theorem RelV.inj {x y:V}{u:Value}(r:RelV x u)(q:RelV y u):x=y:=bx (r.abs.symm.trans q.abs)
theorem Vals.inj:∀ {xs ys:List V}{us:List Value},Vals xs us->Vals ys us->xs=ys
 | _,_,_, .nil, .nil=>rfl
 | _,_,_, .cons r t, .cons r' t'=>by rw[r.inj r',Vals.inj t t']
section
variable {X:Cx}{pins:List (Addr×Obj)}{σ:St}{H:Hp}{s:Shared}{a:Addr}{xs ys:List V}
theorem SqL.of {K:W.Frag}(h:H a=some (.lst xs)):SqL K H a xs:= .inl (.inl h)
theorem SqT.of {K:W.Frag}(h:H a=some (.tup xs)):SqT K H a xs:= .inl (.inl h)
theorem Inv.list (I:Inv X pins σ H s)(h:SqL X.K H a xs):∃ its:List Value,Vals xs its/\PlainL s.heap a its.toArray/\xs.length<=sizeLine:=by
 rcases h with h | ⟨o,its,n,hk,hc,hd,hs,hz,r⟩
 ·obtain⟨z,its,n,r,e⟩:=h.ok I.hok
  exact⟨its,r,⟨_,n,e,rfl,rfl,rfl⟩,z⟩
 ·refine⟨its.toList,r,⟨o,n,I.kIn a o hk,hc,hd,by simpa using hs⟩,?_⟩
  have e:=r.length
  simp only [aC] at e
  omega
theorem Inv.tuple (I:Inv X pins σ H s)(h:SqT X.K H a xs):∃ its:List Value,Vals xs its/\IsTup s.heap a its.toArray/\xs.length<=sizeLine:=by
 rcases h with h | ⟨o,its,n,hk,hc,hs,hz,r⟩
 ·obtain⟨z,its,r,p⟩:=h.ok I.hok
  exact⟨its,r,p.isTup,z⟩
 ·refine⟨its.toList,r,⟨o,I.kIn a o hk,hc,n,by simpa using hs⟩,?_⟩
  have e:=r.length
  simp only [aC] at e
  omega
theorem Inv.list_inj (I:Inv X pins σ H s)(h:SqL X.K H a xs)(h':SqL X.K H a ys):xs=ys:=by
 obtain⟨its,r,⟨o,n,e,_,_,d⟩,_⟩:=I.list h
 obtain⟨its',r',⟨o',n',e',_,_,d'⟩,_⟩:=I.list h'
 rw[e] at e'; cases e'
 rw[d] at d'
 injection d' with d1 _
 have:its=its':=by simpa using bL Array.toList d1
 subst this
 exact r.inj r'
theorem Inv.tuple_inj (I:Inv X pins σ H s)(h:SqT X.K H a xs)(h':SqT X.K H a ys):xs=ys:=by
 obtain⟨its,r,⟨o,e,_,n,d⟩,_⟩:=I.tuple h
 obtain⟨its',r',⟨o',e',_,n',d'⟩,_⟩:=I.tuple h'
 rw[e] at e'; cases e'
 rw[d] at d'
 injection d' with d1 _
 have:its=its':=by simpa using bL Array.toList d1
 subst this
 exact r.inj r'
end
abbrev Cx.wish (X:Cx)(E:Value->Shared->Prop):Cx:= { X with xe:=E}
abbrev Cx.nox (X:Cx):Cx:=X.wish fun _ _=>False
theorem Cx.Ok.wish {X:Cx}(ok:X.Ok)(E:Value->Shared->Prop):(X.wish E).Ok:=
 ⟨ok.mod,ok.kind,ok.glob,ok.blt,ok.above,ok.inj,ok.has,ok.cab,ok.hd,ok.frames,ok.stk,ok.exf,ok.bs,ok.bsz,ok.noex,ok.exfs,ok.funs,ok.frf⟩
theorem Cx.Ok.unwish {X:Cx}{E:Value->Shared->Prop}(ok:(X.wish E).Ok):X.Ok:=
 ⟨ok.mod,ok.kind,ok.glob,ok.blt,ok.above,ok.inj,ok.has,ok.cab,ok.hd,ok.frames,ok.stk,ok.exf,ok.bs,ok.bsz,ok.noex,ok.exfs,ok.funs,ok.frf⟩
section
variable {X:Cx}{pins:List (Addr×Obj)}{σ:St}{H:Hp}{s:Shared}{E:Value->Shared->Prop}
theorem Inv.wish (I:Inv X pins σ H s)(E:Value->Shared->Prop):Inv (X.wish E) pins σ H s:=⟨I.ok.wish E,I.os,I.bare,I.base,I.loc,I.cell,I.free,I.freeC,I.pin,I.hok,I.len⟩
theorem Inv.unwish (I:Inv (X.wish E) pins σ H s):Inv X pins σ H s:=⟨I.ok.unwish,I.os,I.bare,I.base,I.loc,I.cell,I.free,I.freeC,I.pin,I.hok,I.len⟩
theorem SP.unwish {D:Ends}{f:Flow}{s':Shared}(h:SP (X.wish E) pins D f s'):SP X pins D f s':=by
 cases f with
 | next=>obtain⟨σ',H',I,q⟩:=h; exact⟨σ',H',I.unwish,q⟩
 | brk=>obtain⟨σ',H',I,q⟩:=h; exact⟨σ',H',I.unwish,q⟩
 | cont=>obtain⟨σ',H',I,q⟩:=h; exact⟨σ',H',I.unwish,q⟩
 | ret u=>obtain⟨v,σ',H',I,r,q⟩:=h; exact⟨v,σ',H',I.unwish,r,q⟩
theorem PSs.nox {st:List Stmt}{t:TS}(h:PSs X.nox st t):PSs X st t:=fun pins s σ H D I hw=>
 bU (h pins s σ H D (I.wish _) hw) (fun _ _ q=>q.unwish) fun _ _ z=>False.elim z
end
section
variable {X:Cx}{st:Stmt}{rest:List Stmt}{t u:TS}{e:Expr}{te:TE}{pos:Pos}
def tNext:TS:=fun D σ H=>D.nx σ H
def tSeq (t u:TS):TS:=fun D σ H=>t { D with nx:=u D} σ H
theorem jEN:PSs X [] tNext:=fun _ _ σ H _ I h=>fh ⟨σ,H,I,h⟩
theorem kQ (h1:PS X st t)(h2:PSs X rest u):PSs X (st::rest) (tSeq t u):=by
 intro pins s σ H D I h
 refine wpAny_execs_cons (thn (h1 pins s σ H { D with nx:=u D} I h) fun f s1 q=>?_)
 cases f with
 | next=>
  obtain⟨σ',H',I',q⟩:=q
  exact h2 pins s1 σ' H' D I' q
 | ret v=>exact q
 | brk=>exact q
 | cont=>exact q
theorem jAO (h1:PS X st t):PSs X [st] t:=by
 intro pins s σ H D I h
 refine wpAny_execs_cons (thn (h1 pins s σ H D I h) fun f s1 q=>?_)
 cases f with
 | next=>exact fh q
 | ret v=>exact q
 | brk=>exact q
 | cont=>exact q
theorem Inv.quiet {pins:List (Addr×Obj)}{σ:St}{H:Hp}{s:Shared}(I:Inv X pins σ H s):interactive X.env=false:=by simp [interactive,I.ok.kind]
def tDrop (te:TE):TS:=fun D σ H=>te σ H fun _ H1=>D.nx σ H1
theorem jOH (he:PE X e te)(hs:swapsWith e none pos.line X.env=pure false:=by rfl):PS X (.Expr e pos) (tDrop te):=by
 intro pins s σ H D I h
 exact wpAny_Expr_any (thn (he pins s σ H _ I h) fun v s1 ⟨x,H1,I1,r1,q1⟩=>⟨σ,H1,I1,q1⟩) I.quiet hs
def tRet (te:TE):TS:=fun D σ H=>te σ H D.rt
theorem jCI (he:PE X e te):PS X (.Return (some e) pos) (tRet te):=by
 intro pins s σ H D I h
 exact wpAny_Return_some (thn (he pins s σ H _ I h) fun v s1 ⟨x,H1,I1,r1,q1⟩=>⟨x,σ,H1,I1,r1,q1⟩)
def tIfS (c:TT)(t u:TS):TS:=fun D σ H=>c σ H fun b H1=>if b=true then t D σ H1 else u D σ H1
theorem ps_if {c:Expr}{a b:List Stmt}{tc:TT}(hc:PT X c tc)(ha:PSs X a t)(hb:PSs X b u):PS X (.If c a b pos) (tIfS tc t u):=by
 intro pins s σ H D I h
 refine wpAny_If (thn (hc pins s σ H _ I h) fun d s1 ⟨H1,I1,q1⟩=>?_)
 cases d with
 | true=>exact ha pins s1 σ H1 D I1 q1
 | false=>exact hb pins s1 σ H1 D I1 q1
end
abbrev TG:=V->St->Hp->(St->Hp->Prop)->Prop
abbrev TGs:=List V->St->Hp->(St->Hp->Prop)->Prop
def PG (X:Cx)(target:Expr)(t:TG):Prop:=
 ∀ (pins:List (Addr×Obj)) (s:Shared) (σ:St) (H:Hp) (v:V) (u:Value) (Q:St->Hp->Prop),Inv X pins σ H s->RelV v u->t v σ H Q->
  wpAny (model X.prog X.w) X.A (assign target X.env u) (fun _ s'=>∃ σ' H',Inv X pins σ' H' s'/\Q σ' H') X.xe s
def PGs (X:Cx)(ts:List Expr)(t:TGs):Prop:=
 ∀ (pins:List (Addr×Obj)) (s:Shared) (σ:St) (H:Hp) (vs:List V) (us:List Value) (Q:St->Hp->Prop),Inv X pins σ H s->Vals vs us->t vs σ H Q->
  wpAny (model X.prog X.w) X.A (assignInOrder ((assignEach ts X.env).map (·.2)) us) (fun _ s'=>∃ σ' H',Inv X pins σ' H' s'/\Q σ' H') X.xe s
abbrev TSet:=V->V->V->Hp->(Hp->Prop)->Prop
def PSet (X:Cx)(t:TSet):Prop:=
 ∀ (pins:List (Addr×Obj)) (s:Shared) (σ:St) (H:Hp) (o i v:V) (ov iv u:Value) (Q:Hp->Prop),Inv X pins σ H s->RelV o ov->RelV i iv->RelV v u->t o i v H Q->
  wpAny (model X.prog X.w) X.A (setItem ov iv u) (fun _ s'=>∃ H',Inv X pins σ H' s'/\Q H') X.xe s
abbrev TIp:=V->V->Hp->VK->Prop
def PIp (X:Cx)(op:Operator)(t:TIp):Prop:=
 ∀ (pins:List (Addr×Obj)) (s:Shared) (σ:St) (H:Hp) (x y:V) (v u:Value) (Q:VK),Inv X pins σ H s->RelV x v->RelV y u->t x y H Q->
  wpAny (model X.prog X.w) X.A (inplaceOp op v u) (EP X pins σ Q) X.xe s
section
variable {X:Cx}{pos:Pos}
def yA (i:Nat):TG:=fun v σ H Q=>Q (σ.set i (some v)) H
theorem jEO {i:Nat}{x:Str}(hN:X.N.Nodup)(hi:X.N[i]?=some x)(hx:Loc X.env.scope x)(hf:X.fn x=true\/X.env.scope.names.lookup x=some .local:=by first | exact .inl rfl | exact .inr rfl | assumption):PG X (.Name x pos) (yA i):=by
 intro pins s σ H v u Q I r h
 exact wpAny_assign_Name (jEG I hN hi hx r (fun s' I'=>⟨_,H,I',h⟩) hf)
def gNil:TGs:=fun vs σ H Q=>vs=[]/\Q σ H
def gCons (t:TG)(u:TGs):TGs:=fun vs σ H Q=>∃ v r,vs=v::r/\t v σ H fun σ' H'=>u r σ' H' Q
theorem jOQ:PGs X [] gNil:=by
 intro pins s σ H vs us Q I r h
 obtain⟨e,h⟩:=h
 subst e
 cases r
 exact assignInOrder_nil ⟨σ,H,I,h⟩
theorem jM2 {e:Expr}{es:List Expr}{t:TG}{u:TGs}(h1:PG X e t)(h2:PGs X es u)
  (hs:(assignEach (e::es) X.env).map (·.2)=assign e X.env::(assignEach es X.env).map (·.2):=by rfl):PGs X (e::es) (gCons t u):=by
 intro pins s σ H vs us Q I r h
 obtain⟨v,vr,e1,h⟩:=h
 subst e1
 cases r with
 | cons r rr=>
  rw[hs]
  refine assignInOrder_cons (thn (h1 pins s σ H _ _ _ I r h) fun _ s1 ⟨σ1,H1,I1,q1⟩=>?_)
  exact h2 pins s1 σ1 H1 _ _ Q I1 rr q1
def gTup (K:W.Frag)(n:Nat)(t:TGs):TG:=fun v σ H Q=>∃ a xs,v= .ref a/\SqT K H a xs/\xs.length=n/\t xs σ H Q
theorem jQU {es:List Expr}{k:Nat}{t:TGs}{n:Nat}(hc:X.calm=true)(h:PGs X es t)
  (hn:(assignEach es X.env).length=n:=by rfl) (hst:(assignEach es X.env).findIdx? (·.1)=none:=by rfl):PG X (.Tuple es k pos) (gTup X.K n t):=by
 intro pins s σ H v u Q I r hw
 obtain⟨a,xs,e1,hq,hl,hw⟩:=hw
 subst e1
 cases r
 obtain⟨its,rv,ht,hz⟩:=I.tuple hq
 refine assign_Tuple_tuple (I.ok.hd hc) ht (by simp [hn,<- hl,rv.length]) hst fun h' hx=>?_
 have I1:Inv X pins σ H { s with heap:=h'} :=I.kept (t':=s.toks) fun b o e=>hx b o (aO (ao e)) e
 exact h pins _ σ H xs _ Q I1 (by simpa using rv) hw
def gSub (to ti:TE)(t:TSet):TG:=fun v σ H Q=>to σ H fun o H1=>ti σ H1 fun i H2=>t o i v H2 fun H3=>Q σ H3
theorem jQV {o i:Expr}{to ti:TE}{t:TSet}(ho:PE X o to)(hi:PE X i ti)(hs:PSet X t)
  (ha:∀ v,assign (.Subscript o i pos) X.env v=(do
   let ov <- holding [v] (eval o X.env)
   let iv <- holding [v,ov] (eval i X.env)
   standAt pos
   holding [v,ov,iv] (setItem ov iv v)
   release [v,ov,iv] []):=by intro _; rfl):PG X (.Subscript o i pos) (gSub to ti t):=by
 intro pins s σ H v u Q I r h
 rw[ha]
 refine aa (bY (thn (ho pins s σ H _ I h) fun ov s1 ⟨x,H1,I1,r1,q1⟩=>?_))
 refine aa (bY (thn (hi pins s1 σ H1 _ I1 q1) fun iv s2 ⟨y,H2,I2,r2,q2⟩=>?_))
 refine aa (gm (aa (bY (thn (hs pins s2 σ H2 x y v ov iv u _ I2 r1 r2 r q2) fun _ s3 ⟨H3,I3,q3⟩=>?_))))
 exact wpAny_release ⟨σ,H3,I3,q3⟩
def tAsg (te:TE)(g:TG):TS:=fun D σ H=>te σ H fun x H1=>g x σ H1 D.nx
theorem jQQ {tg e:Expr}{te:TE}{g:TG}(he:PE X e te)(hg:PG X tg g)(hs:swapsWithSole [tg] e pos.line X.env=pure false:=by rfl)(hw:swappedStores [tg] e X.env=pure none:=by rfl)
  (h1:(assignEach [tg] X.env).map (·.2)=[assign tg X.env]:=by rfl):PS X (.Assign [tg] e pos) (tAsg te g):=by
 intro pins s σ H D I h
 refine wpAny_Assign_stores (thn (he pins s σ H _ I h) fun v s1 ⟨x,H1,I1,r1,q1⟩=>?_) hs hw
 rw[h1]
 exact thn (hg pins s1 σ H1 x v _ I1 r1 q1) fun _ s2 q=>q
theorem yU {i:Nat}{x:Str}{e:Expr}{te:TE}{pos':Pos}(hN:X.N.Nodup)(hi:X.N[i]?=some x)(hx:Loc X.env.scope x)(he:PE X e te)(hs:swapsWith e (some (.Name x pos')) pos.line X.env=pure false:=by rfl)(hf:X.fn x=true\/X.env.scope.names.lookup x=some .local:=by first | exact .inl rfl | exact .inr rfl | assumption):
  PS X (.Assign [.Name x pos'] e pos) (tAsg te (yA i)):=by
 intro pins s σ H D I h
 refine wpAny_Assign_Name (thn (he pins s σ H _ I h) fun v s1 ⟨y,H1,I1,r1,q1⟩=>?_) hs
 exact jEG I1 hN hi hx r1 (fun s2 I2=>⟨_,H1,I2,q1⟩) hf
def tAug (i:Nat)(te:TE)(ti:TIp):TS:=fun D σ H=>∃ x,σ[i]?=some (some x)/\te σ H fun y H1=>ti x y H1 fun z H2=>D.nx (σ.set i (some z)) H2
theorem jQP {i:Nat}{x:Str}{e:Expr}{te:TE}{op:Operator}{ti:TIp}{pos':Pos}(hN:X.N.Nodup)(hi:X.N[i]?=some x)(hx:Loc X.env.scope x)(he:PE X e te)(ho:PIp X op ti)(hf:X.fn x=true\/X.env.scope.names.lookup x=some .local:=by first | exact .inl rfl | exact .inr rfl | assumption):
  PS X (.AugAssign (.Name x pos') op e pos) (tAug i te ti):=by
 intro pins s σ H D I h
 obtain⟨v,e1,h⟩:=h
 obtain⟨m,hn,hl⟩:=I.loc
 have vis:Vis X.env.scope x:=by rcases hx with k | k; exact .inl k; exact .inr (.inl k)
 obtain⟨u,r,l⟩:=hl i x v hi e1 vis
 refine wpAny_AugAssign_Name ?_
 have go:wpAny (model X.prog X.w) X.A (eval e X.env) (fun w s₂=>wpAny (model X.prog X.w) X.A (inplaceOp op u w) (fun r s₃=>wpAny (model X.prog X.w) X.A (storeName X.env x r) (fun _=>SP X pins D .next) X.xe s₃) X.xe s₂) X.xe s:=by
  refine thn (he pins s σ H _ I h) fun w s1 ⟨y,H1,I1,r1,q1⟩=>?_
  refine thn (ho pins s1 σ H1 v y u w _ I1 r r1 q1) fun z s2 ⟨zv,H2,I2,r2,q2⟩=>?_
  exact jEG I2 hN hi hx r2 (fun s3 I3=>⟨_,H2,I3,q2⟩) hf
 rcases l with ⟨hk,hm⟩ | ⟨hk,c,hc,hcell⟩
 ·exact wpAny_loadName_local I.ok.kind hk hn hm go
 ·rcases hk with hk | hk
  ·exact wpAny_loadName_cell I.ok.kind hk hc hcell go
  ·rcases hx with k | k
   ·have:X.env.scope.names.lookup x=some .free:=hk
    rw[k] at this; cases this
   ·have:X.env.scope.names.lookup x=some .free:=hk
    rw[k] at this; cases this
def ipI (f:Int->Int->Int):TIp:=fun x y H Q=>∃ i j,x= .int i/\y= .int j/\Q (.int (f i j)) H
theorem jRQ:PIp X .Add (ipI fun i j=>i+j):=by
 intro pins s σ H x y v u Q I r1 r2 h
 obtain⟨i,j,e1,e2,q⟩:=h
 subst e1; subst e2
 obtain⟨t,rfl⟩:=r1
 obtain⟨t',rfl⟩:=r2
 exact iadd_int ⟨.int _,H,I.tok _,⟨_,rfl⟩,q⟩
end
section
variable {X:Cx}{pos:Pos}
def jN6 (c:TT)(tb:TS):TS:=fun D σ H=>∃ W:Nat->St->Hp->Prop,(∃ m,W m σ H)/\∀ m σ H,W m σ H->
 c σ H fun b H1=>if b=true then ∃ N:St->Hp->Prop,(∀ σ' H',N σ' H'->∃ m',m'<m/\W m' σ' H')/\tb { D with nx:=N,ct:=N,bk:=D.nx} σ H1 else D.nx σ H1
theorem jLY {c:Expr}{body:List Stmt}{tc:TT}{tb:TS}(hp:PassesOwn (model X.prog X.w) X.A X.env X.xe)(hc:PT X c tc)(hb:PSs X body tb):PS X (.While c body [] pos) (jN6 tc tb):=by
 intro pins s σ H D I h
 obtain⟨W,⟨m0,w0⟩,turn⟩:=h
 refine wpAny_While (codeAny_whileLoop (fun n s'=>∃ σ' H',Inv X pins σ' H' s'/\W n σ' H') ?_ m0 ⟨σ,H,I,w0⟩)
 rintro n s1 ⟨σ1,H1,I1,w1⟩
 refine da hp (thn (hc pins s1 σ1 H1 _ I1 (turn n σ1 H1 w1)) fun b s2 ⟨H2,I2,q2⟩=>?_)
 cases b with
 | true=>
  obtain⟨N,hN,q2⟩:=q2
  rw[am rfl]
  refine da hp (thn (hb pins s2 σ1 H2 _ I2 q2) fun f s3 q3=>?_)
  cases f with
  | next=>
   obtain⟨σ3,H3,I3,n3⟩:=q3
   obtain⟨m',hm,w3⟩:=hN σ3 H3 n3
   exact⟨m',hm,σ3,H3,I3,w3⟩
  | cont=>
   obtain⟨σ3,H3,I3,n3⟩:=q3
   obtain⟨m',hm,w3⟩:=hN σ3 H3 n3
   exact⟨m',hm,σ3,H3,I3,w3⟩
  | brk=>exact q3
  | ret v=>exact q3
 | false=>
  rw[ak ag]
  exact fh ⟨σ1,H2,I2,q2⟩
end
structure It where
 go:Nat->Hp->Prop
 yld:Nat->Hp->V->Hp->Prop
 stop:Nat->Hp->Prop
def FpOk (X:Cx)(pins:List (Addr×Obj))(H:Hp)(b:Addr):Prop:=
 H b=none/\b≠X.env.locals/\b∉X.fs/\(b∈X.ex\/X.s₀.heap.objs.size<=b)/\(∀ x c,X.env.cells.lookup x=some c->c≠b)/\∀ p∈X.pn++pins,p.1≠b
theorem Inv.fpOk {X:Cx}{pins:List (Addr×Obj)}{σ:St}{H H':Hp}{s:Shared}{b:Addr}(I:Inv X pins σ H s)(hb:s.heap.objs.size<=b)(hn:H' b=none):FpOk X pins H' b:=by
 refine⟨hn,cF (aR I.lt hb),I.nofs hb, .inr (bJ I.sz hb),fun x c e z=>?_,fun p hp z=>?_⟩
 ·obtain⟨v,q⟩:=I.cell x c e
  exact absurd (aR q.lt (by rw[z]; exact hb)) (ce _)
 ·exact absurd (aR (ao (I.pin p hp).1) (by rw[z]; exact hb)) (ce _)
structure Turn (P:Program)(w:World)(K:W.Frag)(tg:Expr)(J:It)(fp:List Addr)(it:Addr)(tn:Nat->Heap->Prop):Prop where
 mem:it∈fp
 obj:∀ i h,tn i h->∀ b∈fp,∃ o,h.get? b=some o/\∀ v,o.data≠ .cell v
 keep:∀ i h h',tn i h->(∀ b∈fp,∀ o,h.get? b=some o->h'.get? b=some o)->tn i h'
 item:∀ (X:Cx),X.prog=P->X.w=w->X.K=K->X.calm=true->∀ (i:Nat) (pins:List (Addr×Obj)) (s:Shared) (σ:St) (H:Hp) (E:Value->Shared->Prop),Inv X pins σ H s->(∀ b∈fp,FpOk X pins H b)->tn i s.heap->J.go i H->
  wpAny (model P w) X.A (pyNext (.ref it)) (fun r s1=>∃ u,r=some u/\
   wpAny (model P w) X.A (letOwnedTupleGo tg (.ref it) u) (fun _ s2=>∃ x H',Inv X pins σ H' s2/\RelV x u/\J.yld i H x H'/\tn (i+1) s2.heap/\∀ b∈fp,H' b=none) E s1) E s
 done:∀ (X:Cx),X.prog=P->X.w=w->X.K=K->X.calm=true->∀ (i:Nat) (pins:List (Addr×Obj)) (s:Shared) (σ:St) (H:Hp) (E:Value->Shared->Prop),Inv X pins σ H s->(∀ b∈fp,FpOk X pins H b)->tn i s.heap->J.stop i H->
  wpAny (model P w) X.A (pyNext (.ref it)) (fun r s1=>r=none/\Inv X pins σ H s1) E s
 self:∀ (A:Around) (i:Nat) (s:Shared) (Q:Value->Shared->Prop) (E:Value->Shared->Prop),tn i s.heap->Q (.ref it) s->wpAny (model P w) A (pyIter (.ref it)) Q E s
abbrev TI:=St->Hp->(It->Hp->Prop)->Prop
def PIE (X:Cx)(pins:List (Addr×Obj))(σ:St)(tg:Expr)(R:It->Hp->Prop)(itv:Value)(s2:Shared):Prop:=
 ∃ (it:Addr) (fp:List Addr) (tn:Nat->Heap->Prop) (J:It) (H':Hp),itv= .ref it/\Inv X pins σ H' s2/\Turn X.prog X.w X.K tg J fp it tn/\tn 0 s2.heap/\(∀ b∈fp,FpOk X pins H' b)/\R J H'
def PI (X:Cx)(tg iter:Expr)(wi:TI):Prop:=
 ∀ (pins:List (Addr×Obj)) (s:Shared) (σ:St) (H:Hp) (R:It->Hp->Prop),Inv X pins σ H s->wi σ H R->
  wpAny (model X.prog X.w) X.A (eval iter X.env) (fun v s1=>wpAny (model X.prog X.w) X.A (pyIter v) (PIE X pins σ tg R) X.xe s1) X.xe s
theorem go_of {M:Model}{A:Around}{E:Value->Shared->Prop}{s:Shared}{tg:Expr}{it:Addr}{u:Value}{o:Obj}{n:String}{vs:Array Value}{Q:Unit->Shared->Prop}(ho:s.heap.get? it=some o)(hc:o.cls= .type n)(hd:o.data= .fields vs)
  (hn: ["enumerate","zip","dict_itemiterator","dict_reverseitemiterator","odict_iterator","itertools.zip_longest","itertools.pairwise"].contains n=false) (hQ:Q () s):wpAny M A (letOwnedTupleGo tg (.ref it) u) Q E s:=by
 unfold letOwnedTupleGo
 cases tg <;> first
  | exact af hQ
  | (cases u <;> first
    | exact af hQ
    | (refine aa (eR ho ?_)
       rw [hc, hd]
       show wpAny M A (if (["enumerate", "zip", "dict_itemiterator", "dict_reverseitemiterator", "odict_iterator", "itertools.zip_longest", "itertools.pairwise"].contains n && vs[0]? == some (rawInt _)) = true then _ else _) Q E s
       rw [ak (by intro h; rw [hn, dF] at h; cases h)]
       exact af hQ))
def Itl (K:W.Frag)(a:Addr):It:=
 ⟨fun i H=>∃ xs x,SqL K H a xs/\xs[i]?=some x,fun i H x H'=>H'=H/\∀ xs,SqL K H a xs->xs[i]?=some x,fun i H=>∃ xs,SqL K H a xs/\xs.length<=i⟩
def Itt (K:W.Frag)(a:Addr):It:=
 ⟨fun i H=>∃ xs x,SqT K H a xs/\xs[i]?=some x,fun i H x H'=>H'=H/\∀ xs,SqT K H a xs->xs[i]?=some x,fun i H=>∃ xs,SqT K H a xs/\xs.length<=i⟩
def Itr (lo:Int)(n:Nat):It:=⟨fun i _=>i<n,fun i H x H'=>H'=H/\x= .int (lo+i),fun i _=>n<=i⟩
theorem jJ8 {P:Program}{w:World}{K:W.Frag}{tg:Expr}(a it:Addr):Turn P w K tg (Itl K a) [it] it (fun i h=>h.IsListIter it a i) where
 mem:=by simp
 obj:=fun i h st b hb=>by
  have e:b=it:=by simpa using hb
  subst e
  obtain⟨o,e,c,d⟩:=st
  exact⟨o,e,fun v z=>by rw[d] at z; cases z⟩
 keep:=fun i h h' st k=>st.at fun o e=>k it (by simp) o e
 item:=by
  intro X hP hw hK hc i pins s σ H E I hf st hg
  subst hP hw hK
  obtain⟨xs,x,hq,hx⟩:=hg
  obtain⟨its,rv,p,hz⟩:=I.list hq
  obtain⟨u,hu,ru⟩:=rv.get hx
  obtain⟨f0,f1,f2,f3,f4,f5⟩:=hf it (by simp)
  refine wpAny_pyNext_list_item st p.isList (x:=u) (by simpa using hu) fun h' st' sb=>?_
  have I1:Inv X pins σ H { s with heap:=h'} :=I.turned (t':=s.toks) (fun b o hb e=>(sb.2 b hb).trans e) f0 f1 f3 f4 f5
  obtain⟨o,e,c,d⟩:=id st'
  exact⟨u,rfl,go_of (s:= { s with heap:=h'}) e c d (by decide) ⟨x,H,I1,ru,⟨rfl,fun ys hy=>by rw[I.list_inj hy hq]; exact hx⟩,st',fun b hb=>(hf b hb).1⟩⟩
 done:=by
  intro X hP hw hK hc i pins s σ H E I hf st hg
  subst hP hw hK
  obtain⟨xs,hq,hx⟩:=hg
  obtain⟨its,rv,p,hz⟩:=I.list hq
  obtain⟨f0,f1,f2,f3,f4,f5⟩:=hf it (by simp)
  have hl:=rv.length
  exact wpAny_pyNext_list_end (I.ok.hd hc) st p.isList (by simp; omega) fun h' eb=>⟨rfl,I.turned (t':=s.toks) (fun b o hb e=>eb b o hb e) f0 f1 f3 f4 f5⟩
 self:=fun _ _ _ _ _ st h=>wpAny_pyIter_listiter st h
theorem jIC {P:Program}{w:World}{K:W.Frag}{tg:Expr}(a it:Addr):Turn P w K tg (Itt K a) [it] it (fun i h=>h.IsTupleIter it a i) where
 mem:=by simp
 obj:=fun i h st b hb=>by
  have e:b=it:=by simpa using hb
  subst e
  obtain⟨o,e,c,d⟩:=st
  exact⟨o,e,fun v z=>by rw[d] at z; cases z⟩
 keep:=fun i h h' st k=>st.at fun o e=>k it (by simp) o e
 item:=by
  intro X hP hw hK hc i pins s σ H E I hf st hg
  subst hP hw hK
  obtain⟨xs,x,hq,hx⟩:=hg
  obtain⟨its,rv,p,hz⟩:=I.tuple hq
  obtain⟨u,hu,ru⟩:=rv.get hx
  obtain⟨f0,f1,f2,f3,f4,f5⟩:=hf it (by simp)
  refine wpAny_pyNext_tuple_item st (show s.heap.IsTuple a its.toArray from p) (x:=u) (by simpa using hu) fun h' st' sb=>?_
  have I1:Inv X pins σ H { s with heap:=h'} :=I.turned (t':=s.toks) (fun b o hb e=>(sb.2 b hb).trans e) f0 f1 f3 f4 f5
  obtain⟨o,e,c,d⟩:=id st'
  exact⟨u,rfl,go_of (s:= { s with heap:=h'}) e c d (by decide) ⟨x,H,I1,ru,⟨rfl,fun ys hy=>by rw[I.tuple_inj hy hq]; exact hx⟩,st',fun b hb=>(hf b hb).1⟩⟩
 done:=by
  intro X hP hw hK hc i pins s σ H E I hf st hg
  subst hP hw hK
  obtain⟨xs,hq,hx⟩:=hg
  obtain⟨its,rv,p,hz⟩:=I.tuple hq
  obtain⟨f0,f1,f2,f3,f4,f5⟩:=hf it (by simp)
  have hl:=rv.length
  exact wpAny_pyNext_tuple_end (I.ok.hd hc) st (show s.heap.IsTuple a its.toArray from p) (by simp; omega) fun h' eb=>⟨rfl,I.turned (t':=s.toks) (fun b o hb e=>eb b o hb e) f0 f1 f3 f4 f5⟩
 self:=fun _ _ _ _ _ st h=>wpAny_pyIter_tupleiter st h
theorem jID {P:Program}{w:World}{K:W.Frag}{tg:Expr}(it:Addr)(lo:Int)(n:Nat):Turn P w K tg (Itr lo n) [it] it (fun i h=>IsRangeIter h it (lo+(i:Nat)*1) ((n:Int) - (i:Nat)) 1) where
 mem:=by simp
 obj:=fun i h st b hb=>by
  have e:b=it:=by simpa using hb
  subst e
  exact⟨_,st,fun v z=>by
   have z':Data.fields _=Data.cell v:=z
   cases z'⟩
 keep:=fun i h h' st k=>k it (by simp) _ st
 item:=by
  intro X hP hw hK hc i pins s σ H E I hf st hg
  subst hP hw hK
  obtain⟨f0,f1,f2,f3,f4,f5⟩:=hf it (by simp)
  have W:=Walks.range (prog:=X.prog) (w:=X.w) (I.ok.hd hc) it lo 1 n
  refine W.item i s _ _ hg st fun v h' tk hv st' kk=>?_
  obtain⟨t,rfl⟩:=hv
  have I1:Inv X pins σ H { s with heap:=h',toks:=tk} :=I.turned (fun b o hb e=>kk b o (by simpa using hb) e) f0 f1 f3 f4 f5
  refine⟨_,rfl,go_of (s:= { s with heap:=h',toks:=tk}) (n:= "range_iterator") st' rfl rfl (by decide) ⟨.int (lo+i),H,I1,⟨t,?_⟩,⟨rfl,rfl⟩,st',fun b hb=>(hf b hb).1⟩⟩
  rw[Int.mul_one]
 done:=by
  intro X hP hw hK hc i pins s σ H E I hf st hg
  subst hP hw hK
  obtain⟨f0,f1,f2,f3,f4,f5⟩:=hf it (by simp)
  exact wpAny_pyNext_range_end (I.ok.hd hc) st (by have:n<=i:=hg; omega) fun h' eb=>⟨rfl,I.turned (t':=s.toks) (fun b o hb e=>eb b o hb e) f0 f1 f3 f4 f5⟩
 self:=fun _ _ _ _ _ st h=>wpAny_pyIter_rangeiter st h
end L2
namespace L2
open PySem PySem.Spec PyProof.Rows
section
variable {X:Cx}{tg:Expr}
def iList (K:W.Frag)(tl:TE):TI:=fun σ H R=>tl σ H fun x H1=>∃ a,x= .ref a/\(∃ xs,SqL K H1 a xs)/\R (Itl K a) H1
def iTup (K:W.Frag)(tl:TE):TI:=fun σ H R=>tl σ H fun x H1=>∃ a,x= .ref a/\(∃ xs,SqT K H1 a xs)/\R (Itt K a) H1
theorem jOO {l:Expr}{tl:TE}(hl:PE X l tl):PI X tg l (iList X.K tl):=by
 intro pins s σ H R I h
 refine thn (hl pins s σ H _ I h) fun v s1 ⟨x,H1,I1,r1,q1⟩=>?_
 obtain⟨a,e,⟨xs,hq⟩,q⟩:=q1
 subst e
 cases r1
 obtain⟨its,rv,p,hz⟩:=I1.list hq
 refine cK p.isList ?_
 refine⟨s1.heap.objs.size,[s1.heap.objs.size],_,_,H1,rfl,I1.kept (t':=s1.toks) fun b o e=>ab _ e,jJ8 a _,⟨_,aj _ rfl,rfl,rfl⟩,fun b hb=>?_,q⟩
 have e:b=s1.heap.objs.size:=by simpa using hb
 subst e
 exact I1.fpOk (ai _) (I1.hok.fresh (ai _))
theorem jQT {l:Expr}{tl:TE}(hl:PE X l tl):PI X tg l (iTup X.K tl):=by
 intro pins s σ H R I h
 refine thn (hl pins s σ H _ I h) fun v s1 ⟨x,H1,I1,r1,q1⟩=>?_
 obtain⟨a,e,⟨xs,hq⟩,q⟩:=q1
 subst e
 cases r1
 obtain⟨its,rv,p,hz⟩:=I1.tuple hq
 refine wpAny_pyIter_tuple (show s1.heap.IsTuple a its.toArray from p) ?_
 refine⟨s1.heap.objs.size,[s1.heap.objs.size],_,_,H1,rfl,I1.kept (t':=s1.toks) fun b o e=>ab _ e,jIC a _,⟨_,aj _ rfl,rfl,rfl⟩,fun b hb=>?_,q⟩
 have e:b=s1.heap.objs.size:=by simpa using hb
 subst e
 exact I1.fpOk (ai _) (I1.hok.fresh (ai _))
theorem jHH {pins:List (Addr×Obj)}{σ:St}{H:Hp}{s:Shared}{R:It->Hp->Prop}{E:Value->Shared->Prop}{lo hi:Int}{t u v:Tok}{tk:Nat}(I:Inv X pins σ H s)(h1: -(2 ^ 62)<=lo)(h2:lo<2 ^ 62)(h3: -(2 ^ 62)<=hi)(h4:hi<2 ^ 62)
  (q:R (Itr lo (hi - lo).toNat) H):wpAny (model X.prog X.w) X.A (pyIter (.ref s.heap.objs.size)) (PIE X pins σ tg R) E { s with heap:=s.heap.push { cls:= .type "range",data:= .fields #[.int lo t, .int hi u, .int 1 v]},toks:=tk} :=by
 refine wpAny_pyIter_range (IsRange.new ..) (small_one h1 h2 h3 h4) ?_
 have I1:Inv X pins σ H { s with heap:=s.heap.push { cls:= .type "range",data:= .fields #[.int lo t, .int hi u, .int 1 v]},toks:=tk} :=I.kept fun b o e=>ab _ e
 refine⟨(s.heap.push { cls:= .type "range",data:= .fields #[.int lo t, .int hi u, .int 1 v]}).objs.size,[(s.heap.push { cls:= .type "range",data:= .fields #[.int lo t, .int hi u, .int 1 v]}).objs.size],_,_,H,rfl,
  I1.kept (t':=tk) fun b o e=>ab _ e,jID _ lo (hi - lo).toNat,?_,fun b hb=>?_,q⟩
 ·have e1:lo+((0:Nat):Int)*1=lo:=by simp
  have e2:(((hi - lo).toNat:Nat):Int) - ((0:Nat):Int)=Builtin.Range.rangeSize lo hi 1:=by rw[rangeSize_one]; split <;> omega
  show IsRangeIter _ _ (lo+((0:Nat):Int)*1) ((((hi - lo).toNat:Nat):Int) - ((0:Nat):Int)) 1
  rw[e1,e2]
  exact aj _ rfl
 ·have e:b=(s.heap.push { cls:= .type "range",data:= .fields #[.int lo t, .int hi u, .int 1 v]}).objs.size:=by simpa using hb
  subst e
  exact I1.fpOk (ai _) (I1.hok.fresh (ai _))
def iRng1 (ta:TA):TI:=fun σ H R=>ta σ H fun vs H1=>∃ j:Int,vs=[.int j]/\ -(2 ^ 62)<=j/\j<2 ^ 62/\R (Itr 0 j.toNat) H1
def iRng2 (ta:TA):TI:=fun σ H R=>ta σ H fun vs H1=>∃ i j:Int,vs=[.int i, .int j]/\(-(2 ^ 62)<=i/\i<2 ^ 62/\ -(2 ^ 62)<=j/\j<2 ^ 62)/\R (Itr i (j - i).toNat) H1
theorem jBM {a:Expr}{ta:TA}{p pos:Pos}(hg:Gl X "range")(hm:X.mg "range" =none)(ha:PA X [a] ta)(hs:starEach [a] X.env=[(false,eval a X.env)]:=by rfl):PI X tg (.Call (.Name "range" p) [a] [] pos) (iRng1 ta):=by
 intro pins s σ H R I h
 refine Call_ (jCM I hg hm boot_range (cw (thn (ha pos pins s σ H _ I h) fun us s1 ⟨vs,H1,I1,r1,q1⟩=>?_) hs rfl))
 obtain⟨j,e,q1,q2,q⟩:=q1
 subst e
 cases r1 with
 | cons r rr=>
  cases rr
  obtain⟨t,rfl⟩:=r
  exact call_range_1 (jHH I1 (by omega) (by omega) q1 q2 (by simpa using q))
theorem jJV {a b:Expr}{ta:TA}{p pos:Pos}(hg:Gl X "range")(hm:X.mg "range" =none)(ha:PA X [a,b] ta)(hs:starEach [a,b] X.env=[(false,eval a X.env),(false,eval b X.env)]:=by rfl)(hs2:starEach [b] X.env=[(false,eval b X.env)]:=by rfl):
  PI X tg (.Call (.Name "range" p) [a,b] [] pos) (iRng2 ta):=by
 intro pins s σ H R I h
 refine Call_ (jCM I hg hm boot_range (cw (thn (ha pos pins s σ H _ I h) fun us s1 ⟨vs,H1,I1,r1,q1⟩=>?_) (by rw[hs,hs2]) (by rw[hs2]; rfl)))
 obtain⟨i,j,e,⟨q1,q2,q3,q4⟩,q⟩:=q1
 subst e
 cases r1 with
 | cons r rr=>
  cases rr with
  | cons r' rr=>
   cases rr
   obtain⟨t,rfl⟩:=r
   obtain⟨t',rfl⟩:=r'
   exact call_range_2 (jHH I1 q1 q2 q3 q4 q)
def tFor (wi:TI)(g:TG)(tb:TS):TS:=fun D σ H=>wi σ H fun J H1=>∃ W:Nat->Nat->St->Hp->Prop,(∃ m,W 0 m σ H1)/\∀ i m σ H,W i m σ H->
 (J.stop i H/\D.nx σ H)\/(J.go i H/\∃ N:St->Hp->Prop,(∀ σ' H',N σ' H'->∃ m',m'<m/\W (i+1) m' σ' H')/\∀ x H',J.yld i H x H'->g x σ H' fun σ2 H2=>tb { D with nx:=N,ct:=N,bk:=D.nx} σ2 H2)
def jFM (fp:List Addr)(h:Heap):List (Addr×Obj):=fp.filterMap fun b=>(h.get? b).map fun o=>(b,o)
theorem jAY {fp:List Addr}{h:Heap}{b:Addr}{o:Obj}(hb:b∈fp)(e:h.get? b=some o):(b,o)∈jFM fp h:=ig.mpr ⟨b,hb,by rw[e]; rfl⟩
theorem jK4 {fp:List Addr}{h:Heap}{p:Addr×Obj}(hp:p∈jFM fp h):p.1∈fp/\h.get? p.1=some p.2:=by
 obtain⟨b,hb,e⟩:=ig.mp hp
 cases q:h.get? b with
 | none=>rw[q] at e; cases e
 | some o=>
  rw[q] at e
  have e':(b,o)=p:=bx e
  subst e'
  exact⟨hb,q⟩
theorem Inv.pinned {pins:List (Addr×Obj)}{σ:St}{H:Hp}{s:Shared}{fp:List Addr}(I:Inv X pins σ H s)(hf:∀ b∈fp,FpOk X pins H b)(ho:∀ b∈fp,∃ o,s.heap.get? b=some o/\∀ v,o.data≠ .cell v):Inv X (pins++jFM fp s.heap) σ H s:=
 I.pins_of fun p hp=>(aI.mp hp).elim (fun z=>I.pin p (aG _ z)) fun z=>by
  obtain⟨hb,e⟩:=jK4 z
  obtain⟨f0,f1,f2,_⟩:=hf p.1 hb
  obtain⟨o,e',d⟩:=ho p.1 hb
  rw[e] at e'; cases e'
  exact⟨e,f0,f1,f2,d⟩
theorem Inv.unpinned {pins pl:List (Addr×Obj)}{σ:St}{H:Hp}{s:Shared}(I:Inv X (pins++pl) σ H s):Inv X pins σ H s:=I.pins_of fun p hp=>I.pin p (aG _ (aQ _ hp))
theorem jNI {iter:Expr}{body:List Stmt}{wi:TI}{g:TG}{tb:TS}{pos:Pos}(hp:PassesOwn (model X.prog X.w) X.A X.env X.xe)(hc:X.calm=true)(hi:PI X tg iter wi)(hg:PG X tg g)(hb:PSs X body tb)
  (hs:∀ x,foldedSetIterable iter X.env x=pure x:=by intro _; rfl):PS X (.For tg iter body [] pos) (tFor wi g tb):=by
 intro pins s σ H D I h
 refine wpAny_For (thn (hi pins s σ H _ I h) fun v s1 h1=>thn h1 fun itv s2 h2=>?_) hs
 obtain⟨it,fp,tn,J,H2,e,I2,T,st2,f2,W,⟨m0,w0⟩,turn⟩:=h2
 subst e
 have stat:∀ {H':Hp},(∀ b∈fp,H' b=none)->∀ b∈fp,FpOk X pins H' b:=fun hn b hb=>⟨hn b hb,(f2 b hb).2⟩
 refine codeAny_forLoop_any (fun n s'=>∃ i σ' H',Inv X pins σ' H' s'/\tn i s'.heap/\(∀ b∈fp,H' b=none)/\W i n σ' H') ?_ m0 ⟨0,σ,H2,I2,st2,fun b hb=>(f2 b hb).1,w0⟩
 rintro n s3 ⟨i,σ3,H3,I3,st3,fr3,w3⟩
 rcases turn i n σ3 H3 w3 with ⟨stop,qn⟩ | ⟨go,N,hN,step⟩
 ·refine da hp (thn (T.done X rfl rfl rfl hc i pins s3 σ3 H3 X.xe I3 (stat fr3) st3 stop) fun r s4 ⟨hr,I4⟩=>?_)
  subst hr
  exact fh ⟨σ3,H3,I4,qn⟩
 ·refine da hp (thn (T.item X rfl rfl rfl hc i pins s3 σ3 H3 X.xe I3 (stat fr3) st3 go) fun r s4 ⟨u,hr,h4⟩=>?_)
  subst hr
  refine da hp (thn h4 fun _ s5 ⟨x,H5,I5,r5,y5,st5,fr5⟩=>?_)
  have I5':=I5.pinned (stat fr5) (T.obj _ _ st5)
  refine da hp (thn (hg _ s5 σ3 H5 x u _ I5' r5 (step x H5 y5)) fun _ s6 ⟨σ6,H6,I6,q6⟩=>?_)
  refine da hp (thn (hb _ s6 σ6 H6 _ I6 q6) fun f s7 q7=>?_)
  have again:∀ {σ7:St}{H7:Hp},Inv X (pins++jFM fp s5.heap) σ7 H7 s7->N σ7 H7->∃ m,m<n/\∃ i σ' H',Inv X pins σ' H' s7/\tn i s7.heap/\(∀ b∈fp,H' b=none)/\W i m σ' H':=fun {σ7 H7} I7 n7=>by
   obtain⟨m',hm,w7⟩:=hN σ7 H7 n7
   refine⟨m',hm,i+1,σ7,H7,I7.unpinned,T.keep _ _ _ st5 fun b hb o e=>(I7.pin (b,o) (aG _ (aG _ (jAY hb e)))).1,fun b hb=>?_,w7⟩
   obtain⟨o,e,d⟩:=T.obj _ _ st5 b hb
   exact(I7.pin (b,o) (aG _ (aG _ (jAY hb e)))).2.1
  cases f with
  | next=>obtain⟨σ7,H7,I7,n7⟩:=q7; exact again I7 n7
  | cont=>obtain⟨σ7,H7,I7,n7⟩:=q7; exact again I7 n7
  | brk=>obtain⟨σ7,H7,I7,q7⟩:=q7; exact⟨σ7,H7,I7.unpinned,q7⟩
  | ret v=>obtain⟨x7,σ7,H7,I7,r7,q7⟩:=q7; exact⟨x7,σ7,H7,I7.unpinned,r7,q7⟩
end
theorem jF0 {K:W.Frag}{a:Addr}{xs:List V}{g:TG}{tb:TS}{D:Ends}{σ:St}{H:Hp}(Pv:Nat->St->Hp->Prop)(h0:Pv 0 σ H)(hl:∀ i σ H,i<=xs.length->Pv i σ H->SqL K H a xs)
  (hs:∀ i x σ H,xs[i]?=some x->Pv i σ H->g x σ H fun σ2 H2=>tb { D with nx:=Pv (i+1),ct:=Pv (i+1),bk:=D.nx} σ2 H2) (hd:∀ σ H,Pv xs.length σ H->D.nx σ H):
  ∃ W:Nat->Nat->St->Hp->Prop,(∃ m,W 0 m σ H)/\∀ i m σ H,W i m σ H->
   ((Itl K a).stop i H/\D.nx σ H)\/((Itl K a).go i H/\∃ N:St->Hp->Prop,(∀ σ' H',N σ' H'->∃ m',m'<m/\W (i+1) m' σ' H')/\∀ x H',(Itl K a).yld i H x H'->g x σ H' fun σ2 H2=>tb { D with nx:=N,ct:=N,bk:=D.nx} σ2 H2):=by
 refine⟨fun i m σ H=>m=xs.length - i/\i<=xs.length/\Pv i σ H,⟨xs.length,by simp,aY _,h0⟩,?_⟩
 rintro i m σ H ⟨rfl,hi,p⟩
 have q:=hl i σ H hi p
 by_cases hlt:i<xs.length
 ·refine .inr ⟨⟨xs,xs[i],q,by simp [hlt]⟩,Pv (i+1),fun σ' H' p'=>⟨xs.length - (i+1),by omega,rfl,hlt,p'⟩,fun x H' y=>?_⟩
  obtain⟨e,y⟩:=y
  subst e
  exact hs i x σ _ (y xs q) p
 ·have e:i=xs.length:=by omega
  subst e
  exact .inl ⟨⟨xs,q,ai _⟩,hd σ H p⟩
theorem jH1 {K:W.Frag}{a:Addr}{xs:List V}{g:TG}{tb:TS}{D:Ends}{σ:St}{H:Hp}(Pv:Nat->St->Hp->Prop)(h0:Pv 0 σ H)(hl:∀ i σ H,i<=xs.length->Pv i σ H->SqT K H a xs)
  (hs:∀ i x σ H,xs[i]?=some x->Pv i σ H->g x σ H fun σ2 H2=>tb { D with nx:=Pv (i+1),ct:=Pv (i+1),bk:=D.nx} σ2 H2) (hd:∀ σ H,Pv xs.length σ H->D.nx σ H):
  ∃ W:Nat->Nat->St->Hp->Prop,(∃ m,W 0 m σ H)/\∀ i m σ H,W i m σ H->
   ((Itt K a).stop i H/\D.nx σ H)\/((Itt K a).go i H/\∃ N:St->Hp->Prop,(∀ σ' H',N σ' H'->∃ m',m'<m/\W (i+1) m' σ' H')/\∀ x H',(Itt K a).yld i H x H'->g x σ H' fun σ2 H2=>tb { D with nx:=N,ct:=N,bk:=D.nx} σ2 H2):=by
 refine⟨fun i m σ H=>m=xs.length - i/\i<=xs.length/\Pv i σ H,⟨xs.length,by simp,aY _,h0⟩,?_⟩
 rintro i m σ H ⟨rfl,hi,p⟩
 have q:=hl i σ H hi p
 by_cases hlt:i<xs.length
 ·refine .inr ⟨⟨xs,xs[i],q,by simp [hlt]⟩,Pv (i+1),fun σ' H' p'=>⟨xs.length - (i+1),by omega,rfl,hlt,p'⟩,fun x H' y=>?_⟩
  obtain⟨e,y⟩:=y
  subst e
  exact hs i x σ _ (y xs q) p
 ·have e:i=xs.length:=by omega
  subst e
  exact .inl ⟨⟨xs,q,ai _⟩,hd σ H p⟩
theorem jDL {lo:Int}{n:Nat}{g:TG}{tb:TS}{D:Ends}{σ:St}{H:Hp}(Pv:Nat->St->Hp->Prop)(h0:Pv 0 σ H)
  (hs:∀ i σ H,i<n->Pv i σ H->g (.int (lo+i)) σ H fun σ2 H2=>tb { D with nx:=Pv (i+1),ct:=Pv (i+1),bk:=D.nx} σ2 H2) (hd:∀ σ H,Pv n σ H->D.nx σ H):
  ∃ W:Nat->Nat->St->Hp->Prop,(∃ m,W 0 m σ H)/\∀ i m σ H,W i m σ H->
   ((Itr lo n).stop i H/\D.nx σ H)\/((Itr lo n).go i H/\∃ N:St->Hp->Prop,(∀ σ' H',N σ' H'->∃ m',m'<m/\W (i+1) m' σ' H')/\∀ x H',(Itr lo n).yld i H x H'->g x σ H' fun σ2 H2=>tb { D with nx:=N,ct:=N,bk:=D.nx} σ2 H2):=by
 refine⟨fun i m σ H=>m=n - i/\i<=n/\Pv i σ H,⟨n,by simp,aY _,h0⟩,?_⟩
 rintro i m σ H ⟨rfl,hi,p⟩
 by_cases hlt:i<n
 ·refine .inr ⟨hlt,Pv (i+1),fun σ' H' p'=>⟨n - (i+1),by omega,rfl,hlt,p'⟩,fun x H' y=>?_⟩
  obtain⟨e,y⟩:=y
  subst e y
  exact hs i σ _ hlt p
 ·have e:i=n:=by omega
  subst e
  exact .inl ⟨ai _,hd σ H p⟩
end L2
namespace L2
open PySem PySem.Spec PyProof.Rows
abbrev R2:=V->V->Hp->VK->Prop
def OpR (X:Cx)(f:Value->Value->Sem Value)(r:R2):Prop:=
 ∀ (pins:List (Addr×Obj)) (s:Shared) (σ:St) (H:Hp) (x y:V) (v u:Value) (Q:VK),Inv X pins σ H s->RelV x v->RelV y u->r x y H Q->
  wpAny (model X.prog X.w) X.A (f v u) (EP X pins σ Q) X.xe s
def UnR (X:Cx)(f:Value->Sem Value)(r:V->Hp->VK->Prop):Prop:=
 ∀ (pins:List (Addr×Obj)) (s:Shared) (σ:St) (H:Hp) (x:V) (v:Value) (Q:VK),Inv X pins σ H s->RelV x v->r x H Q->
  wpAny (model X.prog X.w) X.A (f v) (EP X pins σ Q) X.xe s
def yO (X:Cx)(f:Value)(r:List V->Hp->VK->Prop):Prop:=
 ∀ (pins:List (Addr×Obj)) (s:Shared) (σ:St) (H:Hp) (xs:List V) (us:List Value) (Q:VK),Inv X pins σ H s->Vals xs us->r xs H Q->
  wpAny (model X.prog X.w) X.A (call f us) (EP X pins σ Q) X.xe s
def tOp (r:R2)(ta tb:TE):TE:=fun σ H Q=>ta σ H fun x H1=>tb σ H1 fun y H2=>r x y H2 Q
def tUn (r:V->Hp->VK->Prop)(ta:TE):TE:=fun σ H Q=>ta σ H fun x H1=>r x H1 Q
def rI (C:Int->Int->Prop)(g:Int->Int->V):R2:=fun x y H Q=>∃ i j,x= .int i/\y= .int j/\C i j/\Q (g i j) H
def rI0 (g:Int->Int->V):R2:=fun x y H Q=>∃ i j,x= .int i/\y= .int j/\Q (g i j) H
def rU (g:Int->V):V->Hp->VK->Prop:=fun x H Q=>∃ i,x= .int i/\Q (g i) H
section
variable {X:Cx}{a b c:Expr}{ta tb tc:TE}{pos:Pos}
theorem binT (ha:PE X a ta)(hb:PE X b tb){pins:List (Addr×Obj)}{s:Shared}{σ:St}{H:Hp}{R:V->V->Hp->Prop}(I:Inv X pins σ H s)
  (h:ta σ H fun x H1=>tb σ H1 fun y H2=>R x y H2) {Q:Value->Shared->Prop}{f:Value->Value->Sem Value}
  (hf:∀ v u s2 x y H2,Inv X pins σ H2 s2->RelV x v->RelV y u->R x y H2->wpAny (model X.prog X.w) X.A (f v u) Q X.xe s2):
  wpAny (model X.prog X.w) X.A (eval a X.env) (fun v s₁=>wpAny (model X.prog X.w) X.A (eval b X.env) (fun u s₂=>wpAny (model X.prog X.w) X.A (f v u) Q X.xe s₂) X.xe s₁) X.xe s:=by
 refine thn (ha pins s σ H _ I h) fun v s1 ⟨x,H1,I1,r1,q1⟩=>?_
 refine thn (hb pins s1 σ H1 _ I1 q1) fun u s2 ⟨y,H2,I2,r2,q2⟩=>?_
 exact hf v u s2 x y H2 I2 r1 r2 q2
theorem kL {op:Operator}{r:R2}(ho:OpR X (binaryOp op) r)(ha:PE X a ta)(hb:PE X b tb):PE X (.BinOp a op b pos) (tOp r ta tb):=by
 intro pins s σ H Q I h
 exact wpAny_BinOp (binT ha hb I h fun v u s2 x y H2 I2 rx ry q=>ho pins s2 σ H2 x y v u Q I2 rx ry q)
theorem pe_un {op:UnaryOp}{r:V->Hp->VK->Prop}(ho:UnR X (unaryOp op) r)(ha:PE X a ta):PE X (.UnaryOp op a pos) (tUn r ta):=by
 intro pins s σ H Q I h
 exact UnaryOp_ (thn (ha pins s σ H _ I h) fun v s1 ⟨x,H1,I1,r1,q1⟩=>ho pins s1 σ H1 x v Q I1 r1 q1)
theorem opI {f:Value->Value->Sem Value}{C:Int->Int->Prop}{g:Int->Int->Int}
  (rule:∀ (i j:Int) (t u:Tok) (s:Shared) (Q:Value->Shared->Prop) (E:Value->Shared->Prop),C i j->Q (.int (g i j) s.toks) { s with toks:=s.toks+1} ->wpAny (model X.prog X.w) X.A (f (.int i t) (.int j u)) Q E s):
  OpR X f (rI C fun i j=> .int (g i j)):=by
 intro pins s σ H x y v u Q I rx ry h
 obtain⟨i,j,rfl,rfl,hc,q⟩:=h
 obtain⟨t,rfl⟩:=rx
 obtain⟨t',rfl⟩:=ry
 exact rule i j t t' s _ _ hc ⟨.int (g i j),H,I.tok _,⟨_,rfl⟩,q⟩
theorem opI0 {f:Value->Value->Sem Value}{g:Int->Int->Int}
  (rule:∀ (i j:Int) (t u:Tok) (s:Shared) (Q:Value->Shared->Prop) (E:Value->Shared->Prop),Q (.int (g i j) s.toks) { s with toks:=s.toks+1} ->wpAny (model X.prog X.w) X.A (f (.int i t) (.int j u)) Q E s):
  OpR X f (rI0 fun i j=> .int (g i j)):=by
 intro pins s σ H x y v u Q I rx ry h
 obtain⟨i,j,rfl,rfl,q⟩:=h
 obtain⟨t,rfl⟩:=rx
 obtain⟨t',rfl⟩:=ry
 exact rule i j t t' s _ _ ⟨.int (g i j),H,I.tok _,⟨_,rfl⟩,q⟩
theorem opB0 {f:Value->Value->Sem Value}{g:Int->Int->Bool}
  (rule:∀ (i j:Int) (t u:Tok) (s:Shared) (Q:Value->Shared->Prop) (E:Value->Shared->Prop),Q (.bool (g i j)) s->wpAny (model X.prog X.w) X.A (f (.int i t) (.int j u)) Q E s):
  OpR X f (rI0 fun i j=> .bl (g i j)):=by
 intro pins s σ H x y v u Q I rx ry h
 obtain⟨i,j,rfl,rfl,q⟩:=h
 obtain⟨t,rfl⟩:=rx
 obtain⟨t',rfl⟩:=ry
 exact rule i j t t' s _ _ ⟨.bl (g i j),H,I,rfl,q⟩
def CPow (i j:Int):Prop:=0<=j/\j<=1000000/\i.natAbs<2 ^ 64
def CMul (i j:Int):Prop:=(-(2 ^ 64)<i/\i<2 ^ 64)\/(-(2 ^ 64)<j/\j<2 ^ 64)
theorem CMul.ok {i j:Int}(h:CMul i j):IntMulOk i j:=by
 rcases h with ⟨h1,h2⟩ | ⟨h1,h2⟩
 ·exact .of_left (intBits_le_64 h1 h2)
 ·exact .of_right (intBits_le_64 h1 h2)
theorem jIB (k:Nat):(0:Int)<=2 ^ k:=by
 rw[two_pow_cast]
 exact dW _
theorem yK:OpR X (binaryOp .Add) (rI0 fun i j=> .int (i+j)):=opI0 fun _ _ _ _ _ _ _ q=>add_int q
theorem jCK:OpR X (binaryOp .Sub) (rI0 fun i j=> .int (i - j)):=opI0 fun _ _ _ _ _ _ _ q=>sub_int q
theorem jCL:OpR X (binaryOp .Mult) (rI CMul fun i j=> .int (i*j)):=opI fun _ _ _ _ _ _ _ hc q=>mul_int q hc.ok
theorem jFP:OpR X (binaryOp .Mod) (rI (fun _ j=>0<j) fun i j=> .int (i % j)):=opI fun i j _ _ _ _ _ hc q=>by
 have h1:(0:Int)<j:=hc
 exact mod_int' (by omega) (by rw[Int.fmod_eq_emod_of_nonneg i (by omega)]; exact q)
theorem jJY:OpR X (binaryOp .Pow) (rI CPow fun i j=> .int (i ^ j.toNat)):=opI fun _ _ _ _ _ _ _ hc q=>pow_int_small hc.1 hc.2.1 hc.2.2 q
theorem jHL:OpR X (binaryOp .LShift) (rI CPow fun i j=> .int (i*2 ^ j.toNat)):=opI fun _ _ _ _ _ _ _ hc q=>lshift_int_small hc.1 hc.2.1 hc.2.2 q
theorem jNM:OpR X (binaryOp .RShift) (rI (fun _ j=>0<=j) fun i j=> .int (i / 2 ^ j.toNat)):=opI fun i j _ _ _ _ _ hc q=>
 rshift_int hc (by rw[fO i (jIB _)]; exact q)
theorem jHN:OpR X (binaryOp .BitAnd) (rI0 fun i j=> .int (Builtin.bitAnd i j)):=opI0 fun _ _ _ _ _ _ _ q=>and_int q
theorem op_or:OpR X (binaryOp .BitOr) (rI0 fun i j=> .int (Builtin.bitOr i j)):=opI0 fun _ _ _ _ _ _ _ q=>or_int q
theorem unI {f:Value->Sem Value}{g:Int->Int}
  (rule:∀ (i:Int) (t:Tok) (s:Shared) (Q:Value->Shared->Prop) (E:Value->Shared->Prop),Q (.int (g i) s.toks) { s with toks:=s.toks+1} ->wpAny (model X.prog X.w) X.A (f (.int i t)) Q E s):
  UnR X f (rU fun i=> .int (g i)):=by
 intro pins s σ H x v Q I rx h
 obtain⟨i,rfl,q⟩:=h
 obtain⟨t,rfl⟩:=rx
 exact rule i t s _ _ ⟨.int (g i),H,I.tok _,⟨_,rfl⟩,q⟩
theorem jDW:UnR X (unaryOp .USub) (rU fun i=> .int (-i)):=unI fun _ _ _ _ _ q=>neg_int q
theorem jQB:UnR X (unaryOp .Invert) (rU fun i=> .int (Builtin.bitNot i)):=unI fun _ _ _ _ _ q=>invert_int q
end
noncomputable def scal:V->V->Bool
 | .non, .non=>true | .non, .int _=>true | .int _, .non=>true | .non, .bl _=>true | .bl _, .non=>true | .non, .str _=>true | .str _, .non=>true
 | .int _, .int _=>true | .bl _, .bl _=>true | .str _, .str _=>true | .byt _, .byt _=>true
 | .int _, .str _=>true | .str _, .int _=>true | .bl _, .str _=>true | .str _, .bl _=>true
 | _,_=>false
def rEq:R2:=fun x y H Q=>scal x y=true/\Q (.bl (decide (x=y))) H
def rNe:R2:=fun x y H Q=>scal x y=true/\Q (.bl (!decide (x=y))) H
theorem jL1 {i j:Int} :decide (V.int i=V.int j)=(i==j):=by
 rw[bB]
 simp
theorem jO2 {i j:Bool} :decide (V.bl i=V.bl j)=(i==j):=by
 rw[bB]
 simp
theorem jL0 {i j:Str} :decide (V.str i=V.str j)=(i==j):=by
 rw[bB]
 simp
theorem jL2 {i j:Array UInt8} :decide (V.byt i=V.byt j)=(i.toList==j.toList):=by
 rw[bB]
 cases i
 cases j
 simp
section
variable {X:Cx}{a b c:Expr}{ta tb tc:TE}{pos:Pos}
theorem jU {pins:List (Addr×Obj)}{σ:St}{H:Hp}{s:Shared}{Q:VK}{k k':Bool}(I:Inv X pins σ H s)(q:Q (.bl k) H)(e:k=k'):EP X pins σ Q (.bool k') s:=by
 subst e
 exact⟨.bl k,H,I,rfl,q⟩
theorem yQ:OpR X (compareOp .Eq) rEq:=by
 intro pins s σ H x y v u Q I rx ry h
 obtain⟨hs,q⟩:=h
 cases x with
 | non=>
  cases rx
  cases y with
  | non=>cases ry; exact PySem.EqNone.eq_none_none (jU I q (by simp))
  | bl j=>cases ry; exact PySem.EqNone.eq_none_bool (jU I q (by simp))
  | int j=>obtain⟨t',rfl⟩:=ry; exact PySem.EqNone.eq_none_int (jU I q (by simp))
  | str j=>obtain⟨t',rfl⟩:=ry; exact PySem.EqNone.eq_none_str (jU I q (by simp))
  | _=>exact absurd (show false=true from hs) ag
 | bl i=>
  cases rx
  cases y with
  | non=>cases ry; exact PySem.EqNone.eq_bool_none (jU I q (by simp))
  | bl j=>cases ry; exact eq_bool (jU I q jO2)
  | str j=>obtain⟨t',rfl⟩:=ry; exact PySem.EqMixed.eq_bool_str (jU I q (by simp))
  | _=>exact absurd (show false=true from hs) ag
 | int i=>
  obtain⟨t,rfl⟩:=rx
  cases y with
  | non=>cases ry; exact PySem.EqNone.eq_int_none (jU I q (by simp))
  | int j=>obtain⟨t',rfl⟩:=ry; exact eq_int (jU I q jL1)
  | str j=>obtain⟨t',rfl⟩:=ry; exact PySem.EqMixed.eq_int_str (jU I q (by simp))
  | _=>exact absurd (show false=true from hs) ag
 | str i=>
  obtain⟨t,rfl⟩:=rx
  cases y with
  | non=>cases ry; exact PySem.EqNone.eq_str_none (jU I q (by simp))
  | bl j=>cases ry; exact PySem.EqMixed.eq_str_bool (jU I q (by simp))
  | int j=>obtain⟨t',rfl⟩:=ry; exact PySem.EqMixed.eq_str_int (jU I q (by simp))
  | str j=>obtain⟨t',rfl⟩:=ry; exact eq_str (jU I q jL0)
  | _=>exact absurd (show false=true from hs) ag
 | byt i=>
  obtain⟨t,rfl⟩:=rx
  cases y with
  | byt j=>obtain⟨t',rfl⟩:=ry; exact PySem.W.eq_bytes (jU I q jL2)
  | _=>exact absurd (show false=true from hs) ag
 | _=>cases y <;> exact absurd (show false=true from hs) ag
theorem op_ne:OpR X (compareOp .NotEq) rNe:=by
 intro pins s σ H x y v u Q I rx ry h
 obtain⟨hs,q⟩:=h
 cases x with
 | non=>
  cases rx
  cases y with
  | non=>cases ry; exact PySem.EqNone.ne_none_none (jU I q (by simp))
  | bl j=>cases ry; exact PySem.EqNone.ne_none_bool (jU I q (by simp))
  | int j=>obtain⟨t',rfl⟩:=ry; exact PySem.EqNone.ne_none_int (jU I q (by simp))
  | str j=>obtain⟨t',rfl⟩:=ry; exact PySem.EqNone.ne_none_str (jU I q (by simp))
  | _=>exact absurd (show false=true from hs) ag
 | bl i=>
  cases rx
  cases y with
  | non=>cases ry; exact PySem.EqNone.ne_bool_none (jU I q (by simp))
  | bl j=>cases ry; exact ne_bool (jU I q (bL not jO2))
  | str j=>obtain⟨t',rfl⟩:=ry; exact PySem.EqMixed.ne_bool_str (jU I q (by simp))
  | _=>exact absurd (show false=true from hs) ag
 | int i=>
  obtain⟨t,rfl⟩:=rx
  cases y with
  | non=>cases ry; exact PySem.EqNone.ne_int_none (jU I q (by simp))
  | int j=>obtain⟨t',rfl⟩:=ry; exact ne_int (jU I q (bL not jL1))
  | str j=>obtain⟨t',rfl⟩:=ry; exact PySem.EqMixed.ne_int_str (jU I q (by simp))
  | _=>exact absurd (show false=true from hs) ag
 | str i=>
  obtain⟨t,rfl⟩:=rx
  cases y with
  | non=>cases ry; exact PySem.EqNone.ne_str_none (jU I q (by simp))
  | bl j=>cases ry; exact PySem.EqMixed.ne_str_bool (jU I q (by simp))
  | int j=>obtain⟨t',rfl⟩:=ry; exact PySem.EqMixed.ne_str_int (jU I q (by simp))
  | str j=>obtain⟨t',rfl⟩:=ry; exact ne_str (jU I q (bL not jL0))
  | _=>exact absurd (show false=true from hs) ag
 | byt i=>
  obtain⟨t,rfl⟩:=rx
  cases y with
  | byt j=>obtain⟨t',rfl⟩:=ry; exact PySem.W.ne_bytes (jU I q (bL not jL2))
  | _=>exact absurd (show false=true from hs) ag
 | _=>cases y <;> exact absurd (show false=true from hs) ag
theorem op_lt:OpR X (compareOp .Lt) (rI0 fun i j=> .bl (decide (i<j))):=opB0 fun _ _ _ _ _ _ _ q=>lt_int q
theorem op_le:OpR X (compareOp .LtE) (rI0 fun i j=> .bl (decide (i<=j))):=opB0 fun _ _ _ _ _ _ _ q=>le_int q
theorem op_gt:OpR X (compareOp .Gt) (rI0 fun i j=> .bl (decide (j<i))):=opB0 fun _ _ _ _ _ _ _ q=>gt_int q
theorem op_ge:OpR X (compareOp .GtE) (rI0 fun i j=> .bl (decide (j<=i))):=opB0 fun _ _ _ _ _ _ _ q=>ge_int q
theorem jNN:OpR X (compareOp .Is) (fun x y H Q=>y= .non/\Q (.bl (decide (x= .non))) H):=by
 intro pins s σ H x y v u Q I rx ry h
 obtain⟨rfl,q⟩:=h
 cases ry
 refine is_none_gen (jU I q ?_)
 cases x <;> first
  | (cases rx; rfl)
  | (obtain⟨t,rfl⟩:=rx; rfl)
theorem jN (b:Expr){op:CmpOp}(h:op≠ .In:=by decide)(h2:op≠ .NotIn:=by decide):behindInMarks op b=false:=by
 have e1:(op==CmpOp.In)=false:=by cases op <;> first | rfl | exact absurd rfl h
 have e2:(op==CmpOp.NotIn)=false:=by cases op <;> first | rfl | exact absurd rfl h2
 cases b <;> simp [behindInMarks,e1,e2]
theorem jOV {op:CmpOp}{r:R2}(ho:OpR X (compareOp op) r)(ha:PE X a ta)(hb:PE X b tb)(hm:behindInMarks op b=false):PE X (.Compare a [op] [b] pos) (tOp r ta tb):=by
 intro pins s σ H Q I h
 exact wpAny_Compare1 (binT ha hb I h fun v u s2 x y H2 I2 rx ry q=>ho pins s2 σ H2 x y v u Q I2 rx ry q) hm
def tTest (t:TE):TT:=fun σ H Q=>t σ H fun x H'=>∃ k,x= .bl k/\Q k H'
theorem jD8 {op:CmpOp}{r:R2}(ho:OpR X (compareOp op) r)(ha:PE X a ta)(hb:PE X b tb)(hm:behindInMarks op b=false):PT X (.Compare a [op] [b] pos) (tTest (tOp r ta tb)):=by
 intro pins s σ H Q I h
 refine wpAny_isTrue_Compare1 (thn (ha pins s σ H _ I h) fun v s1 ⟨x,H1,I1,r1,q1⟩=>thn (hb pins s1 σ H1 _ I1 q1) fun u s2 ⟨y,H2,I2,r2,q2⟩=>
  thn (ho pins s2 σ H2 x y v u _ I2 r1 r2 q2) fun c s3 ⟨z,H3,I3,r3,k,e,q3⟩=>?_) hm
 subst e
 cases r3
 exact cJ ⟨H3,I3,q3⟩
def jN8 (r r':R2)(ta tb tc:TE):TE:=fun σ H Q=>ta σ H fun x H1=>tb σ H1 fun y H2=>r x y H2 fun z H3=>∃ k,z= .bl k/\
 (if k=true then tc σ H3 fun w' H4=>r' y w' H4 Q else Q (.bl false) H3)
theorem jM6 {op op':CmpOp}{r r':R2}(ho:OpR X (compareOp op) r)(ho':OpR X (compareOp op') r')(ha:PE X a ta)(hb:PE X b tb)(hc:PE X c tc)
  (hm:lastMarks [op,op'] [b,c]=false:=by with_unfolding_all rfl):PE X (.Compare a [op,op'] [b,c] pos) (jN8 r r' ta tb tc):=by
 intro pins s σ H Q I h
 refine Compare_chain (thn (ha pins s σ H _ I h) fun v s1 ⟨x,H1,I1,r1,q1⟩=>chain_link (thn (hb pins s1 σ H1 _ I1 q1) fun u s2 ⟨y,H2,I2,r2,q2⟩=>
  thn (ho pins s2 σ H2 x y v u _ I2 r1 r2 q2) fun d s3 ⟨z,H3,I3,r3,k,e,q3⟩=>?_)) hm
 subst e
 cases r3
 refine cJ ?_
 cases k with
 | false=>exact ite_ff ⟨.bl false,H3,I3,rfl,q3⟩
 | true=>exact ite_tt (chain_last (thn (hc pins s3 σ H3 _ I3 q3) fun w' s4 ⟨z',H4,I4,r4,q4⟩=>ho' pins s4 σ H4 y z' u w' Q I4 r2 r4 q4))
theorem jFT:(sizeLine:Nat)<2 ^ 63:=by rw[db]; decide
theorem vals1 {x:V}{us:List Value}(r:Vals [x] us):∃ u,us=[u]/\RelV x u:=by
 cases r with
 | cons r1 r2=>cases r2; exact⟨_,rfl,r1⟩
theorem vals2 {x y:V}{us:List Value}(r:Vals [x,y] us):∃ u w',us=[u,w']/\RelV x u/\RelV y w':=by
 cases r with
 | cons r1 r2=>
  cases r2 with
  | cons r3 r4=>cases r4; exact⟨_,_,rfl,r1,r3⟩
theorem jLG (hc:X.calm=true):yO X (.builtin "max") (fun xs H Q=>∃ i j,xs=[.int i, .int j]/\Q (.int (if j>i then j else i)) H):=by
 intro pins s σ H xs us Q I r h
 obtain⟨i,j,rfl,q⟩:=h
 obtain⟨u,w',rfl,⟨t,rfl⟩,⟨t',rfl⟩⟩:=vals2 r
 refine max_two_ints (I.ok.hd hc) fun h' tk k=>⟨_,H,I.kept k,?_,q⟩
 by_cases hj:j>i
 ·rw[am hj,am hj]; exact⟨_,rfl⟩
 ·rw[ak hj,ak hj]; exact⟨_,rfl⟩
theorem jLF (hc:X.calm=true):yO X (.builtin "min") (fun xs H Q=>∃ i j,xs=[.int i, .int j]/\Q (.int (if j<i then j else i)) H):=by
 intro pins s σ H xs us Q I r h
 obtain⟨i,j,rfl,q⟩:=h
 obtain⟨u,w',rfl,⟨t,rfl⟩,⟨t',rfl⟩⟩:=vals2 r
 refine min_two_ints (I.ok.hd hc) fun h' tk k=>⟨_,H,I.kept k,?_,q⟩
 by_cases hj:j<i
 ·rw[am hj,am hj]; exact⟨_,rfl⟩
 ·rw[ak hj,ak hj]; exact⟨_,rfl⟩
theorem jDR:yO X (.type "int") (fun xs H Q=>(∃ i,xs=[.int i]/\Q (.int i) H)\/∃ k,xs=[.bl k]/\Q (.int (if k then 1 else 0)) H):=by
 intro pins s σ H xs us Q I r h
 rcases h with ⟨i,rfl,q⟩ | ⟨k,rfl,q⟩
 ·obtain⟨u,rfl,t,rfl⟩:=vals1 r
  exact call_int_int ⟨.int i,H,I,⟨_,rfl⟩,q⟩
 ·obtain⟨u,rfl,r1⟩:=vals1 r
  cases r1
  exact call_int_bool ⟨.int (if k then 1 else 0),H,I.tok _,⟨_,rfl⟩,q⟩
end
end L2
namespace L2
open PySem PySem.Spec PyProof.Rows
structure ObjM (h:Heap)(x dx C:Addr)(mA:Str->Option Value):Prop where
 obj:h.get? x=some (instObj C dx)
 ns:h.Ns1 dx mA
 ne:dx≠x
theorem jKE {h:Heap}{dx:Addr}{mA:Str->Option Value}(n:h.Ns1 dx mA):∃ od,h.get? dx=some od/\∀ name,lookIn name od=some (mA name):=by
 obtain⟨o,es,ep,ho,hd,hk,_,hm⟩:=n
 refine⟨o,ho,fun name=>?_⟩
 have e:=hm name
 unfold nsFind findBy at e
 rw[<- Array.find?_toList] at e
 unfold lookIn
 rw[hd]
 dsimp only
 split
 ·rename_i y q
  rw[q] at e
  exact bL some e
 ·rename_i q
  rw[q] at e
  have a:es.toList.any (·.refKey)=false:=by
   rw[List.any_eq_false]
   intro y hy
   obtain⟨z,t,hkey⟩:=hk y (Array.mem_toList_iff.mp hy)
   simp [DictEntry.refKey,hkey]
  have a':¬ es.toList.any (·.refKey)=true:=by rw[a]; exact ag
  rw[ak a']
  exact bL some e
theorem ObjM.look {h:Heap}{x dx C:Addr}{mA:Str->Option Value}(I:ObjM h x dx C mA):∃ od,PySem.W.InstAt h x (instObj C dx) C (some od)/\∀ name,lookIn name od=some (mA name):=
 let ⟨od,ho,hl⟩:=jKE I.ns
 ⟨od,⟨I.obj,rfl,rfl,ho⟩,hl⟩
section
variable {prog:Program}{w:World}{A:Around}{E:Value->Shared->Prop}{s:Shared}{K:W.Frag}{x dx C f:Addr}{mA:Str->Option Value}{name:Str}{v:Value}
end
theorem RelO.some_of {v:V}{o:Option Value}(r:RelO (some v) o):∃ u,o=some u/\RelV v u:=by
 cases o with
 | none=>exact(show False from r).elim
 | some u=>exact⟨u,rfl,r⟩
section
variable {P:Program}{w:World}{H H':Hp}{h h':Heap}{a C dx:Addr}{fs fs':List (Str×V)}
theorem jPO (hok:HOk P w H h)(e:H a=some (.ins C dx fs)):∃ mA,ObjM h a dx C mA/\(∀ f,RelO (fs.lookup f) (mA f))/\PySem.Within mA (fs.map (·.1))/\fs.length<=1000/\H dx=some (.own a):=by
 obtain⟨d,z,ne,ob,mA,n,r,q⟩:=(show ObjOk P w H h a (.ins C dx fs) from hok a _ e)
 exact⟨mA,⟨ob,n,ne⟩,r,q,z,d⟩
end
structure Cls (K:W.Frag)(C:Addr):Prop where
 pg:plainGet K C Str.empty=true
 hd:PySem.W.hasDictIn K C=true
 po:PySem.W.plainOver K C=true
 sa:findIn K (.ref C) "__setattr__" =some (some (.builtin "object.__setattr__"))
theorem Cls.get {K:W.Frag}{C:Addr}(c:Cls K C)(f:Str):plainGet K C f=true:=c.pg
section
variable {X:Cx}{pins:List (Addr×Obj)}{σ:St}{H:Hp}{s:Shared}{a C dx:Addr}{fs:List (Str×V)}{f:Str}{v:V}{A:Around}{E:Value->Shared->Prop}
end
section
variable {X:Cx}{o e value:Expr}{f:Str}{pos pos' tpos:Pos}{ta tv:TE}
end
section
variable {X:Cx}{pins:List (Addr×Obj)}{σ:St}{H:Hp}{s:Shared}{A:Around}{E:Value->Shared->Prop}{Q:Value->Shared->Prop}{c:Value}{b:Bool}
inductive TyOf (K:W.Frag) (H:Hp):V->Value->Prop where
 | non:TyOf K H .non (.type "NoneType")
 | bl (x:Bool):TyOf K H (.bl x) (.type "bool")
 | int (i:Int):TyOf K H (.int i) (.type "int")
 | str (x:Str):TyOf K H (.str x) (.type "str")
 | flt (x:UInt64):TyOf K H (.flt x) (.type "float")
 | lst {a:Addr}{xs:List V}(e:H a=some (.lst xs)):TyOf K H (.ref a) (.type "list")
 | frz {a:Addr}{o:Obj}{xs:List V}(e:H a=some (.frz o (.lst xs))):TyOf K H (.ref a) (.type "list")
 | tup {a:Addr}{xs:List V}(e:H a=some (.tup xs)):TyOf K H (.ref a) (.type "tuple")
 | dK {a:Addr}{kvs:List (Key×V)}(e:H a=some (.dK kvs)):TyOf K H (.ref a) (.type "dict")
 | dT {a:Addr}{kvs:List (List Key×V)}(e:H a=some (.dT kvs)):TyOf K H (.ref a) (.type "dict")
 | ins {a C dx:Addr}{fs:List (Str×V)}(e:H a=some (.ins C dx fs)) (cl:Cls K C) (ha:findIn K (.ref C) "__class__" =some (some (.builtin "object.__class__")))
   (hn:PySem.W.specialIn K (.builtin "object.__class__") "__get__" =some (some (.builtin "getset_descriptor.__get__"))) (htk:PySem.W.takesIn K (.builtin "object.__class__")=some true)
   (hm:mroIn K C (.type "object")=some true):TyOf K H (.ref a) (.ref C)
theorem jKQ {x:V}{u t:Value}(I:Inv X pins σ H s)(rx:RelV x u)(ty:TyOf X.K H x t)(e:kitOne X.K t c=some b)(h:∀ tk,Q (.bool b) { s with toks:=tk}):
  wpAny (model X.prog X.w) A (call (.builtin "isinstance") [u,c]) Q E s:=by
 cases ty with
 | non=>cases (show u=Value.none from rx); exact bZ PySem.W.kitx_none I.kIn True.intro e (fun z=>nomatch z) h
 | bl y=>cases (show u=Value.bool y from rx); exact bZ PySem.W.kitx_bool I.kIn True.intro e (fun z=>nomatch z) h
 | int i=>obtain⟨t,q⟩:=(show ∃ t,u=Value.int i t from rx); cases q; exact bZ PySem.W.kitx_int I.kIn True.intro e (fun z=>nomatch z) h
 | str y=>obtain⟨t,q⟩:=(show ∃ t,u=Value.str y t from rx); cases q; exact bZ PySem.W.kitx_str I.kIn True.intro e (fun z=>nomatch z) h
 | flt y=>obtain⟨t,q⟩:=(show ∃ t,u=Value.float y t from rx); cases q; exact bZ PySem.W.kitx_float I.kIn True.intro e (fun z=>nomatch z) h
 | @lst a xs ea=>
  cases (show u=Value.ref a from rx)
  obtain⟨_,_,n,_,h1⟩:=(show ObjOk X.prog X.w H s.heap a (.lst xs) from I.hok a _ ea)
  exact bZ kitx_list I.kIn ⟨_,h1,rfl⟩ e (fun z=>nomatch z) h
 | @frz a ob xs ea=>
  cases (show u=Value.ref a from rx)
  obtain⟨_,_,_,n,_,h1⟩:=(show ObjOk X.prog X.w H s.heap a (.frz ob (.lst xs)) from I.hok a _ ea)
  exact bZ kitx_list I.kIn ⟨_,h1,rfl⟩ e (fun z=>nomatch z) h
 | @tup a xs ea=>
  cases (show u=Value.ref a from rx)
  obtain⟨_,_,_,p⟩:=(show ObjOk X.prog X.w H s.heap a (.tup xs) from I.hok a _ ea)
  obtain⟨o,h1,h2,_⟩:=p.isTup
  exact bZ PySem.W.kitx_tuple I.kIn ⟨o,h1,h2⟩ e (fun z=>nomatch z) h
 | @dK a kvs ea=>
  cases (show u=Value.ref a from rx)
  obtain⟨_,_,vs,_,p⟩:=(show ObjOk X.prog X.w H s.heap a (.dK kvs) from I.hok a _ ea)
  obtain⟨o,es,ep,h1,h2,_⟩:=p
  exact bZ kitx_dict I.kIn ⟨o,h1,h2.1⟩ e (fun z=>nomatch z) h
 | @dT a kvs ea=>
  cases (show u=Value.ref a from rx)
  obtain⟨_,_,xs,_,o,es,ep,h1,h2,_⟩:=(show ObjOk X.prog X.w H s.heap a (.dT kvs) from I.hok a _ ea)
  exact bZ kitx_dict I.kIn ⟨o,h1,h2.1⟩ e (fun z=>nomatch z) h
 | @ins a C dx fs ea cl ha hn htk hm=>
  cases (show u=Value.ref a from rx)
  obtain⟨mA,O,_⟩:=jPO I.hok ea
  obtain⟨od,J,_⟩:=O.look
  exact bZ (PySem.W.kitx_own (cl.get _) cl.hd ha hn htk hm) I.kIn J e (fun z=>nomatch z) h
end
end L2
namespace L2
open PySem PySem.Spec PyProof.Rows
structure Room (k:Nat)(A:Around):Prop where
 hd:A.handled=none
 dp:A.depth+3*k+5<recursionLimit
 un:A.units+16*k+200<cLine
theorem Room.mono {j k:Nat}{A:Around}(r:Room k A)(h:j<=k):Room j A:=⟨r.hd,by have:=r.dp; omega,by have:=r.un; omega⟩
theorem Room.deeper {k:Nat}{A:Around}(r:Room (k+1) A)(env:Env):Room k (A.deeper env):=
 ⟨r.hd,by have:=r.dp; show A.depth+1+3*k+5<_; omega,by have:=r.un; show A.units+3+16*k+200<_; omega⟩
theorem Room.depth {k:Nat}{A:Around}(r:Room k A):A.depth<recursionLimit:=by have:=r.dp; omega
theorem Room.units {k:Nat}{A:Around}(r:Room k A):A.units+64<cLine:=by have:=r.un; omega
theorem Room.units0 {k:Nat}{A:Around}(r:Room k A):A.units<cLine:=by have:=r.un; omega
def tNil:TA:=fun _ H Q=>Q [] H
def tCons (ta:TE)(tr:TA):TA:=fun σ H Q=>ta σ H fun x H1=>tr σ H1 fun xs H2=>Q (x::xs) H2
section
variable {X:Cx}{e:Expr}{es:List Expr}{te:TE}{t:TA}{pos:Pos}
theorem yD:PA X [] tNil:=fun _ _ _ _ H Q I h=>Calls.spliced_nil ⟨[],H,I, .nil,h⟩
theorem jW (ha:PE X e te)(hr:PA X es t)(hs:starEach (e::es) X.env=(false,eval e X.env)::starEach es X.env:=by rfl):PA X (e::es) (tCons te t):=by
 intro pos pins s σ H Q I h
 rw[hs]
 show wpAny _ _ (spliced ((false,eval e X.env)::backTo pos (starEach es X.env))) _ _ s
 refine Calls.spliced_cons (thn (ha pins s σ H _ I h) fun u s1 ⟨x,H1,I1,r1,q1⟩=>?_)
 exact thn (hr pos pins s1 σ H1 _ I1 q1) fun us s2 ⟨xs,H2,I2,r2,q2⟩=>⟨x::xs,H2,I2, .cons r1 r2,q2⟩
def tTup (t:TA):TE:=fun σ H Q=>t σ H fun xs H1=>xs.length<=sizeLine/\∀ p,H1 p=none->Q (.ref p) (upd H1 p (.tup xs))
def tLst (t:TA):TE:=fun σ H Q=>t σ H fun xs H1=>xs.length<=sizeLine/\∀ p,H1 p=none->Q (.ref p) (upd H1 p (.lst xs))
theorem jQW {x1}(h:PA X es t):PE X (.Tuple es x1 pos) (tTup t):=by
 intro pins s σ H Q I hq
 refine wpAny_Tuple_spliced (thn (h pos pins s σ H _ I hq) fun us s1 ⟨xs,H1,I1,r,z,q⟩=>⟨by rw[<- r.length]; exact z,?_⟩)
 have hf:H1 s1.heap.objs.size=none:=I1.hok.fresh (ai _)
 refine⟨.ref s1.heap.objs.size,upd H1 s1.heap.objs.size (.tup xs),I1.laid (t':=s1.toks) (fun b u e=>ab _ e) (ai _) ?_,rfl,q _ hf⟩
 exact⟨z,us,r,TupO.new _ _⟩
theorem jHK (h:PA X es t):PE X (.List es pos) (tLst t):=by
 intro pins s σ H Q I hq
 refine wpAny_List_spliced (thn (h pos pins s σ H _ I hq) fun us s1 ⟨xs,H1,I1,r,z,q⟩=>⟨by rw[<- r.length]; exact z,?_⟩)
 have hf:H1 s1.heap.objs.size=none:=I1.hok.fresh (ai _)
 refine⟨.ref s1.heap.objs.size,upd H1 s1.heap.objs.size (.lst xs),I1.laid (t':=s1.toks) (fun b u e=>ab _ e) (ai _) ?_,rfl,q _ hf⟩
 exact⟨z,us,0,r,aj _ rfl⟩
end
abbrev Sp:=List V->Hp->VK->XK->Prop
abbrev CXT:=List Env->Hp->Shared->XK->Value->Shared->Prop
structure Env0 (P:Program)(w:World)(K:W.Frag)(mg:Str->Option Value)(base:Heap)(A:Around)(outer:List Env)(s:Shared)(H:Hp):Prop where
 frames:A.frames=some outer
 mod:Mod K mg base
 bs:∀ b o,base.get? b=some o->s.heap.get? b=some o/\H b=none
 bsz:base.objs.size<=s.heap.objs.size
 funs:s.heap.FunFrames base outer
 frf:∀ b∈frs outer,H b=none
 hok:HOk P w H s.heap
 bare:AllBare s.gens
def CE (outer:List Env)(P:Program)(w:World)(H:Hp)(s:Shared)(Q:VK)(u:Value)(s':Shared):Prop:=
 ∃ v H',s'.os=s.os/\AllBare s'.gens/\Un (frs outer) [] H H' s.heap s'.heap/\HOk P w H' s'.heap/\RelV v u/\Q v H'
def CR (CX:CXT)(outer:List Env)(P:Program)(w:World)(H:Hp)(s:Shared)(Q:VK)(E:XK)(r:Result)(s':Shared):Prop:=
 match r with
 | .ok (.ret u)=>CE outer P w H s Q u s'
 | .ok _=>False
 | .error e=>CX outer H s E e s'
structure FnOk (P:Program)(w:World)(K:W.Frag)(mg:Str->Option Value)(base:Heap)(CX:CXT)(k:Nat)(f:Addr)(fd:FuncData)(ps:List Str)(sp:Sp):Prop where
 len:∀ vs H Q E,sp vs H Q E->vs.length=ps.length
 run:∀ (A:Around) (outer:List Env) (s:Shared) (H:Hp) (args:Args) (us:List Value) (vs:List V) (Q:VK) (E:XK),Room k A->Env0 P w K mg base A outer s H->BindsTo s fd args (ps.zip us)->Vals vs us->sp vs H Q E->
  codeAny (model P w) A (.call (.ref f) args) (CR CX outer P w H s Q E) s
section
variable {X:Cx}{pins:List (Addr×Obj)}{σ:St}{H:Hp}{s s':Shared}
theorem Inv.env0 (I:Inv X pins σ H s):Env0 X.prog X.w X.K X.mg X.base X.A X.stack s H:=
 ⟨I.ok.frames,I.ok.mod,I.bs,bJ I.ok.bsz I.sz,I.stack,I.stkFree,I.hok,I.bare⟩
theorem Inv.after {Q:VK}{u:Value}(I:Inv X pins σ H s)(h:CE X.stack X.prog X.w H s Q u s'):EP X pins σ Q u s':=by
 obtain⟨v,H',os,bare,un,hok,r,q⟩:=h
 obtain⟨hh,g,d,t,os'⟩:=s'
 obtain rfl:os'=s.os:=os
 exact⟨v,H',I.call (h':=hh) (g':=g) (d':=d) (t':=t) (ch:=[]) un hok bare (fun b z=>absurd z (by simp)),r,q⟩
end
def tCall (sp:Sp)(dvs:List V)(E:XK)(t:TA):TE:=fun σ H Q=>t σ H fun vs H1=>sp (vs++dvs) H1 Q E
def Binds (K:W.Frag)(fd:FuncData)(ps:List Str)(ds:List Value):Prop:=
 ∀ (s:Shared) (us:List Value),K.In s.heap->(us++ds).length=ps.length->BindsTo s fd ⟨us,[]⟩ (ps.zip (us++ds))
theorem Binds.all {K:W.Frag}{fd:FuncData}{ps:List Str}(h:∀ us:List Value,us.length=ps.length->bindArgs fd ⟨us,[]⟩=pure (ps.zip us)):Binds K fd ps []:=fun s us _ hl=>by
 rw[aZ] at hl ⊢
 exact .of_eq (h us hl)
def jLP (CX:CXT)(X:Cx)(E:XK):Prop:=∀ (pins:List (Addr×Obj)) (σ:St) (H:Hp) (s:Shared) (e:Value) (s':Shared),Inv X pins σ H s->CX X.stack H s E e s'->X.xe e s'
section
variable {X:Cx}{CX:CXT}{k:Nat}{f C:Addr}{fd:FuncData}{ps:List Str}{sp:Sp}{dvs:List V}{ds:List Value}{E:XK}{x m:Str}{p pos apos:Pos}{e o:Expr}{es:List Expr}{ta:TE}{t:TA}
theorem jQJ {pins:List (Addr×Obj)}{σ:St}{H:Hp}{s:Shared}{Q:VK}{us:List Value}{vs:List V}(F:FnOk X.prog X.w X.K X.mg X.base CX k f fd ps sp)(hr:Room k X.A)(hb:Binds X.K fd ps ds)(hd:Vals dvs ds)(hx:jLP CX X E)
  (I:Inv X pins σ H s) (r:Vals vs us) (h:sp (vs++dvs) H Q E):wpAny (model X.prog X.w) X.A (call (.ref f) us) (EP X pins σ Q) X.xe s:=by
 have r2:Vals (vs++dvs) (us++ds):=r.append hd
 have hl:(us++ds).length=ps.length:=by rw[<- r2.length]; exact F.len _ _ _ _ h
 refine wpAny_call (dJ (F.run X.A X.stack s H ⟨us,[]⟩ (us++ds) (vs++dvs) Q E hr I.env0 (hb s us I.kIn hl) r2 h) fun r s' hq=>?_)
 cases r with
 | error e=>exact hx pins σ H s e s' I hq
 | ok fl=>
  cases fl with
  | ret u=>exact I.after hq
  | next=>exact False.elim hq
  | brk=>exact False.elim hq
  | cont=>exact False.elim hq
theorem jOW (F:FnOk X.prog X.w X.K X.mg X.base CX k f fd ps sp)(hr:Room k X.A)(hg:Gl X x)(hm:X.mg x=some (.ref f))(hk:keepIn X.K (.ref f)=true)(hb:Binds X.K fd ps ds)(hd:Vals dvs ds)(hx:jLP CX X E)
  (ha:PA X (e::es) t) (hdb:(x==("__debug__" :Str))=false:=by decide) (he:starEach (e::es) X.env=(false,eval e X.env)::starEach es X.env:=by rfl) (hpl:(backTo pos (starEach es X.env)).any (·.1)=false:=by rfl):
  PE X (.Call (.Name x p) (e::es) [] pos) (tCall sp dvs E t):=by
 intro pins s σ H Q I h
 refine dw (jPI I hg hm ?_ hdb)
 refine PySem.W.callWith_K (h₀:=X.base) I.ok.mod.kin hk (thn (ha pos pins s σ H _ I h) fun us s1 ⟨vs,H1,I1,r,q⟩=>⟨I1.kIn,?_⟩) he hpl
 exact jQJ F hr hb hd hx I1 r q
end
def PK (X:Cx)(kws:List Keyword)(t:TA):Prop:=
 ∀ (pos:Pos) (pins:List (Addr×Obj)) (s:Shared) (σ:St) (H:Hp) (Q:List V->Hp->Prop),Inv X pins σ H s->t σ H Q->wpAny (model X.prog X.w) X.A (evalAll ((backToKw pos (keywordEach kws X.env)).map (·.2))) (AP X pins σ Q) X.xe s
section
variable {X:Cx}{CX:CXT}{k:Nat}{f C:Addr}{fd:FuncData}{ps ks:List Str}{sp:Sp}{E:XK}{x m:Str}{p pos apos kpos:Pos}{e o:Expr}{es:List Expr}{kws:List Keyword}{te ta:TE}{t tk:TA}{nm:Option Str}
theorem jQR:PK X [] tNil:=fun _ _ _ _ H Q I h=>wpAny_evalAll_nil ⟨[],H,I, .nil,h⟩
theorem jOM (ha:PE X e te)(hr:PK X kws t):PK X (⟨nm,e,kpos⟩::kws) (tCons te t):=by
 intro pos pins s σ H Q I h
 show wpAny _ _ (evalAll ((do let v <- eval e X.env; standAt pos; pure v)::(backToKw pos (keywordEach kws X.env)).map (·.2))) _ _ s
 refine wpAny_evalAll_cons (aa (thn (ha pins s σ H _ I h) fun u s1 ⟨x,H1,I1,r1,q1⟩=>aa (gm (af ?_))))
 exact thn (hr pos pins s1 σ H1 _ I1 q1) fun us s2 ⟨xs,H2,I2,r2,q2⟩=>⟨x::xs,H2,I2, .cons r1 r2,q2⟩
variable {g:List Value->List Value->List Value}{gV:List V->List V->List V}
end
structure FnScope (N P:List Str)(sc:Scope):Prop where
 kind:sc.kind= .function
 co:sc.isCoroutine=false
 gen:sc.isGenerator=false
 nd:N.Nodup
 pre:N.take P.length=P
 par:∀ x∈P,sc.names.lookup x=some .local\/sc.names.lookup x=some .cell
 nofree:∀ y∈sc.names,y.2≠ .free
theorem jG6 {kindOf:Str->Option NameKind}{x:Str} :∀ {binds:List (Str×Value)}{m:Str->Option Value},(∀ v,(x,v)∉binds)->bindL kindOf binds m x=m x
 | [],_,_=>rfl
 | (n,v)::r,m,h=>by
  unfold bindL
  rw[jG6 fun w hw=>h w (aK _ hw)]
  split
  ·have:x≠n:=by rintro rfl; exact h v aJ
   simp [this]
  ·rfl
theorem jG8 {kindOf:Str->Option NameKind}{x:Str} :∀ {binds:List (Str×Value)}{m:Str->Option Value},(∀ v,(x,v)∉binds)->bindC kindOf binds m x=m x
 | [],_,_=>rfl
 | (n,v)::r,m,h=>by
  unfold bindC
  rw[jG8 fun w hw=>h w (aK _ hw)]
  split
  ·rfl
  ·have:x≠n:=by rintro rfl; exact h v aJ
   simp [this]
theorem jG7 {kindOf:Str->Option NameKind}{x:Str}{v:Value} :∀ {P:List Str}{vs:List Value}{i:Nat}{m:Str->Option Value},P.Nodup->P[i]?=some x->vs[i]?=some v->kindOf x=some .local->
  bindL kindOf (P.zip vs) m x=some v
 | [],_,_,_,_,h,_,_=>by simp at h
 | _::_,[],_,_,_,_,h,_=>by simp at h
 | p::P,w::vs,0,m,nd,h1,h2,hk=>by
  simp at h1 h2; subst h1; subst h2
  show bindL kindOf ((p,w)::P.zip vs) m p=_
  unfold bindL
  rw[jG6 fun v hv=>(cM.mp nd).1 (dA hv).1,am hk]
  simp
 | p::P,w::vs,i+1,m,nd,h1,h2,hk=>by
  show bindL kindOf ((p,w)::P.zip vs) m x=_
  unfold bindL
  exact jG7 (i:=i) (cM.mp nd).2 (by simpa using h1) (by simpa using h2) hk
theorem jG9 {kindOf:Str->Option NameKind}{x:Str}{v:Value} :∀ {P:List Str}{vs:List Value}{i:Nat}{m:Str->Option Value},P.Nodup->P[i]?=some x->vs[i]?=some v->kindOf x≠some .local->
  bindC kindOf (P.zip vs) m x=some v
 | [],_,_,_,_,h,_,_=>by simp at h
 | _::_,[],_,_,_,_,h,_=>by simp at h
 | p::P,w::vs,0,m,nd,h1,h2,hk=>by
  simp at h1 h2; subst h1; subst h2
  show bindC kindOf ((p,w)::P.zip vs) m p=_
  unfold bindC
  rw[jG8 fun v hv=>(cM.mp nd).1 (dA hv).1,ak hk]
  simp
 | p::P,w::vs,i+1,m,nd,h1,h2,hk=>by
  show bindC kindOf ((p,w)::P.zip vs) m x=_
  unfold bindC
  exact jG9 (i:=i) (cM.mp nd).2 (by simpa using h1) (by simpa using h2) hk
def kZ (N:List Str)(vs:List V):St:=vs.map some++replicate (N.length - vs.length) none
def cxOf (CX:CXT)(P:Program)(w:World)(K:W.Frag)(mg:Str->Option Value)(base:Heap)(N:List Str)(qual:Str)(scope:Scope)(f:Addr)(cd:Value)(A:Around)(outer:List Env)(s:Shared)(H:Hp)(E:XK):Cx where
 prog:=P
 w:=w
 K:=K
 mg:=mg
 base:=base
 A:=A.deeper (envOfC qual scope s.heap.objs.size f cd)
 N:=N
 s₀:=s
 H₀:=H
 env:=envOfC qual scope s.heap.objs.size f cd
 outer:=outer
 stack:=envOfC qual scope s.heap.objs.size f cd::outer
 ex:=[]
 calm:=true
 fn:=fun _=>true
 pn:=[]
 xe:=fun e s'=>wpAny (model P w) (A.deeper (envOfC qual scope s.heap.objs.size f cd)) (leaving (envOfC qual scope s.heap.objs.size f cd) e) (fun _ s''=>CX outer H s E e s'') (fun e' s''=>CX outer H s E e' s'') s'
theorem jI4 {sc:Scope}{n:Nat}{x:Str}(h:sc.names.lookup x=some .cell):∃ c,(cellsFrom n sc.names []).lookup x=some c:=by
 have q:=eg sc.names n [] (.inl h)
 exact Option.isSome_iff_exists.mp q
theorem jFX {CX:CXT}{P:Program}{w:World}{K:W.Frag}{mg:Str->Option Value}{base:Heap}{N ps:List Str}{qual:Str}{scope:Scope}{f:Addr}{cd:Value}{A:Around}{outer:List Env}{s s1:Shared}{H:Hp}{E:XK}{us:List Value}{vs:List V}
  (S:FnScope N ps scope) (hd:A.handled=none) (e0:Env0 P w K mg base A outer s H) (hl:vs.length=ps.length) (r:Vals vs us)
  (x:InCallC s s.heap.objs.size (bindL (envOfC qual scope s.heap.objs.size f cd).kindOf (ps.zip us) fun _=>none) (cellsFrom (s.heap.objs.size+1) scope.names []) (bindC (envOfC qual scope s.heap.objs.size f cd).kindOf (ps.zip us) fun _=>none) s1):
  Inv (cxOf CX P w K mg base N qual scope f cd A outer s H E) [] (kZ N vs) H s1:=by
 have hpl:ps.length<=N.length:=by have:=bL List.length S.pre; rw[aV] at this; omega
 obtain⟨h1,tk,rfl,hk⟩:=x.done
 have noA:∀ b:Addr,b∉(cxOf CX P w K mg base N qual scope f cd A outer s H E).ex:=fun b z=>absurd (show b∈([]:List Addr) from z) (by simp)
 refine⟨⟨e0.mod,S.kind,rfl,rfl,ai _,fun y z c h1 h2=>?_,fun y hy=>?_,fun y c _ h=>?_,fun _=>hd,Around.frames_deeper e0.frames, .inr ⟨rfl,rfl⟩,fun b z=>absurd z (noA b),e0.bs,e0.bsz,fun b _ _=>noA b,fun b z=>absurd z (noA b),e0.funs,e0.frf⟩,
  rfl,e0.bare,Un.kept hk,⟨_,x.toInCall.ns,fun i y v h1 h2 h3=>?_⟩,fun y c h=>⟨_,x.cell y c h⟩,e0.hok.fresh (ai _),fun y c h=>?_,fun p hp=>absurd (show p∈([]:List (Addr×Obj)) from hp) (by simp),e0.hok.kept hk,?_⟩
 ·exact name_of_addr x.apart (cA h1) (cA h2)
 ·have hy:scope.names.lookup y=some .cell\/scope.names.lookup y=some .free:=hy
  rcases hy with hy | hy
  ·exact jI4 hy
  ·exact absurd rfl (S.nofree _ (cA hy))
 ·exact dr (x.above y c (cA h))
 ·have hi:i<vs.length:=by
   unfold kZ at h2
   by_cases hi:i<vs.length
   ·exact hi
   ·rw[aX (by simpa using hi)] at h2
    rw[gw] at h2
    split at h2 <;> cases h2
  have ha:vs[i]?=some v:=by
   unfold kZ at h2
   rw[bN (by simpa using hi),aU] at h2
   cases e:vs[i]? with
   | none=>rw[e] at h2; cases h2
   | some a=>rw[e] at h2; cases h2; rfl
  obtain⟨u,hu,rv⟩:=r.get ha
  have hp:ps[i]?=some y:=by
   rw[<- S.pre,bQ (by omega)]; exact h1
  have ndP:ps.Nodup:=by rw[<- S.pre]; exact S.nd.sublist (dc _ _)
  refine⟨u,rv,?_⟩
  rcases S.par y (ay hp) with k | k
  ·exact .inl ⟨k,jG7 ndP hp hu k⟩
  ·obtain⟨c,e⟩:=jI4 (n:=s.heap.objs.size+1) k
   refine .inr ⟨.inl k,c,e,?_⟩
   have q:=x.cell y c e
   rw[jG9 ndP hp hu (by show scope.names.lookup y≠_; rw[k]; decide)] at q
   exact q
 ·exact e0.hok.fresh (dr (x.above y c (cA h)))
 ·unfold kZ
  show _=N.length
  rw[az,ae,eN]
  omega
theorem fn_of {CX:CXT}{P:Program}{w:World}{K:W.Frag}{mg:Str->Option Value}{base:Heap}{k:Nat}{f:Addr}{name qual:Str}{params:Arguments}{body:List Stmt}{scope:Scope}{dV kV doc pm cdv ct oc:Value}{an od:Option Addr}
  {osl:Array (Option Value)}{N ps:List Str}{sp:Sp}(lk:K.lookup f=some ⟨oc,od, .func (PySem.W.fnOf name qual params body scope dV kV doc pm an cdv ct),osl⟩) (hcd:PySem.W.codeIn K cdv qual=true) (S:FnScope N ps scope)
  (len:∀ vs H Q E,sp vs H Q E->vs.length=ps.length)
  (hbody:∀ (A:Around) (outer:List Env) (s:Shared) (H:Hp) (vs:List V) (Q:VK) (E:XK),Room k (A.deeper (envOfC qual scope s.heap.objs.size f cdv))->sp vs H Q E->
   ∃ t,PSs (cxOf CX P w K mg base N qual scope f cdv A outer s H E) body t/\t { nx:=fun _ H'=>Q .non H',rt:=Q} (kZ N vs) H):
  FnOk P w K mg base CX (k+1) f (PySem.W.fnOf name qual params body scope dV kV doc pm an cdv ct) ps sp:=by
 refine⟨len,fun A outer s H args us vs Q E hr e0 hb r hsp=>?_⟩
 have hl:=len _ _ _ _ hsp
 have KX:K.In s.heap:=e0.mod.kin.keeps fun b o e=>(e0.bs b o e).1
 have lim:s.heap.NoLimit:=e0.mod.nolimit.keeps fun b o e=>(e0.bs b o e).1
 have hkind:∀ y∈ps.zip us,scope.names.lookup y.1=some .local\/(scope.names.lookup y.1=some .cell/\((cellsFrom (s.heap.objs.size+1) scope.names []).lookup y.1).isSome=true):=fun ⟨n,v⟩ hy=>by
  rcases S.par n (dA hy).1 with q | q
  ·exact .inl q
  ·exact .inr ⟨q,eg _ _ _ (.inl q)⟩
 refine codeAny_call_function hr.depth (KX _ _ lk) rfl S.co S.gen rfl (ij KX hcd) (hb _ _ _ _ ?_)
 refine fY S.kind hkind fun env he s1 x=>?_
 subst he
 refine⟨lim.keeps x.toInCall.keep,codeAny_func ?_⟩
 obtain⟨t,ht,hq⟩:=hbody A outer s H vs Q E (hr.deeper _) hsp
 have I:Inv (cxOf CX P w K mg base N qual scope f cdv A outer s H E) [] (kZ N vs) H s1:=jFX S hr.hd e0 hl r x
 refine bU (ht [] s1 (kZ N vs) H _ I hq) (fun fl s' hs=>?_) fun e s' hs=>hs
 have fin:∀ {σ':St}{H':Hp}{v:V}{u:Value},Inv (cxOf CX P w K mg base N qual scope f cdv A outer s H E) [] σ' H' s'->RelV v u->Q v H'->CE outer P w H s Q u s':=
  fun {σ' H' v u} J rv q=>⟨v,H',J.os,J.bare,J.base,J.hok,rv,q⟩
 cases fl with
 | ret u=>
  obtain⟨v,σ',H',J,rv,q⟩:=hs
  exact fin J rv q
 | next=>
  obtain⟨σ',H',J,q⟩:=hs
  exact fin (v:=V.non) (u:=Value.none) J rfl q
 | brk=>
  obtain⟨_,_,_,q⟩:=hs
  exact False.elim q
 | cont=>
  obtain⟨_,_,_,q⟩:=hs
  exact False.elim q
end L2
namespace L2
open PySem PySem.Spec PyProof.Rows
section
variable {X:Cx}{x:Str}{p pos:Pos}{e:Expr}{es:List Expr}{t:TA}{id T:String}{r:List V->Hp->VK->Prop}
def tCB (r:List V->Hp->VK->Prop)(t:TA):TE:=fun σ H Q=>t σ H fun vs H1=>r vs H1 Q
theorem jEP (hc:yO X (.builtin id) r)(hg:Gl X x)(hm:X.mg x=none)(hv:bootBuiltins x=some (.builtin id))(ha:PA X (e::es) t)(hn:x≠ "__name__" :=by decide)(hdb:(x==("__debug__" :Str))=false:=by decide)
  (he:starEach (e::es) X.env=(false,eval e X.env)::starEach es X.env:=by rfl) (hpl:(backTo pos (starEach es X.env)).any (·.1)=false:=by rfl):PE X (.Call (.Name x p) (e::es) [] pos) (tCB r t):=by
 intro pins s σ H Q I h
 refine dw (jCM I hg hm hv ?_ hn hdb)
 exact PyProof.Rows.callWith_builtin1 (thn (ha pos pins s σ H _ I h) fun us s1 ⟨vs,H1,I1,r1,q1⟩=>hc pins s1 σ H1 vs us Q I1 r1 q1) he hpl
theorem jBN (hc:yO X (.type T) r)(hg:Gl X x)(hm:X.mg x=none)(hv:bootBuiltins x=some (.type T))(ha:PA X (e::es) t)(hn:x≠ "__name__" :=by decide)(hdb:(x==("__debug__" :Str))=false:=by decide)
  (he:starEach (e::es) X.env=(false,eval e X.env)::starEach es X.env:=by rfl) (hpl:(backTo pos (starEach es X.env)).any (·.1)=false:=by rfl):PE X (.Call (.Name x p) (e::es) [] pos) (tCB r t):=by
 intro pins s σ H Q I h
 refine dw (jCM I hg hm hv ?_ hn hdb)
 exact cw (thn (ha pos pins s σ H _ I h) fun us s1 ⟨vs,H1,I1,r1,q1⟩=>hc pins s1 σ H1 vs us Q I1 r1 q1) he hpl
end
end L2
namespace HT
open PySem PyProof.Rows
section
open PySem.SeqAt
open PySem.AutoSeq1 (wpAny_loadPart')
open PySem.MeetsSeq PySem.MeetsSeq2 PySem.MeetsSeq3
end
section
variable {prog:Program}{w:World}{A:Around}{E:Value->Shared->Prop}{s:Shared}
theorem cat_tup {t b:Addr}{vs ws:List Value}{Q:Value->Shared->Prop}(ht:IsTup s.heap t vs.toArray)(hb:IsTup s.heap b ws.toArray)(hv:vs≠ [])
  (h1:ws=[]->Q (.ref t) s) (h2:ws≠ []->Q (.ref s.heap.objs.size) { s with heap:=s.heap.push { cls:= .type "tuple",data:= .seq (vs++ws).toArray}})
  (hsz:vs.length+ws.length<=sizeLine):wpAny (model prog w) A (binaryOp .Add (.ref t) (.ref b)) Q E s:=by
 obtain⟨⟨cls,dd,data,sl⟩,ho,hc,n,hd⟩:=id ht
 obtain⟨⟨cls2,dd2,data2,sl2⟩,ho2,hc2,n2,hd2⟩:=id hb
 simp only at hc hd hc2 hd2
 subst hc hd hc2 hd2
 have e:vs.toArray++ws.toArray=(vs++ws).toArray:=by simp
 by_cases hw:ws=[]
 ·exact concat_meets ⟨_,ho,rfl⟩ ⟨_,ho2,rfl⟩ gx seq_tuple_add eh dZ (dS _ _)
   (tuple_addW1 t b vs.toArray ws.toArray n n2 dd dd2 sl sl2 (by simpa using hv) (by simp [hw])) ⟨ho,ho2,h1 hw⟩
 ·refine concat_meets ⟨_,ho,rfl⟩ ⟨_,ho2,rfl⟩ gx seq_tuple_add eh dZ (dS _ _)
   (tuple_addW2 t b vs.toArray ws.toArray n n2 dd dd2 sl sl2 (by simpa using hv) (by simpa using hw) (by rw[aA,aA]; exact hsz)) ⟨ho,ho2,?_⟩
  rw[e]
  exact h2 hw
noncomputable def sIx (n d:Nat):Option Int->Nat
 | none=>d
 | some v=>if v<0 then (v+(n:Int)).toNat else min v.toNat n
theorem sIx_none (n d:Nat):sIx n d none=d:=rfl
theorem sIx_nat (n d k:Nat):sIx n d (some (k:Int))=min k n:=by
 show (if (k:Int)<0 then ((k:Int)+(n:Int)).toNat else min (k:Int).toNat n)=min k n
 rw[ak (by omega),bf]
theorem jQI (n d:Nat)(hd:d<=n)(o:Option Int):sIx n d o<=n:=by
 cases o with
 | none=>exact hd
 | some v=>
  show (if v<0 then (v+(n:Int)).toNat else min v.toNat n)<=n
  by_cases hv:v<0
  ·rw[am hv]; omega
  ·rw[ak hv]; exact Nat.min_le_right _ _
theorem jLA (v:Int)(n d:Nat):(if v<0 then max (v+(n:Int)) 0 else min v (n:Int))=((sIx n d (some v):Nat):Int):=by
 show (if v<0 then max (v+(n:Int)) 0 else min v (n:Int))=(((if v<0 then (v+(n:Int)).toNat else min v.toNat n):Nat):Int)
 by_cases hv:v<0
 ·simp only [am hv]; omega
 ·simp only [ak hv]; omega
theorem jJ1 (lo hi:Option Int)(n:Nat):Builtin.Slice.sliceAdjust lo hi 1 (n:Int)=(((sIx n 0 lo:Nat):Int),((sIx n n hi:Nat):Int)):=by
 have h1:¬ ((1:Int)<0):=by omega
 unfold Builtin.Slice.sliceAdjust
 simp only [h1,if_false]
 refine Prod.ext ?_ ?_
 ·cases lo with
  | none=>rfl
  | some v=>exact jLA v n 0
 ·cases hi with
  | none=>rfl
  | some v=>exact jLA v n n
theorem jIK (i j:Nat):Builtin.Slice.slicePlaces (i:Int) (j:Int) 1=j - i:=by
 unfold Builtin.Slice.slicePlaces
 have h1:(1:Int)>0:=by omega
 simp only [h1,ft,Int.ediv_one]
 split <;> omega
theorem jDZ {v:Value}{o:Option Int}{Q:Option Int->Shared->Prop}(p:IsPart v o)(h:Q o s):wpAny (model prog w) A (Builtin.Slice.slicePartIndex v) Q E s:=by
 cases p with
 | none=>exact slicePart_none h
 | int i t=>exact slicePart_int h
theorem sliceApplied_gen {sl:Addr}{vl vu:Value}{lo hi:Option Int}{n:Nat}{Q:Int×Int×Nat->Shared->Prop}(hs:s.heap.IsSliceOf sl vl vu .none)(pl:IsPart vl lo)(pu:IsPart vu hi)
  (h:Q (((sIx n 0 lo:Nat):Int),1,sIx n n hi - sIx n 0 lo) s):wpAny (model prog w) A (Builtin.Slice.sliceApplied (.ref sl) (pure (n:Int))) Q E s:=by
 obtain⟨os,hos,hcs,hds⟩:=id hs
 unfold Builtin.Slice.sliceApplied Builtin.Slice.sliceFields
 refine aa (aa (bA hos hds (x:=vl) rfl (aa (bA hos hds (x:=vu) rfl (aa (bA hos hds (x:= .none) rfl (af ?_)))))))
 refine aa (slicePart_none ?_)
 show wpAny _ _ (if ((1:Int)==0)=true then _ else _) _ _ s
 rw[ak (by decide)]
 refine aa (jDZ pl (aa (jDZ pu (aa (af ?_)))))
 show wpAny _ _ (match Builtin.Slice.sliceAdjust lo hi 1 (n:Int) with | (lo,hi)=>pure (lo,(1:Int),Builtin.Slice.slicePlaces lo hi 1)) _ _ s
 rw[jJ1 lo hi n]
 show wpAny _ _ (pure (((sIx n 0 lo:Nat):Int),(1:Int),Builtin.Slice.slicePlaces ((sIx n 0 lo:Nat):Int) ((sIx n n hi:Nat):Int) 1)) _ _ s
 rw[jIK]
 exact af h
theorem jM0 (xs:Array Value)(i k:Nat):((List.range k).filterMap fun (m:Nat)=>xs[((i:Int)+(m:Int)*1).toNat]?).toArray=((xs.toList.drop i).take k).toArray:=by
 have e:(fun (m:Nat)=>xs[((i:Int)+(m:Int)*1).toNat]?)=fun m=>xs[i+m]?:=by
  funext m
  have:((i:Int)+(m:Int)*1).toNat=i+m:=by omega
  rw[this]
 rw[e]
 have:=pick_run xs i k
 rw[List.filterMap_map] at this
 have e2:((fun x=>xs[x]?) ∘ fun x=>i+x)=fun m=>xs[i+m]?:=rfl
 rw[e2] at this
 rw[this]
theorem getItem_tuple_cut {t sl:Addr}{items:Array Value}{vl vu:Value}{lo hi:Option Int}{Q:Value->Shared->Prop}(ht:IsTup s.heap t items)(hs:s.heap.IsSliceOf sl vl vu .none)(pl:IsPart vl lo)(pu:IsPart vu hi)
  (hw:¬ (sIx items.size 0 lo=0/\sIx items.size items.size hi=items.size))
  (h:Q (.ref s.heap.objs.size) { s with heap:=s.heap.push { cls:= .type "tuple",data:= .seq ((items.toList.drop (sIx items.size 0 lo)).take (sIx items.size items.size hi - sIx items.size 0 lo)).toArray}})
  (hsz:items.size<=sizeLine):wpAny (model prog w) A (getItem (.ref t) (.ref sl)) Q E s:=by
 have htake:sizeOk (.seq ((items.toList.drop (sIx items.size 0 lo)).take (sIx items.size items.size hi - sIx items.size 0 lo)).toArray):=by
  show ((items.toList.drop (sIx items.size 0 lo)).take (sIx items.size items.size hi - sIx items.size 0 lo)).toArray.size<=sizeLine
  rw[aA,aV,cP,aC]
  omega
 have hj:sIx items.size items.size hi<=items.size:=jQI _ _ (ai _) hi
 obtain⟨os,hos,hcs,hds⟩:=id hs
 have hTs:s.TypeIs (.ref sl) "slice" :=⟨os,hos,hcs⟩
 unfold getItem
 try with_reducible refine bY ?_
 first | refine aa (af ?_) | skip
 refine aa (wpAny_sequenceKey ht.typeIs (by decide) ?_)
 refine aa (bu (name:=Str.ofString "__getitem__") ht.typeIs bH
  (bv bH ht.typeIs entry_tuple_getitem ?_ (args_tuple_getitem _ _)))
 show wpAny _ _ (Builtin.Tuple.tupleItemsOf (.ref t) >>= _) _ _ s
 refine aa (tupleItemsOf_ ht ?_)
 refine aa (ek hTs ?_)
 rw[am (by decide)]
 refine aa (sliceApplied_gen hs pl pu ?_)
 have hno:¬ ((((sIx items.size 0 lo:Nat):Int)==0&&(1:Int)==1&&(sIx items.size items.size hi - sIx items.size 0 lo)==items.size)=true):=by
  intro q
  rw[bC,bC] at q
  have q1:((sIx items.size 0 lo:Nat):Int)=0:=eq_of_beq q.1.1
  have q2:sIx items.size items.size hi - sIx items.size 0 lo=items.size:=eq_of_beq q.2
  exact hw ⟨by omega,by omega⟩
 show wpAny _ _ (if (((sIx items.size 0 lo:Nat):Int)==0&&(1:Int)==1&&(sIx items.size items.size hi - sIx items.size 0 lo)==items.size)=true then _ else _) _ _ s
 rw[ak hno,jM0]
 first
  | exact aa (m:=Builtin.Tuple.tupleExact _) (bD (af ⟨_,rfl,af h⟩) htake)
  | exact aa (m:=Builtin.Tuple.tupleExact _) (bD (aa (af (af ⟨_,rfl,af h⟩))) htake)
  | exact aa (aa (m:=Builtin.Tuple.tupleExact _) (bD (af (af ⟨_,rfl,af h⟩)) htake))
  | exact aa (aa (m:=Builtin.Tuple.tupleExact _) (bD (af ⟨_,rfl,af h⟩) htake))
end
end HT
namespace L2
open PySem PySem.Spec PyProof.Rows
abbrev TO:=St->Hp->(Option Int->Hp->Prop)->Prop
def PO (X:Cx)(e:Option Expr)(t:TO):Prop:=
 ∀ (pins:List (Addr×Obj)) (s:Shared) (σ:St) (H:Hp) (Q:Option Int->Hp->Prop),Inv X pins σ H s->t σ H Q->
  wpAny (model X.prog X.w) X.A (evalPart e X.env) (fun u s'=>∃ o H',Inv X pins σ H' s'/\IsPart u o/\Q o H') X.xe s
def jJE:TO:=fun _ H Q=>Q none H
def tPart (t:TE):TO:=fun σ H Q=>t σ H fun x H1=>∃ i,x= .int i/\Q (some i) H1
section
variable {X:Cx}{e:Expr}{te:TE}{lo hi:Option Expr}{tl th:TO}{pos p2:Pos}
theorem jOL:PO X none jJE:=by
 intro pins s σ H Q I h
 rw[evalPart_none]
 exact af ⟨none,H,I, .none,h⟩
theorem jOK (h:PE X e te):PO X (some e) (tPart te):=by
 intro pins s σ H Q I hw
 rw[evalPart_some]
 refine thn (h pins s σ H _ I hw) fun u s1 ⟨x,H1,I1,r1,q1⟩=>?_
 obtain⟨i,rfl,q⟩:=q1
 obtain⟨t,rfl⟩:=r1
 exact⟨some i,H1,I1, .int i t,q⟩
def SlR (X:Cx)(r:V->Option Int->Option Int->Hp->VK->Prop):Prop:=
 ∀ (pins:List (Addr×Obj)) (s:Shared) (σ:St) (H:Hp) (x:V) (v vl vu:Value) (lo hi:Option Int) (sl:Addr) (Q:VK),Inv X pins σ H s->RelV x v->s.heap.IsSliceOf sl vl vu .none->IsPart vl lo->IsPart vu hi->r x lo hi H Q->
  ∃ T id,typeLookup (.type T) "__getitem__" =pure (some (.builtin id))/\s.TypeIs v T/\wpAny (model X.prog X.w) X.A (getItem v (.ref sl)) (EP X pins σ Q) X.xe s
def tSl (r:V->Option Int->Option Int->Hp->VK->Prop)(te:TE)(tl th:TO):TE:=fun σ H Q=>te σ H fun x H1=>tl σ H1 fun l H2=>th σ H2 fun u H3=>r x l u H3 Q
theorem jM3 {r:V->Option Int->Option Int->Hp->VK->Prop}(hr:SlR X r)(he:PE X e te)(hl:PO X lo tl)(hu:PO X hi th):PE X (.Subscript e (.Slice lo hi none p2) pos) (tSl r te tl th):=by
 intro pins s σ H Q I h
 refine Subscript_ (thn (he pins s σ H _ I h) fun v s1 ⟨x,H1,I1,r1,q1⟩=>?_)
 refine wpAny_Slice (thn (hl pins s1 σ H1 _ I1 q1) fun vl s2 ⟨l,H2,I2,pl,q2⟩=>thn (hu pins s2 σ H2 _ I2 q2) fun vu s3 ⟨u,H3,I3,pu,q3⟩=>?_)
 rw[evalPart_none]
 refine af ?_
 have I4:Inv X pins σ H3 { s3 with heap:=s3.heap.push { cls:= .type "slice",data:= .fields #[vl,vu, .none]}} :=I3.kept (t':=s3.toks) fun b ob q=>ab _ q
 obtain⟨T,id,hT,ht,hg⟩:=hr pins { s3 with heap:=s3.heap.push { cls:= .type "slice",data:= .fields #[vl,vu, .none]}} σ H3 x v vl vu l u s3.heap.objs.size Q I4 r1 (Heap.IsSliceOf.new ..) pl pu q3
 show wpAny (model X.prog X.w) X.A (subscriptTail e (.Slice lo hi none p2) v (.ref s3.heap.objs.size)) (EP X pins σ Q) X.xe { s3 with heap:=s3.heap.push { cls:= .type "slice",data:= .fields #[vl,vu, .none]}}
 exact tail_any (ops:=[.ref s3.heap.objs.size,v]) ht hT hg (by with_unfolding_all rfl)
def cutV (xs:List V)(lo hi:Option Int):List V:=(xs.drop (HT.sIx xs.length 0 lo)).take (HT.sIx xs.length xs.length hi - HT.sIx xs.length 0 lo)
theorem jDP (xs:List V)(lo hi:Option Int):(cutV xs lo hi).length<=xs.length:=by
 unfold cutV
 rw[aV,cP]
 omega
def rSlT (K:W.Frag):V->Option Int->Option Int->Hp->VK->Prop:=fun x lo hi H Q=>∃ a xs,x= .ref a/\SqT K H a xs/\
 ¬ (HT.sIx xs.length 0 lo=0/\HT.sIx xs.length xs.length hi=xs.length)/\∀ p,H p=none->Q (.ref p) (upd H p (.tup (cutV xs lo hi)))
theorem jQF:SlR X (rSlT X.K):=by
 intro pins s σ H x v vl vu lo hi sl Q I rx hs pl pu h
 obtain⟨a,xs,rfl,hx,hw,q⟩:=h
 cases rx
 obtain⟨its,r,ht,hz⟩:=I.tuple hx
 have hlen:its.toArray.size=xs.length:=by rw[aA]; exact r.length.symm
 refine⟨"tuple",_,bH.lookup,ht.typeIs,?_⟩
 refine HT.getItem_tuple_cut ht hs pl pu (by rw[hlen]; exact hw) ?_ (by rw[hlen]; exact hz)
 rw[hlen]
 refine⟨.ref s.heap.objs.size,_,I.laid (t':=s.toks) (o:= .tup (cutV xs lo hi)) (fun b ob q=>ab _ q) (ai _) ?_,rfl,q _ (I.hok.fresh (ai _))⟩
 exact⟨bJ (jDP xs lo hi) hz,_,(r.drop (HT.sIx xs.length 0 lo)).take (HT.sIx xs.length xs.length hi - HT.sIx xs.length 0 lo),TupO.new _ _⟩
def rCatT (K:W.Frag):R2:=fun x y H Q=>∃ a b xs ys,x= .ref a/\y= .ref b/\SqT K H a xs/\SqT K H b ys/\xs≠ []/\xs.length+ys.length<=sizeLine/\
 (ys=[]->Q (.ref a) H)/\(ys≠ []->∀ p,H p=none->Q (.ref p) (upd H p (.tup (xs++ys))))
theorem Vals.nil_iff {xs:List V}{us:List Value}(r:Vals xs us):us=[]↔xs=[]:=by
 cases r with
 | nil=>simp
 | cons _ _=>simp
theorem jOZ:OpR X (binaryOp .Add) (rCatT X.K):=by
 intro pins s σ H x y v u Q I rx ry h
 obtain⟨a,b,xs,ys,rfl,rfl,ha,hb,hx,hz,q1,q2⟩:=h
 cases rx
 cases ry
 obtain⟨its,r1,p1,_⟩:=I.tuple ha
 obtain⟨its2,r2,p2,_⟩:=I.tuple hb
 refine HT.cat_tup p1 p2 (fun z=>hx (r1.nil_iff.mp z)) (fun z=>⟨.ref a,H,I,rfl,q1 (r2.nil_iff.mp z)⟩) (fun z=>?_) (by rw[<- r1.length,<- r2.length]; exact hz)
 refine⟨.ref s.heap.objs.size,_,I.laid (t':=s.toks) (o:= .tup (xs++ys)) (fun b ob q=>ab _ q) (ai _) ?_,rfl,q2 (fun w=>z (r2.nil_iff.mpr w)) _ (I.hok.fresh (ai _))⟩
 exact⟨by rw[az]; exact hz,_,r1.append r2,TupO.new _ _⟩
end
end L2
namespace L2
open PySem PySem.Spec PyProof.Rows
noncomputable def ixN (n:Nat)(i:Int):Option Nat:=if 0<=i then (if i<n then some i.toNat else none) else if -(n:Int)<=i then some (i+n).toNat else none
def atI {α:Type}(xs:List α)(i:Int):Option α:=(ixN xs.length i).bind fun j=>xs[j]?
theorem jKO {n:Nat}{i:Int}{j:Nat}(h:ixN n i=some j):seqIndex? i n=some j/\j<n/\ -(n:Int)<=i/\i<n:=by
 unfold ixN at h
 by_cases h0:0<=i
 ·rw[am h0] at h
  by_cases h1:i<n
  ·rw[am h1] at h
   have e:i.toNat=j:=bx h
   exact⟨by rw[seqIndex_of h0 h1,e],by omega,by omega,h1⟩
  ·rw[ak h1] at h; cases h
 ·rw[ak h0] at h
  by_cases h1: -(n:Int)<=i
  ·rw[am h1] at h
   have e:(i+n).toNat=j:=bx h
   exact⟨by rw[seqIndex_neg (by omega) h1,e],by omega,h1,by omega⟩
  ·rw[ak h1] at h; cases h
theorem jLL {α:Type}{xs:List α}{i:Int}{v:α}(h:atI xs i=some v):∃ j,seqIndex? i xs.length=some j/\xs[j]?=some v/\j<xs.length/\ -(xs.length:Int)<=i/\i<xs.length:=by
 unfold atI at h
 cases e:ixN xs.length i with
 | none=>rw[e] at h; cases h
 | some j=>
  rw[e] at h
  obtain⟨h1,h2,h3,h4⟩:=jKO e
  exact⟨j,h1,h,h2,h3,h4⟩
theorem jBG {α:Type}{xs:List α}{j:Nat}{v:α}(h:xs[j]?=some v):atI xs (j:Int)=some v:=by
 have hj:j<xs.length:=(ah.mp h).1
 have e:ixN xs.length (j:Int)=some j:=by
  unfold ixN
  rw[am (by omega),am (by omega)]; simp
 unfold atI; rw[e]; exact h
def jAP (b:Expr):Prop:=∀ o i,subscripted b false o i=operate [o,i] (getItem o i)
def IxR (X:Cx)(r:R2):Prop:=
 ∀ (value slice:Expr) (pins:List (Addr×Obj)) (s:Shared) (σ:St) (H:Hp) (x y:V) (v u:Value) (Q:VK),Inv X pins σ H s->RelV x v->RelV y u->r x y H Q->
  subscripted slice false v u=operate [v,u] (getItem v u)->wpAny (model X.prog X.w) X.A (subscriptTail value slice v u) (EP X pins σ Q) X.xe s
def MtR (X:Cx)(id:String)(r:V->List V->Hp->VK->Prop):Prop:=
 ∀ (pins:List (Addr×Obj)) (s:Shared) (σ:St) (H:Hp) (x:V) (xs:List V) (v:Value) (us:List Value) (Q:VK),Inv X pins σ H s->RelV x v->Vals xs us->r x xs H Q->
  wpAny (model X.prog X.w) X.A (call (.builtin id) (v::us)) (EP X pins σ Q) X.xe s
section
variable {X:Cx}{a b:Expr}{ta tb:TE}{pos:Pos}
theorem pe_ix {r:R2}(hr:IxR X r)(ha:PE X a ta)(hb:PE X b tb)(hs:jAP b):PE X (.Subscript a b pos) (tOp r ta tb):=by
 intro pins s σ H Q I h
 exact Subscript_ (binT ha hb I h fun v u s2 x y H2 I2 rx ry q=>hr a b pins s2 σ H2 x y v u Q I2 rx ry q (hs _ _))
def rIxL (K:W.Frag):R2:=fun x y H Q=>∃ p xs i v,x= .ref p/\y= .int i/\SqL K H p xs/\atI xs i=some v/\Q v H
def rIxT (K:W.Frag):R2:=fun x y H Q=>∃ p xs i v,x= .ref p/\y= .int i/\SqT K H p xs/\atI xs i=some v/\Q v H
theorem jAE:IxR X (rIxL X.K):=by
 intro value slice pins s σ H x y v u Q I rx ry h hs
 obtain⟨p,xs,i,z,rfl,rfl,hq,he,q⟩:=h
 cases rx
 obtain⟨t,rfl⟩:=ry
 obtain⟨its,r,pl,hz⟩:=I.list hq
 obtain⟨j,h1,h2,h3,h4,h5⟩:=jLL he
 obtain⟨w,ew,rw'⟩:=r.get h2
 have hl:=r.length
 have hn:=jFT
 have fin:EP X pins σ Q w s:=⟨z,H,I,rw',q⟩
 by_cases h0:0<=i
 ·have hj:i.toNat=j:=by
   rw[seqIndex_of h0 h5] at h1
   exact bx h1
  exact item_listR pl.isList h0 (by omega) (by rw[hj]; simpa using ew) fin hs
 ·have hj:(i+(its.toArray.size:Int)).toNat=j:=by
   rw[seqIndex_neg (by omega) h4] at h1
   rw[aA,<- hl]
   exact bx h1
  exact subscriptTail_builtinR (x:=w) pl.isList.typeIs slot_list_getitem.lookup
   (wpAny_getItem_list_neg (Q:=fun r s'=>r=w/\EP X pins σ Q r s') pl.isList (by omega) (by rw[aA] <;> omega) (by omega) (by rw[hj]; simpa using ew) ⟨rfl,fin⟩) hs
theorem jY:IxR X (rIxT X.K):=by
 intro value slice pins s σ H x y v u Q I rx ry h hs
 obtain⟨p,xs,i,z,rfl,rfl,hq,he,q⟩:=h
 cases rx
 obtain⟨t,rfl⟩:=ry
 obtain⟨its,r,pl,hz⟩:=I.tuple hq
 obtain⟨j,h1,h2,h3,h4,h5⟩:=jLL he
 obtain⟨w,ew,rw'⟩:=r.get h2
 have hl:=r.length
 have hn:=jFT
 have fin:EP X pins σ Q w s:=⟨z,H,I,rw',q⟩
 exact subscriptTail_builtinR (x:=w) pl.typeIs slot_tuple_getitem.lookup
  (getItem_tuple (j:=j) (Q:=fun r s'=>r=w/\EP X pins σ Q r s') pl (by omega) (by omega) (by rw[aA,<- hl]; exact h1) (by simpa using ew) ⟨rfl,fin⟩) hs
theorem jIR (its:List Value)(n j:Nat)(u:Value):Obj.mapSeq (·.setIfInBounds j u) { cls:= .type "list",data:= .seq its.toArray n} = { cls:= .type "list",data:= .seq (its.set j u).toArray n} :=by
 simp [Obj.mapSeq]
theorem Inv.lst {pins:List (Addr×Obj)}{σ:St}{H:Hp}{s:Shared}{p:Addr}{xs:List V}(I:Inv X pins σ H s)(h:H p=some (.lst xs)):
  ∃ (its:List Value) (n:Nat),Vals xs its/\s.heap.get? p=some { cls:= .type "list",data:= .seq its.toArray n} /\xs.length<=sizeLine:=by
 obtain⟨z,its,n,r,e⟩:=I.hok p _ h
 exact⟨its,n,r,e,z⟩
theorem Inv.lstUpd {pins:List (Addr×Obj)}{σ:St}{H:Hp}{s:Shared}{p:Addr}{xs ys:List V}{its its':List Value}{n n':Nat}{f:Obj->Obj}(I:Inv X pins σ H s)(h:H p=some (.lst xs))
  (ho:s.heap.get? p=some { cls:= .type "list",data:= .seq its.toArray n}) (hf:f { cls:= .type "list",data:= .seq its.toArray n} = { cls:= .type "list",data:= .seq its'.toArray n'}) (r:Vals ys its') (hz:ys.length<=sizeLine) (t:Nat):
  Inv X pins σ (upd H p (.lst ys)) { s with heap:=s.heap.update p f,toks:=t} :=by
 have e:(s.heap.update p f).get? p=some { cls:= .type "list",data:= .seq its'.toArray n'} :=by
  rw[cW f ho (by rw[hf] <;> rfl),hf]
 refine I.write (x:=p) (e:=p) (by rw[h]; trivial) (.inl rfl) (fun b u hb q=>(cO _ _ (dv hb)).trans q) ⟨_,e⟩ ?_
 exact⟨hz,its',n',r,e⟩
def rSetL:V->V->V->Hp->(Hp->Prop)->Prop:=fun o i v H Q=>∃ p xs k j,o= .ref p/\i= .int k/\H p=some (.lst xs)/\ixN xs.length k=some j/\Q (upd H p (.lst (xs.set j v)))
theorem jLV:PSet X rSetL:=by
 intro pins s σ H o i v ov iv u Q I ro ri rv h
 obtain⟨p,xs,k,j,rfl,rfl,hp,hj,q⟩:=h
 cases ro
 obtain⟨t,rfl⟩:=ri
 obtain⟨its,n,r,ho,hz⟩:=I.lst hp
 obtain⟨h1,h2,h3,h4⟩:=jKO hj
 have hl:=r.length
 have hn:=jFT
 have I':Inv X pins σ (upd H p (.lst (xs.set j v))) { s with heap:=s.heap.update p (Obj.mapSeq (·.setIfInBounds j u))} :=
  I.lstUpd hp ho (jIR its n j u) (r.set rv j) (by rw[List.length_set]; exact hz) s.toks
 by_cases h0:0<=k
 ·have hk:k.toNat=j:=by
   rw[seqIndex_of h0 h4] at h1
   exact bx h1
  exact PySem.W.ki_setAt ho h0 (by omega) (by rw[aA,<- hl]; exact h4) (by rw[hk]; exact⟨_,I',q⟩)
 ·have hk:(k+(its.toArray.size:Int)).toNat=j:=by
   rw[seqIndex_neg (by omega) h3] at h1
   rw[aA,<- hl]
   exact bx h1
  exact PySem.W.ki_setBack ho (by omega) (by rw[aA,<- hl]; exact h3) (by omega) (by rw[hk]; exact⟨_,I',q⟩)
theorem jFI (lo hi:Option Int)(n:Nat):(sliceBounds lo hi none n).1=((HT.sIx n 0 lo:Nat):Int)/\(sliceBounds lo hi none n).2.1=((HT.sIx n n hi:Nat):Int)/\(sliceBounds lo hi none n).2.2=1:=by
 refine⟨?_,?_,rfl⟩
 ·cases lo with
  | none=>simp [sliceBounds,HT.sIx]
  | some i=>
   simp only [sliceBounds,HT.sIx,getD_none,show (1:Int)>0 by decide,ft]
   by_cases h:i<0
   ·simp only [h,ft] <;> omega
   ·simp only [h,if_false] <;> omega
 ·cases hi with
  | none=>simp [sliceBounds,HT.sIx]
  | some i=>
   simp only [sliceBounds,HT.sIx,getD_none,show (1:Int)>0 by decide,ft]
   by_cases h:i<0
   ·simp only [h,ft] <;> omega
   ·simp only [h,if_false] <;> omega
theorem jEL (its:List Value)(lo hi:Option Int):slicePick its.toArray lo hi none=((its.drop (HT.sIx its.length 0 lo)).take (HT.sIx its.length its.length hi - HT.sIx its.length 0 lo)).toArray:=by
 obtain⟨h1,h2,h3⟩:=jFI lo hi its.toArray.size
 unfold slicePick
 rw[h1,h2,h3]
 simp only [sliceRange_one,pick_run,aA] <;> rfl
def rSlL (K:W.Frag):V->Option Int->Option Int->Hp->VK->Prop:=fun x lo hi H Q=>∃ a xs,x= .ref a/\SqL K H a xs/\∀ p,H p=none->Q (.ref p) (upd H p (.lst (cutV xs lo hi)))
theorem jJK:SlR X (rSlL X.K):=by
 intro pins s σ H x v vl vu lo hi sl Q I rx hs pl pu h
 obtain⟨a,xs,rfl,hx,q⟩:=h
 cases rx
 obtain⟨its,r,ht,hz⟩:=I.list hx
 have hlen:=r.length
 refine⟨"list",_,slot_list_getitem.lookup,ht.isList.typeIs,?_⟩
 refine wpAny_getItem_list_slice ht.isList hs pl pu .none (by simp) ?_ (by rw[aA] <;> omega)
 rw[jEL,<- hlen]
 refine⟨.ref s.heap.objs.size,_,I.laid (t':=s.toks) (o:= .lst (cutV xs lo hi)) (fun b ob q=>ab _ q) (ai _) ?_,rfl,q _ (I.hok.fresh (ai _))⟩
 exact⟨bJ (jDP xs lo hi) hz,_,0,(r.drop (HT.sIx xs.length 0 lo)).take (HT.sIx xs.length xs.length hi - HT.sIx xs.length 0 lo),aj _ rfl⟩
def flatV:V->Bool
 | .non=>true
 | .bl _=>true
 | .int _=>true
 | .str _=>true
 | _=>false
noncomputable def eqV:V->V->Bool
 | .non, .non=>true
 | .bl a, .bl b=>a==b
 | .bl a, .int b=>(if a then 1 else 0)==b
 | .int a, .bl b=>a==(if b then 1 else 0)
 | .int a, .int b=>a==b
 | .str a, .str b=>a==b
 | _,_=>false
theorem jRT {A:Around}{s:Shared}{y x:V}{u v:Value}(ry:RelV y u)(rx:RelV x v)(fy:flatV y=true)(fx:flatV x=true):SeqAt.EqAt A s u v (eqV y x):=by
 cases y with
 | non=>
  cases ry
  cases x with
  | non=>cases rx; exact SeqAt.EqAt.same _
  | bl b=>cases rx; exact SeqAt.EqAt.none_bool b
  | int b=>obtain⟨t,rfl⟩:=rx; exact SeqAt.EqAt.none_int b t
  | str b=>obtain⟨t,rfl⟩:=rx; exact SeqAt.EqAt.none_str b t
  | _=>exact absurd (show false=true from fx) ag
 | bl a=>
  cases ry
  cases x with
  | non=>cases rx; exact SeqAt.EqAt.bool_none a
  | bl b=>cases rx; exact SeqAt.EqAt.bool_bool a b
  | int b=>obtain⟨t,rfl⟩:=rx; exact SeqAt.EqAt.bool_int a b t
  | str b=>obtain⟨t,rfl⟩:=rx; exact SeqAt.EqAt.bool_str a b t
  | _=>exact absurd (show false=true from fx) ag
 | int a=>
  obtain⟨t',rfl⟩:=ry
  cases x with
  | non=>cases rx; exact SeqAt.EqAt.int_none a t'
  | bl b=>cases rx; exact SeqAt.EqAt.int_bool a t' b
  | int b=>obtain⟨t,rfl⟩:=rx; exact SeqAt.EqAt.int_int a t' b t
  | str b=>obtain⟨t,rfl⟩:=rx; exact SeqAt.EqAt.int_str a t' b t
  | _=>exact absurd (show false=true from fx) ag
 | str a=>
  obtain⟨t',rfl⟩:=ry
  cases x with
  | non=>cases rx; exact SeqAt.EqAt.str_none a t'
  | bl b=>cases rx; exact SeqAt.EqAt.str_bool a t' b
  | int b=>obtain⟨t,rfl⟩:=rx; exact SeqAt.EqAt.str_int a t' b t
  | str b=>obtain⟨t,rfl⟩:=rx; exact SeqAt.EqAt.str_str a t' b t
  | _=>exact absurd (show false=true from fx) ag
 | _=>exact absurd (show false=true from fy) ag
noncomputable def eqU (x:V)(u:Value):Bool:=match u with
 | .none=>eqV .non x
 | .bool b=>eqV (.bl b) x
 | .int i _=>eqV (.int i) x
 | .str z _=>eqV (.str z) x
 | _=>false
theorem jNZ {x y:V}{u:Value}(r:RelV y u)(f:flatV y=true):eqU x u=eqV y x:=by
 cases y with
 | non=>cases r; rfl
 | bl b=>cases r; rfl
 | int i=>obtain⟨t,rfl⟩:=r; rfl
 | str z=>obtain⟨t,rfl⟩:=r; rfl
 | _=>exact absurd (show false=true from f) ag
theorem jDT {x:V} :∀ {xs:List V}{us:List Value},Vals xs us->xs.all flatV=true->us.any (eqU x)=xs.any fun y=>eqV y x
 | _,_, .nil,_=>rfl
 | y::xs,u::us, .cons r t,f=>by
  rw[gn,bC] at f
  rw[eX,eX,jNZ r f.1,jDT t f.2]
theorem jBO {A:Around}{s:Shared}{x:V}{v:Value}(rx:RelV x v)(fx:flatV x=true):∀ {xs:List V}{us:List Value},Vals xs us->xs.all flatV=true->∀ u∈us,SeqAt.EqAt A s u v (eqU x u)
 | _,_, .nil,_=>fun u hu=>by cases hu
 | y::xs,u::us, .cons r t,f=>fun u' hu=>by
  rw[gn,bC] at f
  rcases aF.mp hu with rfl | hu
  ·rw[jNZ r f.1]; exact jRT r rx f.1 fx
  ·exact jBO rx fx t f.2 u' hu
def inV (x:V)(xs:List V):Bool:=xs.any fun y=>eqV y x
def rIn (K:W.Frag)(neg:Bool):R2:=fun x y H Q=>∃ p xs,y= .ref p/\(SqL K H p xs\/SqT K H p xs)/\flatV x=true/\xs.all flatV=true/\Q (.bl (if neg then !inV x xs else inV x xs)) H
theorem jDB:OpR X (compareOp .In) (rIn X.K false):=by
 intro pins s σ H x y v u Q I rx ry h
 obtain⟨p,xs,rfl,hq,fx,fs,q⟩:=h
 cases ry
 rcases hq with hq | hq
 ·obtain⟨its,r,pl,hz⟩:=I.list hq
  refine SeqAt.in_listAt (eqU x) pl.isList (fun w hw=>jBO rx fx r fs w (by simpa using hw)) ⟨.bl _,H,I,rfl,?_⟩
  rw[show its.toArray.any (eqU x)=its.any (eqU x) by simp,jDT r fs]
  exact q
 ·obtain⟨its,r,pl,hz⟩:=I.tuple hq
  refine SeqAt.in_tupleAt (eqU x) pl (fun w hw=>jBO rx fx r fs w (by simpa using hw)) ⟨.bl _,H,I,rfl,?_⟩
  rw[show its.toArray.any (eqU x)=its.any (eqU x) by simp,jDT r fs]
  exact q
theorem jFO:OpR X (compareOp .NotIn) (rIn X.K true):=by
 intro pins s σ H x y v u Q I rx ry h
 obtain⟨p,xs,rfl,hq,fx,fs,q⟩:=h
 cases ry
 rcases hq with hq | hq
 ·obtain⟨its,r,pl,hz⟩:=I.list hq
  refine SeqAt.notIn_listAt (eqU x) pl.isList (fun w hw=>jBO rx fx r fs w (by simpa using hw)) ⟨.bl _,H,I,rfl,?_⟩
  rw[show its.toArray.any (eqU x)=its.any (eqU x) by simp,jDT r fs]
  exact q
 ·obtain⟨its,r,pl,hz⟩:=I.tuple hq
  refine SeqAt.notIn_tupleAt (eqU x) pl (fun w hw=>jBO rx fx r fs w (by simpa using hw)) ⟨.bl _,H,I,rfl,?_⟩
  rw[show its.toArray.any (eqU x)=its.any (eqU x) by simp,jDT r fs]
  exact q
theorem jO:yO X (.builtin "len") (fun xs H Q=>∃ p ys,xs=[.ref p]/\(SqL X.K H p ys\/SqT X.K H p ys)/\Q (.int ys.length) H):=by
 intro pins s σ H xs us Q I r h
 obtain⟨p,ys,rfl,hq,q⟩:=h
 obtain⟨u,rfl,rx⟩:=vals1 r
 cases rx
 have hn:=jFT
 rcases hq with hq | hq
 ·obtain⟨its,r',pl,hz⟩:=I.list hq
  have hlen:=r'.length
  exact Calls.call_len_list pl.isList (by simp only [aA] <;> omega) ⟨.int ys.length,H,I.tok _,⟨s.toks+1,by rw[aA,hlen]⟩,q⟩
 ·obtain⟨its,r',pl,hz⟩:=I.tuple hq
  have hlen:=r'.length
  exact len_tuple pl (by simp only [aA] <;> omega) ⟨.int ys.length,H,I.tok _,⟨s.toks+1,by rw[aA,hlen]⟩,q⟩
theorem jA0:yO X (.type "tuple") (fun xs H Q=>∃ p ys,xs=[.ref p]/\((SqL X.K H p ys/\∀ l,H l=none->Q (.ref l) (upd H l (.tup ys)))\/(SqT X.K H p ys/\Q (.ref p) H))):=by
 intro pins s σ H xs us Q I r h
 obtain⟨p,ys,rfl,h⟩:=h
 obtain⟨u,rfl,rx⟩:=vals1 r
 cases rx
 rcases h with ⟨hq,q⟩ | ⟨hq,q⟩
 ·obtain⟨its,r',pl,hz⟩:=I.list hq
  have hlen:=r'.length
  refine call_tuple_list pl.isList (fun h' kp=>?_) (by simp only [aA] <;> omega)
  have I1:Inv X pins σ H { s with heap:=h'} :=I.kept (t':=s.toks) kp
  have I2:Inv X pins σ (upd H h'.objs.size (.tup ys)) { s with heap:=h'.push { cls:= .type "tuple",data:= .seq its.toArray}} :=
   I1.laid (t':=s.toks) (fun b o e=>ab _ e) (ai _) (show ObjOk X.prog X.w _ _ _ (.tup ys) from ⟨hz,its,r',TupO.new _ _⟩)
  exact⟨.ref h'.objs.size,_,I2,rfl,q _ (I1.hok.fresh (ai _))⟩
 ·obtain⟨its,r',pl,hz⟩:=I.tuple hq
  exact call_tuple_same pl ⟨.ref p,H,I,rfl,q⟩
def tyV (K:W.Frag)(T:String)(x:V)(H:Hp):Prop:=match x with
 | .str _=>T= "str"
 | .int _=>T= "int"
 | .ref p=>(T= "list" /\∃ xs,SqL K H p xs)\/(T= "tuple" /\∃ o,K.lookup p=some o/\o.cls= .type "tuple" /\o.dict=none)\/
   (T= "dict" /\((∃ kvs,H p=some (.dK kvs))\/∃ kvs,H p=some (.dT kvs)))\/(T= "set" /\∃ S n,H p=some (.set S n))
 | _=>False
theorem jN5 {pins:List (Addr×Obj)}{σ:St}{H:Hp}{s:Shared}{T:String}{x:V}{v:Value}(I:Inv X pins σ H s)(r:RelV x v)(ty:tyV X.K T x H):
  s.TypeIs v T/\∀ a,v= .ref a->∃ ob,s.heap.get? a=some ob/\ob.dict=none:=by
 cases x with
 | str z=>
  obtain⟨t,rfl⟩:=r
  cases (show T= "str" from ty)
  exact⟨typeIs_str s z t,fun _ e=>nomatch e⟩
 | int i=>
  obtain⟨t,rfl⟩:=r
  cases (show T= "int" from ty)
  exact⟨typeIs_int s i t,fun _ e=>nomatch e⟩
 | ref p=>
  cases r
  rcases ty with ⟨rfl,xs,hq⟩ | ⟨rfl,o,hk,hc,hd⟩ | ⟨rfl,hk⟩ | ⟨rfl,S,n,hk⟩
  ·obtain⟨its,_,pl,_⟩:=I.list hq
   refine⟨pl.isList.typeIs,fun a e=>?_⟩
   cases e
   obtain⟨o,n,e,c,hd,_⟩:=pl
   exact⟨o,e,hd⟩
  ·refine⟨⟨o,I.kIn p o hk,hc⟩,fun a e=>?_⟩
   cases e
   exact⟨o,I.kIn _ o hk,hd⟩
  ·have z:∃ o,s.heap.get? p=some o/\o.ExactDict:=by
    rcases hk with ⟨kvs,hk⟩ | ⟨kvs,hk⟩
    ·obtain⟨_,_,_,_,o,_,_,e,ex,_⟩:=I.hok p _ hk
     exact⟨o,e,ex⟩
    ·obtain⟨_,_,_,_,o,_,_,e,ex,_⟩:=I.hok p _ hk
     exact⟨o,e,ex⟩
   obtain⟨o,e,ex⟩:=z
   refine⟨⟨o,e,ex.1⟩,fun a e2=>?_⟩
   cases e2
   exact⟨o,e,ex.2.1⟩
  ·obtain⟨o,_,_,_,e,ex,_⟩:=I.hok p _ hk
   refine⟨⟨o,e,ex.1⟩,fun a e2=>?_⟩
   cases e2
   exact⟨o,e,ex.2.1⟩
 | _=>exact False.elim ty
def tBM0 (K:W.Frag)(T:String)(r:V->List V->Hp->VK->Prop)(to:TE):TE:=fun σ H Q=>to σ H fun x H1=>tyV K T x H1/\r x [] H1 Q
def tBM (K:W.Frag)(T:String)(r:V->List V->Hp->VK->Prop)(to:TE)(t:TA):TE:=fun σ H Q=>to σ H fun x H1=>tyV K T x H1/\t σ H1 fun xs H2=>r x xs H2 Q
variable {o e:Expr}{es:List Expr}{to:TE}{t:TA}{name:Str}{apos cpos:Pos}{T id:String}{r:V->List V->Hp->VK->Prop}
theorem jR1 (pa:PlainAttrs T)(slot:Slot T name id)(hty:typeOf (.builtin id)=pure (.type "method_descriptor"))(hm:MtR X id r)(ho:PE X o to)
  (hbase:attributeBase o name X.env (eval o X.env)=eval o X.env:=by rfl) (hline:(apos.endLine==cpos.line)=true:=by rfl):PE X (.Call (.Attribute o name apos) [] [] cpos) (tBM0 X.K T r to):=by
 intro pins s σ H Q I h
 refine wpAny_Call_method0_late hbase hline (thn (ho pins s σ H _ I h) fun v s1 ⟨x,H1,I1,r1,ty,q1⟩=>?_)
 obtain⟨h1,h2⟩:=jN5 I1 r1 ty
 exact⟨T,id,pa,slot,hty,h1,h2,eC rfl (g9 (hm pins s1 σ H1 x [] v [] Q I1 r1 .nil q1))⟩
theorem pe_bm (pa:PlainAttrs T)(slot:Slot T name id)(hty:typeOf (.builtin id)=pure (.type "method_descriptor"))(hm:MtR X id r)(ho:PE X o to)(ha:PA X (e::es) t)
  (hbase:attributeBase o name X.env (eval o X.env)=eval o X.env:=by rfl)
  (hfew:((backTo cpos (starEach (e::es) X.env)).all (fun x=>!x.1)&&(backToKw cpos (keywordEach [] X.env)).all (fun x=>x.1.isSome)
   &&decide ((e::es).length+([]:List Keyword).length+(if ([]:List Keyword).isEmpty then 0 else 1)<30))=true:=by rfl)
  (hline:(apos.endLine==cpos.line)=true:=by rfl) (hs:starEach (e::es) X.env=(false,eval e X.env)::starEach es X.env:=by rfl) (hplain:(backTo cpos (starEach es X.env)).any (·.1)=false:=by rfl):
  PE X (.Call (.Attribute o name apos) (e::es) [] cpos) (tBM X.K T r to t):=by
 intro pins s σ H Q I h
 refine wpAny_Call_method_late hbase hfew hline rfl (thn (ho pins s σ H _ I h) fun v s1 ⟨x,H1,I1,r1,ty,q1⟩=>?_)
 obtain⟨h1,h2⟩:=jN5 I1 r1 ty
 refine⟨T,id,pa,slot,hty,h1,h2,?_⟩
 have hA:=ha cpos pins s1 σ H1 _ I1 q1
 rw[hs] at hA ⊢
 refine eC (by show (false || (backTo cpos (starEach es X.env)).any (·.1))=false; rw[hplain] <;> rfl) (Calls.evalArgs_plain ?_)
 exact thn hA fun us s2 ⟨vs,H2,I2,r2,q2⟩=>hm pins s2 σ H2 x vs v us Q I2 r1 r2 q2
/- xs.append(e),list.index on a module's tuple .. are MtR facts of 06m -/
end
end L2
namespace L2
open PySem PySem.Spec PyProof.Rows
def MtM (X:Cx)(id:String)(r:V->List V->Hp->VK->Prop):Prop:=
 ∀ (pins:List (Addr×Obj)) (s:Shared) (σ:St) (H:Hp) (x:V) (xs:List V) (v:Value) (us:List Value) (Q:VK),Inv X pins σ H s->RelV x v->Vals xs us->r x xs H Q->
  wpAny (model X.prog X.w) X.A (call (.builtin id) (v::us)) (EP X pins σ Q) X.xe s
theorem Vals.one:∀ {x:V}{us:List Value},Vals [x] us->∃ u,us=[u]/\RelV x u
 | _,_, .cons r .nil=>⟨_,rfl,r⟩
theorem Vals.two:∀ {x y:V}{us:List Value},Vals [x,y] us->∃ u v,us=[u,v]/\RelV x u/\RelV y v
 | _,_,_, .cons r (.cons q .nil)=>⟨_,_,rfl,r,q⟩
theorem Vals.zero:∀ {us:List Value},Vals [] us->us=[]
 | _, .nil=>rfl
theorem Vals.dropLast {xs:List V}{us:List Value}(h:Vals xs us):Vals xs.dropLast us.dropLast:=by
 induction h with
 | nil=>exact .nil
 | cons r t ih=>
  cases t with
  | nil=>exact .nil
  | cons q t'=>exact .cons r ih
theorem jIX {α:Type}(l:List α):l.eraseIdx (l.length - 1)=l.dropLast:=by
 induction l with
 | nil=>rfl
 | cons a r ih=>
  cases r with
  | nil=>rfl
  | cons b r=>
   have e:(a::b::r).length - 1=((b::r).length - 1)+1:=by
    have h1:(a::b::r).length=r.length+2:=rfl
    have h2:(b::r).length=r.length+1:=rfl
    omega
   rw[e,List.eraseIdx_cons_succ,ih]
   all_goals rfl
section
variable {X:Cx}{pins:List (Addr×Obj)}{σ:St}{H:Hp}{s:Shared}{l b:Addr}{xs ys zs:List V}
theorem Inv.lset {its its':List Value}{n:Nat}{f:Array Value->Array Value}{t':Nat}(I:Inv X pins σ H s)(hH:H l=some (.lst xs))
  (e:s.heap.get? l=some { cls:= .type "list",data:= .seq its.toArray n}) (hf:f its.toArray=its'.toArray) (hv:Vals ys its') (hz:ys.length<=sizeLine):
  Inv X pins σ (upd H l (.lst ys)) { s with heap:=s.heap.update l (Obj.mapSeq f),toks:=t'} :=by
 have q:=PySem.IsL.update e f
 rw[hf] at q
 refine I.write (x:=l) (e:=l) (by rw[hH]; exact trivial) (.inl rfl) (fun b' u hb hu=>(cO s.heap (Obj.mapSeq f) (dv hb)).trans hu) ⟨_,q⟩ ?_
 exact⟨hz,its',_,hv,q⟩
theorem Inv.lnew {its:List Value}{t':Nat}(I:Inv X pins σ H s)(hv:Vals ys its)(hz:ys.length<=sizeLine):
  Inv X pins σ (upd H s.heap.objs.size (.lst ys)) { s with heap:=s.heap.push { cls:= .type "list",data:= .seq its.toArray},toks:=t'} :=
 I.laid (fun _ _ q=>ab _ q) (ai _) ⟨hz,its,0,hv,aj _ rfl⟩
theorem Inv.fresh (I:Inv X pins σ H s):H s.heap.objs.size=none:=I.hok.fresh (ai _)
theorem Inv.lstM (I:Inv X pins σ H s)(hH:H l=some (.lst xs)):xs.length<=sizeLine/\∃ (its:List Value) (n:Nat),Vals xs its/\xs.length=its.length/\s.heap.get? l=some { cls:= .type "list",data:= .seq its.toArray n} :=by
 obtain⟨z,its,n,r,e⟩:=I.hok l _ hH
 exact⟨z,its,n,r,r.length,e⟩
end
section
variable {X:Cx}
def jOD:V->List V->Hp->VK->Prop:=fun x vs H Q=>∃ l xs y,x= .ref l/\vs=[y]/\H l=some (.lst xs)/\xs.length<sizeLine/\Q .non (upd H l (.lst (xs++[y])))
theorem jAQ:MtM X "list.append" jOD:=by
 intro pins s σ H x vs v us Q I rx rv h
 obtain⟨l,xs,y,rfl,rfl,hH,hz,q⟩:=h
 cases rx
 obtain⟨u,rfl,ru⟩:=rv.one
 obtain⟨z,its,n,r,hl,e⟩:=I.lstM hH
 refine call_meets F.slot_list_append ⟨_,e,rfl⟩ F.entry_list_append (F.args_list_append_2 _ _) (PySem.list_append l its.toArray n u (by rw[aA]; omega)) ⟨e,?_⟩
 refine⟨.non,_,I.lset (its':=its++[u]) hH e (by simp) (r.append (.cons ru .nil)) ?_,rfl,q⟩
 rw[az,gP]
 omega
def rPop:V->List V->Hp->VK->Prop:=fun x vs H Q=>∃ l xs y,x= .ref l/\vs=[]/\H l=some (.lst xs)/\xs[xs.length - 1]?=some y/\Q y (upd H l (.lst xs.dropLast))
theorem jRA:MtM X "list.pop" rPop:=by
 intro pins s σ H x vs v us Q I rx rv h
 obtain⟨l,xs,y,rfl,rfl,hH,hy,q⟩:=h
 cases rx
 have hus:=rv.zero
 subst hus
 obtain⟨z,its,n,r,hl,e⟩:=I.lstM hH
 obtain⟨u,hu,ru⟩:=r.get hy
 have hy':its.toArray[its.toArray.size - 1]?=some u:=by
  show its.toArray[its.length - 1]?=some u
  rw[<- bw,<- hl]
  exact hu
 refine call_meets F.slot_list_pop ⟨_,e,rfl⟩ F.entry_list_pop (F.args_list_pop_1 _) (MeetsSeq.list_pop_last l its.toArray n u hy' (by rw[aA]; omega)) ⟨e,?_⟩
 refine⟨y,_,I.lset (its':=its.dropLast) hH e ?_ r.dropLast ?_,ru,q⟩
 ·show its.toArray.eraseIdxIfInBounds (its.toArray.size - 1)=its.dropLast.toArray
  rw[aA,List.eraseIdxIfInBounds_toArray,jIX]
 ·rw[List.length_dropLast]
  omega
end
section
variable {prog:Program}{w:World}{A:Around}{E:Value->Shared->Prop}{s:Shared}
set_option maxRecDepth 100000 in
end
section
variable {X:Cx}
end
end L2
namespace Att
open PySem PySem.W PySem.Calls PyProof.Rows
theorem jDJ {P:Params}{h:Heap} :∀ (ns:List Int) (vs:List Value),WellAll P h vs (ns.map WData.int)->IntsAre vs ns:=by
 intro ns
 induction ns with
 | nil=>
  intro vs w
  rw[gF] at w
  cases w
  exact .nil
 | cons n ns ih=>
  intro vs w
  rw[be] at w
  cases w with
  | cons a b=>
   cases a
   exact .cons _ _ (ih _ b)
theorem jJM {l:OpenLaw}{n:Nat}(hn:l.most=some n){P:Params}{h:Heap}{args:List WData}{vals:List Value}
  (hpre:l.row.toRowW.claim.pre args=true) (hwl:WellAll P h vals args):
  ∃ a vs ns,vals=[Value.ref a]/\args=[WData.list (ns.map WData.int)]/\h.get? a=some { cls:= .type "list",data:= .seq vs.toArray} /\IntsAre vs ns/\ns.length<=n:=by
 have hsh:WShape.hasAll [] args [.list .int]=true:=(pre_splitW hpre).1
 have hc:l.pre.holds [] { args:=args} =true:=(pre_splitW hpre).2
 obtain⟨d,r,rfl,h1,h2⟩:=hasAllW_cons hsh
 obtain rfl:=hasAllW_nil h2
 obtain⟨xs,rfl,h3⟩:=hasW_list h1
 obtain⟨ns,rfl⟩:=items_int h3
 have hlen:ns.length<=n:=by
  unfold OpenLaw.pre at hc
  have h4:(WTm.not (.lt (.lit (.int (n:Int))) (.len (.arg 0)))).holds [] { args:=[.list (ns.map .int)]} =true:=by
   have h4:=(holds_andW hc).1
   rw[hn] at h4
   exact h4
  have h5:=condW_of h4 (w_not (w_lt w_lit (w_len_list (w_arg rfl))))
  rw[ae] at h5
  refine Nat.le_of_not_lt fun q=>?_
  have q':(n:Int)<((ns.length:Nat):Int):=by omega
  first
   | (rw[ax q'] at h5; exact absurd h5 (by decide))
   | (simp at h5; omega)
 cases hwl with
 | cons w1 w2=>
  cases w2
  cases w1 with
  | list ho hall=>exact⟨_,_,ns,rfl,rfl,ho,jDJ ns _ hall,hlen⟩
theorem jJU (l:OpenLaw)(args:List WData):l.row.toRowW.claim.post args (.bool true) args=true:=
 postW_of (r:=l.row.toRowW) (X:=(true==true))
  (show WShape.has [] (.bool true) .bool=true by first | rfl | decide | simp [WShape.has,WShape.arms,WShape.armsAll])
  (show (WTm.eq .res (.lit (.bool true))).value [] { args:=args,res:=some (.bool true),after:=args} =some (.bool (true==true)) from w_eq_bool (w_res rfl) w_lit) rfl
theorem attach_call {l:OpenLaw}{n:Nat}{q:Program}{loose:List Str}{XP:(Str->Option Value)->Heap->Prop}{YP:World->Heap->Prop}{d:DefRec}
  (hn:l.most=some n) (hdf:d.params.defaults=[])
  (call:∀ (w:World) (s₀ s₁:Shared) (mg mb:Str->Option Value) (fa:Addr) (o:Obj) (pm cd doc:Value) (a:Addr) (vs:List Value) (ns:List Int),
   Ground q loose [] XP w s₀ mg mb s₁.heap->YP w s₁.heap->
   s₁.heap.get? fa=some o->o.data= .func (docDef d.name d.params d.body d.scope pm cd doc)->s₁.heap.CodeRec cd d.name->mg d.name=some (.ref fa)->
   s₁.heap.get? a=some { cls:= .type "list",data:= .seq vs.toArray} ->IntsAre vs ns->ns.length<=n->s₁.gens=#[]->
   codeAny (model l.prog w) callerA (.call (.ref fa) ⟨[.ref a],[]⟩) (fun r s'=>r= .ok (.ret (.bool true))/\OldK s₁.heap s'.heap/\s'.os=s₁.os/\AllBare s'.gens) s₁):
  WalkO q loose XP YP l.row.toRowW d [] (fun f vs=>PySem.call f vs):=by
 intro w s₀ s₁ mg mb G Y fa o pm cd doc dV kV ho hd hcd hD hmg hg args vals as hpre hlay hrd hwl hlo
 obtain rfl:dV= .none:=Dflts.none hD hdf
 obtain rfl:kV= .none:=Dflts.noKw hD
 obtain⟨a,vs,ns,rfl,rfl,hobj,hints,hlen⟩:=jJM hn hpre hwl
 refine enter_call (dJ (call w s₀ s₁ mg mb fa o pm cd doc a vs ns G Y ho (fd_plain hd) hcd hmg hobj hints hlen hg) fun r s' hq=>?_)
 obtain⟨rfl,h2,h3,h4⟩:=hq
 exact⟨.inl ⟨.bool true, .bool true,[],rfl,fun _=>rfl, .bool true,jJU l _,fun _=>⟨List.Pairwise.nil,fun _ hm=>(nomatch hm)⟩⟩,h2,h3,h4⟩
section
variable {prog:Program}{w:World}{A:Around}{E:Value->Shared->Prop}{s:Shared}{K:Frag}
end
end Att
namespace L2
open PySem PySem.Spec PyProof.Rows
theorem jFA:∀ {vs:List Value}{ns:List Int},IntsAre vs ns->Vals (ns.map V.int) vs
 | _,_, .nil=> .nil
 | _,_, .cons n t h=> .cons ⟨t,rfl⟩ (jFA h)
end L2
namespace L2
open PySem PySem.Spec PyProof.Rows
end L2
/- THE LAST THEOREM (shape; LID,My.* are yours):
  My.Adr:a structure of the addresses that your layer names (classes,functions); My.Txt K t:a structure (Prop) of the equations over K;
  My.txt_mk: {K} {implicit addresses ..} (e1:nsIn K mainGlobals "law" =some (some (.ref f))) (e2:K.lookup f=some ⟨oc,od, .func (fnOf "law" "law" params body scope dV kV doc pm an cdv ct),sl⟩) (e3:codeIn K cdv "law" =true) .. :∃ t,My.Txt K t
set_option maxRecDepth 100000 in
set_option maxHeartbeats 0 in
theorem PySem.Challenge.cw_LID_holds : PySem.Challenge.rw_LID.Holds := by
 w_on; o_law; k_head; (case hw=>w_witness2)
 k_fill
 refine L2.walk_of (l:=PySem.Challenge.rw_LID) (n:=63) (k:=40) (x:= "script") (CX:=fun w=> ..) (sp:=fun _=>My.sp_law) rfl (by decide) rfl ⟨rfl,by decide,by decide⟩ (fun w h Y=>PySem.W.kIn_of Y) ?F ?S ?C
 case F=>
  intro w mg fa h KX G hmg
  have T:∃ t,My.Txt (L2.KOf KX) t:=by
   dsimp only [L2.KOf] -- K must stand as «<heap const>w.params» for k_is
   refine' My.txt_mk ?e1 ?e2 ?e3 ..
   (case e1=>PySem.W.k_is) -- in the order:a name->its address->its object->its parts
   (case e2=>PySem.W.k_is)
   ..
  obtain⟨t,T⟩:=T
  have e0:=hmg.symm.trans (eY KX G T.law)
  cases e0 -- fa is the law's own address
  exact⟨_,fun s u=> .of_eq rfl,fun base kb nb=>My.law_fn T kb nb⟩ -- if «.of_eq rfl» comes too early:refine' ⟨_,?b,fun base kb nb=>My.law_fn T kb nb⟩; exact fun s u=> .of_eq rfl
 case S=>exact fun w H a ns hl hO hS=> ..
 case C=>exact ..
(the tactic k_is has no namespace:write k_is) -/
namespace L2
open PySem PySem.Spec PyProof.Rows
abbrev CX0:CXT:=fun _ _ _ _ _ _=>False
abbrev E0:XK:=fun _ _ _=>False
theorem pass0 {X:Cx} :jLP CX0 X E0:=fun _ _ _ _ _ _ _ h=>h.elim
structure Fun (K:W.Frag)(x qual:Str)(st:Stmt)(f:Addr)(fd:FuncData):Prop where
 ex:∃ (oc:Value) (od:Option Addr) (kV doc pm:Value) (an:Option Addr) (cdv ct:Value) (osl:Array (Option Value)),
  fd=PySem.W.fnOf x qual (jG st) (jB st) (j7 st) .none kV doc pm an cdv ct/\K.lookup f=some ⟨oc,od, .func fd,osl⟩/\PySem.W.codeIn K cdv qual=true
 kp:keepIn K (.ref f)=true
section
variable {P:Program}{w:World}{K:W.Frag}{mg:Str->Option Value}{base:Heap}
theorem Fun.ok {x qual:Str}{st:Stmt}{f:Addr}{fd:FuncData}{N ps:List Str}{k:Nat}{sp:Sp}(F:Fun K x qual st f fd)(S:FnScope N ps (j7 st))(len:∀ vs H Q E,sp vs H Q E->vs.length=ps.length)
  (hbody:∀ (cdv:Value) (A:Around) (outer:List Env) (s:Shared) (H:Hp) (vs:List V) (Q:VK) (E:XK),Room k (A.deeper (envOfC qual (j7 st) s.heap.objs.size f cdv))->sp vs H Q E->
   ∃ t,PSs (cxOf CX0 P w K mg base N qual (j7 st) f cdv A outer s H E).nox (jB st) t/\t { nx:=fun _ H'=>Q .non H',rt:=Q} (kZ N vs) H):FnOk P w K mg base CX0 (k+1) f fd ps sp:=by
 obtain⟨oc,od,kV,doc,pm,an,cdv,ct,osl,rfl,lk,hcd⟩:=F.ex
 refine fn_of lk hcd S len fun A outer s H vs Q E hr hsp=>?_
 obtain⟨t,h,q⟩:=hbody cdv A outer s H vs Q E hr hsp
 exact⟨t,h.nox,q⟩
theorem Fun.binds {x qual:Str}{st:Stmt}{f:Addr}{fd:FuncData}{ps:List Str}(F:Fun K x qual st f fd)
  (h:∀ (kV doc pm:Value) (an:Option Addr) (cdv ct:Value) (us:List Value),us.length=ps.length->bindArgs (PySem.W.fnOf x qual (jG st) (jB st) (j7 st) .none kV doc pm an cdv ct) ⟨us,[]⟩=pure (ps.zip us)):Binds K fd ps []:=by
 obtain⟨oc,od,kV,doc,pm,an,cdv,ct,osl,rfl,lk,hcd⟩:=F.ex
 exact .all (h kV doc pm an cdv ct)
theorem kB {x qual:Str}{st:Stmt}{f:Addr}{oc:Value}{od an:Option Addr}{osl:Array (Option Value)}{kV doc pm cdv ct:Value}(l:K.lookup f=some ⟨oc,od, .func (PySem.W.fnOf x qual (jG st) (jB st) (j7 st) .none kV doc pm an cdv ct),osl⟩)
  (c:PySem.W.codeIn K cdv qual=true) (k:keepIn K (.ref f)=true):Fun K x qual st f (PySem.W.fnOf x qual (jG st) (jB st) (j7 st) .none kV doc pm an cdv ct):=⟨⟨oc,od,kV,doc,pm,an,cdv,ct,osl,rfl,l,c⟩,k⟩
end
theorem qB {A:Around}{k:Nat}(hr:Room k A):A.units+1<cLine:=ik (Nat.add_le_add_left (by decide:1<=64) _) hr.units
section
variable {X:Cx}
theorem pv (i:Nat){x:Str}{pos:Pos}(hN:X.N[i]?=some x:=by rfl)(hv:Vis X.env.scope x:=by first | exact Or.inl rfl | exact Or.inr (Or.inl rfl) | exact Or.inr (Or.inr rfl))(hd:(x==("__debug__" :Str))=false:=by decide)
  (hcd:(x==("__classdict__" :Str))=false:=by decide):PE X (.Name x pos) (tVar i):=jJW hN hv hd hcd
end
theorem iteF {A B:Prop}(h:B):if false=true then A else B:=by
 rw[ak ag]
 exact h
theorem iteT {A B:Prop}(h:A):if true=true then A else B:=by
 rw[am rfl]
 exact h
theorem ite2 {c A B:Prop} [Decidable c](h1:c->A)(h2:¬ c->B):if c then A else B:=by
 by_cases h:c
 ·rw[am h]
  exact h1 h
 ·rw[ak h]
  exact h2 h
def kG (cells:List (Str×Addr)):List (Str×NameKind)->List (Str×Addr)->List (Str×Addr)
 | [],acc=>acc
 | (n,k)::r,acc=>if k= .free then kG cells r ((n,(cells.lookup n).getD 0)::acc) else kG cells r acc
theorem jCD {env:Env} :∀ (l:List (Str×NameKind)) (acc:List (Str×Addr)),(∀ y∈l,y.2= .free->∃ c,env.cells.lookup y.1=some c)->
  (forIn l acc fun (x:Str×NameKind) (cs:List (Str×Addr))=>(if (x.2==NameKind.free)=true then (do let a <- cellOf env x.1; pure (ForInStep.yield ((x.1,a)::cs))) else pure (ForInStep.yield cs):Sem (ForInStep (List (Str×Addr)))))=pure (kG env.cells l acc)
 | [],acc,_=>rfl
 | (n,k)::r,acc,h=>by
  have hr:∀ y∈r,y.2= .free->∃ c,env.cells.lookup y.1=some c:=fun y hy=>h y (aK _ hy)
  rw[gL]
  by_cases hk:k= .free
  ·subst hk
   obtain⟨c,hc⟩:=h (n, .free) aJ rfl
   have e:cellOf env n=pure c:=by unfold cellOf; rw[hc]
   have e2:kG env.cells ((n,NameKind.free)::r) acc=kG env.cells r ((n,c)::acc):=by
    show (if NameKind.free=NameKind.free then kG env.cells r ((n,(env.cells.lookup n).getD 0)::acc) else _)=_
    rw[am rfl,hc]; rfl
   rw[e2,<- jCD r ((n,c)::acc) hr]
   show ((do let a <- cellOf env n; pure (ForInStep.yield ((n,a)::acc))) >>= _)=_
   rw[e]; rfl
  ·have hb:(k==NameKind.free)=false:=by cases k <;> first | rfl | exact absurd rfl hk
   have e2:kG env.cells ((n,k)::r) acc=kG env.cells r acc:=by
    show (if k=NameKind.free then _ else kG env.cells r acc)=_
    rw[ak hk]
   rw[e2,<- jCD r acc hr]
   show ((if (k==NameKind.free)=true then _ else pure (ForInStep.yield acc)) >>= _)=_
   rw[hb]; rfl
theorem jL9 {env:Env}{sc:Scope}(h:∀ y∈sc.names,y.2= .free->∃ c,env.cells.lookup y.1=some c):closureFor sc env=pure (kG env.cells sc.names []):=by
 unfold closureFor
 show (forIn sc.names [] _ >>= fun cs=>pure cs)=_
 rw[show (forIn sc.names ([]:List (Str×Addr)) _:Sem _)=_ from jCD sc.names [] h]
 rfl
theorem jCC {cells:List (Str×Addr)} :∀ (l:List (Str×NameKind)) (acc:List (Str×Addr)),(∀ y∈l,y.2= .free->∃ c,cells.lookup y.1=some c)->
  (∀ x c,acc.lookup x=some c->cells.lookup x=some c)->∀ x c,(kG cells l acc).lookup x=some c->cells.lookup x=some c
 | [],acc,_,ha=>ha
 | (n,k)::r,acc,h,ha=>by
  have hr:∀ y∈r,y.2= .free->∃ c,cells.lookup y.1=some c:=fun y hy=>h y (aK _ hy)
  unfold kG
  by_cases hk:k= .free
  ·rw[am hk]
   obtain⟨c0,hc⟩:=h (n,k) aJ hk
   refine jCC r _ hr fun x c e=>?_
   rw[bi] at e
   cases hx:x==n with
   | true=>
    rw[hx] at e
    have exn:x=n:=eq_of_beq hx
    subst exn
    have hc':cells.lookup x=some c0:=hc
    rw[hc'] at e ⊢
    exact e
   | false=>rw[hx] at e; exact ha x c e
  ·rw[ak hk]; exact jCC r acc hr ha
theorem jB2 {cells:List (Str×Addr)}{x:Str} :∀ (l:List (Str×NameKind)) (acc:List (Str×Addr)),((x,NameKind.free)∈l\/∃ c,acc.lookup x=some c)->∃ c,(kG cells l acc).lookup x=some c
 | [],acc,h=>by
  rcases h with h | h
  ·cases h
  ·exact h
 | (n,k)::r,acc,h=>by
  unfold kG
  by_cases hk:k= .free
  ·rw[am hk]
   refine jB2 r _ ?_
   by_cases e:x=n
   ·subst e
    exact .inr ⟨_,by rw[bi,beq_self_eq_true]⟩
   ·rcases h with h | ⟨c,h⟩
    ·rcases aF.mp h with q | q
     ·cases q; exact absurd rfl e
     ·exact .inl q
    ·refine .inr ⟨c,?_⟩
     rw[bi,bS.mpr e]
     exact h
  ·rw[ak hk]
   refine jB2 r _ ?_
   rcases h with h | h
   ·rcases aF.mp h with q | q
    ·cases q; exact absurd rfl hk
    ·exact .inl q
   ·exact .inr h
theorem jAZ {x:Str}{k:NameKind} :∀ {l:List (Str×NameKind)},l.lookup x=some k->(x,k)∈l
 | [],h=>by cases h
 | (n,k')::r,h=>by
  rw[bi] at h
  cases hx:x==n with
  | true=>rw[hx] at h; cases h; rw[eq_of_beq hx]; exact aJ
  | false=>rw[hx] at h; exact aK _ (jAZ h)
theorem jC2 {env:Env}{x:Str}{k:NameKind}(hk:k= .cell\/k= .free):∀ {l:List (Str×NameKind)},(∀ y∈l,y.2≠ .cell)->
  (l.map fun (n,k)=>if (k==NameKind.free&&env.scope.kind== .function&&env.kindOf n==some .cell) then (n,NameKind.cell) else (n,k)).lookup x=some k->l.lookup x=some .free
 | [],_,h=>by simp at h
 | (n,k')::r,hc,h=>by
  have ih:= @jC2 env x k hk r (fun y hy=>hc y (aK _ hy))
  have hc0:k'≠ .cell:=hc (n,k') aJ
  rw[bi]
  rw[be] at h
  dsimp only at h
  by_cases hb:(k'==NameKind.free&&env.scope.kind== .function&&env.kindOf n==some .cell)=true
  ·rw[am hb,bi] at h
   cases hx:x==n with
   | true=>
    have:k'= .free:=by
     simp only [bC] at hb
     exact eq_of_beq hb.1.1
    rw[this]
   | false=>rw[hx] at h; exact ih h
  ·rw[ak hb,bi] at h
   cases hx:x==n with
   | true=>
    rw[hx] at h
    have e:k'=k:=bx h
    rcases hk with q | q
    ·exact absurd (e.trans q) hc0
    ·rw[e,q]
   | false=>rw[hx] at h; exact ih h
theorem jC8 {env:Env}{x:Str} :∀ {l:List (Str×NameKind)},l.lookup x=some .free->
  (l.map fun (n,k)=>if (k==NameKind.free&&env.scope.kind== .function&&env.kindOf n==some .cell) then (n,NameKind.cell) else (n,k)).lookup x=some .cell\/
  (l.map fun (n,k)=>if (k==NameKind.free&&env.scope.kind== .function&&env.kindOf n==some .cell) then (n,NameKind.cell) else (n,k)).lookup x=some .free
 | [],h=>by cases h
 | (n,k')::r,h=>by
  have ih:= @jC8 env x r
  rw[bi] at h
  rw[be]
  dsimp only
  by_cases hb:(k'==NameKind.free&&env.scope.kind== .function&&env.kindOf n==some .cell)=true
  ·rw[am hb,bi]
   cases hx:x==n with
   | true=>exact .inl rfl
   | false=>rw[hx] at h; exact ih h
  ·rw[ak hb,bi]
   cases hx:x==n with
   | true=>rw[hx] at h; exact .inr h
   | false=>rw[hx] at h; exact ih h
section
variable {prog:Program}{w:World}{A:Around}{R:Result->Shared->Prop}{s:Shared}
abbrev jJB (ifs:List Expr)(env:Env):Sem Bool:=forIn ifs true fun c r=>if r=true then do let ok <- isTrue c env (eval c env); pure (ForInStep.yield ok) else pure (ForInStep.yield r)
theorem jIZ {elt tg iter:Expr}{ifs:List Expr}{sc:Scope}{pos:Pos}{it acc:Value}{env:Env}(J:Nat->Shared->Prop)
  (turn:∀ n z,J n z->wpAny (model prog w) A (pyNext it) (fun r z1=>match r with
   | none=>R (.ok .next) z1
   | some v=>wpAny (model prog w) A (letOwnedTupleGo tg it v) (fun _ z2=>wpAny (model prog w) A (assign tg env v) (fun _ z3=>wpAny (model prog w) A (jJB ifs env) (fun ok z4=>
     if ok=true then wpAny (model prog w) A (eval elt env) (fun x z5=>wpAny (model prog w) A (call (.builtin "list.append") [acc,x]) (fun _ z6=>∃ k,k<n/\J k z6) (fun _ _=>False) z5) (fun _ _=>False) z4
     else ∃ k,k<n/\J k z4) (fun _ _=>False) z3) (fun _ _=>False) z2) (fun _ _=>False) z1) (fun _ _=>False) z)
  (n:Nat) (h:J n s):codeAny (model prog w) A (.compLoop (.ListComp elt [⟨tg,iter,ifs,0⟩] sc pos) 0 it acc env) R s:=by
 refine codeAny_loop rfl J (fun k z hJ=>?_) n h
 have noE:∀ {α:Type}{t:Sem α}{Q:α->Shared->Prop}{E:Value->Shared->Prop}{z:Shared},wpAny (model prog w) A t Q (fun _ _=>False) z->wpAny (model prog w) A t Q E z:=
  fun q=>bU q (fun _ _ a=>a) fun _ _ f=>f.elim
 show wpAny _ A ((compTurn (.ListComp elt [⟨tg,iter,ifs,0⟩] sc pos) 0 it acc env).onRaise (fun x=>do noteFrame x env; theTreesLotGoes x)) _ _ z
 refine wpAny_noted ?_
 rw[compTurn_list]
 refine aa (gm (aa (bU (turn k z hJ) (fun r z1 q1=>?_) fun _ _ f=>f.elim)))
 cases r with
 | none=>exact af q1
 | some v=>
  refine aa (bU q1 (fun _ z2 q2=>?_) fun _ _ f=>f.elim)
  refine aa (bU q2 (fun _ z3 q3=>?_) fun _ _ f=>f.elim)
  refine aa (bU q3 (fun ok z4 q4=>?_) fun _ _ f=>f.elim)
  cases ok with
  | false=>exact af ⟨rfl,q4⟩
  | true=>
   refine aa (aa (bU q4 (fun x z5 q5=>?_) fun _ _ f=>f.elim))
   exact aa (bU q5 (fun _ z6 q6=>af (af ⟨rfl,q6⟩)) fun _ _ f=>f.elim)
end
noncomputable def blk (X:Cx)(sc:Scope)(cl:List (Str×Addr))(C:Addr)(Nc:List Str)(fp:List Addr)(s:Shared)(H:Hp):Cx where
 prog:=X.prog
 w:=X.w
 K:=X.K
 mg:=X.mg
 base:=X.base
 A:=X.A
 N:=Nc
 s₀:=s
 H₀:=H
 env:=compEnvC sc cl C X.env
 outer:=X.stack
 stack:=X.stack
 ex:=fp
 fn:=fun _=>false
 calm:=X.calm
 pn:=[]
 xe:=fun _ _=>False
def blkσ (m:List (Option Nat))(σ:St):St:=m.map fun o=>match o with
 | none=>none
 | some i=>(σ[i]?).getD none
def PTs (X:Cx)(ifs:List Expr)(t:TT):Prop:=
 ∀ (pins:List (Addr×Obj)) (s:Shared) (σ:St) (H:Hp) (Q:Bool->Hp->Prop),Inv X pins σ H s->t σ H Q->wpAny (model X.prog X.w) X.A (jJB ifs X.env) (TP X pins σ Q) X.xe s
def yP:TT:=fun _ H Q=>Q true H
theorem jJS {X:Cx} :PTs X [] yP:=fun _ _ _ H _ I h=>wpAny_tests_nil ⟨H,I,h⟩
theorem jJR {X:Cx}{c:Expr}{t:TT}(h:PT X c t):PTs X [c] t:=fun pins s σ H Q I q=>wpAny_tests_one (h pins s σ H Q I q)
def qG (m:List (Option Nat))(g:TG)(tt:TT)(te:TE)(σ:St)(Q:VK)(J:It)(H1:Hp):Prop:=∀ D,H1 D=none->∃ W:Nat->Nat->St->Hp->List V->Prop,
  (∃ n,W 0 n (blkσ m σ) (upd H1 D (.lst [])) [])/\∀ i n σ' H' ys,W i n σ' H' ys->H' D=some (.lst ys)/\ys.length<sizeLine/\
   ((J.stop i H'/\Q (.ref D) H')\/(J.go i H'/\∃ N:St->Hp->List V->Prop,(∀ σ2 H2 zs,N σ2 H2 zs->∃ n',n'<n/\W (i+1) n' σ2 H2 zs)/\∀ x H'',J.yld i H' x H''->g x σ' H'' fun σ2 H2=>tt σ2 H2 fun b H3=>
    if b=true then te σ2 H3 fun v H4=>H4 D=some (.lst ys)/\N σ2 (upd H4 D (.lst (ys++[v]))) (ys++[v])
    else N σ2 H3 ys))
def tComp (m:List (Option Nat))(wi:TI)(g:TG)(tt:TT)(te:TE):TE:=fun σ H Q=>wi σ H (qG m g tt te σ Q)
theorem Un.sameBut {fs ex:List Addr}{H H':Hp}{h h1 h2:Heap}{C:Addr}(u:Un fs ex H H' h h1)(sb:Heap.SameBut C h1 h2)(hC:h.objs.size<=C):Un fs ex H H' h h2:=by
 have ne:∀ {b:Addr}{o:Obj},h.get? b=some o->b≠C:=fun e=>aO (aR (ao e) hC)
 refine⟨fun b o e n hf hx=>(sb.2 b (ne e)).trans (u.keep b o e n hf hx),fun b o e n hf hx=>?_,u.free,fun b o e hx=>?_,u.tups,u.frzs,u.tbls⟩
 ·obtain⟨sl,q⟩:=u.slot b o e n hf hx
  exact⟨sl,(sb.2 b (ne e)).trans q⟩
 ·obtain⟨o',q⟩:=u.there b o e hx
  exact⟨o',(sb.2 b (ne e)).trans q⟩
theorem HOk.sameBut {P:Program}{w:World}{H:Hp}{h1 h2:Heap}{C:Addr}(x:HOk P w H h1)(sb:Heap.SameBut C h1 h2)(hC:H C=none):HOk P w H h2:=fun a o e=>
 (x a o e).stay (fun b u hb q=>(sb.2 b (by
  rintro rfl
  rcases hb with rfl | hb
  ·rw[hC] at e; cases e
  ·rw[hC] at hb; cases hb)).trans q) (fun _ q=>q) fun _ _ q=>q
section
variable {X:Cx}{tg iter elt:Expr}{ifs:List Expr}{sc:Scope}{pos:Pos}{wi:TI}{g:TG}{tt:TT}{te:TE}{m:List (Option Nat)}{Nc:List Str}
def jCS (X:Cx)(sc:Scope)(Nc:List Str)(m:List (Option Nat)):Prop:=
 m.length=Nc.length/\∀ (k i:Nat),m[k]?=some (some i)->∃ x,Nc[k]?=some x/\X.N[i]?=some x/\sc.names.lookup x=some .free
theorem jLK {pins:List (Addr×Obj)}{s:Shared}{σ:St}{H:Hp}{fp:List Addr}(I:Inv X pins σ H s)(hkind:sc.kind= .function)(hcell:∀ y∈sc.names,y.2≠ .cell)
  (hfree:∀ y∈sc.names,y.2= .free->X.env.scope.names.lookup y.1=some .cell\/X.env.scope.names.lookup y.1=some .free) (hm:jCS X sc Nc m) (hfp:∀ b∈fp,FpOk X pins H b) (hlt:∀ b∈fp,b<s.heap.objs.size)
  {h1:Heap}{tk:Nat}{md:Str->Option Value}(hns:h1.Ns s.heap.objs.size md) (old:∀ b o,s.heap.get? b=some o->h1.get? b=some o):
  Inv (blk X sc (kG X.env.cells sc.names []) s.heap.objs.size Nc fp s H) [] (blkσ m σ) H { s with heap:=h1,toks:=tk} :=by
 have hcl:∀ y∈sc.names,y.2= .free->∃ c,X.env.cells.lookup y.1=some c:=fun y hy hf=>I.ok.has y.1 (hfree y hy hf)
 have sub:∀ x c,(kG X.env.cells sc.names []).lookup x=some c->X.env.cells.lookup x=some c:=jCC sc.names [] hcl (fun x c e=>by cases e)
 have isfree:∀ x,(compEnvC sc (kG X.env.cells sc.names []) s.heap.objs.size X.env).kindOf x=some .cell\/(compEnvC sc (kG X.env.cells sc.names []) s.heap.objs.size X.env).kindOf x=some .free->sc.names.lookup x=some .free:=fun x h=>by
  rcases h with h | h
  ·exact jC2 (.inl rfl) hcell h
  ·exact jC2 (.inr rfl) hcell h
 refine⟨⟨I.ok.mod,hkind,I.ok.glob,I.ok.blt,ai _,fun x y c h1 h2=>I.ok.inj x y c (sub x c h1) (sub y c h2),fun x hx=>?_,fun x c hf _=>?_,I.ok.hd,I.ok.frames, .inl rfl,fun b hb=>?_,I.bs,bJ I.ok.bsz I.sz,fun b o e hb=>?_,fun b hb hz=>?_,I.stack,I.stkFree⟩,
  rfl,I.bare,Un.kept old,⟨md,hns,fun k x v e1 e2 e3=>?_⟩,fun x c e=>?_,I.hok.fresh (ai _),fun x c e=>I.freeC x c (sub x c e),fun p hp=>absurd (show p∈([]:List (Addr×Obj)) from hp) (by simp),I.hok.kept old,?_⟩
 ·exact jB2 sc.names [] (.inl (jAZ (isfree x hx)))
 ·exact absurd (show false=true from hf) ag
 ·obtain⟨f0,f1,f2,f3,f4,f5⟩:=hfp b hb
  exact⟨aO (hlt b hb),fun x c e=>f4 x c (sub x c e)⟩
 ·obtain⟨f0,f1,f2,f3,f4,f5⟩:=hfp b hb
  rcases f3 with q | q
  ·exact I.ok.noex b o e q
  ·exact absurd (aR (ao (I.ok.bs b o e).1) q) (ce _)
 ·obtain⟨f0,f1,f2,f3,f4,f5⟩:=hfp b hb
  rcases aF.mp (I.stkSub b hz) with q | q
  ·exact f1 q
  ·exact f2 q
 ·have e2':∃ i,m[k]?=some (some i)/\σ[i]?=some (some v):=by
   unfold blkσ at e2
   rw[aU] at e2
   cases q:m[k]? with
   | none=>rw[q] at e2; cases e2
   | some o=>
    rw[q] at e2
    cases o with
    | none=>cases e2
    | some i=>
     refine⟨i,rfl,?_⟩
     have e2:(σ[i]?).getD none=some v:=bx e2
     cases r:σ[i]? with
     | none=>rw[r] at e2; cases e2
     | some z=>rw[r] at e2; exact bL some e2
  obtain⟨i,q1,q2⟩:=e2'
  obtain⟨x',a1,a2,a3⟩:=hm.2 k i q1
  have e1':Nc[k]?=some x:=e1
  rw[e1'] at a1
  cases a1
  have vis:=hfree (x, .free) (jAZ a3) rfl
  obtain⟨m0,hn0,hl0⟩:=I.loc
  obtain⟨u,r,l⟩:=hl0 i x v a2 q2 (.inr vis)
  refine⟨u,r, .inr ⟨jC8 a3,?_⟩⟩
  obtain⟨c,hc⟩:=jB2 (cells:=X.env.cells) (x:=x) sc.names [] (.inl (jAZ a3))
  rcases l with ⟨lk,_⟩ | ⟨_,c',hc',o,ho,hd⟩
  ·have lk':X.env.scope.names.lookup x=some .local:=lk
   rcases vis with z | z
   ·rw[lk'] at z; cases z
   ·rw[lk'] at z; cases z
  ·have:=sub x c hc
   rw[hc'] at this
   cases this
   exact⟨c,hc,o,old _ _ ho,hd⟩
 ·obtain⟨v,o,ho,hd⟩:=I.cell x c (sub x c e)
  exact⟨v,o,old _ _ ho,hd⟩
 ·show (blkσ m σ).length=Nc.length
  unfold blkσ
  rw[ae]
  exact hm.1
theorem jI3 {tf:St->TE}(hc:X.calm=true)(hi:PI X tg iter wi)(hkind:sc.kind= .function)(hcell:∀ y∈sc.names,y.2≠ .cell)(hnames:∀ y∈sc.names,y.2= .local->sc.names.lookup y.1=some .local)
  (hfree:∀ y∈sc.names,y.2= .free->X.env.scope.names.lookup y.1=some .cell\/X.env.scope.names.lookup y.1=some .free) (hm:jCS X sc Nc m)
  (hg:∀ cl C fp s H,PG (blk X sc cl C Nc fp s H) tg g) (ht:∀ cl C fp s H,PTs (blk X sc cl C Nc fp s H) ifs tt) (he:∀ cl C fp s H pins σ,Inv X pins σ H s->(∀ b∈fp,FpOk X pins H b)->PE (blk X sc cl C Nc fp s H) elt (tf σ))
  (hs:∀ x,foldedSetIterable iter X.env x=pure x) {fpos:Pos}{use:Option (Value->Sem Unit)}{R:Value->Shared->Prop}{pins:List (Addr×Obj)}{s:Shared}{σ:St}{H:Hp}{Q:VK}(I:Inv X pins σ H s) (h:tComp m wi g tt (tf σ) σ H Q)
  (fin:∀ (D C:Addr) (H5:Hp) (z1:Shared) (r:Flow),(∃ mm,z1.heap.Ns C mm)->FpOk X pins H5 C->(∀ h',Heap.SameBut C z1.heap h'->Inv X pins σ H5 { z1 with heap:=h'})->Q (.ref D) H5->compPost (model X.prog X.w) X.A X.xe use R (.ref D) C (.ok r) z1):
  wpAny (model X.prog X.w) X.A (comprehension (.ListComp elt [⟨tg,iter,ifs,0⟩] sc pos) sc X.env fpos (newList []) false (eval iter X.env) use) R X.xe s:=by
 have hcl:∀ y∈sc.names,y.2= .free->∃ c,X.env.cells.lookup y.1=some c:=fun y hy hf=>I.ok.has y.1 (hfree y hy hf)
 refine wpAny_comprehension_free (use:=use) rfl hs (jL9 hcl) hkind hnames (thn (hi pins s σ H _ I h) fun v s1 h1=>thn h1 fun itv s2 h2=>?_)
 obtain⟨it,fp,tn,J,H2,e,I2,T,st2,f2,hQ⟩:=h2
 subst e
 have hlt:∀ b∈fp,b<s2.heap.objs.size:=fun b hb=>by
  obtain⟨o,e,_⟩:=T.obj 0 _ st2 b hb
  exact ao e
 refine bD (wpAny_newFunctionEnv hcell (by intro y hy; simp at hy) (fun h₁ hns₁ hsb₁=>?_) hkind)
 have I3:Inv X pins σ (upd H2 s2.heap.objs.size (.lst [])) { s2 with heap:=s2.heap.push { cls:= .type "list",data:= .seq ([]:List Value).toArray}} :=I2.lnew (t':=s2.toks) .nil (aY _)
 obtain⟨W,⟨n0,w0⟩,turn⟩:=hQ s2.heap.objs.size I2.fresh
 have hD3:∀ b∈fp,b≠s2.heap.objs.size:=fun b hb=>aO (hlt b hb)
 have f3:∀ b∈fp,FpOk X pins (upd H2 s2.heap.objs.size (.lst [])) b:=fun b hb=>by
  obtain⟨a0,a1⟩:=f2 b hb
  exact⟨by rw[j8 (hD3 b hb)]; exact a0,a1⟩
 generalize hE:({ s2 with heap:=s2.heap.push { cls:= .type "list",data:= .seq ([]:List Value).toArray}} :Shared)=s3 at I3 hns₁ hsb₁ ⊢
 generalize hH3:upd H2 s2.heap.objs.size (.lst [])=H3 at I3 f3 w0
 have hsz3:s3.heap.objs.size=s2.heap.objs.size+1:=by rw[<- hE]; exact bM _ _
 have old:∀ b o,s3.heap.get? b=some o->h₁.get? b=some o:=fun b o e=>hsb₁.extBut b o (aO (ao e)) (ab _ e)
 have old2:∀ b o,s2.heap.get? b=some o->h₁.get? b=some o:=fun b o e=>old b o (by rw[<- hE]; exact ab _ e)
 have I4:=jLK (fp:=fp) (tk:=s3.toks+([]:List (Str×Value)).length) I3 hkind hcell hfree hm f3 (fun b hb=>show b<s3.heap.objs.size by rw[hsz3]; exact cc (hlt b hb)) hns₁ old
 have st4:tn 0 h₁:=T.keep _ _ _ st2 fun b hb o e=>old2 b o e
 have loop:codeAny (model X.prog X.w) X.A (.compLoop (.ListComp elt [⟨tg,iter,ifs,0⟩] sc pos) 0 (.ref it) (.ref s2.heap.objs.size) (compEnvC sc (kG X.env.cells sc.names []) s3.heap.objs.size X.env))
   (compPost (model X.prog X.w) X.A X.xe use R (.ref s2.heap.objs.size) s3.heap.objs.size) { s3 with heap:=h₁,toks:=s3.toks+([]:List (Str×Value)).length} :=by
  generalize hX:blk X sc (kG X.env.cells sc.names []) s3.heap.objs.size Nc fp s3 H3=Xb at I4
  have eP:Xb.prog=X.prog:=by rw[<- hX]; rfl
  have ew:Xb.w=X.w:=by rw[<- hX]; rfl
  have eK:Xb.K=X.K:=by rw[<- hX]; rfl
  have eA:Xb.A=X.A:=by rw[<- hX]; rfl
  have ec:Xb.calm=true:=by rw[<- hX]; exact hc
  have ee:Xb.env=compEnvC sc (kG X.env.cells sc.names []) s3.heap.objs.size X.env:=by rw[<- hX]; rfl
  have ex:Xb.xe=fun _ _=>False:=by rw[<- hX]; rfl
  have hgb:PG Xb tg g:=by rw[<- hX]; exact hg _ _ _ _ _
  have htb:PTs Xb ifs tt:=by rw[<- hX]; exact ht _ _ _ _ _
  have heb:PE Xb elt (tf σ):=by rw[<- hX]; exact he _ _ _ _ _ _ _ I3 f3
  have stat:∀ {H':Hp},(∀ b∈fp,H' b=none)->∀ b∈fp,FpOk Xb [] H' b:=fun {H'} hn b hb=>by
   obtain⟨o,eo,_⟩:=T.obj _ _ st4 b hb
   have q:=I4.ok.exf b (by rw[<- hX]; exact hb)
   exact⟨hn b hb,q.1,I4.ok.exfs b (by rw[<- hX]; exact hb), .inl (by rw[<- hX]; exact hb),q.2,fun p hp=>absurd hp (by rw[<- hX]; simp [blk])⟩
  have fr4:∀ b∈fp,H3 b=none:=fun b hb=>(f3 b hb).1
  unfold PG at hgb
  unfold PTs at htb
  unfold PE at heb
  rw[eP,ew,eA,ee,ex] at hgb htb heb
  refine jIZ (fun n z=>∃ i σ' H' ys,Inv Xb [] σ' H' z/\tn i z.heap/\(∀ b∈fp,H' b=none)/\W i n σ' H' ys) ?_ n0 ⟨0,_,H3,[],I4,st4,fr4,w0⟩
  rintro n z ⟨i,σ5,H5,ys,I5,st5,fr5,w5⟩
  obtain⟨hD,hlen,way⟩:=turn i n σ5 H5 ys w5
  rcases way with ⟨stop,q⟩ | ⟨go,N,hN,step⟩
  ·have RR:=T.done Xb eP ew eK ec i [] z σ5 H5 (fun _ _=>False) I5 (stat fr5) st5 stop
   rw[eA] at RR
   refine thn RR fun r z1 ⟨hr,I6⟩=>?_
   subst hr
   obtain⟨mm,hn6,_⟩:=I6.loc
   rw[ee] at hn6
   have u6:Un (frs X.stack) fp H3 H5 s3.heap z1.heap:=by
    have:=I6.base
    rw[<- hX] at this
    exact this
   have fC:H5 s3.heap.objs.size=none:=by
    have:=I6.free
    rw[ee] at this
    exact this
   have hok6:HOk X.prog X.w H5 z1.heap:=by
    have:=I6.hok
    rw[eP,ew] at this
    exact this
   have os6:z1.os=s3.os:=by
    have:=I6.os
    rw[<- hX] at this
    exact this
   refine fin s2.heap.objs.size s3.heap.objs.size H5 z1 .next ⟨mm,hn6⟩ (I3.fpOk (ai _) fC) (fun h' sb=>?_) q
   refine I3.call' (s':= { z1 with heap:=h'}) (ch:=fp) os6 (u6.sameBut sb (ai _)) (hok6.sameBut sb fC) I6.bare (fun b hb=>?_)
   obtain⟨a0,a1,a2,a3,a4,a5⟩:=f3 b hb
   exact⟨a3,a1,a4,a5⟩
  ·have RR:=T.item Xb eP ew eK ec i [] z σ5 H5 (fun _ _=>False) I5 (stat fr5) st5 go
   rw[eA] at RR
   refine thn RR fun r z1 ⟨u,hr,h6⟩=>?_
   subst hr
   refine thn h6 fun _ z2 ⟨x,H7,I7,r7,y7,st7,fr7⟩=>?_
   have I7':=I7.pinned (stat fr7) (T.obj _ _ st7)
   refine thn (hgb _ z2 σ5 H7 x u _ I7' r7 (step x H7 y7)) fun _ z3 ⟨σ8,H8,I8,q8⟩=>?_
   refine thn (htb _ z3 σ8 H8 _ I8 q8) fun ok z4 ⟨H9,I9,q9⟩=>?_
   have again:∀ {σ7:St}{Hz:Hp}{zz:Shared}{yy:List V}{n':Nat},Inv Xb ([]++jFM fp z2.heap) σ7 Hz zz->n'<n->W (i+1) n' σ7 Hz yy->∃ k,k<n/\∃ i σ' H' ys,Inv Xb [] σ' H' zz/\tn i zz.heap/\(∀ b∈fp,H' b=none)/\W i k σ' H' ys:=fun {σ7 Hz zz yy n'} Iz hn wz=>by
    refine⟨n',hn,i+1,σ7,Hz,yy,Iz.unpinned,T.keep _ _ _ st7 fun b hb o e=>(Iz.pin (b,o) (aG _ (aG _ (jAY hb e)))).1,fun b hb=>?_,wz⟩
    obtain⟨o,e,d⟩:=T.obj _ _ st7 b hb
    exact(Iz.pin (b,o) (aG _ (aG _ (jAY hb e)))).2.1
   cases ok with
   | false=>
    obtain⟨n',hn,w9⟩:=hN _ _ _ (show N σ8 H9 ys from q9)
    exact again I9 hn w9
   | true=>
    refine thn (heb _ z4 σ8 H9 _ I9 q9) fun xv z5 ⟨vv,H10,I10,r10,hD10,n10⟩=>?_
    obtain⟨n',hn,w10⟩:=hN _ _ _ n10
    have RR:=jAQ (X:=Xb) _ z5 σ8 H10 (.ref s2.heap.objs.size) [vv] (.ref s2.heap.objs.size) [xv] (fun _ H'=>H'=upd H10 s2.heap.objs.size (.lst (ys++[vv]))) I10 rfl (.cons r10 .nil) ⟨_,ys,vv,rfl,rfl,hD10,hlen,rfl⟩
    rw[eP,ew,eA,ex] at RR
    refine thn RR fun _ z6 ⟨_,H11,I11,_,e11⟩=>?_
    subst e11
    exact again I11 hn w10
 exact codeAny_compStart_list loop (T.self _ 0 _ _ _ st4 loop)
theorem jGO (hc:X.calm=true)(hi:PI X tg iter wi)(hkind:sc.kind= .function)(hcell:∀ y∈sc.names,y.2≠ .cell)(hnames:∀ y∈sc.names,y.2= .local->sc.names.lookup y.1=some .local)
  (hfree:∀ y∈sc.names,y.2= .free->X.env.scope.names.lookup y.1=some .cell\/X.env.scope.names.lookup y.1=some .free) (hm:jCS X sc Nc m)
  (hg:∀ cl C fp s H,PG (blk X sc cl C Nc fp s H) tg g) (ht:∀ cl C fp s H,PTs (blk X sc cl C Nc fp s H) ifs tt) (he:∀ cl C fp s H,PE (blk X sc cl C Nc fp s H) elt te)
  (hs:∀ x,foldedSetIterable iter X.env x=pure x:=by intro _; rfl):PE X (.ListComp elt [⟨tg,iter,ifs,0⟩] sc pos) (tComp m wi g tt te):=by
 intro pins s σ H Q I h
 rw[eval_ListComp]
 exact jI3 (tf:=fun _=>te) (use:=none) hc hi hkind hcell hnames hfree hm hg ht (fun cl C fp s H _ _ _ _=>he cl C fp s H) hs I h (fun D C H5 z1 r ⟨mm,hn⟩ fC sb q=>⟨mm,hn,fun h' s2=>⟨.ref D,H5,sb h' s2,rfl,q⟩⟩)
end
theorem kP {X:Cx}{sc psc:Scope}(h:(sc.names.all fun y=>decide (y.2= .free->psc.names.lookup y.1=some .cell\/psc.names.lookup y.1=some .free))=true)(e:X.env.scope=psc:=by rfl):
  ∀ y∈sc.names,y.2= .free->X.env.scope.names.lookup y.1=some .cell\/X.env.scope.names.lookup y.1=some .free:=by
 rw[e]
 intro y hy
 exact aL (bj.mp h y hy)
def jKY (sc:Scope)(N Nc:List Str)(m:List (Option Nat))(k:Nat):Bool:=match m[k]? with
 | some (some i)=>match Nc[k]? with
  | some x=>decide (N[i]?=some x)&&decide (sc.names.lookup x=some .free)
  | none=>false
 | _=>true
theorem jP {X:Cx}{sc:Scope}{N Nc:List Str}{m:List (Option Nat)}(e:X.N=N)(hl:m.length=Nc.length)(h:((List.range m.length).all (jKY sc N Nc m))=true):jCS X sc Nc m:=by
 refine⟨hl,fun k i hk=>?_⟩
 have hlt:k<m.length:=(ah.mp hk).1
 have q:=bj.mp h k (bo.mpr hlt)
 unfold jKY at q
 rw[hk] at q
 cases e2:Nc[k]? with
 | none=>rw[e2] at q; cases q
 | some x=>
  rw[e2] at q
  have q:(decide (N[i]?=some x)&&decide (sc.names.lookup x=some .free))=true:=q
  rw[bC] at q
  exact⟨x,rfl,by rw[e]; exact aL q.1,aL q.2⟩
section
variable {m:List (Option Nat)}{g:TG}{tt:TT}{te:TE}{σ:St}{H1:Hp}{Q:VK}
theorem jB1 {lo:Int}{n:Nat}(hn:n<sizeLine)(Pv:Addr->Nat->St->Hp->List V->Prop)(h0:∀ D,H1 D=none->Pv D 0 (blkσ m σ) (upd H1 D (.lst [])) [])
  (hD:∀ D i σ' H' ys,H1 D=none->i<=n->Pv D i σ' H' ys->H' D=some (.lst ys)/\ys.length<=i)
  (hs:∀ D i σ' H' ys,H1 D=none->i<n->Pv D i σ' H' ys->g (.int (lo+i)) σ' H' fun σ2 H2=>tt σ2 H2 fun b H3=>if b=true then te σ2 H3 fun v H4=>H4 D=some (.lst ys)/\Pv D (i+1) σ2 (upd H4 D (.lst (ys++[v]))) (ys++[v]) else Pv D (i+1) σ2 H3 ys)
  (hd:∀ D σ' H' ys,H1 D=none->Pv D n σ' H' ys->Q (.ref D) H'):qG m g tt te σ Q (Itr lo n) H1:=by
 intro D hDn
 refine⟨fun i k σ' H' ys=>k=n - i/\i<=n/\Pv D i σ' H' ys,⟨n,rfl,aY _,h0 D hDn⟩,?_⟩
 rintro i k σ' H' ys ⟨rfl,hi,p⟩
 obtain⟨q1,q2⟩:=hD D i σ' H' ys hDn hi p
 refine⟨q1,by omega,?_⟩
 by_cases hlt:i<n
 ·refine .inr ⟨hlt,Pv D (i+1),fun σ2 H2 zs z=>⟨n - (i+1),by omega,rfl,hlt,z⟩,fun x H'' y=>?_⟩
  obtain⟨e1,e2⟩:=y
  subst e1 e2
  exact hs D i σ' _ ys hDn hlt p
 ·have e:i=n:=by omega
  subst e
  exact .inl ⟨ai _,hd D σ' H' ys hDn p⟩
end
end L2
end
section
namespace SS
open PySem PySem.SetTable
abbrev Ris (xs:Array Nat):Prop:=xs.toList.Pairwise (· < ·)
theorem jC1 {xs:Array Nat}(h:Ris xs){a b:Nat}(hab:a<b)(hb:b<xs.size):xs.getD a 0<xs.getD b 0:=by
 have h1:a<xs.size:=fu hab hb
 have:=bO.mp h a b (by simpa using h1) (by simpa using hb) hab
 simpa [Array.getD,h1,hb] using this
theorem jPT {xs:Array Nat}{j:Nat}(hr:Ris xs):∀ (fuel lo hi:Nat),hi - lo<=fuel->lo<=hi->hi<=xs.size->(∀ a,a<lo->xs.getD a 0<j)->(∀ a,hi<=a->a<xs.size->j<=xs.getD a 0)->
  (below.go xs j fuel lo hi<=xs.size/\(∀ a,a<below.go xs j fuel lo hi->xs.getD a 0<j)/\(∀ a,below.go xs j fuel lo hi<=a->a<xs.size->j<=xs.getD a 0)):=by
 intro fuel
 induction fuel with
 | zero=>
  intro lo hi h1 h2 h3 h4 h5
  have e:lo=hi:=by omega
  subst e
  exact⟨h3,h4,h5⟩
 | succ fuel ih=>
  intro lo hi h1 h2 h3 h4 h5
  unfold below.go
  by_cases hlt:lo<hi
  ·rw[am hlt]
   have hm:(lo+hi) / 2<xs.size:=by omega
   have e:xs.getD ((lo+hi) / 2) j=xs.getD ((lo+hi) / 2) 0:=by simp [Array.getD,hm]
   dsimp only
   rw[e]
   by_cases hc:xs.getD ((lo+hi) / 2) 0<j
   ·rw[am hc]
    refine ih _ _ (by omega) (by omega) h3 (fun a ha=>?_) h5
    by_cases e2:a=(lo+hi) / 2
    ·rw[e2]; exact hc
    ·exact fu (jC1 hr (by omega) hm) hc
   ·rw[ak hc]
    refine ih _ _ (by omega) (by omega) (by omega) h4 (fun a ha hs=>?_)
    by_cases e2:a=(lo+hi) / 2
    ·rw[e2]; omega
    ·have:=jC1 hr (show (lo+hi) / 2<a by omega) hs
     omega
  ·rw[ak hlt]
   have e:lo=hi:=by omega
   subst e
   exact⟨h3,h4,h5⟩
theorem jE8 {xs:Array Nat}(hr:Ris xs)(j:Nat):below xs j<=xs.size/\(∀ a,a<below xs j->xs.getD a 0<j)/\(∀ a,below xs j<=a->a<xs.size->j<=xs.getD a 0):=
 jPT hr xs.size 0 xs.size (by omega) (aY _) (ai _) (fun a h=>absurd h (fi _)) (fun a h1 h2=>absurd h2 (by omega))
theorem jF6 {xs:Array Nat}(hr:Ris xs){j i:Nat}(hi:i<=xs.size)(h1:∀ a,a<i->xs.getD a 0<j)(h2:∀ a,i<=a->a<xs.size->j<=xs.getD a 0):below xs j=i:=by
 obtain⟨b1,b2,b3⟩:=jE8 hr j
 rcases Nat.lt_trichotomy (below xs j) i with h | h | h
 ·have q1:=h1 _ h
  have q2:=b3 _ (ai _) (by omega)
  omega
 ·exact h
 ·have q1:=b2 _ h
  have q2:=h2 _ (ai _) (by omega)
  omega
theorem jA6 {α:Type}(xs:Array α)(p:Nat)(x:α):(insertAt xs p x).toList=xs.toList.take p++x::xs.toList.drop p:=by
 unfold insertAt
 simp [dG,List.extract]
 rw[bz (by simp)]
theorem jBI {α:Type}(xs:Array α)(p:Nat)(x:α):(insertAt xs p x).size=xs.size+1:=by
 rw[<- aC,jA6]
 simp
 omega
theorem jIH {xs:Array Nat}{j:Nat}(hr:Ris xs)(hj:j∉xs.toList):Ris (insertAt xs (below xs j) j):=by
 obtain⟨b1,b2,b3⟩:=jE8 hr j
 show (insertAt xs (below xs j) j).toList.Pairwise (· < ·)
 rw[jA6,ci,cg]
 have hl:∀ a∈xs.toList.take (below xs j),a<j:=by
  intro a ha
  obtain⟨i,hi,e⟩:=List.mem_take_iff_getElem.mp ha
  have:=b2 i (by omega)
  have hs:i<xs.size:=by simp at hi; omega
  simp [Array.getD,hs] at this
  simp at e
  omega
 have hg:∀ a∈xs.toList.drop (below xs j),j<a:=by
  intro a ha
  obtain⟨i,hi,e⟩:=List.mem_drop_iff_getElem.mp ha
  have hs:i+below xs j<xs.size:=by simpa [gG] using hi
  have:=b3 (i+below xs j) (by omega) hs
  simp [Array.getD,hs] at this
  have e':xs[i+below xs j]=a:=by simpa [gG] using e
  have hne:a≠j:=by
   intro z
   apply hj
   rw[<- z]
   exact cj ha
  omega
 refine⟨hr.sublist (dc _ _),⟨hg,hr.sublist (ge _ _)⟩,?_⟩
 intro a ha b hb
 rcases aF.mp hb with rfl | hb
 ·exact hl a ha
 ·exact fu (hl a ha) (hg b hb)
theorem jDC {t:SetTable}{j:Nat}(hr:Ris t.place)(h:t.slot j= .empty):j∉t.place.toList:=by
 intro hm
 obtain⟨i,hi,e⟩:=dk hm
 have hs:i<t.place.size:=by simpa using hi
 have e0:t.place[i]=j:=by simpa using e
 have eb:below t.place j=i:=by
  refine jF6 hr (dr hs) (fun a ha=>?_) (fun a h1 h2=>?_)
  ·have:=jC1 hr ha hs
   simp only [Array.getD,hs] at this ⊢
   simp [e0] at this ⊢
   exact this
  ·by_cases e2:a=i
   ·subst e2
    simp [Array.getD,hs,e0]
   ·have:=jC1 hr (show i<a by omega) h2
    simp only [Array.getD,hs] at this
    simp [e0] at this
    simp [Array.getD]
    omega
 unfold SetTable.slot at h
 dsimp only at h
 rw[eb] at h
 rw[am (by simp [hs,e0])] at h
 cases h
theorem jGZ (j:Nat):has #[] j=false:=by
 unfold has
 simp
theorem jHJ {t:SetTable}(hd:t.dummies=#[]){f:Nat->Int}{h:Int} :∀ (fuel:Nat) (p:Probe) (m:Met),p.dummy=none->probe.go t f h fuel p=some m->
  (∃ j,m= .empty j none/\t.slot j= .empty)\/(∃ j i n,m= .candidate j i n):=by
 intro fuel
 induction fuel with
 | zero=>intro p m _ e; simp [probe.go] at e
 | succ fuel ih=>
  intro p m hp e
  unfold probe.go at e
  cases hs:t.slot p.j with
  | empty=>
   rw[hs] at e
   simp only [gf] at e
   subst e
   exact .inl ⟨p.j,by rw[hp],hs⟩
  | dummy=>
   unfold SetTable.slot at hs
   dsimp only at hs
   rw[hd,jGZ] at hs
   split at hs
   ·cases hs
   ·simp at hs
  | live i=>
   rw[hs] at e
   dsimp only at e
   split at e
   ·simp only [gf] at e
    subst e
    exact .inr ⟨_,_,_,rfl⟩
   ·refine ih _ _ ?_ e
    unfold advance
    split
    ·exact hp
    ·exact hp
theorem jEZ {t:SetTable}(hr:Ris t.place)(hd:t.dummies=#[]){h:Int}{slot:Nat}{d:Bool}(e:t.freeSlot h=some (slot,d)):slot∉t.place.toList:=by
 unfold SetTable.freeSlot at e
 split at e
 ·rename_i j dummy hp
  simp only [gf,Prod.mk.injEq] at e
  have hp':probe.go t (fun _=>h+1) h (10*turns t.mask) (t.probeStart h)=some (.empty j dummy):=hp
  rcases jHJ hd _ _ _ (by unfold probeStart; rfl) hp' with ⟨j',em,hs⟩ | ⟨_,_,_,em⟩
  ·cases em
   have:slot=j:=by rw[<- e.1]; rfl
   rw[this]
   exact jDC hr hs
  ·cases em
 ·cases e
theorem jIG {t:SetTable}{j:Nat}(hd:t.dummies=#[])(h:t.slot j≠ .empty):(∃ i,t.slot j= .live i)/\j∈t.place.toList:=by
 unfold SetTable.slot at h ⊢
 dsimp only at h ⊢
 by_cases q:(t.place[below t.place j]?==some j)=true
 ·rw[am q]
  refine⟨⟨_,rfl⟩,?_⟩
  have e:t.place[below t.place j]?=some j:=eq_of_beq q
  obtain⟨hi,e⟩:=Array.getElem?_eq_some_iff.mp e
  rw[<- e]
  exact Array.getElem_mem_toList hi
 ·rw[ak q,hd,jGZ] at h
  exact absurd rfl h
theorem run7 (i:Nat):runEnd 7 i=i:=by unfold runEnd; rw[ak (by omega)]
theorem jJT {t:SetTable}(hm:t.mask=7)(hd:t.dummies=#[]){h:Int} :∀ (k fuel:Nat) (p:Probe),p.j=p.i->p.more=0->p.i<8->p.perturb<32->k<=fuel->
  probe.go t (fun _=>h+1) h fuel p=none->∀ r,r<k->Nat.repeat (fun i=>(i*5+1) % 8) r p.i∈t.place.toList:=by
 intro k
 induction k with
 | zero=>intro fuel p _ _ _ _ _ _ r hr; omega
 | succ k ih=>
  intro fuel p h1 h2 h3 h4 h5 h6 r hr
  obtain⟨f,rfl⟩:∃ f,fuel=f+1:=⟨fuel - 1,by omega⟩
  unfold probe.go at h6
  by_cases he:t.slot p.j= .empty
  ·rw[he] at h6; cases h6
  ·obtain⟨⟨i,hl⟩,hmem⟩:=jIG hd he
   rw[hl] at h6
   dsimp only at h6
   rw[ak (by simp; omega)] at h6
   have hz:p.perturb / 32=0:=by omega
   have ea:t.advance p= { p with j:=(p.i*5+1) % 8,more:=0,i:=(p.i*5+1) % 8,perturb:=0} :=by
    unfold advance leap
    rw[ak (by omega),hm,hz]
    simp [run7]
   rw[ea] at h6
   cases r with
   | zero=>show p.i∈_; rw[<- h1]; exact hmem
   | succ r=>
    have q:=ih f _ (by rfl) (by rfl) (by show (p.i*5+1) % 8<8; omega) (by show 0<32; omega) (by omega) h6 r (by omega)
    have e:∀ (r i:Nat),Nat.repeat (fun i=>(i*5+1) % 8) (r+1) i=Nat.repeat (fun i=>(i*5+1) % 8) r ((i*5+1) % 8):=by
     intro r
     induction r with
     | zero=>intro i; rfl
     | succ r ihr=>
      intro i
      show ((Nat.repeat _ (r+1) i)*5+1) % 8=((Nat.repeat _ r ((i*5+1) % 8))*5+1) % 8
      rw[ihr]
    rw[e]
    exact q
theorem jLM:∀ i,i<8->∀ j,j<8->∃ r,r<8/\Nat.repeat (fun i=>(i*5+1) % 8) r i=j:=by decide+kernel
theorem jEY {t:SetTable}(hm:t.mask=7)(hd:t.dummies=#[])(hz:t.place.size<8){h:Int}(h0:0<=h)(h1:h<32):∃ q,t.freeSlot h=some q:=by
 unfold SetTable.freeSlot
 have hb:bits h<32:=by unfold bits; omega
 have hps:t.probeStart h= { j:=bits h % 8,more:=0,i:=bits h % 8,perturb:=bits h,dummy:=none} :=by
  unfold probeStart
  rw[hm]
  simp [run7]
 cases e:t.probe (fun _=>h+1) h (t.probeStart h) with
 | none=>
  exfalso
  have e':probe.go t (fun _=>h+1) h (10*turns t.mask) (t.probeStart h)=none:=e
  rw[hps] at e'
  have q:=jJT hm hd 8 _ _ (by rfl) (by rfl) (by show bits h % 8<8; omega) (by exact hb) (by rw[hm]; decide) e'
  have sub:List.range 8 ⊆ t.place.toList:=by
   intro j hj
   obtain⟨r,hr,er⟩:=jLM (bits h % 8) (by omega) j (bo.mp hj)
   rw[<- er]
   exact q r hr
  have:=List.Nodup.length_le_of_subset (List.nodup_range (n:=8)) sub
  simp at this
  omega
 | some m=>
  rcases jHJ hd _ _ _ (by rw[hps]) (show probe.go t (fun _=>h+1) h (10*turns t.mask) (t.probeStart h)=some m from e) with ⟨j,rfl,_⟩ | ⟨j,i,n,rfl⟩
  ·exact⟨_,rfl⟩
  ·exfalso
   have nc:∀ (fuel:Nat) (p:Probe) (j i:Nat) (n:Probe),probe.go t (fun _=>h+1) h fuel p≠some (.candidate j i n):=by
    intro fuel
    induction fuel with
    | zero=>intro p j i n; simp [probe.go]
    | succ f ih=>
     intro p j i n
     unfold probe.go
     cases t.slot p.j with
     | empty=>simp
     | dummy=>exact ih _ _ _ _
     | live i'=>
      dsimp only
      rw[ak (by simp; omega)]
      exact ih _ _ _ _
   exact nc _ _ _ _ _ e
structure Tab (t:SetTable)(n:Nat)(led:Bool):Prop where
 ris:Ris t.place
 sz:t.place.size=n
 dm:t.dummies=#[]
 msk:t.mask=7
 pl:t.plain=true
 ld:t.led=led
theorem Tab.fits {t:SetTable}{n:Nat}{led:Bool}(T:Tab t n led)(hn:n<=4):t.fits n=true:=by
 unfold SetTable.fits fill
 simp [T.sz,T.dm,T.msk]
 omega
theorem Tab.full {t:SetTable}{n:Nat}{led:Bool}(T:Tab t n led)(hn:n<=4):t.tooFull=false:=by
 unfold tooFull fill
 simp [T.sz,T.dm,T.msk]
 omega
theorem jJC (led:Bool):Tab (fresh 0 0 led) 0 led:=⟨List.Pairwise.nil,rfl,rfl,rfl,rfl,rfl⟩
theorem jIS {t:SetTable}{n:Nat}{led:Bool}(T:Tab t n led)(hn:n+1<=4)(es:Array (Int×Value))(he:es.size=n){h:Int}(h0:0<=h)(h1:h<32)(x:Value):
  Tab (layNew t es h x).2.1 (n+1) led/\∃ p,(layNew t es h x).1.toList=es.toList.take p++(h,x)::es.toList.drop p:=by
 obtain⟨⟨slot,d⟩,hf⟩:=jEY T.msk T.dm (by rw[T.sz]; omega) h0 h1
 unfold layNew
 rw[hf]
 dsimp only [SetTable.put]
 have hnm:=jEZ T.ris T.dm hf
 have T2:Tab { t with place:=insertAt t.place (below t.place slot) slot,dummies:=if has t.dummies slot then eraseAt t.dummies (below t.dummies slot) else t.dummies} (n+1) led:=by
  refine⟨jIH T.ris hnm,by rw[jBI,T.sz],?_,T.msk,T.pl,T.ld⟩
  rw[T.dm,jGZ]
  rfl
 refine⟨?_,_,jA6 _ _ _⟩
 unfold SetTable.orStandIn
 rw[jBI,he,T2.fits hn]
 exact T2
def jHF (xs:Array Nat):Nat->Nat
 | 0=>0
 | i+1=>xs.getD i 0+1
theorem jGA {xs:Array Nat}(hr:Ris xs){i:Nat}(hi:i<=xs.size):below xs (jHF xs i)=i:=by
 cases i with
 | zero=>exact jF6 hr (aY _) (fun a h=>absurd h (fi _)) (fun a _ _=>aY _)
 | succ i=>
  refine jF6 hr hi (fun a ha=>?_) (fun a h1 h2=>?_)
  ·show _<xs.getD i 0+1
   by_cases e:a=i
   ·rw[e]; omega
   ·have:=jC1 hr (show a<i by omega) (show i<xs.size by omega)
    omega
  ·show xs.getD i 0+1<=_
   exact jC1 hr (show i<a by omega) h2
theorem jIW {α:Type}{l:List α}{i:Nat}(h:i<l.length):(l[i]::l.eraseIdx i).Perm l:=by
 rw[List.eraseIdx_eq_take_drop_succ]
 have e:l=l.take i++l[i]::l.drop (i+1):=by rw[<- List.drop_eq_getElem_cons h,bg]
 conv=>rhs; rw[e]
 exact List.perm_middle.symm
theorem jON {α:Type}(next:Nat->Nat):∀ (fuel k:Nat) (left:List α) (out:Array α),fuel=left.length->(pickOrder.go next fuel k left out).toList.Perm (out.toList++left):=by
 intro fuel
 induction fuel with
 | zero=>
  intro k left out h
  have:left=[]:=d0.mp h.symm
  subst this
  simp [pickOrder.go]
 | succ f ih=>
  intro k left out h
  have hl:next k % left.length<left.length:=Nat.mod_lt _ (by omega)
  unfold pickOrder.go
  rw[ar hl]
  dsimp only
  refine(ih _ _ _ (by rw[List.length_eraseIdx_of_lt hl]; omega)).trans ?_
  rw[de,aM]
  exact cD _ (jIW hl)
theorem jFN {α:Type}(next:Nat->Nat)(xs:Array α):(pickOrder next xs).toList.Perm xs.toList:=by
 unfold pickOrder
 have:=jON next xs.size 0 xs.toList #[] (by simp)
 simpa using this
end SS
end
section
namespace SS
open PySem
abbrev ledW (w:World):Bool:=!(w.params.followText "set-order")
def El (e:Int×Value)(k:Int):Prop:=e.1=hashInt k/\∃ t,e.2= .int k t
theorem jBC {α β:Type}{F:α->β->Prop} :∀ {l:List α}{r:List β},Paired F l r->∀ a∈l,∃ b∈r,F a b
 | _,_, .nil=>fun a h=>by cases h
 | _,_, .cons f t=>fun a h=>by
  rcases aF.mp h with rfl | h
  ·exact⟨_,aJ,f⟩
  ·obtain⟨b,hb,q⟩:=jBC t a h
   exact⟨b,aK _ hb,q⟩
theorem jCJ {α β:Type}{F:α->β->Prop} :∀ {l:List α}{r:List β},Paired F l r->∀ b∈r,∃ a∈l,F a b
 | _,_, .nil=>fun a h=>by cases h
 | _,_, .cons f t=>fun b h=>by
  rcases aF.mp h with rfl | h
  ·exact⟨_,aJ,f⟩
  ·obtain⟨a,ha,q⟩:=jCJ t b h
   exact⟨a,aK _ ha,q⟩
theorem jE2 {α β:Type}{F:α->β->Prop}{a:α}{b:β}(f:F a b):∀ {l:List α}{r:List β}(p:Nat),Paired F l r->Paired F (l.take p++a::l.drop p) (r.take p++b::r.drop p)
 | _,_,0,q=>by simpa using Paired.cons f q
 | _,_,p+1, .nil=>by simpa using Paired.cons f .nil
 | _,_,p+1, .cons g t=>by
  simp only [hG,List.drop_succ_cons,List.cons_append]
  exact .cons g (jE2 f p t)
theorem jOF {α:Type}(l:List α)(p:Nat)(x z:α):z∈l.take p++x::l.drop p↔z=x\/z∈l:=by
 conv=>rhs; rw[<- bg p l]
 simp only [aI,aF]
 constructor
 ·rintro (h | h | h)
  ·exact .inr (.inl h)
  ·exact .inl h
  ·exact .inr (.inr h)
 ·rintro (h | h | h)
  ·exact .inr (.inl h)
  ·exact .inl h
  ·exact .inr (.inr h)
theorem jEM {α:Type}(l:List α)(p:Nat)(x:α):(l.take p++x::l.drop p).Perm (x::l):=by
 have h:(l.take p++x::l.drop p).Perm (x::(l.take p++l.drop p)):=List.perm_middle
 rw[bg] at h
 exact h
structure SetG (w:World)(h:Heap)(a:Addr)(ks:List Int):Prop where
 ex:∃ o es ep t,h.get? a=some o/\o.ExactSet/\o.data= .set es ep t/\Paired El es.toList ks/\Tab t es.size (ledW w)
 nd:ks.Nodup
 len:ks.length<=4
section
variable {prog:Program}{w:World}{A:Around}{E:Value->Shared->Prop}{s:Shared}{a:Addr}{ks:List Int}{k:Int}{tk:Tok}
theorem elems {es:List (Int×Value)}(h:Paired El es ks):ElemsOf (intKind prog w) es:=fun e he=>by
 obtain⟨k,_,h1,t,h2⟩:=jBC h e he
 rw[h2]
 exact⟨⟨k,by show Value.isInt k (.int k t)=true; simp [Value.isInt],h1⟩,rfl⟩
theorem SetG.at {h h':Heap}(S:SetG w h a ks)(e:∀ o,h.get? a=some o->h'.get? a=some o):SetG w h' a ks:=by
 obtain⟨⟨o,es,ep,t,ho,r⟩,nd,len⟩:=S
 exact⟨⟨o,es,ep,t,e _ ho,r⟩,nd,len⟩
theorem jBU (k0:0<=k)(k1:k<32):hashInt k=k:=by
 obtain⟨n,rfl⟩:=Int.eq_ofNat_of_zero_le k0
 have e:∀ n:Nat,n<32->hashInt (n:Int)=(n:Int):=by decide+kernel
 exact e n (by omega)
theorem jRY {Q:Bool->Shared->Prop}(S:SetG w s.heap a ks)(hl:ks.length+1<=4)(k0:0<=k)(k1:k<32)
  (h:∀ b h' ks',Heap.SameBut a s.heap h'->SetG w h' a ks'->(∀ z,z∈ks'↔z=k\/z∈ks)->ks'.length<=ks.length+1->Q b { s with heap:=h'}):
  wpAny (model prog w) A (setAddHashed a (.int k tk) (hashInt k)) Q E s:=by
 obtain⟨o,es,ep,t,ho,hex,hd,hp,T⟩:=id S.ex
 have hn:es.size=ks.length:=by rw[<- aC]; exact eW hp
 have hf:=T.fits (by omega)
 have hel:ElemsOf (intKind prog w) es.toList:=elems hp
 have hb:es.size<scanBound:=by unfold scanBound; omega
 have hi:∀ (j:Int) (t:Tok),Value.isInt k (.int j t)=true->j=k:=fun j t e=>by simpa [Value.isInt] using e
 unfold setAddHashed setAddHashedIn
 refine bY (aa (cL ho hd hf ?_))
 dsimp only
 rw[byScan_of (knd:=intKind prog w) rfl hb hel,am rfl]
 unfold setAddByScan
 refine aa (aa (cx (aa ?_)))
 refine wpAny_setScan_of (knd:=intKind prog w) (k:=k) (by show Value.isInt k (.int k tk)=true; simp [Value.isInt]) ho hd hf hel ?_
 have es0:s= { s with heap:=s.heap} :=by cases s; rfl
 cases hr:List.findIdx? (fun e=>(intKind prog w).is k e.2) es.toList with
 | some j=>
  obtain⟨hj,hpj,_⟩:=List.findIdx?_eq_some_iff_getElem.mp hr
  obtain⟨k',hk',_,t',e'⟩:=jBC hp _ (cQ hj)
  have hkk:k'=k:=hi k' t' (by rw[<- e']; exact hpj)
  subst hkk
  refine af (af ?_)
  rw[es0]
  exact h false s.heap ks (Heap.SameBut.refl a s.heap) S (fun z=>⟨.inr,fun q=>q.elim (fun e=>e ▸ hk') id⟩) (by omega)
 | none=>
  have hnk:k∉ks:=fun hm=>by
   obtain⟨e,he,_,t',e'⟩:=jCJ hp k hm
   have q:=List.findIdx?_eq_none_iff.mp hr e he
   rw[e'] at q
   have q':Value.isInt k (.int k t')=false:=q
   simp [Value.isInt] at q'
  obtain⟨T1,p,hp1⟩:=jIS T (by omega) es rfl (h:=hashInt k) (by rw[jBU k0 k1]; exact k0) (by rw[jBU k0 k1]; exact k1) (.int k tk)
  dsimp only
  show wpAny _ A (match layNew t es (hashInt k) (Value.int k tk) with | (es,t,wasDummy,gave)=>_) _ E s
  generalize layNew t es (hashInt k) (Value.int k tk)=L at T1 hp1 ⊢
  obtain⟨es1,t1,wd,gv⟩:=L
  dsimp only at T1 hp1 ⊢
  have hp2:Paired El es1.toList (ks.take p++k::ks.drop p):=by
   rw[hp1]
   exact jE2 ⟨rfl,tk,rfl⟩ p hp
  have hz1:es1.size=es.size+1:=by
   rw[<- aC,hp1,(jEM es.toList p (hashInt k,Value.int k tk)).length_eq]
   simp
  have hlen:(ks.take p++k::ks.drop p).length=ks.length+1:=(jEM ks p k).length_eq
  have T1':Tab t1 es1.size (ledW w):=by rw[hz1]; exact T1
  have hg:(s.heap.update a (Obj.putSet es1 t1)).get? a=some { o with data:= .set es1 (ep+1) t1} :=by
   have q:=cW (Obj.putSet es1 t1) ho (by rw[putSet_of es1 t1 hd]; rfl)
   rw[putSet_of es1 t1 hd] at q
   exact q
  have fin:Q true { s with heap:=s.heap.update a (Obj.putSet es1 t1)} :=
   h true _ _ (fq ..) ⟨⟨_,es1,ep+1,t1,hg,hex,rfl,hp2,T1'⟩,(jEM ks p k).nodup_iff.mpr (cM.mpr ⟨hnk,S.nd⟩),by omega⟩ (fun z=>jOF ks p k z) (by omega)
  have hfull:t1.tooFull=false:=T1'.full (by omega)
  refine aa (show wpAny _ A (match gv with | true=>rule "set.scan.the-table-gave-way" | false=>pure ()) _ E s from ?_)
  have hzl:es1.size<=sizeLine:=by rw[hz1,show sizeLine=2 ^ 24 from rfl]; omega
  cases gv with
  | true=>
   refine cx ?_
   split
   all_goals
    refine aa (show wpAny _ A (pure true:Sem Bool) _ E s from af ?_)
    simp only [ft]
    refine aa (wpAny_storeSet_of ho hd ?_ hzl)
    rw[hfull,cR,ak ag]
    exact af (af fin)
  | false=>
   refine af ?_
   split
   all_goals
    refine aa (show wpAny _ A (pure true:Sem Bool) _ E s from af ?_)
    simp only [ft]
    refine aa (wpAny_storeSet_of ho hd ?_ hzl)
    rw[hfull,cR,ak ag]
    exact af (af fin)
end
theorem jBB:entryFor table "set.update.loop" =some Builtin.«set.update.loop»:=entryFor_of_fast (by kernel_rfl)
theorem jAD:plainId "set.update.loop" =true:=by decide+kernel
section
variable {prog:Program}{w:World}{A:Around}{R:Result->Shared->Prop}{I:Addr}{fp wr:List Addr}{n:Nat}{P:Nat->Value->Prop}{St:Nat->Shared->Prop}
theorem jLS (W:WalksS prog w A.in1 I fp wr (fun a b=>b=a) n P St)(S:Addr)(hSf:S∉fp)(val:Nat->Int)(hval:∀ i v,P i v->∃ t,v= .int (val i) t)(hv:∀ i,i<n->0<=val i/\val i<32)(hn:n<=4):
  ∀ (k i:Nat) (s:Shared) (ks:List Int),n - i=k->i<=n->St i s->SetG w s.heap S ks->ks.length<=i->(∀ z,z∈ks↔∃ j,j<i/\val j=z)->
   (∀ s' ks',Moved (S::wr) (fun a b=>b=a) s s'->SetG w s'.heap S ks'->(∀ z,z∈ks'↔∃ j,j<n/\val j=z)->R (.ok (.ret .none)) s')->
   codeAny (model prog w) A (.builtin "set.update.loop" ⟨[.ref S, .ref I],[]⟩) R s:=by
 have hSw:S∉wr:=fun h=>hSf (W.sub _ h)
 have sub1:∀ b∈wr,b∈S::wr:=fun b hb=>aK _ hb
 intro k
 induction k with
 | zero=>
  intro i s ks hk hi hst hS hl hm hR
  obtain rfl:i=n:=by omega
  refine cf jBB ?_
  rw[ck jAD _]
  show wpAny _ A.in1 (pyNext (.ref I) >>= _) _ _ s
  refine aa (W.done s _ _ hst fun s' mv=>?_)
  show wpAny _ A.in1 (ret Value.none) _ _ s'
  exact af (hR s' ks (mv.mono sub1) (hS.at fun o e=>mv.heap S o hSw e) hm)
 | succ k ih=>
  intro i s ks hk hi hst hS hl hm hR
  have hlt:i<n:=by omega
  refine cf jBB ?_
  rw[ck jAD _]
  show wpAny _ A.in1 (pyNext (.ref I) >>= _) _ _ s
  refine aa (W.item i s _ _ hlt hst fun v s' hP hst' mv=>?_)
  obtain⟨t,rfl⟩:=hval i v hP
  have hS':=hS.at (h':=s'.heap) fun o e=>mv.heap S o hSw e
  show wpAny _ A.in1 (holding [Value.int (val i) t] (setAdd S (.int (val i) t)) >>= _) _ _ s'
  refine aa (bY ?_)
  unfold setAdd
  refine bY (aa (wpAny_pyHash_int ?_))
  refine jRY (s:= { s' with toks:=s'.toks+1}) hS' (by omega) (hv i hlt).1 (hv i hlt).2 fun b h' ks' sb hS2 hm2 hl2=>?_
  refine af ⟨eZ jAD _,ih (i+1) _ ks' (by omega) hlt (W.frame _ s' _ _ hst' (gh _) fun b hb o e=>?_) hS2 (by omega) (fun z=>?_) fun s'' ks'' mv2 hS3 hm3=>?_⟩
  ·rw[sb.2 b (fun h:b=S=>hSf (by rw[<- h]; exact hb))]
   exact e
  ·rw[hm2,hm]
   constructor
   ·rintro (h | ⟨j,hj,e⟩)
    ·exact⟨i,by omega,h.symm⟩
    ·exact⟨j,by omega,e⟩
   ·rintro ⟨j,hj,e⟩
    by_cases hji:j=i
    ·exact .inl (by rw[<- e,hji])
    ·exact .inr ⟨j,by omega,e⟩
  ·refine hR s'' ks'' (Moved.trans W.gtrans ((mv.mono sub1).then_heap (gh _) fun b o hb e=>?_) mv2) hS3 hm3
   rw[sb.2 b (fun h:b=S=>hb (by rw[h]; exact aJ))]
   exact e
end
section
variable {prog:Program}{w:World}{A:Around}{E:Value->Shared->Prop}{s:Shared}
theorem jPE (a:Value){Q:Value->Shared->Prop}
  (h:Q (.ref s.heap.objs.size) { s with heap:=s.heap.push { cls:= .type "set",dict:=none,data:= .set #[] 0 (.fresh 0 0 (ledW w))}}):
  codeAny (model prog w) A (.call (.builtin "set.__new__") ⟨[.type "set",a],[]⟩) (wants Q E) s:=by
 refine codeAny_of_tree (show wpAny _ A.in1 (do checkBuiltinCall "set.__new__" ⟨[.type "set",a],[]⟩; again (.builtin "set.__new__" ⟨[.type "set",a],[]⟩)) _ _ s from ?_)
 refine aa (wpAny_of_eq (F.newCall_set_1 a) (af ⟨eZ F.plain_set_new _,cf F.entry_set_new ?_⟩))
 rw[ck F.plain_set_new _]
 unfold Builtin.«set.__new__» Builtin.Frozenset.newClass
 have q:=sub_set_self
 obtain⟨hp,g,d,tk,os⟩:=s
 dsimp only
 wp_walk
 refine dL (af ?_)
 dsimp only
 simp only [newObj]
 exact aa (wpAny_alloc (af (af h)))
set_option maxHeartbeats 3200000 in
theorem set_of_list {l:Addr}{items:Array Value}{ns:List Int}{Q:Value->Shared->Prop}(hh:A.handled=none)(hl:s.heap.IsList l items)(hi:PyProof.Rows.IntsAre items.toList ns)
  (hn:items.size<=4) (hv:∀ z∈ns,0<=z/\z<32)
  (h:∀ (h':Heap) (tk:Nat) (ks:List Int),SetG w h' s.heap.objs.size ks->(∀ z,z∈ks↔z∈ns)->(∀ b o,s.heap.get? b=some o->h'.get? b=some o)->Q (.ref s.heap.objs.size) { s with heap:=h',toks:=tk}):
  wpAny (model prog w) A (call (.type "set") [.ref l]) Q E s:=by
 obtain⟨c,tl,hmro⟩:=F.called_set.mro
 have hmade:=F.called_set.made
 have hsub:=F.called_set.sub
 have g1:=F.called_set.notType
 have g2:=F.called_set.canCreate
 have g3:=F.typeCall_set_1 (.ref l)
 refine wpAny_call (codeAny_of_tree (show wpAny _ _ (callAny (.type "set") _) _ _ _ from ?_))
 refine af ⟨Code.quiet_builtin _ (by decide+kernel),cf F.entry_type_call ?_⟩
 rw[Around.under_plain (weight_type_call_type "set" [.ref l] []) rfl]
 repeat (any_goals (first | assumption | wp_step))
 have hlen:items.size=ns.length:=by rw[<- aC]; exact hi.length
 refine dJ (jPE (.ref l) (E:=E) (Q:=fun obj z=>obj= .ref s.heap.objs.size/\z= { s with heap:=s.heap.push { cls:= .type "set",dict:=none,data:= .set #[] 0 (.fresh 0 0 (ledW w))}}) ⟨rfl,rfl⟩) fun r z hr=>?_
 cases r with
 | error e=>exact hr
 | ok fl=>
  cases fl with
  | ret obj=>
   obtain⟨rfl,rfl⟩:=hr
   generalize hO:({ cls:= .type "set",dict:=none,data:= .set #[] 0 (.fresh 0 0 (ledW w))} :Obj)=oS
   have hS:(s.heap.push oS).get? s.heap.objs.size=some oS:=aj _ (by rw[<- hO]; rfl)
   have hT:Shared.TypeIs { s with heap:=s.heap.push oS} (.ref s.heap.objs.size) "set" :=⟨_,hS,by rw[<- hO]⟩
   have hli:=F.called_set.init.lookup
   have hbi:=F.called_set.init.bind (.ref s.heap.objs.size)
   repeat (any_goals (first | assumption | wp_step))
   refine dJ (codeAny_call_builtin (R:=wants (fun r z2=>r= .none/\∃ h' tk ks,z2= { s with heap:=h',toks:=tk} /\SetG w h' s.heap.objs.size ks/\(∀ z,z∈ks↔z∈ns)/\(∀ b o,s.heap.get? b=some o->h'.get? b=some o)) E)
    F.called_set.init.plain F.entry_set_init (check_set_init_1 hT ?_)) fun r2 z2 hr2=>?_
   ·obtain⟨ol,hol,hcl,nl,hdl⟩:=hl
    obtain⟨ocls,odict,odata,oslots⟩:=ol
    simp only at hcl hdl
    subst hcl; subst hdl
    have hol':(s.heap.push oS).get? l=some { cls:= .type "list",dict:=odict,data:= .seq items nl,slots:=oslots} :=ab _ hol
    have y1:=F.sub_list_set
    have y2:=F.sub_list_frozenset
    have y3:(Value.type "list" ==Value.type "dict")=false:=by decide
    have hl1:(s.heap.push oS).IsList l items:=⟨_,hol',rfl,nl,rfl⟩
    subst hO
    unfold Builtin.«set.__init__» noKeywords Builtin.Frozenset.updateFrom
    generalize hPI:pyIter=PI
    wp_walk
    subst hPI
    refine cK hl1 (aa (fZ ?_))
    have hlS:l<s.heap.objs.size:=ao hol
    have hz1:(s.heap.push { cls:= .type "set",dict:=none,data:= .set #[] 0 (.fresh 0 0 (ledW w))}).objs.size=s.heap.objs.size+1:=bM _ _
    have nI:l≠(s.heap.push { cls:= .type "set",dict:=none,data:= .set #[] 0 (.fresh 0 0 (ledW w))}).objs.size:=by
     rw[hz1]
     exact aO (cc hlS)
    have nS:s.heap.objs.size∉ [(s.heap.push { cls:= .type "set",dict:=none,data:= .set #[] 0 (.fresh 0 0 (ledW w))}).objs.size,l]:=by
     rw[hz1]
     simp only [aF,bq,cS,iE]
     exact⟨aO (gy _),cF hlS⟩
    have hget:((s.heap.push { cls:= .type "set",dict:=none,data:= .set #[] 0 (.fresh 0 0 (ledW w))}).push { cls:= .type "list_iterator",data:= .fields #[.ref l, .int 0 0]}).get? s.heap.objs.size
      =some { cls:= .type "set",dict:=none,data:= .set #[] 0 (.fresh 0 0 (ledW w))} :=ab _ hS
    refine jLS ((gH (by simp [hh]) _ l nI items).toS) s.heap.objs.size nS (fun i=>ns.getD i 0) (fun i v q=>PyProof.Rows.IntsAre.int_at hi i v (by rw[bw]; exact q))
     (fun i q=>hv _ ?_) hn (items.size - 0) 0 _ [] rfl (aY _) ⟨⟨_,aj _ rfl,rfl,rfl⟩,hl1.push _⟩ ⟨⟨_,#[],0,_,hget,⟨rfl,rfl,rfl⟩,rfl, .nil,jJC _⟩,gU,aY _⟩ (ai _) (fun z=>⟨fun q=>by(cases q),fun ⟨j,q,_⟩=>absurd q (fi _)⟩) ?_
    ·have q':i<ns.length:=by rw[<- hlen]; exact q
     simp [List.getD,q']
    ·intro s' ks mv S' hm
     obtain⟨h',g',d',tk',os'⟩:=s'
     have e1:g'=s.gens:=mv.gens
     have e2:d'=s.drawn:=mv.drawn
     have e3:os'=s.os:=mv.os
     subst e1; subst e2; subst e3
     refine af (af ⟨rfl,h',tk',ks,rfl,S',fun z=>?_,fun b o e=>?_⟩)
     ·rw[hm]
      constructor
      ·rintro ⟨j,hj,e⟩
       have hj':j<ns.length:=by rw[<- hlen]; exact hj
       rw[<- e]
       simp [List.getD,hj']
      ·intro hz
       obtain⟨j,hj,e⟩:=dk hz
       exact⟨j,by rw[hlen]; exact hj,by simp [List.getD,hj,e]⟩
     ·have hb:=ao e
      refine mv.heap b o ?_ (ab _ (ab _ e))
      rw[hz1]
      simp only [aF,bq,cS,iE]
      exact⟨aO hb,aO (cc hb)⟩
   ·cases r2 with
    | error e=>exact hr2
    | ok fl2=>
     cases fl2 with
     | ret r=>
      obtain⟨rfl,h',tk,ks,rfl,hS',hm,hk⟩:=hr2
      repeat (any_goals (first | assumption | wp_step))
      exact h _ _ _ hS' hm hk
     | _=>exact hr2.elim
  | _=>exact hr.elim
end
theorem slot_si_next:Slot "set_iterator" "__next__" "set_iterator.__next__" :=
 .of (owner:= "set_iterator") (n:= "__next__") (by
   rw[gM,eQ]
   kernel_rfl) (by decide+kernel) (by decide+kernel)
  (by decide+kernel)
  (by first
   | exact .inl (by decide+kernel)
   | exact .inr (by decide+kernel))
  (by
   rw[gW]
   kernel_rfl)
theorem jCH:Slot "set_iterator" "__iter__" "set_iterator.__iter__" :=
 .of (owner:= "set_iterator") (n:= "__iter__") (by
   rw[gM,eQ]
   kernel_rfl) (by decide+kernel) (by decide+kernel)
  (by decide+kernel)
  (by first
   | exact .inl (by decide+kernel)
   | exact .inr (by decide+kernel))
  (by
   rw[gW]
   kernel_rfl)
theorem jBV:entryFor table "set_iterator.__next__" =some Builtin.«set_iterator.__next__»:=entryFor_of_tree (by kernel_rfl)
theorem jDU:entryFor table "set.__iter__" =some Builtin.«frozenset.__iter__»:=
 gX (id':= "frozenset.__iter__") (by kernel_rfl) rfl (by decide+kernel) (by kernel_rfl)
theorem jF1:entryFor table "set_iterator.__iter__" =some Builtin.«dict_keyiterator.__iter__»:=
 gX (id':= "dict_keyiterator.__iter__") (by kernel_rfl) (by first | rfl | decide+kernel | (unfold String.splitOn; simp+decide [String.splitOnAux])) (by decide+kernel)
  (by kernel_rfl)
theorem jCR (a:Value):argsOk "set_iterator.__next__" ⟨[a],[]⟩:=by unfold argsOk; kernel_rfl
theorem jGB (a:Value):argsOk "set_iterator.__iter__" ⟨[a],[]⟩:=by unfold argsOk; kernel_rfl
theorem jF8 (a:Value):argsOk "set.__iter__" ⟨[a],[]⟩:=by unfold argsOk; kernel_rfl
abbrev byTxt (w:World):Bool:=w.params.followText "set-order"
abbrev IsSI (h:Heap)(I:Addr)(slot i:Nat)(a:Addr)(n ep:Nat):Prop:=
 h.get? I=some { cls:= .type "set_iterator",dict:=none,data:= .fields #[rawInt slot,rawInt i, .ref a,rawInt n,rawInt ep],slots:=#[]}
def yS (w:World)(t:SetTable)(i:Nat):Nat:=if byTxt w=true then 0 else jHF t.place i
noncomputable def told (w:World)(a:Addr)(ep:Nat)(es:Array (Int×Value)):List Value:=(if byTxt w=true then (pickOrder (w.params.setOrder a ep) es).toList else es.toList).map (·.2)
theorem jAL (w:World)(a:Addr)(ep:Nat)(es:Array (Int×Value)):(told w a ep es).length=es.size:=by
 unfold told
 rw[ae]
 split
 ·rw[(jFN _ es).length_eq]; simp
 ·simp
theorem jJA (w:World)(a:Addr)(ep:Nat)(es:Array (Int×Value)):(told w a ep es).Perm (es.toList.map (·.2)):=by
 unfold told
 split
 ·exact(jFN _ es).map _
 ·exact .refl _
section
variable {prog:Program}{w:World}{A:Around}{E:Value->Shared->Prop}{s:Shared}{a I:Addr}{o:Obj}{es:Array (Int×Value)}{ep:Nat}{t:SetTable}
theorem jK6 {i:Nat}{Q:Option (Value×Nat)->Shared->Prop}(ho:s.heap.get? a=some o)(hd:o.data= .set es ep t)(T:Tab t es.size (ledW w))(hn:es.size<=4)(hi:i<=es.size)
  (h:Q ((told w a ep es)[i]?.map fun v=>(v,yS w t (i+1))) s):wpAny (model prog w) A (setNext a (yS w t i) i ep) Q E s:=by
 unfold setNext
 refine aa (cL ho hd (T.fits hn) ?_)
 dsimp only
 unfold setsByText
 refine aa (aa (dL (af ?_)))
 show wpAny _ A (if byTxt w=true then _ else _) Q E s
 have hl:=jAL w a ep es
 by_cases hb:byTxt w=true
 ·rw[am hb,ak (by simp)]
  unfold setWalk
  refine aa (aa (cL ho hd (T.fits hn) ?_))
  dsimp only
  unfold setsByText
  refine aa (aa (dL (af ?_)))
  show wpAny _ A (if byTxt w=true then _ else _) _ E s
  rw[am hb]
  refine aa (dL (af (af ?_)))
  have e:(told w a ep es)[i]?.map (fun v=>(v,yS w t (i+1)))=(pickOrder (w.params.setOrder a ep) es)[i]?.map (fun e=>(e.snd,yS w t i)):=by
   unfold told yS
   rw[am hb,am hb,am hb,aU,bw,Option.map_map]
   rfl
  rw[e] at h
  exact h
 ·rw[ak hb]
  have hb':byTxt w=false:=by simpa using hb
  have hld:t.led=true:=by rw[T.ld]; show (!byTxt w)=true; rw[hb']; rfl
  show wpAny _ A (if (!t.plain&&decide (es.size>1))=true then _ else _) Q E s
  rw[T.pl,h9,dF,ak ag]
  refine aa ?_
  show wpAny _ A (if (!t.led&&!es.isEmpty)=true then _ else pure ()) _ E s
  rw[hld,h9,dF,ak ag]
  refine af (af ?_)
  have eb:SetTable.below t.place (yS w t i)=i:=by
   unfold yS
   rw[ak hb]
   exact jGA T.ris (by rw[T.sz]; exact hi)
  rw[eb]
  have et:(told w a ep es)[i]?=es[i]?.map (·.2):=by
   unfold told
   rw[ak hb,aU,bw]
  rw[et] at h
  by_cases hlt:i<es.size
  ·have h1:es[i]?=some es[i]:=by simp [hlt]
   have hlt2:i<t.place.size:=by rw[T.sz]; exact hlt
   have h2:t.place[i]?=some t.place[i]:=by simp [hlt2]
   have h3:yS w t (i+1)=t.place[i]+1:=by
    unfold yS jHF
    rw[ak hb]
    simp [Array.getD,hlt2]
   rw[h1,h3] at h
   rw[h1,h2]
   exact h
  ·have h1:es[i]?=none:=by simp; omega
   rw[h1] at h
   rw[h1]
   exact h
theorem jFJ {i:Nat}{v:Value}{Q:Option Value->Shared->Prop}(ho:s.heap.get? a=some o)(hd:o.data= .set es ep t)(T:Tab t es.size (ledW w))(hn:es.size<=4)
  (hit:IsSI s.heap I (yS w t i) i a es.size ep) (hv:(told w a ep es)[i]?=some v)
  (hQ:∀ h',IsSI h' I (yS w t (i+1)) (i+1) a es.size ep->Heap.SameBut I s.heap h'->Q (some v) { s with heap:=h'}):wpAny (model prog w) A (pyNext (.ref I)) Q E s:=by
 have hT:s.TypeIs (.ref I) "set_iterator" :=⟨_,hit,rfl⟩
 have hi:i<es.size:=by
  rw[<- jAL w a ep es]
  exact(ah.mp hv).1
 unfold pyNext
 refine aa (dD (bu (name:=Str.ofString "__next__") hT slot_si_next (bv slot_si_next hT jBV ?_ (jCR _))))
 unfold Builtin.«set_iterator.__next__»
 refine aa (m:=slotArgs "__next__" 0 _) (af ?_)
 dsimp only
 unfold fieldsOf
 refine aa (aa (eR hit ?_))
 refine af ?_
 dsimp only [rawInt]
 unfold setEntries
 refine aa (aa (cL ho hd (T.fits hn) (af ?_)))
 rw[ak (by simp)]
 simp only [bf]
 refine aa (jK6 ho hd T hn (dr hi) ?_)
 rw[hv]
 dsimp only [Option.map]
 refine aa (br hit (by simp) fun h1 hit1 sb1=>?_)
 refine aa (br hit1 (by simp) fun h2 hit2 sb2=>?_)
 refine af ⟨v,rfl,af (hQ h2 ?_ (sb1.trans sb2))⟩
 show h2.get? I=_
 rw[hit2]
 simp [rawInt]
theorem jGK {Q:Option Value->Shared->Prop}(hh:A.handled=none)(ho:s.heap.get? a=some o)(hd:o.data= .set es ep t)(T:Tab t es.size (ledW w))(hn:es.size<=4)
  (hit:IsSI s.heap I (yS w t es.size) es.size a es.size ep)
  (hQ:∀ h',Heap.ExtBut I s.heap h'->Q none { s with heap:=h'}):wpAny (model prog w) A (pyNext (.ref I)) Q E s:=by
 have hT:s.TypeIs (.ref I) "set_iterator" :=⟨_,hit,rfl⟩
 unfold pyNext
 refine aa (dD (bu (name:=Str.ofString "__next__") hT slot_si_next (bv slot_si_next hT jBV ?_ (jCR _))))
 unfold Builtin.«set_iterator.__next__»
 refine aa (m:=slotArgs "__next__" 0 _) (af ?_)
 dsimp only
 unfold fieldsOf
 refine aa (aa (eR hit ?_))
 refine af ?_
 dsimp only [rawInt]
 unfold setEntries
 refine aa (aa (cL ho hd (T.fits hn) (af ?_)))
 rw[ak (by simp)]
 simp only [bf]
 refine aa (jK6 ho hd T hn (ai _) ?_)
 rw[cE (by rw[jAL]; exact ai _)]
 dsimp only [Option.map]
 refine aa (br hit (by simp) fun h1 hit1 sb1=>?_)
 refine aa ?_
 simp only [newExc,newTuple]
 refine aa (bD ?_ (by size_fits))
 refine aa (m:=firstArgMember _ _) (wpAny_of_eq (a:=Value.none) (by first | rfl | (simp only [firstArgMember]; rfl)) ?_)
 refine bD ?_ (by size_fits)
 simp only [raiseNew]
 refine aa (wpAny_handled ?_)
 rw[show A.in1.handled=none from hh]
 refine aa (af (wpAny_throw ?_))
 refine aa (eS (T:= "StopIteration") (b:=true) ⟨_,aj _ rfl,rfl⟩ gY ?_)
 exact af (hQ _ ((sb1.extBut.push _).push _))
theorem jOA {i:Nat}{slot n:Nat}{Q:Value->Shared->Prop}(hit:IsSI s.heap I slot i a n ep)(h:Q (.ref I) s):wpAny (model prog w) A (pyIter (.ref I)) Q E s:=by
 have hT:s.TypeIs (.ref I) "set_iterator" :=⟨_,hit,rfl⟩
 refine gi hT jCH (bv jCH hT jF1 ?_ (jGB _))
 show wpAny _ _ (ret (.ref I)) _ _ s
 exact af ⟨_,rfl,"set_iterator",_,hT,slot_si_next.lookup,h⟩
theorem jLW {Q:Value->Shared->Prop}(hx:o.ExactSet)(ho:s.heap.get? a=some o)(hd:o.data= .set es ep t)(T:Tab t es.size (ledW w))(hn:es.size<=4)
  (hQ:∀ h',h'.get? s.heap.objs.size=some { cls:= .type "set_iterator",dict:=none,data:= .fields #[rawInt (yS w t 0),rawInt 0, .ref a,rawInt es.size,rawInt ep],slots:=#[]} ->(∀ b u,s.heap.get? b=some u->h'.get? b=some u)->
   h'.objs.size=s.heap.objs.size+1->Q (.ref s.heap.objs.size) { s with heap:=h'}):wpAny (model prog w) A (pyIter (.ref a)) Q E s:=by
 have hT:s.TypeIs (.ref a) "set" :=⟨o,ho,hx.1⟩
 refine gi hT gQ (bv gQ hT jDU ?_ (jF8 _))
 unfold Builtin.«frozenset.__iter__»
 refine aa (show wpAny _ _ (pure a:Sem Addr) _ _ s from af ?_)
 unfold Builtin.Frozenset.sizeOf setEntries
 refine aa (aa (aa (cL ho hd (T.fits hn) (af (af ?_)))))
 dsimp only
 unfold setDrawn
 refine aa (aa (cL ho hd (T.fits hn) ?_))
 dsimp only
 unfold setsByText
 refine aa (aa (dL (af (af ?_))))
 show wpAny _ _ (if (!byTxt w&&(!t.plain&&decide (es.size>1)))=true then _ else _) _ _ s
 rw[T.pl,h9,dF,cR,ak ag]
 refine aa (af ?_)
 refine aa (wpAny_setEpoch_of ho hd (T.fits hn) ?_)
 refine aa (bD (af ⟨_,rfl,"set_iterator",_,⟨_,aj _ rfl,rfl⟩,slot_si_next.lookup,hQ _ ?_ (fun b u e=>ab _ e) (bM _ _)⟩) (by size_fits))
 have e0:yS w t 0=0:=by unfold yS jHF; split <;> rfl
 rw[e0]
 exact aj _ rfl
theorem jJ4 (hh:A.handled=none)(hne:a≠I)(hd:o.data= .set es ep t)(T:Tab t es.size (ledW w))(hn:es.size<=4):
  Walks prog w A I [I,a] [I] es.size (fun i v=>(told w a ep es)[i]?=some v) (fun i h=>IsSI h I (yS w t i) i a es.size ep/\h.get? a=some o) where
 sub:=fun b hb=>by simp at hb; simp [hb]
 frame:=fun _ _ _ st hk=>⟨hk I (by simp) _ st.1,hk a (by simp) _ st.2⟩
 item:=fun i s Q E hi st hQ=>by
  obtain⟨v,hv⟩:∃ v,(told w a ep es)[i]?=some v:=⟨_,ar (by rw[jAL]; exact hi)⟩
  exact jFJ st.2 hd T hn st.1 hv fun h' hit' sb=>hQ v h' s.toks hv ⟨hit',(sb.2 a hne).trans st.2⟩ fun b o hb e=>(sb.2 b (fun z=>hb (by simp [z]))).trans e
 done:=fun s Q E st hQ=>jGK hh st.2 hd T hn st.1 fun h' eb=>hQ h' s.toks fun b o hb e=>eb b o (fun z=>hb (by simp [z])) e
 self:=fun _ _ _ _ st hQ=>jOA st.1 hQ
end
theorem jFH:typeLookup (.type "set") "__len__" =pure (some (.builtin "set.__len__")):=by rw[gM,eQ]; kernel_rfl
section
variable {prog:Program}{w:World}{A:Around}{E:Value->Shared->Prop}{s:Shared}{a:Addr}{o:Obj}{es:Array (Int×Value)}{ep:Nat}{t:SetTable}
theorem jMM {Q:Bool->Shared->Prop}(hT:s.TypeIs (.ref a) "set")(h:Q false s):wpAny (model prog w) A (Builtin.List.listLengthHint (.ref a)) Q E s:=by
 unfold Builtin.List.listLengthHint
 refine aa (wpAny_specialOf hT jFH ?_)
 generalize hid:("set.__len__" :String)=id0
 wp_delta
 rw[show splitId id0=some ("set","__len__") from by subst hid; decide+kernel]
 subst hid
 refine aa (eS (b:=true) hT (by rw[gW]; kernel_rfl) ?_)
 refine wpAny_ite_split (fun q=>absurd q (by decide)) (fun _=>?_)
 refine wpAny_ite_split (fun _=>?_) (fun q=>absurd (by decide+kernel) q)
 exact aa (ek hT (af h))
theorem jH5 {Q:List Value->Shared->Prop}(hh:A.handled=none)(hx:o.ExactSet)(ho:s.heap.get? a=some o)(hd:o.data= .set es ep t)(T:Tab t es.size (ledW w))(hn:es.size<=4)
  (hQ:∀ s',(∀ b u,s.heap.get? b=some u->s'.heap.get? b=some u)->s'.gens=s.gens->s'.drawn=s.drawn->s'.os=s.os->s.heap.objs.size<s'.heap.objs.size->Q (told w a ep es) s'):wpAny (model prog w) A (collect (.ref a)) Q E s:=by
 have ha:a<s.heap.objs.size:=ao ho
 have hSa:s.heap.objs.size≠a:=cF ha
 unfold collect
 refine aa (fZ (cf PySem.F.entry_proto_collect ?_))
 rw[ck fw _]
 show wpAny _ A.in1 (newList [] >>= fun l=>again (.builtin "list.__iadd__" ⟨[l, .ref a],[]⟩)) _ _ s
 refine aa (bD (af ⟨eZ dq _,cf PySem.F.entry_list_iadd ?_⟩))
 rw[ck dq _]
 generalize hE:({ s with heap:=s.heap.push { cls:= .type "list",dict:=none,data:= .seq ([]:List Value).toArray}} :Shared)=s1
 have ho1:s1.heap.get? a=some o:=by rw[<- hE]; exact ab _ ho
 have hL1:s1.heap.get? s.heap.objs.size=some { cls:= .type "list",dict:=none,data:= .seq ([]:List Value).toArray} :=by rw[<- hE]; exact aj _ rfl
 have hz1:s1.heap.objs.size=s.heap.objs.size+1:=by rw[<- hE]; exact bM _ _
 have hT1:s1.TypeIs (.ref a) "set" :=⟨o,ho1,hx.1⟩
 show wpAny _ A.in1 (Builtin.List.listExtendWith (.ref s.heap.objs.size) (.ref a) (.ref s.heap.objs.size)) _ _ _
 unfold Builtin.List.listExtendWith
 refine aa (ek hT1 ?_)
 have q1:Builtin.List.listSameRef (.ref s.heap.objs.size) (.ref a)=false:=by simp [Builtin.List.listSameRef,hSa]
 rw[ak (by rw[q1]; decide)]
 refine aa (jLW hx ho1 hd T hn fun h2 hI2 k2 z2=>?_)
 refine aa (bY ?_)
 have ho2:h2.get? a=some o:=k2 _ _ ho1
 have hT2:Shared.TypeIs { s1 with heap:=h2} (.ref a) "set" :=⟨o,ho2,hx.1⟩
 have hL2:=k2 _ _ hL1
 refine jMM hT2 ?_
 rw[am (by decide+kernel)]
 refine aa (cx ?_)
 have hne:s.heap.objs.size≠s1.heap.objs.size:=by omega
 refine aa ?_
 show wpAny _ A.in1 (updateSeq s.heap.objs.size (·.push .none) >>= fun _=>updateSeq s.heap.objs.size (·.pop)) _ _ _
 refine aa (wpAny_updateSeq hL2 rfl ?_)
 have hL3:=cW (Obj.mapSeq (·.push Value.none)) hL2 rfl
 refine wpAny_updateSeq hL3 rfl ?_
 have hL4:=cW (Obj.mapSeq (·.pop)) hL3 rfl
 have oth:∀ b u,b≠s.heap.objs.size->h2.get? b=some u->((h2.update s.heap.objs.size (Obj.mapSeq (·.push Value.none))).update s.heap.objs.size (Obj.mapSeq (·.pop))).get? b=some u:=
  fun b u hb e=>(cO _ _ (dv hb)).trans ((cO _ _ (dv hb)).trans e)
 have W:=(jJ4 (prog:=prog) (A:=A.in1) (a:=a) (I:=s1.heap.objs.size) hh (aO (show a<s1.heap.objs.size by rw[hz1]; exact cc ha)) hd T hn).toS
 have z24:es.size<=sizeLine:=by rw[show sizeLine=2 ^ 24 from rfl]; omega
 refine af ⟨eZ PySem.F.plain_extend_loop _,codeAny_extend_loopS W z24 s.heap.objs.size (by simp [hne,hSa]) _ es.size 0 _ _ _ rfl (aY _) ⟨oth _ _ (dv hne) hI2,oth _ _ (dv hSa) ho2⟩ hL4 (ItemsOf.nil _) fun s' acc' c' hm hS' hacc=>?_⟩
 show wpAny _ A (load s.heap.objs.size >>= _) _ _ s'
 refine aa (eR hS' ?_)
 have eacc:acc'.toList=told w a ep es:=by
  apply List.ext_getElem?
  intro i
  by_cases hi:i<es.size
  ·have hi':i<acc'.size:=by rw[hacc.1]; exact hi
   have:=hacc.2 i acc'[i] (by simp [hi'])
   rw[this]
   simp [hi']
  ·rw[cE (by rw[aC,hacc.1]; omega),cE (by rw[jAL]; omega)]
 refine af ?_
 rw[eacc]
 refine hQ s' (fun b u e=>?_) ?_ ?_ ?_ (ao hS')
 ·have hb:b≠s.heap.objs.size:=aO (ao e)
  have hb1:b≠s1.heap.objs.size:=aO (show b<s1.heap.objs.size by rw[hz1]; exact cc (ao e))
  exact hm.heap b u (by simp [hb,hb1]) (oth b u hb (k2 b u (by rw[<- hE]; exact ab _ e)))
 ·have:=hm.gens; rw[<- hE] at this; exact this
 ·have:=hm.drawn; rw[<- hE] at this; exact this
 ·have:=hm.os; rw[<- hE] at this; exact this
end
end SS
end
section
namespace SS
open PySem PyProof.Rows
section
variable {prog:Program}{w:World}{A:Around}{E:Value->Shared->Prop}{s:Shared}{a:Addr}{ks:List Int}
theorem jKR:∀ {vs:List Value}{ks:List Int},Paired (fun v k=>∃ t,v=Value.int k t) vs ks->IntsAre vs ks
 | _,_, .nil=> .nil
 | _,_, .cons ⟨t,e⟩ r=>by subst e; exact .cons _ t (jKR r)
theorem jE3 {es:List (Int×Value)} :∀ {ks:List Int},Paired El es ks->Paired (fun v k=>∃ t,v=Value.int k t) (es.map (·.2)) ks
 | _, .nil=> .nil
 | _, .cons ⟨_,q⟩ r=> .cons q (jE3 r)
theorem jGP {α β:Type}{F:α->β->Prop}{l l':List α}(p:l'.Perm l):∀ {r:List β},Paired F l r->∃ r',Paired F l' r'/\r'.Perm r:=by
 induction p with
 | nil=>intro r h; cases h; exact⟨[], .nil, .nil⟩
 | cons x _ ih=>
  intro r h
  cases h with
  | cons f t=>
   obtain⟨r',h1,h2⟩:=ih t
   exact⟨_::r', .cons f h1,h2.cons _⟩
 | swap x y l=>
  intro r h
  cases h with
  | cons f t=>
   cases t with
   | cons g t=>exact⟨_, .cons g (.cons f t), .swap _ _ _⟩
 | trans _ _ ih1 ih2=>
  intro r h
  obtain⟨r1,h1,h2⟩:=ih2 h
  obtain⟨r2,h3,h4⟩:=ih1 h1
  exact⟨r2,h3,h4.trans h2⟩
theorem sorted_set {Q:Value->Shared->Prop}(hh:A.handled=none)(S:SetG w s.heap a ks)
  (h:∀ (s':Shared) (l:Addr) (vs:List Value) (ns:List Int) (e:Nat),s.heap.objs.size<=l->(∀ b u,s.heap.get? b=some u->s'.heap.get? b=some u)->s'.gens=s.gens->s'.drawn=s.drawn->s'.os=s.os->
   s'.heap.get? l=some { cls:= .type "list",data:= .seq vs.toArray e} ->IntsAre vs ns->ns.Perm ks->ns.Pairwise (· <= ·)->Q (.ref l) s'):
  wpAny (model prog w) A (call (.builtin "sorted") [.ref a]) Q E s:=by
 obtain⟨o,es,ep,t,ho,hex,hd,hp,T⟩:=S.ex
 have hn:es.size<=4:=by
  have:=eW hp
  rw[aC] at this
  have:=S.len
  omega
 refine gd kind_sorted plain_sorted entry_sorted (args_sorted1 _) ?_
 unfold Builtin.«sorted»
 refine aa (m:=checkCount "sorted" 1 1 _) (af ?_)
 refine aa (jH5 (A:=A.in1) hh hex ho hd T hn fun s1 k1 g1 d1 o1 z1=>?_)
 refine aa (fb ?_ (by rw[jAL,show sizeLine=2 ^ 24 from rfl]; omega))
 obtain⟨ks1,hp1,pm1⟩:=jGP (jJA w a ep es) (jE3 hp)
 have hI:=jKR hp1
 have hl:(told w a ep es).length<64:=by rw[jAL]; omega
 have hL:(s1.heap.push (seqObj "list" (told w a ep es).toArray 0)).get? s1.heap.objs.size=some (seqObj "list" (told w a ep es).toArray 0):=aj _ rfl
 show wpAny _ _ _ _ _ { s1 with heap:=s1.heap.push (seqObj "list" (told w a ep es).toArray 0)}
 refine aa (bY (bv slot_list_sort ⟨_,hL,rfl⟩ entry_list_sort (list_sort_tree hL hI hl fun out ns' a1 a2 a3=>⟨_,rfl,?_⟩) (args_list_sort _)))
 obtain⟨e,he⟩:=sortedHeap_at (out:=out) hL
 have kept:∀ b u,s.heap.get? b=some u->(sortedHeap (s1.heap.push (seqObj "list" (told w a ep es).toArray 0)) s1.heap.objs.size (told w a ep es) out).get? b=some u:=fun b u q=>by
  have q1:=k1 b u q
  have hb:b<s1.heap.objs.size:=ao q1
  rw[sortedHeap_old (aO hb) (by rw[size_push']; exact cc hb)]
  exact ab _ q1
 generalize sortedHeap (s1.heap.push (seqObj "list" (told w a ep es).toArray 0)) s1.heap.objs.size (told w a ep es) out=hf at he kept ⊢
 exact af ⟨_,rfl,h { s1 with heap:=hf} s1.heap.objs.size out.toList ns' e (dr z1) kept g1 d1 o1 (by rw[dH]; exact he) a1 (a2.trans pm1) a3⟩
end
end SS
end
section
namespace L2
open PySem PySem.Spec PyProof.Rows
section
variable {es:List Expr}{env:Env}{a b:Expr}{pos:Pos}{xs ys:List Expr}
theorem yJ {op:Operator} :starEach (.BinOp a op b pos::es) env=(false,eval (.BinOp a op b pos) env)::starEach es env:=rfl
theorem se_un {op:UnaryOp} :starEach (.UnaryOp op a pos::es) env=(false,eval (.UnaryOp op a pos) env)::starEach es env:=rfl
theorem jE0 {ops:List CmpOp} :starEach (.Compare a ops xs pos::es) env=(false,eval (.Compare a ops xs pos) env)::starEach es env:=rfl
theorem jF {kw:List Keyword} :starEach (.Call a xs kw pos::es) env=(false,eval (.Call a xs kw pos) env)::starEach es env:=rfl
theorem jX:starEach (.Subscript a b pos::es) env=(false,eval (.Subscript a b pos) env)::starEach es env:=rfl
theorem jK {gs sc} :starEach (.ListComp a gs sc pos::es) env=(false,eval (.ListComp a gs sc pos) env)::starEach es env:=rfl
theorem jBK {x1} :starEach (.Tuple xs x1 pos::es) env=(false,eval (.Tuple xs x1 pos) env)::starEach es env:=rfl
theorem jL {c k} :starEach (.Constant c k pos::es) env=(false,eval (.Constant c k pos) env)::starEach es env:=rfl
theorem j4 {x:Str} :starEach (.Name x pos::es) env=(false,eval (.Name x pos) env)::starEach es env:=rfl
end
section
variable {X:Cx}
def CDivL (i j:Int):Prop:=0<j/\j<2 ^ 64
theorem jHM:OpR X (binaryOp .FloorDiv) (rI CDivL fun i j=> .int (i / j)):=opI fun i j _ _ _ _ _ hc q=>by
 have h1:(0:Int)<j:=hc.1
 have h2:j<2 ^ 64:=hc.2
 refine floordiv_int (by omega) (by rw[fO i (by omega)]; exact q) (.inl (PyProof.noPylong_of_log2 ?_))
 have h3:j.natAbs<2 ^ 64:=by omega
 have h4:j.natAbs≠0:=by omega
 have:=(Nat.log2_lt h4).mpr h3
 omega
theorem jI:yO X (.builtin "isinstance") (fun xs H Q=>∃ x T t b,xs=[x, .ty T]/\TyOf X.K H x t/\kitOne X.K t (.type T)=some b/\Q (.bl b) H):=by
 intro pins s σ H xs us Q I r h
 obtain⟨x,T,t,b,rfl,ty,e,q⟩:=h
 obtain⟨u,v,rfl,ru,rv⟩:=r.two
 cases rv
 exact jKQ I ru ty e fun tk=>⟨.bl b,H,I.tok tk,rfl,q⟩
def jOC:V->List V->Hp->VK->Prop:=fun x vs H Q=>∃ l xs i y,x= .ref l/\vs=[.int i,y]/\H l=some (.lst xs)/\0<=i/\i<=xs.length/\xs.length<sizeLine/\Q .non (upd H l (.lst (xs.take i.toNat++y::xs.drop i.toNat)))
theorem Vals.put {y:V}{v:Value}(r:RelV y v){xs:List V}{us:List Value}(h:Vals xs us)(k:Nat):Vals (xs.take k++y::xs.drop k) (us.take k++v::us.drop k):=(h.take k).append (.cons r (h.drop k))
theorem jKB:MtM X "list.insert" jOC:=by
 intro pins s σ H x vs v us Q I rx rv h
 obtain⟨l,xs,i,y,rfl,rfl,hH,h0,h1,hz,q⟩:=h
 cases rx
 obtain⟨a,b,rfl,ra,rb⟩:=rv.two
 obtain⟨t,rfl⟩:=ra
 obtain⟨z,its,n,r,hl,e⟩:=I.lstM hH
 have line:=jFT
 have hf:Builtin.List.listFitsIndex i=true:=fitsIndex_both (by omega) (by omega)
 refine call_meets F.slot_list_insert ⟨_,e,rfl⟩ F.entry_list_insert (F.args_list_insert_3 _ _ _) (AutoSeq1.list_insert_list_int_val_1 l its.toArray n i t b (by simp [hf]) (by rw[aA]; omega)) ⟨e,?_⟩
 refine⟨.non,_,I.lset (its':=its.take i.toNat++b::its.drop i.toNat) hH e ?_ (Vals.put rb r i.toNat) ?_,rfl,q⟩
 ·have hk:(if i<0 then (i+(its.toArray.size:Int)).toNat else min i.toNat its.toArray.size)=i.toNat:=by
   rw[ak (by omega),aA]
   omega
  show (its.toArray.extract 0 (if i<0 then (i+(its.toArray.size:Int)).toNat else min i.toNat its.toArray.size)).push b++its.toArray.extract (if i<0 then (i+(its.toArray.size:Int)).toNat else min i.toNat its.toArray.size)=_
  rw[hk]
  apply Array.ext'
  simp [cY,bz]
 ·rw[az,aW,aV,cP]
  omega
def rEqE (K:W.Frag):R2:=fun x y H Q=>∃ p q xs,x= .ref p/\y= .ref q/\SqT K H p xs/\SqT K H q []/\Q (.bl (decide (xs=[]))) H
theorem jK0 (hu:X.A.units<cLine):OpR X (compareOp .Eq) (rEqE X.K):=by
 intro pins s σ H x y v u Q I rx ry h
 obtain⟨p,q,xs,rfl,rfl,hp,hq,k⟩:=h
 cases rx
 cases ry
 obtain⟨its,r,t1,_⟩:=I.tuple hp
 obtain⟨its2,r2,t2,_⟩:=I.tuple hq
 have e2:its2=[]:=r2.zero
 subst e2
 refine SeqAt.eq_tupleAt (e:=fun _=>true) (show s.heap.IsTuple p its.toArray from t1) (show s.heap.IsTuple q ([]:List Value).toArray from t2) hu (fun j h1 h2=>absurd h2 (by simp)) ⟨.bl _,H,I,rfl,?_⟩
 have hl:=r.length
 have e:((List.range (min its.toArray.size ([]:List Value).toArray.size)).all (fun _=>true)&&its.toArray.size==([]:List Value).toArray.size)=decide (xs=[]):=by
  cases xs with
  | nil=>
   have:its=[]:=by simpa using hl.symm
   subst this
   rfl
  | cons a b=>
   have:its.length≠0:=by rw[<- hl]; simp
   simp [this]
 rw[e]
 exact k
theorem jA8 (hc:X.calm=true):yO X (.builtin "all") (fun xs H Q=>∃ (p:Addr) (bs:List Bool),xs=[.ref p]/\SqL X.K H p (bs.map V.bl)/\Q (.bl (bs.all id)) H):=by
 intro pins s σ H xs us Q I r h
 obtain⟨p,bs,rfl,hq,q⟩:=h
 obtain⟨u,rfl,rx⟩:=r.one
 cases rx
 obtain⟨its,r',pl,hz⟩:=I.list hq
 have hlen:=r'.length
 rw[ae] at hlen
 refine call_all_walk (cK pl.isList ?_)
 have hne:p≠s.heap.objs.size:=by
  obtain⟨o,ho,_⟩:=pl.isList
  exact aO (ao ho)
 refine⟨s.heap.objs.size,_,_,_,_,_,fun i=>bs.getD i true,rfl,gH (by simpa using I.ok.hd hc) _ p hne its.toArray,⟨⟨_,aj _ rfl,rfl,rfl⟩,pl.isList.push _⟩,fun i v z Q' E' hP hQ'=>?_,fun h' tk hk=>?_⟩
 ·have hi:its[i]?=some v:=by simpa using hP
  have hb:i<bs.length:=by
   rw[hlen]
   exact(ah.mp hi).1
  obtain⟨u,hu,ru⟩:=r'.get (i:=i) (x:= .bl (bs[i])) (by simp [hb])
  rw[hi] at hu
  cases hu
  cases ru
  have e:bs.getD i true=bs[i]:=by simp [List.getD,hb]
  have hQ2:Q' (bs.getD i true) z:=hQ'
  rw[e] at hQ2
  exact af hQ2
 ·have e:(List.range its.toArray.size).all (fun i=>bs.getD i true)=bs.all id:=by
   rw[aA,<- hlen]
   rw[bB,bj,bj]
   constructor
   ·intro a b hb
    obtain⟨i,hi,rfl⟩:=dk hb
    have:=a i (bo.mpr hi)
    simpa [List.getD,hi] using this
   ·intro a i hi
    have hi:=bo.mp hi
    have:=a bs[i] (cQ hi)
    simpa [List.getD,hi] using this
  rw[e]
  exact⟨.bl _,H,I.kept (t':=tk) fun b o e=>hk b o (by
   intro z
   have z:b=s.heap.objs.size:=by simpa using z
   exact absurd (ao e) (by rw[z]; exact ce _)) (ab _ e),rfl,q⟩
def jDK (n:Nat):List V:=(List.range n).map fun (i:Nat)=>V.int (i:Int)
theorem jIA {n:Nat}{acc:Array Value}(h:ItemsOf (fun i v=>∃ t,v=Value.int (0+(i:Int)*1) t) acc n):Vals (jDK n) acc.toList:=by
 have key:∀ (l:List Value) (k:Nat),(∀ j v,l[j]?=some v->∃ t,v=Value.int ((k+j:Nat):Int) t)->Vals ((List.range' k l.length).map fun (i:Nat)=>V.int (i:Int)) l:=by
  intro l
  induction l with
  | nil=>intro k _; exact .nil
  | cons v l ih=>
   intro k hk
   rw[aW,List.range'_succ,be]
   refine .cons ?_ (ih (k+1) fun j u hj=>?_)
   ·obtain⟨t,e⟩:=hk 0 v rfl
    exact⟨t,by simpa using e⟩
   ·obtain⟨t,e⟩:=hk (j+1) u (by simpa using hj)
    exact⟨t,by rw[e]; congr 1; omega⟩
 have:=key acc.toList 0 fun j v hj=>by
  obtain⟨t,e⟩:=h.2 j v (by simpa using hj)
  exact⟨t,by rw[e]; congr 1; omega⟩
 rw[aC,h.1] at this
 unfold jDK
 rw[List.range_eq_range']
 exact this
theorem jH6:yO X (.type "range") (fun xs H Q=>∃ j:Int,xs=[.int j]/\∀ p,H p=none->Q (.ref p) (upd H p (.rng 0 j))):=by
 intro pins s σ H xs us Q I r h
 obtain⟨j,rfl,q⟩:=h
 obtain⟨u,rfl,t,rfl⟩:=r.one
 refine call_range_1 ⟨.ref s.heap.objs.size,_,I.laid (o:= .rng 0 j) (fun b o e=>ab _ e) (ai _) ?_,rfl,q _ I.fresh⟩
 exact⟨_,_,_,aj _ rfl⟩
theorem jG1 (hc:X.calm=true):yO X (.type "list") (fun xs H Q=>∃ p j,xs=[.ref p]/\H p=some (.rng 0 j)/\0<=j/\j<=1000/\∀ l,H l=none->Q (.ref l) (upd H l (.lst (jDK j.toNat)))):=by
 intro pins s σ H xs us Q I r h
 obtain⟨p,j,rfl,hp,h0,h1,q⟩:=h
 obtain⟨u,rfl,rx⟩:=r.one
 cases rx
 obtain⟨t,u,v,e⟩:=I.hok p _ hp
 have en:Builtin.Range.rangeSize 0 j 1=(j.toNat:Int):=by
  rw[rangeSize_one]
  split <;> omega
 refine call_list_range (I.ok.hd hc) (show IsRange s.heap p 0 j 1 t u v from e) (small_one (by omega) (by omega) (by omega) (by omega)) en (by omega) fun h' tk acc' c' kp hS hacc=>?_
 refine⟨.ref s.heap.objs.size,_,I.laid (t':=tk) (o:= .lst (jDK j.toNat)) kp (ai _) ?_,rfl,q _ I.fresh⟩
 refine⟨?_,acc'.toList,c',jIA hacc,by rw[dH]; exact hS⟩
 unfold jDK
 rw[ae,bE,db]
 omega
def SetO (w:World)(a:Addr)(ks:List Int):HO:= .ext fun h=>SS.SetG w h a ks
theorem jCE {ns:List Int} :∀ {us:List Value},Vals (ns.map V.int) us->IntsAre us ns:=by
 induction ns with
 | nil=>intro us h; cases h; exact .nil
 | cons n ns ih=>
  intro us h
  cases h with
  | cons r t=>
   obtain⟨k,rfl⟩:=r
   exact .cons n k (ih t)
theorem jAA:∀ {us:List Value}{ns:List Int},IntsAre us ns->Vals (ns.map V.int) us
 | _,_, .nil=> .nil
 | _,_, .cons n t r=> .cons ⟨t,rfl⟩ (jAA r)
theorem jLD (hc:X.calm=true):yO X (.type "set") (fun xs H Q=>∃ (p:Addr) (ns:List Int),xs=[.ref p]/\SqL X.K H p (ns.map V.int)/\ns.length<=4/\(∀ z∈ns,0<=z/\z<32)/\
  ∀ (l:Addr) (ks:List Int),H l=none->(∀ z,z∈ks↔z∈ns)->Q (.ref l) (upd H l (SetO X.w l ks))):=by
 intro pins s σ H xs us Q I r h
 obtain⟨p,ns,rfl,hq,hl,hv,q⟩:=h
 obtain⟨u,rfl,rx⟩:=r.one
 cases rx
 obtain⟨its,r',pl,hz⟩:=I.list hq
 have hlen:=r'.length
 rw[ae] at hlen
 refine SS.set_of_list (I.ok.hd hc) pl.isList (jCE r') (by rw[aA]; omega) hv fun h' tk ks S hm kp=>?_
 have hg:∃ o,h'.get? s.heap.objs.size=some o:=let ⟨o,_,_,_,e,_⟩:=S.ex; ⟨o,e⟩
 exact⟨.ref s.heap.objs.size,_,I.laid (t':=tk) (o:=SetO X.w s.heap.objs.size ks) kp (ai _) ⟨S,hg,fun h1 h2 a b=>a.at b⟩,rfl,q _ ks I.fresh hm⟩
theorem jDV (hc:X.calm=true):yO X (.builtin "sorted") (fun xs H Q=>∃ (p:Addr) (ks:List Int),xs=[.ref p]/\H p=some (SetO X.w p ks)/\
  ∀ (l:Addr) (ns:List Int),H l=none->ns.Pairwise (· < ·)->(∀ z,z∈ns↔z∈ks)->Q (.ref l) (upd H l (.lst (ns.map V.int)))):=by
 intro pins s σ H xs us Q I r h
 obtain⟨p,ks,rfl,hp,q⟩:=h
 obtain⟨u,rfl,rx⟩:=r.one
 cases rx
 obtain⟨S,_,_⟩:=I.hok p _ hp
 refine SS.sorted_set (I.ok.hd hc) S fun s' l vs ns e hl kp g d o he hi pm srt=>?_
 obtain⟨h',g',d',t',o'⟩:=s'
 have g:g'=s.gens:=g
 have o:o'=s.os:=o
 have d:d'=s.drawn:=d
 subst g; subst o; subst d
 have nd:ns.Nodup:=pm.nodup_iff.mpr S.nd
 have lt:ns.Pairwise (· < ·):=by
  have:=List.Pairwise.and srt nd
  exact this.imp fun {a b} ⟨x,y⟩=>by omega
 have hz:(ns.map V.int).length<=sizeLine:=by
  rw[ae,pm.length_eq,db]
  have:=S.len
  omega
 have I2:Inv X pins σ (upd H l (.lst (ns.map V.int))) { s with heap:=h',toks:=t'} :=I.laid (t':=t') kp hl ⟨hz,vs,e,jAA hi,he⟩
 exact⟨.ref l,_,I2,rfl,q l ns (I.hok.fresh hl) lt fun z=>pm.mem_iff⟩
end
section
variable {X:Cx}{p1 p2 p3 p4 p5 p6 p7:Pos}{k1 k2 k3 k4:Nat}
theorem jOT {i j r:Int}(hj:0<=j)(hj2:j<=1000000)(hi:i.natAbs<2 ^ 64)(e:i ^ j.toNat=r):PE X (.BinOp (.Constant (.int i) k2 p2) .Pow (.Constant (.int j) k3 p3) p4) (tC (.int r)):=fun pins s σ H Q I h=>
 (kL (X:=X) jJY jM jM) pins s σ H Q I ⟨_,_,rfl,rfl,⟨hj,hj2,hi⟩,by subst e; exact h⟩
theorem jOU {a b:Expr}{i j r:Int}(ha:PE X a (tC (.int i)))(hb:PE X b (tC (.int j)))(hc:CMul i j)(e:i*j=r):PE X (.BinOp a .Mult b p1) (tC (.int r)):=fun pins s σ H Q I h=>
 (kL (X:=X) jCL ha hb) pins s σ H Q I ⟨_,_,rfl,rfl,hc,by subst e; exact h⟩
theorem jOX {a b:Expr}{i j r:Int}(ha:PE X a (tC (.int i)))(hb:PE X b (tC (.int j)))(e:i+j=r):PE X (.BinOp a .Add b p1) (tC (.int r)):=fun pins s σ H Q I h=>
 (kL (X:=X) yK ha hb) pins s σ H Q I ⟨_,_,rfl,rfl,by subst e; exact h⟩
theorem jR2:PE X (.BinOp (.BinOp (.Constant (.int 2) k1 p1) .Mult (.BinOp (.Constant (.int 10) k2 p2) .Pow (.Constant (.int 12) k3 p3) p4) p5) .Add (.Constant (.int 1) k4 p6) p7) (tC (.int 2000000000001)):=
 jOX (i:=2000000000000) (jOU (j:=1000000000000) jM (jOT (by decide) (by decide) (by decide) (by decide)) (.inl ⟨by decide,by decide⟩) (by decide)) jM (by decide)
end
def ItAt (tp:Bool)(h:Heap)(it a:Addr)(i:Nat):Prop:=match tp with
 | false=>h.IsListIter it a i
 | true=>h.IsTupleIter it a i
def ObAt (tp:Bool)(h:Heap)(a:Addr)(xs:Array Value):Prop:=match tp with
 | false=>h.IsList a xs
 | true=>h.IsTuple a xs
theorem ItAt.but {tp:Bool}{h h':Heap}{it a b:Addr}{i:Nat}(x:ItAt tp h it a i)(e:Heap.ExtBut b h h')(n:it≠b):ItAt tp h' it a i:=by
 cases tp with
 | false=>exact Heap.IsListIter.extBut x e n
 | true=>exact Heap.IsTupleIter.extBut x e n
theorem ObAt.but {tp:Bool}{h h':Heap}{a b:Addr}{xs:Array Value}(x:ObAt tp h a xs)(e:Heap.ExtBut b h h')(n:a≠b):ObAt tp h' a xs:=by
 cases tp with
 | false=>exact Heap.IsList.extBut x e n
 | true=>exact Heap.IsTuple.extBut x e n
theorem ItAt.at {tp:Bool}{h h':Heap}{it a:Addr}{i:Nat}(x:ItAt tp h it a i)(e:∀ o,h.get? it=some o->h'.get? it=some o):ItAt tp h' it a i:=by
 cases tp with
 | false=>exact Heap.IsListIter.at x e
 | true=>exact Heap.IsTupleIter.at x e
theorem ItAt.obj {tp:Bool}{h:Heap}{it a:Addr}{i:Nat}(x:ItAt tp h it a i):∃ o,h.get? it=some o/\∀ v,o.data≠ .cell v:=by
 cases tp with
 | false=>obtain⟨o,e,_,d⟩:=x; exact⟨o,e,fun v q=>by rw[d] at q; cases q⟩
 | true=>obtain⟨o,e,_,d⟩:=x; exact⟨o,e,fun v q=>by rw[d] at q; cases q⟩
theorem ObAt.lt {tp:Bool}{h:Heap}{a:Addr}{xs:Array Value}(x:ObAt tp h a xs):a<h.objs.size:=by
 cases tp with
 | false=>obtain⟨o,e,_⟩:=x; exact ao e
 | true=>obtain⟨o,e,_⟩:=x; exact ao e
section
variable {prog:Program}{w:World}{A:Around}{E:Value->Shared->Prop}{s:Shared}
theorem next1 {tp:Bool}{it a:Addr}{i:Nat}{xs:Array Value}{x:Value}{Q:Value->Shared->Prop}(hi:ItAt tp s.heap it a i)(ha:ObAt tp s.heap a xs)(hx:xs[i]?=some x)
  (k:∀ h',ItAt tp h' it a (i+1)->Heap.SameBut it s.heap h'->Q x { s with heap:=h'}):wpAny (model prog w) A (Builtin.SmallTypes.nextOf (.ref it)) Q E s:=by
 cases tp with
 | false=>exact wpAny_nextOf_list_item hi ha hx k
 | true=>
  obtain⟨o,e,c,d⟩:=id (show s.heap.IsTupleIter it a i from hi)
  obtain⟨u,eu,_,n,du⟩:=(show s.heap.IsTuple a xs from ha)
  have ty:=Heap.IsTupleIter.typeIs (show s.heap.IsTupleIter it a i from hi)
  unfold Builtin.SmallTypes.nextOf
  refine aa (bu (name:=Str.ofString "__next__") ty F.slot_tuple_iterator_next (bv F.slot_tuple_iterator_next ty F.entry_tuple_iterator_next (?_:wpAny (model prog w) _ (field (.ref it) 0 >>= _) _ _ s) (F.args_tuple_iterator_next_1 _)))
  refine aa (bA e d (x:= .ref a) rfl (?_:wpAny (model prog w) _ (if (Value.ref a==Value.none)=true then _ else _) _ _ s))
  rw[ak (by exact ag)]
  show wpAny (model prog w) _ (field (.ref it) 1 >>= _) _ _ s
  refine aa (bA e d (x:= .int i 0) rfl ?_)
  show wpAny (model prog w) _ (seqItems? (.ref a) >>= _) _ _ s
  refine aa (cU eu du ?_)
  simp only [bf,hx]
  refine aa (wpAny_setField e d (by simp) (af ⟨x,rfl,af (k _ ⟨_,cW _ e (Obj.isFreed_of_fields (Obj.data_mapFields d _)),(Obj.cls_mapFields ..).trans c,?_⟩ (fq ..))⟩))
  rw[Obj.data_mapFields d]
  simp [rawInt]
theorem next0 {tp:Bool}{it a:Addr}{i:Nat}{xs:Array Value}{Q:Value->Shared->Prop}(hh:A.handled=none)(hi:ItAt tp s.heap it a i)(ha:ObAt tp s.heap a xs)(hx:xs[i]?=none)
  (k:∀ h' e,Heap.ExtBut it s.heap h'->(∃ o,h'.get? e=some o/\o.cls= .type "StopIteration")->E (.ref e) { s with heap:=h'}):wpAny (model prog w) A (Builtin.SmallTypes.nextOf (.ref it)) Q E s:=by
 cases tp with
 | false=>exact wpAny_nextOf_list_end hh hi ha hx k
 | true=>
  obtain⟨o,e,c,d⟩:=id (show s.heap.IsTupleIter it a i from hi)
  obtain⟨u,eu,_,n,du⟩:=(show s.heap.IsTuple a xs from ha)
  have ty:=Heap.IsTupleIter.typeIs (show s.heap.IsTupleIter it a i from hi)
  unfold Builtin.SmallTypes.nextOf
  refine aa (bu (name:=Str.ofString "__next__") ty F.slot_tuple_iterator_next (bv F.slot_tuple_iterator_next ty F.entry_tuple_iterator_next (?_:wpAny (model prog w) _ (field (.ref it) 0 >>= _) _ _ s) (F.args_tuple_iterator_next_1 _)))
  refine aa (bA e d (x:= .ref a) rfl (?_:wpAny (model prog w) _ (if (Value.ref a==Value.none)=true then _ else _) _ _ s))
  rw[ak (by exact ag)]
  show wpAny (model prog w) _ (field (.ref it) 1 >>= _) _ _ s
  refine aa (bA e d (x:= .int i 0) rfl ?_)
  show wpAny (model prog w) _ (seqItems? (.ref a) >>= _) _ _ s
  refine aa (cU eu du ?_)
  simp only [bf,hx]
  refine aa (cx (aa (wpAny_setField e d (by simp) (?_:wpAny (model prog w) _ (newExc (.type "StopIteration") [] >>= _) _ _ _))))
  refine aa (by
   simp only [newExc,newTuple]
   refine aa (bD (aa (m:=firstArgMember _ _) (wpAny_of_eq (a:=Value.none) (by first | rfl | (simp only [firstArgMember]; rfl)) (bD ?_ (by size_fits)))) (by size_fits))
   simp only [raiseNew]
   refine aa (wpAny_handled ?_)
   first | rw[show A.in1.handled=none from hh] | rw[hh]
   exact aa (af (wpAny_throw (k _ _ (((fq ..).extBut.push _).push _) ⟨_,aj _ rfl,rfl⟩))))
theorem jJ2 {t1 t2:Bool}{z TI TO i1 i2 l1 l2:Addr}{k1 k2:Nat}{xs ys:Array Value}{x y a b:Value}{Q:Value->Shared->Prop}(D:ZipApart z TI TO i1 i2 l1 l2)
  (ez:IsZip s.heap z TI TO .none) (eI:IsPair s.heap TI (.ref i1) (.ref i2)) (eO:IsPair s.heap TO a b) (g1:ItAt t1 s.heap i1 l1 k1) (g2:ItAt t2 s.heap i2 l2 k2) (o1:ObAt t1 s.heap l1 xs) (o2:ObAt t2 s.heap l2 ys) (hx:xs[k1]?=some x) (hy:ys[k2]?=some y)
  (k:∀ h',IsZip h' z TI TO (rawInt s.heap.objs.size)->IsPair h' TO x y->ItAt t1 h' i1 l1 (k1+1)->ItAt t2 h' i2 l2 (k2+1)->IsPair h' s.heap.objs.size x y->h'.objs.size=s.heap.objs.size+1->
   (∀ c o,c≠z->c≠TO->c≠i1->c≠i2->s.heap.get? c=some o->h'.get? c=some o)->Q (.ref s.heap.objs.size) { s with heap:=h'}):
  wpAny (model prog w) A (Builtin.«zip.__next__» ⟨[.ref z],[]⟩) (fun fin s'=>∃ v,fin= .done (.ret v)/\Q v s') E s:=by
 show wpAny (model prog w) A (field (.ref z) 2 >>= _) _ _ _
 refine aa (bA ez rfl (x:= .bool false) rfl (?_:wpAny (model prog w) A (field (.ref z) 3 >>= _) _ _ _))
 refine aa (bA ez rfl (x:= .ref TI) rfl (aa (cU eI rfl (?_:wpAny (model prog w) A (Builtin.SmallTypes.ownedTupleIsFree (.ref z) >>= _) _ _ _))))
 refine aa (by
  unfold Builtin.SmallTypes.ownedTupleIsFree
  refine aa (bA ez rfl (x:= .none) rfl (af ?_))
  simp only [ft]
  refine aa (cx (aa (bA ez rfl (x:= .ref TO) rfl (aa (br ez (by simp) fun p1 f1 q1=>?_)))))
  have f1:IsZip p1 z TI TO .ellipsis:=f1
  refine aa (by
   simp only [gz,List.zipIdx_nil,gL,List.forIn_nil]
   refine aa (aa (gq (?_:wpAny (model prog w) A (Builtin.SmallTypes.nextOf (.ref i1) >>= _) _ _ _)))
   refine aa (next1 (g1.but q1.extBut D.i1z) (o1.but q1.extBut D.l1z) hx fun p2 r2 q2=>af ?_)
   have eO2:IsPair p2 TO a b:=q2.extBut _ _ D.TOi1 (q1.extBut _ _ D.TOz eO)
   refine aa (cU eO2 rfl (aa (fe eO2 fun p3 eO3 q3=>aa (gZ (af ?_)))))
   have eO3:IsPair p3 TO x b:=eO3
   refine aa (aa (gq (?_:wpAny (model prog w) A (Builtin.SmallTypes.nextOf (.ref i2) >>= _) _ _ _)))
   refine aa (next1 (((g2.but q1.extBut D.i2z).but q2.extBut D.i12.symm).but q3.extBut D.TOi2.symm) (((o2.but q1.extBut D.l2z).but q2.extBut D.l2i1).but q3.extBut D.l2TO) hy fun p4 r4 q4=>af ?_)
   have eO4:IsPair p4 TO x b:=q4.extBut _ _ D.TOi2 eO3
   refine aa (cU eO4 rfl (aa (fe eO4 fun p5 eO5 q5=>aa (gZ (af (af ?_))))))
   have eO5:IsPair p5 TO x y:=eO5
   refine aa (cU eO5 rfl (aa (g4 ?_)))
   have sz:p5.objs.size=s.heap.objs.size:=by rw[q5.1,q4.1,q3.1,q2.1,q1.1]
   have ez5:IsZip p5 z TI TO .ellipsis:=q5.extBut _ _ D.TOz.symm (q4.extBut _ _ D.i2z.symm (q3.extBut _ _ D.TOz.symm (q2.extBut _ _ D.i1z.symm f1)))
   have kp5:∀ c o,c≠z->c≠TO->c≠i1->c≠i2->s.heap.get? c=some o->p5.get? c=some o:=fun c o n1 n2 n3 n4 e=>q5.extBut _ _ n2 (q4.extBut _ _ n4 (q3.extBut _ _ n2 (q2.extBut _ _ n3 (q1.extBut _ _ n1 e))))
   have r15:ItAt t1 p5 i1 l1 (k1+1):=((r2.but q3.extBut D.TOi1.symm).but q4.extBut D.i12).but q5.extBut D.TOi1.symm
   have r25:ItAt t2 p5 i2 l2 (k2+1):=r4.but q5.extBut D.TOi2.symm
   have zlt:z<p5.objs.size:=ao ez5
   show wpAny (model prog w) A (Builtin.SmallTypes.ownedTupleHandOut (.ref z) (.ref p5.objs.size) >>= _) _ _ _
   refine aa ?_
   unfold Builtin.SmallTypes.ownedTupleHandOut
   have f6:IsZip (p5.push { cls:= .type "tuple",data:= .seq #[x,y]}) z TI TO .ellipsis:=ab _ ez5
   refine aa (br f6 (by simp) fun p7 f7 q7=>?_)
   have f7:IsZip p7 z TI TO (rawInt p5.objs.size):=f7
   refine br f7 (by simp) fun p8 f8 q8=>?_
   have f8:IsZip p8 z TI TO (rawInt p5.objs.size):=f8
   have up:∀ c o,c≠z->p5.get? c=some o->p8.get? c=some o:=fun c o n1 e=>q8.extBut _ _ n1 (q7.extBut _ _ n1 (ab _ e))
   have eT:IsPair p8 p5.objs.size x y:=q8.extBut _ _ (cF zlt) (q7.extBut _ _ (cF zlt) (aj _ rfl))
   have sz8:p8.objs.size=p5.objs.size+1:=by rw[q8.1,q7.1,bM]
   rw[sz] at f8 eT sz8
   refine af ⟨_,rfl,(?_:Q (.ref p5.objs.size) _)⟩
   rw[sz]
   exact k p8 f8 (up _ _ D.TOz eO5) (r15.at fun o e=>up _ o D.i1z e) (r25.at fun o e=>up _ o D.i2z e) eT sz8 fun c o n1 n2 n3 n4 e=>up c o n1 (kp5 c o n1 n2 n3 n4 e)))
theorem jLR {t1 t2:Bool}{z TI TO i1 i2 l1 l2:Addr}{k1 k2:Nat}{xs ys:Array Value}{a b:Value}{Q:Fin->Shared->Prop}(hh:A.handled=none)(D:ZipApart z TI TO i1 i2 l1 l2)
  (ez:IsZip s.heap z TI TO .none) (eI:IsPair s.heap TI (.ref i1) (.ref i2)) (eO:IsPair s.heap TO a b) (g1:ItAt t1 s.heap i1 l1 k1) (g2:ItAt t2 s.heap i2 l2 k2) (o1:ObAt t1 s.heap l1 xs) (o2:ObAt t2 s.heap l2 ys) (hend:xs[k1]?=none\/ys[k2]?=none)
  (k:∀ h' e,(∀ c o,c≠z->c≠TO->c≠i1->c≠i2->s.heap.get? c=some o->h'.get? c=some o)->(∃ o,h'.get? e=some o/\o.cls= .type "StopIteration")->E (.ref e) { s with heap:=h'}):
  wpAny (model prog w) A (Builtin.«zip.__next__» ⟨[.ref z],[]⟩) Q E s:=by
 show wpAny (model prog w) A (field (.ref z) 2 >>= _) _ _ _
 refine aa (bA ez rfl (x:= .bool false) rfl (?_:wpAny (model prog w) A (field (.ref z) 3 >>= _) _ _ _))
 refine aa (bA ez rfl (x:= .ref TI) rfl (aa (cU eI rfl (?_:wpAny (model prog w) A (Builtin.SmallTypes.ownedTupleIsFree (.ref z) >>= _) _ _ _))))
 refine aa (by
  unfold Builtin.SmallTypes.ownedTupleIsFree
  refine aa (bA ez rfl (x:= .none) rfl (af ?_))
  simp only [ft]
  refine aa (cx (aa (bA ez rfl (x:= .ref TO) rfl (aa (br ez (by simp) fun p1 f1 q1=>?_)))))
  have f1:IsZip p1 z TI TO .ellipsis:=f1
  refine aa (by
   simp only [gz,List.zipIdx_nil,gL,List.forIn_nil]
   refine aa (aa (gq (?_:wpAny (model prog w) A (Builtin.SmallTypes.nextOf (.ref i1) >>= _) _ _ _)))
   cases hx:xs[k1]? with
   | none=>
    refine aa (next0 hh (g1.but q1.extBut D.i1z) (o1.but q1.extBut D.l1z) hx fun p2 e q2 ⟨u,eu,cu⟩=>?_)
    have f2:IsZip p2 z TI TO .ellipsis:=q2 _ _ D.i1z.symm f1
    have nz:e≠z:=fun v=>by subst v; rw[f2] at eu; cases eu; simp at cu
    exact br f2 (by simp) fun p3 _ q3=>k p3 e (fun c o n1 _ n3 _ v=>q3.extBut _ _ n1 (q2 _ _ n3 (q1.extBut _ _ n1 v))) ⟨u,q3.extBut _ _ nz eu,cu⟩
   | some x=>
    have hy:ys[k2]?=none:=by
     rcases hend with v | v
     ·rw[hx] at v; cases v
     ·exact v
    refine aa (next1 (g1.but q1.extBut D.i1z) (o1.but q1.extBut D.l1z) hx fun p2 r2 q2=>af ?_)
    have eO2:IsPair p2 TO a b:=q2.extBut _ _ D.TOi1 (q1.extBut _ _ D.TOz eO)
    refine aa (cU eO2 rfl (aa (fe eO2 fun p3 eO3 q3=>aa (gZ (af ?_)))))
    refine aa (aa (gq (?_:wpAny (model prog w) A (Builtin.SmallTypes.nextOf (.ref i2) >>= _) _ _ _)))
    refine aa (next0 hh (((g2.but q1.extBut D.i2z).but q2.extBut D.i12.symm).but q3.extBut D.TOi2.symm) (((o2.but q1.extBut D.l2z).but q2.extBut D.l2i1).but q3.extBut D.l2TO) hy fun p4 e q4 ⟨u,eu,cu⟩=>?_)
    have f4:IsZip p4 z TI TO .ellipsis:=q4 _ _ D.i2z.symm (q3.extBut _ _ D.TOz.symm (q2.extBut _ _ D.i1z.symm f1))
    have nz:e≠z:=fun v=>by subst v; rw[f4] at eu; cases eu; simp at cu
    exact br f4 (by simp) fun p5 _ q5=>k p5 e (fun c o n1 n2 n3 n4 v=>q5.extBut _ _ n1 (q4 _ _ n4 (q3.extBut _ _ n2 (q2.extBut _ _ n3 (q1.extBut _ _ n1 v))))) ⟨u,q5.extBut _ _ nz eu,cu⟩))
theorem jGM {t1 t2:Bool}{z TI TO i1 i2 l1 l2:Addr}{k1 k2:Nat}{xs ys:Array Value}{x y a b:Value}{Q:Option Value->Shared->Prop}(D:ZipApart z TI TO i1 i2 l1 l2)
  (ez:IsZip s.heap z TI TO .none) (eI:IsPair s.heap TI (.ref i1) (.ref i2)) (eO:IsPair s.heap TO a b) (g1:ItAt t1 s.heap i1 l1 k1) (g2:ItAt t2 s.heap i2 l2 k2) (o1:ObAt t1 s.heap l1 xs) (o2:ObAt t2 s.heap l2 ys) (hx:xs[k1]?=some x) (hy:ys[k2]?=some y)
  (k:∀ h',IsZip h' z TI TO (rawInt s.heap.objs.size)->IsPair h' TO x y->ItAt t1 h' i1 l1 (k1+1)->ItAt t2 h' i2 l2 (k2+1)->IsPair h' s.heap.objs.size x y->h'.objs.size=s.heap.objs.size+1->
   (∀ c o,c≠z->c≠TO->c≠i1->c≠i2->s.heap.get? c=some o->h'.get? c=some o)->Q (some (.ref s.heap.objs.size)) { s with heap:=h'}):
  wpAny (model prog w) A (pyNext (.ref z)) Q E s:=by
 have ty:s.TypeIs (.ref z) "zip" :=⟨_,ez,rfl⟩
 unfold pyNext
 exact aa (dD (bu (name:=Str.ofString "__next__") ty F.slot_zip_next (bv F.slot_zip_next ty F.entry_zip_next (jJ2 D ez eI eO g1 g2 o1 o2 hx hy fun h' b1 b2 b3 b4 b5 b6 b7=>af (k h' b1 b2 b3 b4 b5 b6 b7)) (F.args_zip_next_1 _))))
theorem jGN {t1 t2:Bool}{z TI TO i1 i2 l1 l2:Addr}{k1 k2:Nat}{xs ys:Array Value}{a b:Value}{Q:Option Value->Shared->Prop}(hh:A.handled=none)(D:ZipApart z TI TO i1 i2 l1 l2)
  (ez:IsZip s.heap z TI TO .none) (eI:IsPair s.heap TI (.ref i1) (.ref i2)) (eO:IsPair s.heap TO a b) (g1:ItAt t1 s.heap i1 l1 k1) (g2:ItAt t2 s.heap i2 l2 k2) (o1:ObAt t1 s.heap l1 xs) (o2:ObAt t2 s.heap l2 ys) (hend:xs[k1]?=none\/ys[k2]?=none)
  (k:∀ h',(∀ c o,c≠z->c≠TO->c≠i1->c≠i2->s.heap.get? c=some o->h'.get? c=some o)->Q none { s with heap:=h'}):wpAny (model prog w) A (pyNext (.ref z)) Q E s:=by
 have ty:s.TypeIs (.ref z) "zip" :=⟨_,ez,rfl⟩
 unfold pyNext
 refine aa (dD (bu (name:=Str.ofString "__next__") ty F.slot_zip_next (bv F.slot_zip_next ty F.entry_zip_next (jLR hh D ez eI eO g1 g2 o1 o2 hend fun h' e kp ⟨u,eu,cu⟩=>?_) (F.args_zip_next_1 _))))
 exact aa (eS (T:= "StopIteration") (b:=true) ⟨u,eu,cu⟩ gY (af (k _ kp)))
end
def yX (tp:Bool)(a:Addr):Obj:=match tp with
 | false=> { cls:= .type "list_iterator",data:= .fields #[.ref a, .int 0 0]}
 | true=> { cls:= .type "tuple_iterator",data:= .fields #[.ref a, .int 0 0]}
theorem jC6 (tp:Bool)(a:Addr):(yX tp a).isFreed=false:=by cases tp <;> rfl
theorem ObAt.push {tp:Bool}{h:Heap}{a:Addr}{xs:Array Value}(x:ObAt tp h a xs)(o:Obj):ObAt tp (h.push o) a xs:=by
 cases tp with
 | false=>exact Heap.IsList.push x o
 | true=>exact Heap.IsTuple.push x o
theorem jC3 {prog:Program}{w:World}{A:Around}{E:Value->Shared->Prop}{s:Shared}{tp:Bool}{a:Addr}{xs:Array Value}{Q:Value->Shared->Prop}(h:ObAt tp s.heap a xs)(q:Q (.ref s.heap.objs.size) { s with heap:=s.heap.push (yX tp a)}):
  wpAny (model prog w) A (pyIter (.ref a)) Q E s:=by
 cases tp with
 | false=>exact cK h q
 | true=>exact wpAny_pyIter_tuple h q
def zp1 (t1:Bool)(h:Heap)(l1:Addr):Heap:=h.push (yX t1 l1)
def zp2 (t1 t2:Bool)(h:Heap)(l1 l2:Addr):Heap:=(zp1 t1 h l1).push (yX t2 l2)
def zp3 (t1 t2:Bool)(h:Heap)(l1 l2:Addr):Heap:=(zp2 t1 t2 h l1 l2).push { cls:= .type "tuple",data:= .seq #[.ref h.objs.size, .ref (zp1 t1 h l1).objs.size]}
def zp4 (t1 t2:Bool)(h:Heap)(l1 l2:Addr):Heap:=(zp3 t1 t2 h l1 l2).push { cls:= .type "tuple",data:= .seq #[.none, .none]}
def zp5 (t1 t2:Bool)(h:Heap)(l1 l2:Addr):Heap:=(zp4 t1 t2 h l1 l2).push { cls:= .type "zip",data:= .fields #[.none, .bool false, .bool false, .ref (zp2 t1 t2 h l1 l2).objs.size, .ref (zp3 t1 t2 h l1 l2).objs.size]}
theorem jIP (t1 t2:Bool)(l1 l2:Addr)(xs ys:Array Value):
  Meets (Builtin.«zip.__new__» ⟨[.type "zip", .ref l1, .ref l2],[]⟩) (fun _ R s=>ObAt t1 s.heap l1 xs/\ObAt t2 s.heap l2 ys/\R (.ok (.ret (.ref (zp4 t1 t2 s.heap l1 l2).objs.size))) { s with heap:=zp5 t1 t2 s.heap l1 l2}):=
 .of_wp fun prog w A R s h=>by
  obtain⟨hp,g,d,tk,os⟩:=s
  obtain⟨a1,a2,q⟩:=h
  have sub:=sub_zip
  have e1:ObAt t1 (Shared.heap ⟨hp,g,d,tk,os⟩) l1 xs:=a1
  have e2:ObAt t2 (Shared.heap ⟨hp.push (yX t1 l1),g,d,tk,os⟩) l2 ys:=ObAt.push a2 _
  wp_walk using jC3 e1,jC3 e2
  exact⟨_,rfl,q⟩
theorem ItAt.new (tp:Bool){h:Heap}{it a:Addr}(e:h.get? it=some (yX tp a)):ItAt tp h it a 0:=by
 cases tp with
 | false=>exact⟨_,e,rfl,rfl⟩
 | true=>exact⟨_,e,rfl,rfl⟩
theorem jLC {prog:Program}{w:World}{A:Around}{E:Value->Shared->Prop}{s:Shared}{t1 t2:Bool}{l1 l2:Addr}{xs ys:Array Value}{Q:Value->Shared->Prop}(a1:ObAt t1 s.heap l1 xs)(a2:ObAt t2 s.heap l2 ys)
  (k:∀ h',IsZip h' (s.heap.objs.size+4) (s.heap.objs.size+2) (s.heap.objs.size+3) .none->IsPair h' (s.heap.objs.size+2) (.ref s.heap.objs.size) (.ref (s.heap.objs.size+1))->
   IsPair h' (s.heap.objs.size+3) .none .none->ItAt t1 h' s.heap.objs.size l1 0->ItAt t2 h' (s.heap.objs.size+1) l2 0->(∀ c o,s.heap.get? c=some o->h'.get? c=some o)->Q (.ref (s.heap.objs.size+4)) { s with heap:=h'}):
  wpAny (model prog w) A (call (.type "zip") [.ref l1, .ref l2]) Q E s:=by
 refine callType_new F.called_zip (by decide) (F.typeCall_zip_2 _ _) (F.newCall_zip_2 _ _) (fun obj=>F.args_object_init_3 obj _ _) F.entry_zip_new (jIP t1 t2 l1 l2 xs ys) ⟨a1,a2,?_⟩
 have z1:(zp1 t1 s.heap l1).objs.size=s.heap.objs.size+1:=bM ..
 have z2:(zp2 t1 t2 s.heap l1 l2).objs.size=s.heap.objs.size+2:=(bM ..).trans (bL (· +1) z1)
 have z3:(zp3 t1 t2 s.heap l1 l2).objs.size=s.heap.objs.size+3:=(bM ..).trans (bL (· +1) z2)
 have z4:(zp4 t1 t2 s.heap l1 l2).objs.size=s.heap.objs.size+4:=(bM ..).trans (bL (· +1) z3)
 have y5:(zp5 t1 t2 s.heap l1 l2).get? (zp4 t1 t2 s.heap l1 l2).objs.size=some { cls:= .type "zip",data:= .fields #[.none, .bool false, .bool false, .ref (zp2 t1 t2 s.heap l1 l2).objs.size, .ref (zp3 t1 t2 s.heap l1 l2).objs.size]} :=aj _ rfl
 have y4:(zp5 t1 t2 s.heap l1 l2).get? (zp3 t1 t2 s.heap l1 l2).objs.size=some { cls:= .type "tuple",data:= .seq #[.none, .none]} :=ab _ (aj _ rfl)
 have y3:(zp5 t1 t2 s.heap l1 l2).get? (zp2 t1 t2 s.heap l1 l2).objs.size=some { cls:= .type "tuple",data:= .seq #[.ref s.heap.objs.size, .ref (zp1 t1 s.heap l1).objs.size]} :=ab _ (ab _ (aj _ rfl))
 have y2:(zp5 t1 t2 s.heap l1 l2).get? (zp1 t1 s.heap l1).objs.size=some (yX t2 l2):=ab _ (ab _ (ab _ (aj _ (jC6 _ _))))
 have y1:(zp5 t1 t2 s.heap l1 l2).get? s.heap.objs.size=some (yX t1 l1):=ab _ (ab _ (ab _ (ab _ (aj _ (jC6 _ _)))))
 have up:∀ c o,s.heap.get? c=some o->(zp5 t1 t2 s.heap l1 l2).get? c=some o:=fun c o e=>ab _ (ab _ (ab _ (ab _ (ab _ e))))
 rw[z2,z3,z4] at y5
 rw[z1,z2] at y3
 rw[z3] at y4
 rw[z1] at y2
 show _/\_
 rw[z4]
 exact⟨⟨_,y5,rfl⟩,k _ y5 y3 y4 (.new t1 y1) (.new t2 y2) up⟩
section
variable {X:Cx}
def Sq (tp:Bool)(K:W.Frag)(H:Hp)(a:Addr)(xs:List V):Prop:=match tp with
 | false=>SqL K H a xs
 | true=>SqT K H a xs
theorem Inv.sq {X:Cx}{pins:List (Addr×Obj)}{σ:St}{H:Hp}{s:Shared}{tp:Bool}{a:Addr}{xs:List V}(I:Inv X pins σ H s)(h:Sq tp X.K H a xs):∃ its:List Value,Vals xs its/\ObAt tp s.heap a its.toArray/\xs.length<=sizeLine:=by
 cases tp with
 | false=>
  obtain⟨its,r,p,z⟩:=I.list h
  exact⟨its,r,p.isList,z⟩
 | true=>exact I.tuple h
theorem Inv.sq_inj {X:Cx}{pins:List (Addr×Obj)}{σ:St}{H:Hp}{s:Shared}{tp:Bool}{a:Addr}{xs ys:List V}(I:Inv X pins σ H s)(h:Sq tp X.K H a xs)(h':Sq tp X.K H a ys):xs=ys:=by
 cases tp with
 | false=>exact I.list_inj h h'
 | true=>exact I.tuple_inj h h'
def Itz (t1 t2:Bool)(K:W.Frag)(l1 l2:Addr):It:=
 ⟨fun i H=>∃ xs ys x y,Sq t1 K H l1 xs/\Sq t2 K H l2 ys/\xs[i]?=some x/\ys[i]?=some y,
  fun i H v H'=>∃ T x y,H T=none/\v= .ref T/\H'=upd H T (.tup [x,y])/\∀ xs ys,Sq t1 K H l1 xs->Sq t2 K H l2 ys->xs[i]?=some x/\ys[i]?=some y,
  fun i H=>∃ xs ys,Sq t1 K H l1 xs/\Sq t2 K H l2 ys/\(xs.length<=i\/ys.length<=i)⟩
theorem jLT {P:Program}{w:World}{K:W.Frag}{elts:List Expr}{x1:Nat}{tp:Pos}(t1 t2:Bool)(l1 l2 z TI TO i1 i2:Addr)(D:ZipApart z TI TO i1 i2 l1 l2):
  Turn P w K (.Tuple elts x1 tp) (Itz t1 t2 K l1 l2) [z,TO,i1,i2,TI] z (fun i h=>IsZip h z TI TO .none/\IsPair h TI (.ref i1) (.ref i2)/\(∃ a b,IsPair h TO a b)/\ItAt t1 h i1 l1 i/\ItAt t2 h i2 l2 i) where
 mem:=by simp
 obj:=fun i h st b hb=>by
  obtain⟨hz,hTI,⟨a,c,hTO⟩,y1,y2⟩:=st
  simp only [aF,bq,cS] at hb
  rcases hb with rfl | rfl | rfl | rfl | rfl
  ·exact⟨_,hz,fun v q=>by cases q⟩
  ·exact⟨_,hTO,fun v q=>by cases q⟩
  ·exact y1.obj
  ·exact y2.obj
  ·exact⟨_,hTI,fun v q=>by cases q⟩
 keep:=fun i h h' st k=>by
  obtain⟨hz,hTI,⟨a,c,hTO⟩,h1,h2⟩:=st
  exact⟨k z (by simp) _ hz,k TI (by simp) _ hTI,⟨a,c,k TO (by simp) _ hTO⟩,h1.at fun o e=>k i1 (by simp) o e,h2.at fun o e=>k i2 (by simp) o e⟩
 item:=by
  intro X hP hw hK hc i pins s σ H E I hf st hg
  subst hP hw hK
  obtain⟨xs,ys,x,y,hq1,hq2,hx,hy⟩:=hg
  obtain⟨hz,hTI,⟨a,c,hTO⟩,h1,h2⟩:=st
  obtain⟨its1,r1,p1,_⟩:=I.sq hq1
  obtain⟨its2,r2,p2,_⟩:=I.sq hq2
  obtain⟨u,hu,ru⟩:=r1.get hx
  obtain⟨v,hv,rv⟩:=r2.get hy
  refine jGM D hz hTI hTO h1 h2 p1 p2 (x:=u) (y:=v) (by simpa using hu) (by simpa using hv) fun h' a1 a2 a3 a4 a5 a6 a7=>?_
  refine⟨_,rfl,wpAny_letOwnedTupleGo_zip (s:= { s with heap:=h'}) a1 fun h'' b1 sb=>?_⟩
  have fresh:H s.heap.objs.size=none:=I.fresh
  have nch:∀ b∈([z,TO,i1,i2]:List Addr),FpOk X pins H b:=fun b hb=>hf b (by
   simp only [aF,bq,cS] at hb ⊢
   rcases hb with q | q | q | q
   ·exact .inl q
   ·exact .inr (.inl q)
   ·exact .inr (.inr (.inl q))
   ·exact .inr (.inr (.inr (.inl q))))
  have ntr:∀ b o,H b=some o->b∉([z,TO,i1,i2]:List Addr):=fun b o e hb=>by
   have:=(nch b hb).1
   rw[e] at this; cases this
  have kp:∀ b o,b∉([z,TO,i1,i2]:List Addr)->s.heap.get? b=some o->h''.get? b=some o:=fun b o hb e=>by
   simp only [aF,bq,cS,iE] at hb
   exact(sb.2 b hb.1).trans (a7 b o hb.1 hb.2.1 hb.2.2.1 hb.2.2.2 e)
  have nz:s.heap.objs.size≠z:=cF (ao hz)
  have hT2:h''.get? s.heap.objs.size=some { cls:= .type "tuple",data:= .seq #[u,v]} :=(sb.2 _ nz).trans a5
  have I2:Inv X pins σ (upd H s.heap.objs.size (.tup [x,y])) { s with heap:=h''} :=by
   refine I.step (g':=s.gens) (d':=s.drawn) (t':=s.toks) (ch:=[z,TO,i1,i2]) (fun b hb=>?_) (fun b o _ _ hb e _=>kp b o hb e) (fun b o _ _ hb e _=>⟨o.slots,kp b o hb e⟩)
    (fun b o _ e n=>by rw[j8 (aO (ao e))]; exact n) (fun b o hb e=>⟨o,kp b o hb e⟩) (fun b ws e=>by rw[j8 (j9 e fresh)]; exact e) (fun b o ws e=>by rw[j8 (j9 e fresh)]; exact e)
    (fun b ps e=>⟨#[],by rw[j8 (j9 e fresh),e]; simp⟩) (fun m hm=>?_) (fun b o e=>?_) I.bare
   ·obtain⟨f0,f1,f2,f3,f4,f5⟩:=nch b hb
    exact⟨f3,f1,f4,f5⟩
   ·obtain⟨o,es,ep,ho,r⟩:=hm
    exact⟨o,es,ep,kp _ o (fun hb=>(nch _ hb).2.1 rfl) ho,r⟩
   ·by_cases hb:b=s.heap.objs.size
    ·subst hb
     rw[j5] at e
     cases e
     exact⟨by rw[db]; show 2<=_; decide,[u,v], .cons ru (.cons rv .nil),0,hT2⟩
    ·rw[j8 hb] at e
     refine(I.hok b o e).stay (fun c w hc q=>kp c w ?_ q) (fun c q=>by rw[j8 (j9 q fresh)]; exact q) (fun c ws q=>by rw[j8 (j9 q fresh)]; exact q)
     rcases hc with rfl | hc
     ·exact ntr _ _ e
     ·exact ntr _ _ hc
  refine⟨.ref s.heap.objs.size,_,I2,rfl,⟨_,x,y,fresh,rfl,rfl,fun xs' ys' q1 q2=>⟨by rw[I.sq_inj q1 hq1]; exact hx,by rw[I.sq_inj q2 hq2]; exact hy⟩⟩,⟨b1,?_,⟨u,v,?_⟩,?_,?_⟩,fun b hb=>?_⟩
  ·exact kp TI _ (by simp [D.TIz,D.TITO,D.TIi1,D.TIi2]) hTI
  ·exact(sb.2 TO D.TOz).trans a2
  ·exact a3.at fun o e=>(sb.2 i1 D.i1z).trans e
  ·exact a4.at fun o e=>(sb.2 i2 D.i2z).trans e
  ·rw[j8 (fun q=>by
    obtain⟨o,eo⟩:∃ o,s.heap.get? b=some o:=by
     simp only [aF,bq,cS] at hb
     rcases hb with rfl | rfl | rfl | rfl | rfl
     ·exact⟨_,hz⟩
     ·exact⟨_,hTO⟩
     ·obtain⟨o,e,_⟩:=h1.obj; exact⟨o,e⟩
     ·obtain⟨o,e,_⟩:=h2.obj; exact⟨o,e⟩
     ·exact⟨_,hTI⟩
    exact absurd (ao eo) (by rw[q]; exact ce _))]
   exact(hf b hb).1
 done:=by
  intro X hP hw hK hc i pins s σ H E I hf st hg
  subst hP hw hK
  obtain⟨xs,ys,hq1,hq2,hend⟩:=hg
  obtain⟨hz,hTI,⟨a,c,hTO⟩,h1,h2⟩:=st
  obtain⟨its1,r1,p1,_⟩:=I.sq hq1
  obtain⟨its2,r2,p2,_⟩:=I.sq hq2
  have e1:=r1.length
  have e2:=r2.length
  refine jGN (I.ok.hd hc) D hz hTI hTO h1 h2 p1 p2 (by
   rcases hend with q | q
   ·exact .inl (by simp; omega)
   ·exact .inr (by simp; omega)) fun h' kp=>⟨rfl,?_⟩
  have nch:∀ b∈([z,TO,i1,i2]:List Addr),FpOk X pins H b:=fun b hb=>hf b (by
   simp only [aF,bq,cS] at hb ⊢
   rcases hb with q | q | q | q
   ·exact .inl q
   ·exact .inr (.inl q)
   ·exact .inr (.inr (.inl q))
   ·exact .inr (.inr (.inr (.inl q))))
  have kp2:∀ b o,b∉([z,TO,i1,i2]:List Addr)->s.heap.get? b=some o->h'.get? b=some o:=fun b o hb e=>by
   simp only [aF,bq,cS,iE] at hb
   exact kp b o hb.1 hb.2.1 hb.2.2.1 hb.2.2.2 e
  have ntr:∀ b o,H b=some o->b∉([z,TO,i1,i2]:List Addr):=fun b o e hb=>by
   have:=(nch b hb).1
   rw[e] at this; cases this
  refine I.step (g':=s.gens) (d':=s.drawn) (t':=s.toks) (ch:=[z,TO,i1,i2]) (fun b hb=>?_) (fun b o _ _ hb e _=>kp2 b o hb e) (fun b o _ _ hb e _=>⟨o.slots,kp2 b o hb e⟩)
   (fun b o _ e n=>n) (fun b o hb e=>⟨o,kp2 b o hb e⟩) (fun b ws e=>e) (fun b o ws e=>e) (fun b ps e=>⟨#[],by rw[e]; simp⟩) (fun m hm=>?_) (fun b o e=>?_) I.bare
  ·obtain⟨f0,f1,f2,f3,f4,f5⟩:=nch b hb
   exact⟨f3,f1,f4,f5⟩
  ·obtain⟨o,es,ep,ho,r⟩:=hm
   exact⟨o,es,ep,kp2 _ o (fun hb=>(nch _ hb).2.1 rfl) ho,r⟩
  ·refine(I.hok b o e).stay (fun c w hc q=>kp2 c w ?_ q) (fun _ q=>q) fun _ _ q=>q
   rcases hc with rfl | hc
   ·exact ntr _ _ e
   ·exact ntr _ _ hc
 self:=fun _ _ _ _ _ st h=>wpAny_pyIter_zip st.1 h
def iZip (K:W.Frag)(ta:TA):TI:=fun σ H R=>ta σ H fun vs H1=>∃ t1 t2 l1 l2,vs=[.ref l1, .ref l2]/\(∃ xs,Sq t1 K H1 l1 xs)/\(∃ ys,Sq t2 K H1 l2 ys)/\R (Itz t1 t2 K l1 l2) H1
theorem jQS {a b:Expr}{ta:TA}{p pos:Pos}{elts:List Expr}{x1:Nat}{tp:Pos}(hg:Gl X "zip")(hm:X.mg "zip" =none)(ha:PA X [a,b] ta)(hv:bootBuiltins "zip" =some (.type "zip"):=by decide+kernel)
  (he:starEach [a,b] X.env=(false,eval a X.env)::starEach [b] X.env:=by rfl) (hpl:(backTo pos (starEach [b] X.env)).any (·.1)=false:=by rfl):
  PI X (.Tuple elts x1 tp) (.Call (.Name "zip" p) [a,b] [] pos) (iZip X.K ta):=by
 intro pins s σ H R I h
 refine Call_ (jCM I hg hm hv (cw (thn (ha pos pins s σ H _ I h) fun us s1 ⟨vs,H1,I1,r1,q1⟩=>?_) he hpl))
 obtain⟨t1,t2,l1,l2,rfl,⟨xs,hq1⟩,⟨ys,hq2⟩,q⟩:=q1
 obtain⟨u,v,rfl,ru,rv⟩:=r1.two
 cases ru
 cases rv
 obtain⟨its1,_,p1,_⟩:=I1.sq hq1
 obtain⟨its2,_,p2,_⟩:=I1.sq hq2
 have lt1:l1<s1.heap.objs.size:=p1.lt
 have lt2:l2<s1.heap.objs.size:=p2.lt
 refine jLC p1 p2 fun h' a1 a2 a3 a4 a5 kp=>?_
 have I2:Inv X pins σ H1 { s1 with heap:=h'} :=I1.kept (t':=s1.toks) kp
 have D:ZipApart (s1.heap.objs.size+4) (s1.heap.objs.size+2) (s1.heap.objs.size+3) s1.heap.objs.size (s1.heap.objs.size+1) l1 l2:=zipApart_new lt1 lt2
 refine wpAny_pyIter_zip a1 ⟨s1.heap.objs.size+4,[s1.heap.objs.size+4,s1.heap.objs.size+3,s1.heap.objs.size,s1.heap.objs.size+1,s1.heap.objs.size+2],_,Itz t1 t2 X.K l1 l2,H1,rfl,I2,jLT t1 t2 l1 l2 _ _ _ _ _ D,⟨a1,a2,⟨_,_,a3⟩,a4,a5⟩,fun b hb=>?_,q⟩
 have hge:s1.heap.objs.size<=b:=by
  simp only [aF,bq,cS] at hb
  rcases hb with rfl | rfl | rfl | rfl | rfl
  ·exact dM _ 4
  ·exact dM _ 3
  ·exact ai _
  ·exact dM _ 1
  ·exact dM _ 2
 exact I1.fpOk hge (I1.hok.fresh hge)
end
structure JE (X:Cx)(e:Expr)(t:TE):Prop where
 h:PE X e t
structure JA (X:Cx)(es:List Expr)(t:TA):Prop where
 h:PA X es t
structure JT (X:Cx)(e:Expr)(t:TT):Prop where
 h:PT X e t
structure JTs (X:Cx)(e:List Expr)(t:TT):Prop where
 h:PTs X e t
structure JS (X:Cx)(e:Stmt)(t:TS):Prop where
 h:PS X e t
structure JSs (X:Cx)(e:List Stmt)(t:TS):Prop where
 h:PSs X e t
structure JG (X:Cx)(e:Expr)(t:TG):Prop where
 h:PG X e t
structure JGs (X:Cx)(e:List Expr)(t:TGs):Prop where
 h:PGs X e t
structure JI (X:Cx)(tg e:Expr)(t:TI):Prop where
 h:PI X tg e t
structure JO (X:Cx)(e:Option Expr)(t:TO):Prop where
 h:PO X e t
structure Loc1 (X:Cx)(x:Str):Prop where
 a:Loc X.env.scope x
 b:X.fn x=true\/X.env.scope.names.lookup x=some .local
structure Vis1 (X:Cx)(x:Str):Prop where
 a:Vis X.env.scope x
structure Gl1 (X:Cx)(x:Str):Prop where
 a:Gl X x
section
variable {a b:Expr}{pos:Pos}{xs:List Expr}{o:Option Expr}{l:Nat}{env:Env}
structure SwOk (e:Expr)(o:Option Expr):Prop where
 h:∀ l env,swapsWith e o l env=pure false
theorem jNB {op:Operator} :SwOk (.BinOp a op b pos) o:=⟨fun _ _=>rfl⟩
theorem jV {kw:List Keyword} :SwOk (.Call a xs kw pos) o:=⟨fun _ _=>rfl⟩
theorem jNA:SwOk (.Subscript a b pos) o:=⟨fun _ _=>rfl⟩
theorem jN9 {x1} :SwOk (.Tuple xs x1 pos) o:=⟨fun _ _=>rfl⟩
theorem jHB:SwOk (.List xs pos) o:=⟨fun _ _=>rfl⟩
theorem jEF {c k} :SwOk (.Constant c k pos) o:=⟨fun _ _=>rfl⟩
theorem jJQ {op:Operator} :jAP (.BinOp a op b pos):=fun _ _=>rfl
theorem jJP {kw:List Keyword} :jAP (.Call a xs kw pos):=fun _ _=>rfl
theorem jJ {i:Int}{k} :jAP (.Constant (.int i) k pos):=fun _ _=>rfl
theorem jD7 {x:Str} :jAP (.Name x pos):=fun _ _=>rfl
theorem jQK:jAP (.Subscript a b pos):=fun _ _=>rfl
structure FoOk (iter:Expr):Prop where
 h:∀ env x,foldedSetIterable iter env x=pure x
theorem y8 {kw:List Keyword} :FoOk (.Call a xs kw pos):=⟨fun _ _=>rfl⟩
theorem jAF {x:Str} :FoOk (.Name x pos):=⟨fun _ _=>rfl⟩
theorem jNY:FoOk (.Subscript a b pos):=⟨fun _ _=>rfl⟩
structure TvOk (e:Expr):Prop where
 h:∀ env whole,isTrue e env whole=(do let v <- whole; standAt e.pos; holding [v] (truthy v))
theorem kN {kw:List Keyword} :TvOk (.Call a xs kw pos):=⟨fun _ _=>rfl⟩
end
section
variable {X:Cx}{a b e o:Expr}{ta tb te to:TE}{es:List Expr}{t:TA}{pos p p2 cpos apos:Pos}{x:Str}{T:String}{id:String}
theorem jv (i:Nat)(hN:X.N[i]?=some x)(hv:Vis1 X x)(hd:(x==("__debug__" :Str))=false:=by decide)(hcd:(x==("__classdict__" :Str))=false:=by decide):JE X (.Name x pos) (tVar i):=⟨jJW hN hv.a hd hcd⟩
theorem je_int {i j} :JE X (.Constant (.int i) j pos) (tC (.int i)):=⟨jM⟩
theorem je_bl {i j} :JE X (.Constant (.bool i) j pos) (tC (.bl i)):=⟨pe_bl⟩
theorem yR {j} :JE X (.Constant .none j pos) (tC .non):=⟨jQZ⟩
theorem kO {v:V}{u:Value}(hg:Gl1 X x)(hm:X.mg x=none)(hv:bootBuiltins x=some u)(r:RelV v u)(hn:x≠ "__name__" :=by decide)(hd:(x==("__debug__" :Str))=false:=by decide):JE X (.Name x pos) (tC v):=⟨jOY hg.a hm hv r hn hd⟩
theorem kY {op:Operator}{r:R2}(ho:OpR X (binaryOp op) r)(ha:JE X a ta)(hb:JE X b tb):JE X (.BinOp a op b pos) (tOp r ta tb):=⟨kL ho ha.h hb.h⟩
theorem je_un {op:UnaryOp}{r:V->Hp->VK->Prop}(ho:UnR X (unaryOp op) r)(ha:JE X a ta):JE X (.UnaryOp op a pos) (tUn r ta):=⟨pe_un ho ha.h⟩
theorem jNU (ha:JE X a ta):JE X (.UnaryOp .Not a pos) (tNotV ta):=⟨jQY ha.h⟩
theorem yC {op:CmpOp}{r:R2}(ho:OpR X (compareOp op) r)(ha:JE X a ta)(hb:JE X b tb)(hm:behindInMarks op b=false):JE X (.Compare a [op] [b] pos) (tOp r ta tb):=⟨jOV ho ha.h hb.h hm⟩
theorem jBA {rest:List Expr}(ha:JE X a ta)(hb:JE X (.BoolOp .And (b::rest) pos) tb):JE X (.BoolOp .And (a::b::rest) pos) (tAndV ta tb):=⟨jR3 ha.h hb.h⟩
theorem je_or {rest:List Expr}(ha:JE X a ta)(hb:JE X (.BoolOp .Or (b::rest) pos) tb):JE X (.BoolOp .Or (a::b::rest) pos) (tOrV ta tb):=⟨pe_or ha.h hb.h⟩
theorem yW {op}(ha:JE X a ta):JE X (.BoolOp op [a] pos) ta:=⟨jQX ha.h⟩
theorem jKK (h:JA X es t):JE X (.List es pos) (tLst t):=⟨jHK h.h⟩
theorem jHS {x1}(h:JA X es t):JE X (.Tuple es x1 pos) (tTup t):=⟨jQW h.h⟩
theorem jEW {lo hi:Option Expr}{tl th:TO}{r:V->Option Int->Option Int->Hp->VK->Prop}(hr:SlR X r)(he:JE X e te)(hl:JO X lo tl)(hu:JO X hi th):JE X (.Subscript e (.Slice lo hi none p2) pos) (tSl r te tl th):=⟨jM3 hr he.h hl.h hu.h⟩
theorem jZ {r:R2}(hr:IxR X r)(ha:JE X a ta)(hb:JE X b tb)(hs:jAP b):JE X (.Subscript a b pos) (tOp r ta tb):=⟨pe_ix hr ha.h hb.h hs⟩
theorem kR {T}{r:List V->Hp->VK->Prop}(hc:yO X (.type T) r)(hg:Gl1 X x)(hm:X.mg x=none)(hv:bootBuiltins x=some (.type T))(ha:JA X (e::es) t)(he:starEach (e::es) X.env=(false,eval e X.env)::starEach es X.env)(hn:x≠ "__name__" :=by decide)(hdb:(x==("__debug__" :Str))=false:=by decide)
  (hpl:(backTo pos (starEach es X.env)).any (·.1)=false:=by rfl):JE X (.Call (.Name x p) (e::es) [] pos) (tCB r t):=⟨jBN hc hg.a hm hv ha.h hn hdb he hpl⟩
theorem jD {id}{r:List V->Hp->VK->Prop}(hc:yO X (.builtin id) r)(hg:Gl1 X x)(hm:X.mg x=none)(hv:bootBuiltins x=some (.builtin id))(ha:JA X (e::es) t)(he:starEach (e::es) X.env=(false,eval e X.env)::starEach es X.env)(hn:x≠ "__name__" :=by decide)(hdb:(x==("__debug__" :Str))=false:=by decide)
  (hpl:(backTo pos (starEach es X.env)).any (·.1)=false:=by rfl):JE X (.Call (.Name x p) (e::es) [] pos) (tCB r t):=⟨jEP hc hg.a hm hv ha.h hn hdb he hpl⟩
theorem j6:JA X [] tNil:=⟨yD⟩
theorem j3 (ha:JE X e te)(hr:JA X es t)(hs:starEach (e::es) X.env=(false,eval e X.env)::starEach es X.env):JA X (e::es) (tCons te t):=⟨jW ha.h hr.h hs⟩
theorem jT {op:CmpOp}{r:R2}(ho:OpR X (compareOp op) r)(ha:JE X a ta)(hb:JE X b tb)(hm:behindInMarks op b=false):JT X (.Compare a [op] [b] pos) (tTest (tOp r ta tb)):=⟨jD8 ho ha.h hb.h hm⟩
theorem y6 (h:JE X e te)(he:TvOk e):JT X e (tB te):=⟨jQN h.h (he.h _)⟩
theorem yF {tA:TT}(ha:JT X a tA):JT X (.UnaryOp .Not a pos) (tNot tA):=⟨jQO ha.h⟩
theorem yB:JTs X [] yP:=⟨jJS⟩
theorem jEV {t:TT}(h:JT X e t):JTs X [e] t:=⟨jJR h.h⟩
theorem kI {i:Nat}(hN:X.N.Nodup)(hi:X.N[i]?=some x)(hx:Loc1 X x):JG X (.Name x pos) (yA i):=⟨jEO hN hi hx.a hx.b⟩
theorem jAJ {tg:Expr}(hg:Gl1 X "range")(hm:X.mg "range" =none)(ha:JA X [a] t)(hs:starEach [a] X.env=(false,eval a X.env)::starEach [] X.env):JI X tg (.Call (.Name "range" p) [a] [] pos) (iRng1 t):=⟨jBM hg.a hm ha.h hs⟩
theorem jAR {tg:Expr}(hl:JE X a ta):JI X tg a (iList X.K ta):=⟨jOO hl.h⟩
theorem jCN {tg:Expr}(hl:JE X a ta):JI X tg a (iTup X.K ta):=⟨jQT hl.h⟩
theorem jNS {elts:List Expr}{x1:Nat}{tp:Pos}(hg:Gl1 X "zip")(hm:X.mg "zip" =none)(ha:JA X [a,b] t)(he:starEach [a,b] X.env=(false,eval a X.env)::starEach [b] X.env)(hv:bootBuiltins "zip" =some (.type "zip"):=by decide+kernel)
  (hpl:(backTo pos (starEach [b] X.env)).any (·.1)=false:=by rfl):JI X (.Tuple elts x1 tp) (.Call (.Name "zip" p) [a,b] [] pos) (iZip X.K t):=⟨jQS hg.a hm ha.h hv he hpl⟩
theorem jGY:JO X none jJE:=⟨jOL⟩
theorem jGX (h:JE X e te):JO X (some e) (tPart te):=⟨jOK h.h⟩
theorem jS {i:Nat}{pos':Pos}(hN:X.N.Nodup)(hi:X.N[i]?=some x)(hx:Loc1 X x)(he:JE X e te)(hs:SwOk e (some (.Name x pos'))):JS X (.Assign [.Name x pos'] e pos) (tAsg te (yA i)):=⟨yU hN hi hx.a he.h (hs.h _ _) hx.b⟩
theorem jH (he:JE X e te):JS X (.Return (some e) pos) (tRet te):=⟨jCI he.h⟩
theorem jDH (he:JE X e te)(hs:SwOk e none):JS X (.Expr e pos) (tDrop te):=⟨jOH he.h (hs.h _ _)⟩
theorem jQ:JSs X [] tNext:=⟨jEN⟩
theorem jC {st:Stmt}{t:TS}(h1:JS X st t):JSs X [st] t:=⟨jAO h1.h⟩
theorem jA {st:Stmt}{rest:List Stmt}{t u:TS}(h1:JS X st t)(h2:JSs X rest u):JSs X (st::rest) (tSeq t u):=⟨kQ h1.h h2.h⟩
theorem kU {c:Expr}{a b:List Stmt}{tc:TT}{t u:TS}(hc:JT X c tc)(ha:JSs X a t)(hb:JSs X b u):JS X (.If c a b pos) (tIfS tc t u):=⟨ps_if hc.h ha.h hb.h⟩
theorem jBQ {tg iter:Expr}{body:List Stmt}{wi:TI}{g:TG}{tb:TS}(hp:PassesOwn (model X.prog X.w) X.A X.env X.xe)(hc:X.calm=true)(hi:JI X tg iter wi)(hg:JG X tg g)(hb:JSs X body tb)(hs:FoOk iter):JS X (.For tg iter body [] pos) (tFor wi g tb):=⟨jNI hp hc hi.h hg.h hb.h (hs.h _)⟩
theorem je_bm {T:String}{name:Str}{r}(pa:PlainAttrs T)(slot:Slot T name id)(hty:typeOf (.builtin id)=pure (.type "method_descriptor"))(hm:MtR X id r)(ho:JE X o to)(ha:JA X (e::es) t)
  (hs:starEach (e::es) X.env=(false,eval e X.env)::starEach es X.env)
  (hbase:attributeBase o name X.env (eval o X.env)=eval o X.env:=by rfl)
  (hfew:((backTo cpos (starEach (e::es) X.env)).all (fun x=>!x.1)&&(backToKw cpos (keywordEach [] X.env)).all (fun x=>x.1.isSome)
   &&decide ((e::es).length+([]:List Keyword).length+(if ([]:List Keyword).isEmpty then 0 else 1)<30))=true:=by rfl)
  (hline:(apos.endLine==cpos.line)=true:=by rfl) (hplain:(backTo cpos (starEach es X.env)).any (·.1)=false:=by rfl):
  JE X (.Call (.Attribute o name apos) (e::es) [] cpos) (tBM X.K T r to t):=⟨pe_bm pa slot hty hm ho.h ha.h hbase hfew hline hs hplain⟩
theorem kW {tg iter elt:Expr}{ifs:List Expr}{sc:Scope}{wi:TI}{g:TG}{tt:TT}{m:List (Option Nat)}{Nc:List Str}(hc:X.calm=true)(hi:JI X tg iter wi)(hkind:sc.kind= .function)(hcell:∀ y∈sc.names,y.2≠ .cell)(hnames:∀ y∈sc.names,y.2= .local->sc.names.lookup y.1=some .local)
  (hfree:∀ y∈sc.names,y.2= .free->X.env.scope.names.lookup y.1=some .cell\/X.env.scope.names.lookup y.1=some .free) (hm:jCS X sc Nc m)
  (hg:∀ cl C fp s H,JG (blk X sc cl C Nc fp s H) tg g) (ht:∀ cl C fp s H,JTs (blk X sc cl C Nc fp s H) ifs tt) (he:∀ cl C fp s H,JE (blk X sc cl C Nc fp s H) elt te)
  (hs:FoOk iter):JE X (.ListComp elt [⟨tg,iter,ifs,0⟩] sc pos) (tComp m wi g tt te):=⟨jGO hc hi.h hkind hcell hnames hfree hm (fun cl C fp s H=>(hg cl C fp s H).h) (fun cl C fp s H=>(ht cl C fp s H).h) (fun cl C fp s H=>(he cl C fp s H).h) (hs.h _)⟩
theorem jRM {p1 p2 p3 p4 p5 p6 p7:Pos}{k1 k2 k3 k4:Nat} :JE X (.BinOp (.BinOp (.Constant (.int 2) k1 p1) .Mult (.BinOp (.Constant (.int 10) k2 p2) .Pow (.Constant (.int 12) k3 p3) p4) p5) .Add (.Constant (.int 1) k4 p6) p7) (tC (.int 2000000000001)):=⟨jR2⟩
end
section
variable {P:Program}{w:World}{K:W.Frag}{mg:Str->Option Value}{base:Heap}{N:List Str}{qual:Str}{sc:Scope}{f:Addr}{cdv:Value}{A:Around}{outer:List Env}{s:Shared}{H:Hp}{E:XK}{x:Str}
theorem gl_d (h:sc.names.lookup x=some .globalImplicit):Gl1 (cxOf CX0 P w K mg base N qual sc f cdv A outer s H E).nox x:=⟨h⟩
theorem gD (h:sc.names.lookup x=some .globalImplicit:=by decide+kernel):Gl1 (cxOf CX0 P w K mg base N qual sc f cdv A outer s H E).nox x:=gl_d h
theorem vis_l (h:sc.names.lookup x=some .local):Vis1 (cxOf CX0 P w K mg base N qual sc f cdv A outer s H E).nox x:=⟨.inl h⟩
theorem vL (h:sc.names.lookup x=some .local:=by decide+kernel):Vis1 (cxOf CX0 P w K mg base N qual sc f cdv A outer s H E).nox x:=vis_l h
theorem vis_c (h:sc.names.lookup x=some .cell):Vis1 (cxOf CX0 P w K mg base N qual sc f cdv A outer s H E).nox x:=⟨.inr (.inl h)⟩
theorem vC (h:sc.names.lookup x=some .cell:=by decide+kernel):Vis1 (cxOf CX0 P w K mg base N qual sc f cdv A outer s H E).nox x:=vis_c h
end
theorem jAI {env:Env}{x:Str}{k:NameKind}(hk:k≠ .free):∀ {l:List (Str×NameKind)},l.lookup x=some k->
  (l.map fun (n,k)=>if (k==NameKind.free&&env.scope.kind== .function&&env.kindOf n==some .cell) then (n,NameKind.cell) else (n,k)).lookup x=some k
 | [],h=>by cases h
 | (n,k')::r,h=>by
  have ih:= @jAI env x k hk r
  rw[bi] at h
  rw[be]
  dsimp only
  by_cases hb:(k'==NameKind.free&&env.scope.kind== .function&&env.kindOf n==some .cell)=true
  ·rw[am hb,bi]
   cases hx:x==n with
   | true=>
    rw[hx] at h
    have e:k'=k:=bx h
    simp only [bC] at hb
    exact absurd (e.symm.trans (eq_of_beq hb.1.1)) hk
   | false=>rw[hx] at h; exact ih h
  ·rw[ak hb,bi]
   cases hx:x==n with
   | true=>rw[hx] at h; exact h
   | false=>rw[hx] at h; exact ih h
section
variable {X:Cx}{sc:Scope}{cl:List (Str×Addr)}{C:Addr}{Nc:List Str}{fp:List Addr}{s:Shared}{H:Hp}{x:Str}
theorem gl_b (h:sc.names.lookup x=some .globalImplicit):Gl1 (blk X sc cl C Nc fp s H) x:=⟨jAI (by decide) h⟩
theorem kE (h:sc.names.lookup x=some .local):Vis1 (blk X sc cl C Nc fp s H) x:=⟨.inl (jAI (by decide) h)⟩
theorem yL (h:sc.names.lookup x=some .free):Vis1 (blk X sc cl C Nc fp s H) x:=⟨.inr (jC8 h)⟩
theorem yV (h:sc.names.lookup x=some .local):Loc1 (blk X sc cl C Nc fp s H) x:=⟨.inl (jAI (by decide) h), .inr (jAI (by decide) h)⟩
end
section
variable {P:Program}{w:World}{K:W.Frag}{mg:Str->Option Value}{base:Heap}{N:List Str}{qual:Str}{sc:Scope}{f:Addr}{cdv:Value}{A:Around}{outer:List Env}{s:Shared}{H:Hp}{E:XK}{x:Str}
theorem loc_l (h:sc.names.lookup x=some .local):Loc1 (cxOf CX0 P w K mg base N qual sc f cdv A outer s H E).nox x:=⟨.inl h, .inl rfl⟩
theorem lL (h:sc.names.lookup x=some .local:=by decide+kernel):Loc1 (cxOf CX0 P w K mg base N qual sc f cdv A outer s H E).nox x:=loc_l h
theorem loc_c (h:sc.names.lookup x=some .cell):Loc1 (cxOf CX0 P w K mg base N qual sc f cdv A outer s H E).nox x:=⟨.inr h, .inl rfl⟩
end
structure JW (X:Cx)(e:Expr)(t:TT):Prop where
 h:PW X e t
section
variable {X:Cx}{a b:Expr}{rest:List Expr}{pos:Pos}{tA tB':TT}
theorem jPJ (ha:JT X a tA):JW X (.BoolOp .And [a] pos) tA:=⟨jOE ha.h⟩
theorem jB9 (ha:JT X a tA):JW X (.BoolOp .Or [a] pos) tA:=⟨jQL ha.h⟩
theorem jRI (ha:JT X a tA)(hb:JW X (.BoolOp .And (b::rest) pos) tB'):JW X (.BoolOp .And (a::b::rest) pos) (tAnd tA tB'):=⟨jQM ha.h hb.h⟩
theorem qJ (ha:JT X a tA)(hb:JW X (.BoolOp .Or (b::rest) pos) tB'):JW X (.BoolOp .Or (a::b::rest) pos) (tOr tA tB'):=⟨pw_or ha.h hb.h⟩
theorem jt_w (h:JW X a tA):JT X a tA:=⟨h.h.pt⟩
theorem jKJ:JGs X [] gNil:=⟨jOQ⟩
structure AsOk (e:Expr):Prop where
 h:∀ es env,assignEach (e::es) env=(false,assign e env)::assignEach es env
theorem jF7 {x:Str} :AsOk (.Name x pos):=⟨fun _ _=>rfl⟩
theorem jD0 {e:Expr}{es:List Expr}{t:TG}{u:TGs}(h1:JG X e t)(h2:JGs X es u)(hs:AsOk e):JGs X (e::es) (gCons t u):=⟨jM2 h1.h h2.h (by rw[hs.h]; rfl)⟩
theorem jNT {es:List Expr}{k:Nat}{t:TGs}{n:Nat}(hc:X.calm=true)(h:JGs X es t)(hn:(assignEach es X.env).length=n:=by rfl)(hst:(assignEach es X.env).findIdx? (·.1)=none:=by rfl):JG X (.Tuple es k pos) (gTup X.K n t):=⟨jQU hc h.h hn hst⟩
theorem jGQ {op:CmpOp}{x:Str} :behindInMarks op (.Name x pos)=false:=by cases op <;> rfl
end
theorem jAS {X:Cx}{sc:Scope}{cl:List (Str×Addr)}{C:Addr}{Nc:List Str}{fp:List Addr}{s:Shared}{H:Hp}{x y:Str}{p1 p2 pos:Pos}{k:Nat}{i j:Nat}(hc:X.calm=true)(hN:Nc.Nodup)(hi:Nc[i]?=some x)(hj:Nc[j]?=some y)(hx:sc.names.lookup x=some .local)(hy:sc.names.lookup y=some .local):
  JG (blk X sc cl C Nc fp s H) (.Tuple [.Name x p1, .Name y p2] k pos) (gTup X.K 2 (gCons (yA i) (gCons (yA j) gNil))):=
 jNT (X:=blk X sc cl C Nc fp s H) hc (jD0 (kI hN hi (yV hx)) (jD0 (kI hN hj (yV hy)) jKJ jF7) jF7)
section
variable {K:W.Frag}{m:List (Option Nat)}{g:TG}{tt:TT}{te:TE}{σ:St}{H1:Hp}{Q:VK}
theorem jI1 {t1 t2:Bool}{l1 l2:Addr}{xs ys:List V}(hn:xs.length<sizeLine)(Pv:Addr->Nat->St->Hp->List V->Prop)(h0:∀ D,H1 D=none->Pv D 0 (blkσ m σ) (upd H1 D (.lst [])) [])
  (hD:∀ D i σ' H' zs,H1 D=none->Pv D i σ' H' zs->Sq t1 K H' l1 xs/\Sq t2 K H' l2 ys/\H' D=some (.lst zs)/\zs.length<=i)
  (hs:∀ D i σ' H' zs x y T,H1 D=none->xs[i]?=some x->ys[i]?=some y->H' T=none->Pv D i σ' H' zs->g (.ref T) σ' (upd H' T (.tup [x,y])) fun σ2 H2=>tt σ2 H2 fun b H3=>if b=true then te σ2 H3 fun v H4=>H4 D=some (.lst zs)/\Pv D (i+1) σ2 (upd H4 D (.lst (zs++[v]))) (zs++[v]) else Pv D (i+1) σ2 H3 zs)
  (hd:∀ D σ' H' zs,H1 D=none->Pv D (min xs.length ys.length) σ' H' zs->Q (.ref D) H'):qG m g tt te σ Q (Itz t1 t2 K l1 l2) H1:=by
 intro D hDn
 refine⟨fun i k σ' H' zs=>k=min xs.length ys.length - i/\i<=min xs.length ys.length/\Pv D i σ' H' zs,⟨_,rfl,aY _,h0 D hDn⟩,?_⟩
 rintro i k σ' H' zs ⟨rfl,hi,p⟩
 obtain⟨s1,s2,q1,q2⟩:=hD D i σ' H' zs hDn p
 refine⟨q1,by omega,?_⟩
 by_cases hlt:i<min xs.length ys.length
 ·have a1:i<xs.length:=by omega
  have a2:i<ys.length:=by omega
  refine .inr ⟨⟨xs,ys,xs[i],ys[i],s1,s2,by simp [a1],by simp [a2]⟩,Pv D (i+1),fun σ2 H2 zs z=>⟨min xs.length ys.length - (i+1),by omega,rfl,hlt,z⟩,fun v H'' y=>?_⟩
  obtain⟨T,x,y,e1,e2,e3,e4⟩:=y
  subst e2 e3
  obtain⟨z1,z2⟩:=e4 xs ys s1 s2
  exact hs D i σ' _ zs x y T hDn z1 z2 e1 p
 ·have e:i=min xs.length ys.length:=by omega
  subst e
  exact .inl ⟨⟨xs,ys,s1,s2,by omega⟩,hd D σ' H' zs hDn p⟩
end
section
variable {X:Cx}{sc:Scope}{cl:List (Str×Addr)}{C:Addr}{Nc:List Str}{fp:List Addr}{s:Shared}{H:Hp}
theorem jJZ:OpR (blk X sc cl C Nc fp s H) (compareOp .In) (rIn X.K false):=jDB
theorem jIL:OpR (blk X sc cl C Nc fp s H) (compareOp .NotIn) (rIn X.K true):=jFO
theorem jBS:IxR (blk X sc cl C Nc fp s H) (rIxT X.K):=jY
end
def Ext (H H':Hp):Prop:=∀ b o,H b=some o->H' b=some o
theorem Ext.refl (H:Hp):Ext H H:=fun _ _ h=>h
theorem Ext.trans {H H1 H2:Hp}(a:Ext H H1)(b:Ext H1 H2):Ext H H2:=fun c o h=>b c o (a c o h)
theorem Ext.new {H H1:Hp}{l:Addr}(a:Ext H H1)(hl:H1 l=none)(o:HO):Ext H (upd H1 l o):=fun c u h=>by
 have:=a c u h
 rw[j8 (j9 this hl)]
 exact this
theorem Ext.updNew {H H1:Hp}{l:Addr}(a:Ext H H1)(hl:H l=none)(o:HO):Ext H (upd H1 l o):=fun c u h=>by
 rw[j8 (j9 h hl)]
 exact a c u h
def TupR (H:Hp)(xs:List V)(Q:VK):Prop:=∀ r H',H' r=some (.tup xs)->Ext H H'->Q (.ref r) H'
theorem TupR.new {H:Hp}{xs:List V}{Q:VK}(q:TupR H xs Q){p:Addr}(hp:H p=none):Q (.ref p) (upd H p (.tup xs)):=q p _ j5 ((Ext.refl H).new hp _)
theorem TupR.old {H:Hp}{xs:List V}{Q:VK}(q:TupR H xs Q){p:Addr}(hp:H p=some (.tup xs)):Q (.ref p) H:=q p H hp (Ext.refl H)
section
variable {X:Cx}
def rCatU:R2:=fun x y H Q=>∃ a b xs ys,x= .ref a/\y= .ref b/\H a=some (.tup xs)/\H b=some (.tup ys)/\xs.length+ys.length<=sizeLine/\TupR H (xs++ys) Q
theorem jK1:OpR X (binaryOp .Add) rCatU:=by
 intro pins s σ H x y v u Q I rx ry h
 obtain⟨a,b,xs,ys,rfl,rfl,ha,hb,hz,q⟩:=h
 by_cases hx:xs=[]
 ·subst hx
  cases rx
  cases ry
  obtain⟨_,its,r1,n1,e1⟩:=I.hok a _ ha
  obtain⟨_,its2,r2,n2,e2⟩:=I.hok b _ hb
  cases r1
  exact concat_meets ⟨_,e1,rfl⟩ ⟨_,e2,rfl⟩ gx seq_tuple_add eh dZ (dS _ _) (AutoSeq1.tuple___add___tuple_tuple_0 a _ n1 b its2.toArray n2 (by simp)) ⟨e1,e2, .ref b,H,I,rfl,q.old hb⟩
 ·refine jOZ pins s σ H _ _ v u Q I rx ry ⟨a,b,xs,ys,rfl,rfl,SqT.of ha,SqT.of hb,hx,hz,fun e=>?_,fun _ p hp=>q.new hp⟩
  subst e
  rw[aZ] at q
  exact q.old ha
section
variable (l:Addr)(items:Array Value)(n:Nat)(x:Int)(u:Tok)(h1:¬ (decide (x< -(2 ^ 63)) || decide (x ≥ 2 ^ 63))=true)
include h1
end
theorem jC7 {prog:Program}{w:World}{A:Around}{E:Value->Shared->Prop}{s:Shared}{t sl:Addr}{items:Array Value}{n:Nat}{vl vu:Value}{lo hi:Option Int}{Q:Value->Shared->Prop}
  (e0:s.heap.get? t=some { cls:= .type "tuple",data:= .seq items n}) (hs:s.heap.IsSliceOf sl vl vu .none) (pl:IsPart vl lo) (pu:IsPart vu hi)
  (hw:HT.sIx items.size 0 lo=0/\HT.sIx items.size items.size hi=items.size) (h:Q (.ref t) s):wpAny (model prog w) A (getItem (.ref t) (.ref sl)) Q E s:=by
 have ht:IsTup s.heap t items:=⟨_,e0,rfl,n,rfl⟩
 obtain⟨os,hos,hcs,hds⟩:=id hs
 have hTs:s.TypeIs (.ref sl) "slice" :=⟨os,hos,hcs⟩
 unfold getItem
 try with_reducible refine bY ?_
 first | refine aa (af ?_) | skip
 refine aa (wpAny_sequenceKey ht.typeIs (by decide) (aa (bu (name:=Str.ofString "__getitem__") ht.typeIs bH
  (bv bH ht.typeIs entry_tuple_getitem (?_:wpAny (model prog w) _ (Builtin.Tuple.tupleItemsOf (.ref t) >>= _) _ _ s) (args_tuple_getitem _ _)))))
 refine aa (tupleItemsOf_ ht (aa (ek hTs ?_)))
 rw[am (by decide)]
 refine aa (HT.sliceApplied_gen hs pl pu ?_)
 have yes:(((HT.sIx items.size 0 lo:Nat):Int)==0&&(1:Int)==1&&(HT.sIx items.size items.size hi - HT.sIx items.size 0 lo)==items.size)=true:=by
  rw[hw.1,hw.2]
  simp
 show wpAny (model prog w) _ (if (((HT.sIx items.size 0 lo:Nat):Int)==0&&(1:Int)==1&&(HT.sIx items.size items.size hi - HT.sIx items.size 0 lo)==items.size)=true then _ else _) _ _ s
 rw[am yes]
 have ex:∀ {A:Around}{Q:Bool->Shared->Prop},Q true s->wpAny (model prog w) A (Builtin.Tuple.tupleIsExact (.ref t)) Q E s:=fun q=>by
  unfold Builtin.Tuple.tupleIsExact
  exact aa (ek ⟨_,e0,rfl⟩ (af q))
 refine aa (ex ?_)
 rw[am rfl]
 exact aa (cx (af ⟨_,rfl,af h⟩))
def rSlU:V->Option Int->Option Int->Hp->VK->Prop:=fun x lo hi H Q=>∃ a xs,x= .ref a/\H a=some (.tup xs)/\TupR H (cutV xs lo hi) Q
theorem jO9:SlR X rSlU:=by
 intro pins s σ H x v vl vu lo hi sl Q I rx hs pl pu h
 obtain⟨a,xs,rfl,hx,q⟩:=h
 by_cases hw:HT.sIx xs.length 0 lo=0/\HT.sIx xs.length xs.length hi=xs.length
 ·cases rx
  obtain⟨_,its,r,n,e⟩:=I.hok a _ hx
  have hlen:its.toArray.size=xs.length:=by rw[aA]; exact r.length.symm
  refine⟨"tuple",_,bH.lookup,⟨_,e,rfl⟩,jC7 e hs pl pu (by rw[hlen]; exact hw) ⟨.ref a,H,I,rfl,q.old ?_⟩⟩
  rw[hx]
  congr 2
  unfold cutV
  rw[hw.1,hw.2]
  simp
 ·exact jQF pins s σ H _ v vl vu lo hi sl Q I rx hs pl pu ⟨a,xs,rfl,SqT.of hx,hw,fun p hp=>q.new hp⟩
theorem Inv.big' {pins:List (Addr×Obj)}{σ:St}{H:Hp}{s:Shared}(I:Inv X pins σ H s):sysModules<s.heap.objs.size:=fu (by decide) (I.mod.glob.keeps I.bk).lt
def jQD:TE:=fun _ H Q=>∀ p,H p=none->Q (.ref p) (upd H p (.dK []))
theorem jHT {pos:Pos} :JE X (.Dict [] [] pos) jQD:=⟨fun pins s σ H Q I h=>
 wpAny_Dict_empty ⟨.ref s.heap.objs.size,_,I.laid (a:=s.heap.objs.size) (o:= .dK []) (t':=s.toks) (fun _ _ q=>ab _ q) (ai _)
  ⟨aY _,bS.mpr (dv (aO I.big')),[], .nil,Heap.DictOf.new s.heap⟩,rfl,h _ (I.hok.fresh (ai _))⟩⟩
theorem jMK {a b c:Expr}{ta tb tc:TE}{pos:Pos}{op op':CmpOp}{r r':R2}(ho:OpR X (compareOp op) r)(ho':OpR X (compareOp op') r')(ha:JE X a ta)(hb:JE X b tb)(hc:JE X c tc)
  (hm:lastMarks [op,op'] [b,c]=false:=by with_unfolding_all rfl):JE X (.Compare a [op,op'] [b,c] pos) (jN8 r r' ta tb tc):=⟨jM6 ho ho' ha.h hb.h hc.h hm⟩
theorem jKI {tg a b:Expr}{t:TA}{p pos:Pos}(hg:Gl1 X "range")(hm:X.mg "range" =none)(ha:JA X [a,b] t)(hs:starEach [a,b] X.env=(false,eval a X.env)::starEach [b] X.env)(hs2:starEach [b] X.env=(false,eval b X.env)::starEach [] X.env):
  JI X tg (.Call (.Name "range" p) [a,b] [] pos) (iRng2 t):=⟨jJV hg.a hm ha.h (by rw[hs,hs2]; rfl) hs2⟩
end
section
variable {K:W.Frag}{m:List (Option Nat)}{g:TG}{tt:TT}{te:TE}{σ:St}{H1:Hp}{Q:VK}
theorem jF3 {a:Addr}{xs:List V}(hn:xs.length<sizeLine)(Pv:Addr->Nat->St->Hp->List V->Prop)(h0:∀ D,H1 D=none->Pv D 0 (blkσ m σ) (upd H1 D (.lst [])) [])
  (hD:∀ D i σ' H' zs,H1 D=none->Pv D i σ' H' zs->H' a=some (.tup xs)/\H' D=some (.lst zs)/\zs.length<=i)
  (hs:∀ D i σ' H' zs x,H1 D=none->xs[i]?=some x->Pv D i σ' H' zs->g x σ' H' fun σ2 H2=>tt σ2 H2 fun b H3=>if b=true then te σ2 H3 fun v H4=>H4 D=some (.lst zs)/\Pv D (i+1) σ2 (upd H4 D (.lst (zs++[v]))) (zs++[v]) else Pv D (i+1) σ2 H3 zs)
  (hd:∀ D σ' H' zs,H1 D=none->Pv D xs.length σ' H' zs->Q (.ref D) H'):qG m g tt te σ Q (Itt K a) H1:=by
 intro D hDn
 refine⟨fun i k σ' H' zs=>k=xs.length - i/\i<=xs.length/\Pv D i σ' H' zs,⟨_,rfl,aY _,h0 D hDn⟩,?_⟩
 rintro i k σ' H' zs ⟨rfl,hi,p⟩
 obtain⟨s1,q1,q2⟩:=hD D i σ' H' zs hDn p
 refine⟨q1,by omega,?_⟩
 by_cases hlt:i<xs.length
 ·refine .inr ⟨⟨xs,xs[i],SqT.of s1,by simp [hlt]⟩,Pv D (i+1),fun σ2 H2 zs z=>⟨xs.length - (i+1),by omega,rfl,hlt,z⟩,fun v H'' y=>?_⟩
  obtain⟨e1,e2⟩:=y
  subst e1
  exact hs D i σ' _ zs v hDn (e2 xs (SqT.of s1)) p
 ·have e:i=xs.length:=by omega
  subst e
  exact .inl ⟨⟨xs,SqT.of s1,ai _⟩,hd D σ' H' zs hDn p⟩
end
inductive Tr where
 | non
 | bl (b:Bool)
 | int (i:Int)
 | str (x:Str)
 | lst (ts:List Tr)
 | tup (ts:List Tr)
mutual
def TAt (H:Hp):Tr->V->Prop
 | .non,v=>v= .non
 | .bl b,v=>v= .bl b
 | .int i,v=>v= .int i
 | .str x,v=>v= .str x
 | .lst ts,v=>∃ a vs,v= .ref a/\H a=some (.lst vs)/\TsAt H ts vs
 | .tup ts,v=>∃ a vs,v= .ref a/\H a=some (.tup vs)/\TsAt H ts vs
def TsAt (H:Hp):List Tr->List V->Prop
 | [],vs=>vs=[]
 | t::ts,vs=>∃ v r,vs=v::r/\TAt H t v/\TsAt H ts r
end
mutual
def dep:Tr->Nat
 | .lst ts=>deps ts+1
 | .tup ts=>deps ts+1
 | _=>0
def deps:List Tr->Nat
 | []=>0
 | t::ts=>max (dep t) (deps ts)
end
mutual
def eqT:Tr->Tr->Bool
 | .non, .non=>true
 | .bl a, .bl b=>a==b
 | .bl a, .int b=>(if a then 1 else 0)==b
 | .int a, .bl b=>a==(if b then 1 else 0)
 | .int a, .int b=>a==b
 | .str a, .str b=>a==b
 | .lst a, .lst b=>eqTs a b
 | .tup a, .tup b=>eqTs a b
 | _,_=>false
def eqTs:List Tr->List Tr->Bool
 | [],[]=>true
 | a::as,b::bs=>eqT a b&&eqTs as bs
 | _,_=>false
end
mutual
theorem jMQ:∀ t:Tr,eqT t t=true
 | .non=>by simp [eqT]
 | .bl b=>by simp [eqT]
 | .int i=>by simp [eqT]
 | .str x=>by simp [eqT]
 | .lst ts=>by rw[eqT]; exact jDN ts
 | .tup ts=>by rw[eqT]; exact jDN ts
theorem jDN:∀ ts:List Tr,eqTs ts ts=true
 | []=>by simp [eqTs]
 | t::ts=>by rw[eqTs,jMQ t,jDN ts]; rfl
end
mutual
theorem TAt.ext {H H':Hp}(e:Ext H H'):∀ {t:Tr}{v:V},TAt H t v->TAt H' t v
 | .non,_,h=>h
 | .bl _,_,h=>h
 | .int _,_,h=>h
 | .str _,_,h=>h
 | .lst ts,_,⟨a,vs,q,h,r⟩=>⟨a,vs,q,e _ _ h,TsAt.ext e r⟩
 | .tup ts,_,⟨a,vs,q,h,r⟩=>⟨a,vs,q,e _ _ h,TsAt.ext e r⟩
theorem TsAt.ext {H H':Hp}(e:Ext H H'):∀ {ts:List Tr}{vs:List V},TsAt H ts vs->TsAt H' ts vs
 | [],_,h=>h
 | t::ts,_,⟨v,r,q,h,s⟩=>⟨v,r,q,TAt.ext e h,TsAt.ext e s⟩
end
mutual
theorem TAt.inj {H:Hp} :∀ {t u:Tr}{v:V},TAt H t v->TAt H u v->t=u
 | .non,u,_,h,h'=>by
  cases (show _=V.non from h)
  cases u with
  | non=>rfl
  | bl b=>cases (show V.non=_ from h')
  | int b=>cases (show V.non=_ from h')
  | str b=>cases (show V.non=_ from h')
  | lst ts=>obtain⟨_,_,q,_⟩:=h'; cases q
  | tup ts=>obtain⟨_,_,q,_⟩:=h'; cases q
 | .bl b,u,_,h,h'=>by
  cases (show _=V.bl b from h)
  cases u with
  | non=>cases (show V.bl b=_ from h')
  | bl b=>cases (show V.bl _=V.bl b from h'); rfl
  | int i=>cases (show V.bl b=V.int i from h')
  | str i=>cases (show V.bl b=V.str i from h')
  | lst ts=>obtain⟨_,_,q,_⟩:=h'; cases q
  | tup ts=>obtain⟨_,_,q,_⟩:=h'; cases q
 | .int b,u,_,h,h'=>by
  cases (show _=V.int b from h)
  cases u with
  | non=>cases (show V.int b=_ from h')
  | bl i=>cases (show V.int b=V.bl i from h')
  | int b=>cases (show V.int _=V.int b from h'); rfl
  | str i=>cases (show V.int b=V.str i from h')
  | lst ts=>obtain⟨_,_,q,_⟩:=h'; cases q
  | tup ts=>obtain⟨_,_,q,_⟩:=h'; cases q
 | .str b,u,_,h,h'=>by
  cases (show _=V.str b from h)
  cases u with
  | non=>cases (show V.str b=_ from h')
  | bl i=>cases (show V.str b=V.bl i from h')
  | int i=>cases (show V.str b=V.int i from h')
  | str b=>cases (show V.str _=V.str b from h'); rfl
  | lst ts=>obtain⟨_,_,q,_⟩:=h'; cases q
  | tup ts=>obtain⟨_,_,q,_⟩:=h'; cases q
 | .lst ts,u,_,⟨a,vs,q,h,r⟩,h'=>by
  subst q
  cases u with
  | non=>cases (show V.ref a=_ from h')
  | bl i=>cases (show V.ref a=V.bl i from h')
  | int i=>cases (show V.ref a=V.int i from h')
  | str i=>cases (show V.ref a=V.str i from h')
  | lst us=>
   obtain⟨a',vs',q',h2,r'⟩:=h'
   cases q'
   rw[h] at h2
   cases h2
   rw[TsAt.inj r r']
  | tup us=>
   obtain⟨a',vs',q',h2,r'⟩:=h'
   cases q'
   rw[h] at h2
   cases h2
 | .tup ts,u,_,⟨a,vs,q,h,r⟩,h'=>by
  subst q
  cases u with
  | non=>cases (show V.ref a=_ from h')
  | bl i=>cases (show V.ref a=V.bl i from h')
  | int i=>cases (show V.ref a=V.int i from h')
  | str i=>cases (show V.ref a=V.str i from h')
  | lst us=>
   obtain⟨a',vs',q',h2,r'⟩:=h'
   cases q'
   rw[h] at h2
   cases h2
  | tup us=>
   obtain⟨a',vs',q',h2,r'⟩:=h'
   cases q'
   rw[h] at h2
   cases h2
   rw[TsAt.inj r r']
theorem TsAt.inj {H:Hp} :∀ {ts us:List Tr}{vs:List V},TsAt H ts vs->TsAt H us vs->ts=us
 | [],us,_,h,h'=>by
  cases (show _=[] from h)
  cases us with
  | nil=>rfl
  | cons u us=>obtain⟨_,_,q,_⟩:=h'; cases q
 | t::ts,us,_,⟨v,r,q,h,s⟩,h'=>by
  subst q
  cases us with
  | nil=>cases (show v::r=[] from h')
  | cons u us=>
   obtain⟨v',r',q,h2,s2⟩:=h'
   cases q
   rw[TAt.inj h h2,TsAt.inj s s2]
end
theorem TsAt.len {H:Hp} :∀ {ts:List Tr}{vs:List V},TsAt H ts vs->vs.length=ts.length
 | [],_,h=>by cases (show _=[] from h); rfl
 | t::ts,_,⟨v,r,q,_,s⟩=>by rw[q,aW,aW,TsAt.len s]
theorem TsAt.get {H:Hp} :∀ {ts:List Tr}{vs:List V},TsAt H ts vs->∀ {i:Nat}{v:V},vs[i]?=some v->∃ t,ts[i]?=some t/\TAt H t v
 | [],_,h,i,v,e=>by cases (show _=[] from h); cases e
 | t::ts,_,⟨v,r,q,h,s⟩,0,v',e=>by subst q; cases e; exact⟨t,rfl,h⟩
 | t::ts,_,⟨v,r,q,h,s⟩,i+1,v',e=>by subst q; exact TsAt.get s (i:=i) e
theorem jPY {ts:List Tr}{t:Tr}(h:t∈ts):dep t<=deps ts:=by
 induction ts with
 | nil=>cases h
 | cons a r ih=>
  rw[deps]
  rcases aF.mp h with q | q
  ·subst q; omega
  ·have:=ih q; omega
section
variable {X:Cx}{pins:List (Addr×Obj)}{σ:St}{H:Hp}{s:Shared}
end
section
variable {X:Cx}{tg iter elt:Expr}{ifs:List Expr}{sc:Scope}{pos:Pos}{wi:TI}{g:TG}{tt:TT}{te:TE}{m:List (Option Nat)}{Nc:List Str}
end
section
variable {X:Cx}{sc:Scope}{cl:List (Str×Addr)}{C:Addr}{Nc:List Str}{fp:List Addr}{s:Shared}{H:Hp}{x:Str}
variable {sc2:Scope}{cl2:List (Str×Addr)}{C2:Addr}{Nc2:List Str}{fp2:List Addr}{s2:Shared}{H2:Hp}
end
section
variable {X:Cx}
def rAny (K:W.Frag):List V->Hp->VK->Prop:=fun xs H Q=>∃ (p:Addr) (bs:List Bool),xs=[.ref p]/\SqL K H p (bs.map V.bl)/\Q (.bl (bs.any id)) H
theorem jLH (hc:X.calm=true):yO X (.builtin "any") (rAny X.K):=by
 intro pins s σ H xs us Q I r h
 obtain⟨p,bs,rfl,hq,q⟩:=h
 obtain⟨u,rfl,rx⟩:=r.one
 cases rx
 obtain⟨its,r',pl,hz⟩:=I.list hq
 have hlen:=r'.length
 rw[ae] at hlen
 refine call_any_walk (cK pl.isList ?_)
 have hne:p≠s.heap.objs.size:=by
  obtain⟨o,ho,_⟩:=pl.isList
  exact aO (ao ho)
 refine⟨s.heap.objs.size,_,_,_,_,_,fun i=>bs.getD i true,rfl,gH (by simpa using I.ok.hd hc) _ p hne its.toArray,⟨⟨_,aj _ rfl,rfl,rfl⟩,pl.isList.push _⟩,fun i v z Q' E' hP hQ'=>?_,fun h' tk hk=>?_⟩
 ·have hi:its[i]?=some v:=by simpa using hP
  have hb:i<bs.length:=by
   rw[hlen]
   exact(ah.mp hi).1
  obtain⟨u,hu,ru⟩:=r'.get (i:=i) (x:= .bl (bs[i])) (by simp [hb])
  rw[hi] at hu
  cases hu
  cases ru
  have e:bs.getD i true=bs[i]:=by simp [List.getD,hb]
  have hQ2:Q' (bs.getD i true) z:=hQ'
  rw[e] at hQ2
  exact af hQ2
 ·have e:(List.range its.toArray.size).any (fun i=>bs.getD i true)=bs.any id:=by
   rw[aA,<- hlen]
   rw[bB,eU,eU]
   constructor
   ·rintro ⟨i,hi,hb⟩
    have hi:=bo.mp hi
    exact⟨bs[i],cQ hi,by simpa [List.getD,hi] using hb⟩
   ·rintro ⟨b,hb,hq⟩
    obtain⟨i,hi,rfl⟩:=dk hb
    exact⟨i,bo.mpr hi,by simpa [List.getD,hi] using hq⟩
  rw[e]
  exact⟨.bl _,H,I.kept (t':=tk) fun b o e=>hk b o (by
   intro z
   have z:b=s.heap.objs.size:=by simpa using z
   exact absurd (ao e) (by rw[z]; exact ce _)) (ab _ e),rfl,q⟩
theorem jMH {c:Expr}{body:List Stmt}{tc:TT}{tb:TS}{pos:Pos}(hp:PassesOwn (model X.prog X.w) X.A X.env X.xe)(hc:JT X c tc)(hb:JSs X body tb):JS X (.While c body [] pos) (jN6 tc tb):=⟨jLY hp hc.h hb.h⟩
theorem jNO {op:CmpOp}{a b:Expr}{pos:Pos} :behindInMarks op (.Subscript a b pos)=false:=by cases op <;> rfl
end
section
variable {X:Cx}{sc:Scope}{cl:List (Str×Addr)}{C:Addr}{Nc:List Str}{fp:List Addr}{s:Shared}{H:Hp}
end
end L2
end
section
namespace L2
open PySem
def LstR (H:Hp)(xs:List V)(Q:VK):Prop:=∀ r H',H' r=some (.lst xs)->Ext H H'->H r=none->Q (.ref r) H'
theorem LstR.new {H:Hp}{xs:List V}{Q:VK}(q:LstR H xs Q){p:Addr}(hp:H p=none):Q (.ref p) (upd H p (.lst xs)):=q p _ j5 ((Ext.refl H).new hp _) hp
def tTupU (t:TA):TE:=fun σ H Q=>t σ H fun xs H1=>xs.length<=sizeLine/\TupR H1 xs Q
def tLstU (t:TA):TE:=fun σ H Q=>t σ H fun xs H1=>xs.length<=sizeLine/\LstR H1 xs Q
section
variable {X:Cx}{es:List Expr}{t:TA}{pos:Pos}
theorem yE {x1}(h:JA X es t):JE X (.Tuple es x1 pos) (tTupU t):=⟨fun pins s σ H Q I hq=>by
 refine wpAny_Tuple_spliced (thn (h.h pos pins s σ H _ I hq) fun us s1 ⟨xs,H1,I1,r,z,q⟩=>⟨by rw[<- r.length]; exact z,?_⟩)
 have hf:H1 s1.heap.objs.size=none:=I1.hok.fresh (ai _)
 exact⟨.ref s1.heap.objs.size,upd H1 s1.heap.objs.size (.tup xs),I1.laid (t':=s1.toks) (fun b u e=>ab _ e) (ai _) ⟨z,us,r,TupO.new _ _⟩,rfl,q.new hf⟩⟩
theorem jBE (h:JA X es t):JE X (.List es pos) (tLstU t):=⟨fun pins s σ H Q I hq=>by
 refine wpAny_List_spliced (thn (h.h pos pins s σ H _ I hq) fun us s1 ⟨xs,H1,I1,r,z,q⟩=>⟨by rw[<- r.length]; exact z,?_⟩)
 have hf:H1 s1.heap.objs.size=none:=I1.hok.fresh (ai _)
 exact⟨.ref s1.heap.objs.size,upd H1 s1.heap.objs.size (.lst xs),I1.laid (t':=s1.toks) (fun b u e=>ab _ e) (ai _) ⟨z,us,0,r,aj _ rfl⟩,rfl,q.new hf⟩⟩
end
end L2
end
section
namespace L2
open PySem PySem.Spec PyProof.Rows
section
variable {X:Cx}
theorem jH3 {prog:Program}{w:World}{A:Around}{E:Value->Shared->Prop}{s:Shared}{l:Addr}{vs:List Value}{n:Nat}{Q:List Value->Shared->Prop}(ho:s.heap.get? l=some { cls:= .type "tuple",data:= .seq vs.toArray n})
  (h:Q vs { s with heap:=(s.heap.push (seqObj "list" #[] 0)).update s.heap.objs.size (Obj.mapSeq (· ++vs.toArray))}) (hsz:vs.length<=sizeLine):
  wpAny (model prog w) A (collect (.ref l)) Q E s:=by
 unfold collect
 refine aa (fZ (cf entry_proto_collect' ?_))
 show wpAny _ _ (do again (.builtin "list.__iadd__" ⟨[<- newList [], .ref l],[]⟩)) _ _ s
 refine aa (fb (af ⟨Code.quiet_builtin _ (by decide+kernel),cf entry_list_iadd' ?_⟩))
 show wpAny _ _ (Builtin.List.listExtendWith (.ref s.heap.objs.size) (.ref l) (.ref s.heap.objs.size)) _ _ { s with heap:=s.heap.push (seqObj "list" #[] 0)}
 unfold Builtin.List.listExtendWith
 have ho':(s.heap.push (seqObj "list" #[] 0)).get? l=some { cls:= .type "tuple",data:= .seq vs.toArray n} :=ab _ ho
 refine aa (ek (T:= "tuple") ⟨_,ho',rfl⟩ ?_)
 have ht:(Value.type "tuple" ==Value.type "tuple")=true:=by rfl
 rw[am (by rw[ht,iA])]
 refine aa (listItems_at ho' rfl ?_)
 refine aa (listItems_at (xs:=#[]) (n:=0) (aj _ rfl) rfl ?_)
 rw[ak (by simp)]
 refine aa (gu (xs:=#[]) (n:=0) (aj _ rfl) rfl ?_ (aY _) (by show (#[]++vs.toArray).size<=sizeLine+1; simp only [Array.size_append,aA,dB]; omega))
 refine af ?_
 show wpAny (model prog w) A (do
   let o <- load s.heap.objs.size
   match o.data with
   | .seq xs _=>pure xs.toList
   | _=>unsupported "internal:collect") Q E { s with heap:=(s.heap.push (seqObj "list" #[] 0)).update s.heap.objs.size (Obj.mapSeq (· ++vs.toArray))}
 refine aa (eR (get?_update_seq (aj _ rfl) _) ?_)
 show wpAny _ _ (pure ((#[]:Array Value)++vs.toArray).toList) Q E _
 rw[show ((#[]:Array Value)++vs.toArray).toList=vs by simp]
 exact af h
theorem jIF {prog:Program}{w:World}{A:Around}{E:Value->Shared->Prop}{s:Shared}{l:Addr}{vs:List Value}{ns:List Int}{n:Nat}{Q:Value->Shared->Prop}(ho:s.heap.get? l=some { cls:= .type "tuple",data:= .seq vs.toArray n})(hI:IntsAre vs ns)(h64:vs.length<64)
  (h:∀ (out:Array Value) (ns':List Int),IntsAre out.toList ns'->ns'.Perm ns->ns'.Pairwise (· <= ·)->Q (.ref (s.heap.objs.size+1)) { s with heap:=sortedAll s.heap vs out}):
  wpAny (model prog w) A (call (.builtin "sorted") [.ref l]) Q E s:=by
 refine gd kind_sorted plain_sorted entry_sorted (args_sorted1 _) ?_
 unfold Builtin.«sorted»
 refine aa (m:=checkCount "sorted" 1 1 _) (af ?_)
 refine aa (jH3 ho ?_ (by rw[db]; omega))
 refine aa (fb ?_ (by rw[db]; omega))
 have hsz:((s.heap.push (seqObj "list" #[] 0)).update s.heap.objs.size (Obj.mapSeq (· ++vs.toArray))).objs.size=s.heap.objs.size+1:=by
  rw[Heap.size_update,size_push']
 have hoL:(((s.heap.push (seqObj "list" #[] 0)).update s.heap.objs.size (Obj.mapSeq (· ++vs.toArray))).push (seqObj "list" vs.toArray 0)).get? (s.heap.objs.size+1)=some (seqObj "list" vs.toArray 0):=by
  rw[<- hsz]; exact aj _ rfl
 show wpAny _ _ _ _ _ { s with heap:=((s.heap.push (seqObj "list" #[] 0)).update s.heap.objs.size (Obj.mapSeq (· ++vs.toArray))).push (seqObj "list" vs.toArray 0)}
 rw[hsz]
 refine aa (bY (bv slot_list_sort ⟨_,hoL,rfl⟩ entry_list_sort (list_sort_tree hoL hI h64 fun out ns' a1 a2 a3=>⟨_,rfl,?_⟩) (args_list_sort _)))
 exact af ⟨_,rfl,h out ns' a1 a2 a3⟩
theorem jCQ:yO X (.builtin "sorted") (fun xs H Q=>∃ (p:Addr) (ks:List Int),xs=[.ref p]/\H p=some (.tup (ks.map V.int))/\ks.length<64/\
  ∀ (l:Addr) (ns:List Int),H l=none->ns.Pairwise (· <= ·)->ns.Perm ks->Q (.ref l) (upd H l (.lst (ns.map V.int)))):=by
 intro pins s σ H xs us Q I r h
 obtain⟨p,ks,rfl,hp,hn,q⟩:=h
 obtain⟨u,rfl,rx⟩:=r.one
 cases rx
 obtain⟨_,its,r',n,e0⟩:=I.hok p _ hp
 have hlen:=r'.length
 rw[ae] at hlen
 refine jIF e0 (jCE r') (by omega) fun out ns' a1 a2 a3=>?_
 obtain⟨e,he⟩:=sortedAll_at s.heap its out
 have hz:(ns'.map V.int).length<=sizeLine:=by
  rw[ae,a2.length_eq,db]
  omega
 have I2:Inv X pins σ (upd H (s.heap.objs.size+1) (.lst (ns'.map V.int))) { s with heap:=sortedAll s.heap its out} :=I.laid (t':=s.toks) (fun b o e=>sortedAll_old e) (gh _) ⟨hz,out.toList,e,jAA a1,by rw[dH]; exact he⟩
 exact⟨.ref _,_,I2,rfl,q _ ns' (I.hok.fresh (gh _)) a3 a2⟩
end
theorem jD9 (ns:List Int):∀ j,preSum (fun i=>ns.getD i 0) j=(ns.take j).sum
 | 0=>rfl
 | j+1=>by
  rw[preSum,jD9 ns j,bh,List.sum_append]
  congr 1
  rw[aB]
  cases ns[j]? with
  | none=>rfl
  | some z=>simp
section
variable {X:Cx}
def rSum (K:W.Frag):List V->Hp->VK->Prop:=fun xs H Q=>∃ (p:Addr) (ns:List Int),xs=[.ref p]/\(SqL K H p (ns.map V.int))/\Q (.int ns.sum) H
theorem jDQ (hc:X.calm=true):yO X (.builtin "sum") (rSum X.K):=by
 intro pins s σ H xs us Q I r h
 obtain⟨p,ns,rfl,hq,q⟩:=h
 obtain⟨u,rfl,rx⟩:=r.one
 cases rx
 obtain⟨its,r',pl,hz⟩:=I.list hq
 have hlen:=r'.length
 rw[ae] at hlen
 refine call_sum_walkG (cK pl.isList ?_)
 have hne:p≠s.heap.objs.size:=by
  obtain⟨o,ho,_⟩:=pl.isList
  exact aO (ao ho)
 refine⟨s.heap.objs.size,_,_,_,_,_,fun i=>ns.getD i 0,rfl,gH (by simpa using I.ok.hd hc) _ p hne its.toArray,⟨⟨_,aj _ rfl,rfl,rfl⟩,pl.isList.push _⟩,(fun b hb=>?_),(fun i v hP=>?_),fun h' tk t' hk=>?_⟩
 ·show b<(s.heap.push _).objs.size
  rw[bM]
  obtain⟨o,ho,_⟩:=pl.isList
  have:=ao ho
  rcases aF.mp hb with rfl | hb
  ·exact gy _
  ·rcases aF.mp hb with rfl | hb
   ·exact cc this
   ·cases hb
 ·have hi:its[i]?=some v:=by simpa using hP
  have hb:i<ns.length:=by
   rw[hlen]
   exact(ah.mp hi).1
  obtain⟨u,hu,ru⟩:=r'.get (i:=i) (x:= .int (ns[i])) (by simp [hb])
  rw[hi] at hu
  cases hu
  obtain⟨t,rfl⟩:=ru
  exact⟨t,by simp [List.getD,hb]⟩
 ·have e:preSum (fun i=>ns.getD i 0) its.toArray.size=ns.sum:=by
   rw[jD9,aA,<- hlen,bR]
  rw[e]
  exact⟨.int _,H,I.kept (t':=tk) fun b o e=>hk b o (by
   intro z
   have z:b=s.heap.objs.size:=by simpa using z
   exact absurd (ao e) (by rw[z]; exact ce _)) (ab _ e),⟨_,rfl⟩,q⟩
variable {sc:Scope}{cl:List (Str×Addr)}{C:Addr}{Nc:List Str}{fp:List Addr}{s:Shared}{H:Hp}
end
theorem jE7 (a b:Nat):Builtin.bitAnd (a:Int) (b:Int)=((a&&&b:Nat):Int):=by
 unfold Builtin.bitAnd
 rw[ax (dW a),ax (dW b)]
 rfl
theorem jAU (a b:Nat):Builtin.bitOr (a:Int) (b:Int)=((a|||b:Nat):Int):=by
 unfold Builtin.bitOr
 have ha:Builtin.bitNot (a:Int)= -(a:Int) - 1:=by unfold Builtin.bitNot; omega
 have hb:Builtin.bitNot (b:Int)= -(b:Int) - 1:=by unfold Builtin.bitNot; omega
 have na:¬ (0<=Builtin.bitNot (a:Int)):=by rw[ha]; omega
 have nb:¬ (0<=Builtin.bitNot (b:Int)):=by rw[hb]; omega
 unfold Builtin.bitAnd
 rw[aP na,aP nb]
 have ea:Builtin.bitNot (Builtin.bitNot (a:Int))=(a:Int):=by rw[ha]; unfold Builtin.bitNot; omega
 have eb:Builtin.bitNot (Builtin.bitNot (b:Int))=(b:Int):=by rw[hb]; unfold Builtin.bitNot; omega
 show Builtin.bitNot (Builtin.bitNot _)=_
 rw[ea,eb]
 unfold Builtin.bitNot
 simp
 omega
def maskN (ts:List Int):Nat:=(ts.map fun t=>2 ^ t.toNat).sum
theorem jHR:∀ (ts:List Int) (lo:Nat),ts.Pairwise (· < ·)->(∀ t∈ts,(lo:Int)<=t)->maskN ts % 2 ^ lo=0
 | [],_,_,_=>by simp [maskN]
 | t::r,lo,hp,hl=>by
  have ih:=jHR r lo (cg.mp hp).2 fun x hx=>hl x (aK _ hx)
  have h0:=hl t (aJ ..)
  have e:maskN (t::r)=2 ^ t.toNat+maskN r:=by simp [maskN]
  have d:2 ^ t.toNat % 2 ^ lo=0:=Nat.mod_eq_zero_of_dvd (Nat.pow_dvd_pow 2 (by omega))
  rw[e,Nat.add_mod,ih,d]
  simp
theorem jAH:∀ (ts:List Int) (n:Nat),ts.Pairwise (· < ·)->(∀ t∈ts,0<=t)->(maskN ts).testBit n=decide ((n:Int)∈ts)
 | [],n,_,_=>by simp [maskN]
 | t::r,n,hp,h0=>by
  obtain⟨h1,h2⟩:=cg.mp hp
  have ih:=jAH r n h2 fun x hx=>h0 x (aK _ hx)
  have ht:=h0 t (aJ ..)
  obtain⟨k,rfl⟩:∃ k:Nat,t=(k:Int):=⟨t.toNat,by omega⟩
  have e:maskN ((k:Int)::r)=2 ^ k+maskN r:=by simp [maskN]
  have m0:maskN r % 2 ^ (k+1)=0:=jHR r (k+1) h2 fun x hx=>by have:=h1 x hx; omega
  obtain⟨c,hc⟩:∃ c,maskN r=2 ^ (k+1)*c:=(Nat.dvd_of_mod_eq_zero m0)
  have hor:2 ^ k+maskN r=maskN r|||2 ^ k:=by
   rw[hc,Nat.mul_comm,<- Nat.shiftLeft_eq,Nat.shiftLeft_add_eq_or_of_lt (b:=2 ^ k) (i:=k+1) (g6 (by decide) (by omega)) c |>.symm,gG]
  rw[e,hor,ga,ih,fr]
  by_cases hk:k=n
  ·subst hk
   simp
  ·have:¬ ((n:Int)=(k:Int)):=by omega
   simp [hk,this]
end L2
end
section
namespace L2
open PySem
section
variable {X:Cx}{tg iter elt:Expr}{ifs:List Expr}{sc:Scope}{pos:Pos}{wi:TI}{g:TG}{tt:TT}{te:TE}{m:List (Option Nat)}{Nc:List Str}
theorem jMV (hc:X.calm=true)(hi:PI X tg iter wi)(hkind:sc.kind= .function)(hcell:∀ y∈sc.names,y.2≠ .cell)(hnames:∀ y∈sc.names,y.2= .local->sc.names.lookup y.1=some .local)
  (hfree:∀ y∈sc.names,y.2= .free->X.env.scope.names.lookup y.1=some .cell\/X.env.scope.names.lookup y.1=some .free) (hm:jCS X sc Nc m)
  (hg:∀ cl C fp s H,PG (blk X sc cl C Nc fp s H) tg g) (ht:∀ cl C fp s H,PTs (blk X sc cl C Nc fp s H) ifs tt) (he:∀ cl C fp s H,PE (blk X sc cl C Nc fp s H) elt te)
  (hs:∀ x,foldedSetIterable iter X.env x=pure x) {fpos:Pos}{use:Option (Value->Sem Unit)}{R:Value->Shared->Prop}{pins:List (Addr×Obj)}{s:Shared}{σ:St}{H:Hp}{Q:VK}(I:Inv X pins σ H s) (h:tComp m wi g tt te σ H Q)
  (fin:∀ (D C:Addr) (H5:Hp) (z1:Shared) (r:Flow),(∃ mm,z1.heap.Ns C mm)->FpOk X pins H5 C->(∀ h',Heap.SameBut C z1.heap h'->Inv X pins σ H5 { z1 with heap:=h'})->Q (.ref D) H5->compPost (model X.prog X.w) X.A X.xe use R (.ref D) C (.ok r) z1):
  wpAny (model X.prog X.w) X.A (comprehension (.ListComp elt [⟨tg,iter,ifs,0⟩] sc pos) sc X.env fpos (newList []) false (eval iter X.env) use) R X.xe s:=
 jI3 (tf:=fun _=>te) hc hi hkind hcell hnames hfree hm hg ht (fun cl C fp s H _ _ _ _=>he cl C fp s H) hs I h fin
theorem jOG {i:Nat}{x:Str}{pos' spos:Pos}(hN:X.N.Nodup)(hi':X.N[i]?=some x)(hx:Loc X.env.scope x)(hf:X.fn x=true\/X.env.scope.names.lookup x=some .local)(hsw:swapsWith (.ListComp elt [⟨tg,iter,ifs,0⟩] sc pos) (some (.Name x pos')) spos.line X.env=pure true)
  (hc:X.calm=true) (hi:PI X tg iter wi) (hkind:sc.kind= .function) (hcell:∀ y∈sc.names,y.2≠ .cell) (hnames:∀ y∈sc.names,y.2= .local->sc.names.lookup y.1=some .local)
  (hfree:∀ y∈sc.names,y.2= .free->X.env.scope.names.lookup y.1=some .cell\/X.env.scope.names.lookup y.1=some .free) (hm:jCS X sc Nc m)
  (hg:∀ cl C fp s H,PG (blk X sc cl C Nc fp s H) tg g) (ht:∀ cl C fp s H,PTs (blk X sc cl C Nc fp s H) ifs tt) (he:∀ cl C fp s H,PE (blk X sc cl C Nc fp s H) elt te)
  (hs:∀ x,foldedSetIterable iter X.env x=pure x):PS X (.Assign [.Name x pos'] (.ListComp elt [⟨tg,iter,ifs,0⟩] sc pos) spos) (tAsg (tComp m wi g tt te) (yA i)):=by
 intro pins s σ H D I h
 rw[exec_Assign_Name_used _ _ _ _ hsw]
 refine aa (gm (aa ?_))
 show wpAny _ _ (do let _ <- comprehension (.ListComp elt [⟨tg,iter,ifs,0⟩] sc pos) sc X.env _ (newList []) false (eval iter X.env) (some (assign (.Name x pos') X.env))) _ _ _
 refine aa (bU (jMV (R:=fun _ s'=>SP X pins D .next s') hc hi hkind hcell hnames hfree hm hg ht he hs ⟨I.ok,I.os,I.bare,I.base,I.loc,I.cell,I.free,I.freeC,I.pin,I.hok,I.len⟩ h ?_) (fun _ s' hq=>af (af hq)) fun _ _ e=>e)
 intro D' C H5 z1 r ⟨mm,hn⟩ fC sb q
 have I1:=sb _ (Heap.SameBut.refl C z1.heap)
 refine wpAny_assign_Name (jFD (v:= .ref D') I1 hN hi' hx rfl (fun s2 I2 ⟨a,sa,ha⟩=>?_) hf)
 obtain⟨f0,f1,f2,f3,f4,f5⟩:=fC
 have hCa:C≠a:=by
  rcases ha with rfl | ha
  ·exact f1
  ·exact(f4 _ _ ha).symm
 refine⟨mm,hn.sameBut sa hCa,fun h' sb2=>⟨_,H5,?_,q⟩⟩
 refine I2.call' (s':= { s2 with heap:=h'}) (ch:=[C]) rfl ?_ (I2.hok.sameBut sb2 f0) I2.bare (fun b hb=>?_)
 ·have ne:∀ {b:Addr},b∉ [C]->b≠C:=fun h e=>h (by rw[e]; exact aH.mpr rfl)
  refine⟨fun b o e n hf hx=>(sb2.2 b (ne hx)).trans e,fun b o e n hf hx=>⟨o.slots,(sb2.2 b (ne hx)).trans e⟩,fun b o e n hx=>n,fun b o e hx=>⟨o,(sb2.2 b (ne hx)).trans e⟩,fun b xs e=>e,fun b o u e=>e,fun b ps e=>⟨#[],by rw[Array.append_empty]; exact e⟩⟩
 ·cases aH.mp hb
  exact⟨f3,f1,f4,f5⟩
end
section
variable {X:Cx}
structure SwC (e:Expr)(x:Str)(pos' spos:Pos)(X:Cx):Prop where
 h:swapsWith e (some (.Name x pos')) spos.line X.env=pure true
theorem jPK {i:Nat}{x:Str}{pos' spos pos:Pos}{tg iter elt:Expr}{ifs:List Expr}{sc:Scope}{wi:TI}{g:TG}{tt:TT}{te:TE}{m:List (Option Nat)}{Nc:List Str}(hN:X.N.Nodup)(hi':X.N[i]?=some x)(hx:Loc1 X x)(hsw:SwC (.ListComp elt [⟨tg,iter,ifs,0⟩] sc pos) x pos' spos X)
  (hc:X.calm=true) (hi:JI X tg iter wi) (hkind:sc.kind= .function) (hcell:∀ y∈sc.names,y.2≠ .cell) (hnames:∀ y∈sc.names,y.2= .local->sc.names.lookup y.1=some .local)
  (hfree:∀ y∈sc.names,y.2= .free->X.env.scope.names.lookup y.1=some .cell\/X.env.scope.names.lookup y.1=some .free) (hm:jCS X sc Nc m)
  (hg:∀ cl C fp s H,JG (blk X sc cl C Nc fp s H) tg g) (ht:∀ cl C fp s H,JTs (blk X sc cl C Nc fp s H) ifs tt) (he:∀ cl C fp s H,JE (blk X sc cl C Nc fp s H) elt te)
  (hs:FoOk iter):JS X (.Assign [.Name x pos'] (.ListComp elt [⟨tg,iter,ifs,0⟩] sc pos) spos) (tAsg (tComp m wi g tt te) (yA i)):=
 ⟨jOG hN hi' hx.a hx.b hsw.h hc hi.h hkind hcell hnames hfree hm (fun cl C fp s H=>(hg cl C fp s H).h) (fun cl C fp s H=>(ht cl C fp s H).h) (fun cl C fp s H=>(he cl C fp s H).h) (hs.h _)⟩
end
end L2
end
section
namespace L2
open PySem PySem.Spec PyProof.Rows
section
variable {prog:Program}{w:World}{A:Around}{E:Value->Shared->Prop}
end
section
variable {X:Cx}
end
section
variable {prog:Program}{w:World}{A:Around}{E:Value->Shared->Prop}{s:Shared}
end
end L2
namespace L2
open PySem PySem.Spec PyProof.Rows
section
variable {X:Cx}{x:Str}{C:Addr}{W:Hp->Prop}{e:Expr}{t:TA}{np cpos pos:Pos}
end
end L2
namespace L2
open PySem PySem.Spec PyProof.Rows
end L2
namespace L2
open PySem PySem.Spec PyProof.Rows
section
variable {M:Model}{A:Around}{E:Value->Shared->Prop}{h:Heap}{g:Array GenState}{d:Drawn}{tk:Nat}{os:OsState}
end
end L2
namespace L2
open PySem PySem.Spec PyProof.Rows
end L2
namespace L2
open PySem PySem.Spec PyProof.Rows
section
variable {X:Cx}{pins:List (Addr×Obj)}{σ:List (Option V)}{H H':Hp}{s:Shared}{h':Heap}
end
end L2
namespace L2
open PySem PySem.Spec PyProof.Rows
section
variable {X:Cx}{pins:List (Addr×Obj)}{σ:St}{H H':Hp}{s:Shared}{h2:Heap}{x C T T':Addr}
end
section
variable {X:Cx}{pins:List (Addr×Obj)}{σ:St}{H:Hp}{s:Shared}{x:Addr}
end
section
variable {M:Model}{A:Around}{E:Value->Shared->Prop}{s:Shared}{x C T:Addr}{Q:Unit->Shared->Prop}
end
section
variable {X:Cx}{y n g c:Str}{i j k:Nat}{f B C:Addr}{fd:FuncData}{ps:List Str}{sp:Sp}{e r:Expr}{es:List Expr}{t:TA}{te:Addr->TE}{yp gp cp ap np rp hp tp:Pos}
end
section
variable {prog:Program}{w:World}{A:Around}{E:Value->Shared->Prop}{s:Shared}
end
section
variable {X:Cx}{tg:Expr}
end
section
variable {X:Cx}{tg iter elt:Expr}{ifs:List Expr}{sc:Scope}{pos:Pos}{wi:TI}{g:TG}{tt:TT}{te:TE}{m:List (Option Nat)}{Nc:List Str}
end
section
variable {X:Cx}{k:Nat}{f a:Addr}{fd:FuncData}{ps:List Str}{sp:Addr->Sp}{x:Str}{p pos:Pos}{e:Expr}{es:List Expr}{t:TA}
end
section
variable {CX:CXT}{P:Program}{w:World}{K:W.Frag}{mg:Str->Option Value}{base:Heap}{N:List Str}{qual:Str}{sc:Scope}{f:Addr}{cdv:Value}{A:Around}{outer:List Env}{s:Shared}{H:Hp}{E:XK}{x:Str}
end
section
variable {X:Cx}{e:Expr}{es:List Expr}{t:TA}{a:Addr}{p pos:Pos}
end
section
variable {X:Cx}{y n g c:Str}{i j k:Nat}{f B C:Addr}{fd:FuncData}{ps:List Str}{sp:Sp}{e:Expr}{es:List Expr}{t:TA}{te t1:TEX}{yp gp cp ap np rp hp tp pos:Pos}
end
def ncP (q:Str)(c:Addr):Heap->Prop:=fun h=>h.CodeRec (.ref c) q
noncomputable abbrev onePs (pos:Pos)(c:Addr):Array Value:=#[rawInt pos.line,rawInt pos.col, .ref c]
def TabOk (H:Hp)(T:Addr)(pos:Pos)(q:Str):Prop:=H T=some (.tbl #[])\/∃ c,H T=some (.tbl (onePs pos c))/\H c=some (.ext (ncP q c))
def ExtT (T:Addr)(H H':Hp):Prop:=∀ b o,H b=some o->b≠T->H' b=some o
def BltAt (base:Heap)(mg:Str->Option Value):Prop:=∃ bm o,mg "__builtins__" =some (.ref bm)/\bm≠builtinsNs/\bm≠mainGlobals/\base.get? bm=some o/\o.cls= .type "module" /\o.dict=some builtinsNs/\o.data= .plain
theorem ncP.stay {q:Str}{c:Addr}(h1 h2:Heap)(p:ncP q c h1)(k:∀ o,h1.get? c=some o->h2.get? c=some o):ncP q c h2:=by
 obtain⟨c',o,vs,t,e,g,r⟩:=p
 cases e
 exact⟨c,o,vs,t,rfl,k _ g,r⟩
theorem ncP.is {q:Str}{c:Addr}{h:Heap}(p:ncP q c h):∃ o,h.get? c=some o:=by
 obtain⟨c',o,vs,t,e,g,r⟩:=p
 cases e
 exact⟨o,g⟩
section
variable {X:Cx}{pins:List (Addr×Obj)}{σ:St}{H:Hp}{s:Shared}
theorem Inv.laidX {h':Heap}{t':Nat}{φ:Heap->Prop}{a:Addr}(I:Inv X pins σ H s)(k:∀ b u,s.heap.get? b=some u->h'.get? b=some u)(hp:s.heap.objs.size<=a)(p:φ h')(ho:∃ o,h'.get? a=some o)(st:∀ h1 h2:Heap,φ h1->(∀ o,h1.get? a=some o->h2.get? a=some o)->φ h2):Inv X pins σ (upd H a (.ext φ)) { s with heap:=h',toks:=t'} :=
 I.laid k hp ⟨p,ho,st⟩
theorem Inv.grown {h':Heap}{t':Nat}{T c:Addr}{ps more:Array Value}{φ:Heap->Prop}(I:Inv X pins σ H s)(hT:H T=some (.tbl ps))(k:Heap.ExtBut T s.heap h')(e:h'.get? T=some { cls:= .none,data:= .fields (ps++more)})
  (hc:s.heap.objs.size<=c) (p:φ h') (ho:∃ o,h'.get? c=some o) (st:∀ h1 h2:Heap,φ h1->(∀ o,h1.get? c=some o->h2.get? c=some o)->φ h2):Inv X pins σ (upd (upd H T (.tbl (ps++more))) c (.ext φ)) { s with heap:=h',toks:=t'} :=by
 have hcn:H c=none:=I.hok.fresh hc
 have nT:∀ {b:Addr},H b=none->b≠T:=fun n z=>by rw[z,hT] at n; cases n
 have cT:T≠c:=fun z=>by rw[z,hcn] at hT; cases hT
 have nc:∀ {b:Addr}{o:Obj},s.heap.get? b=some o->b≠c:=fun q z=>absurd (ao q) (by rw[z]; exact Nat.not_lt.mpr hc)
 have mc:∀ {b:Addr}{o:HO},H b=some o->b≠c:=fun q=>j9 q hcn
 refine I.un ⟨fun b o q n _ _=>k b o (nT n) q,fun b o q n _ _=>⟨o.slots,k b o (nT n) q⟩,fun b o q n _=>by rw[j8 (nc q),j8 (nT n)]; exact n,fun b o q _=>?_,fun b xs q=>?_,fun b o u q=>?_,fun b qs q=>?_⟩ fun b o q=>?_
 ·by_cases hb:b=T
  ·rw[hb]; exact⟨_,e⟩
  ·exact⟨o,k b o hb q⟩
 ·rw[j8 (mc q),j8 (fun z=>by rw[z,hT] at q; cases q)]; exact q
 ·rw[j8 (mc q),j8 (fun z=>by rw[z,hT] at q; cases q)]; exact q
 ·by_cases hb:b=T
  ·subst hb
   rw[hT] at q
   cases q
   exact⟨more,by rw[j8 cT,j5]⟩
  ·exact⟨#[],by rw[j8 (mc q),j8 hb,q]; simp⟩
 ·by_cases hb1:b=c
  ·subst hb1
   rw[j5] at q
   cases q
   exact⟨p,ho,st⟩
  rw[j8 hb1] at q
  by_cases hb:b=T
  ·subst hb
   rw[j5] at q
   cases q
   exact e
  ·rw[j8 hb] at q
   refine(I.hok b o q).stay (fun d u hd z=>k d u ?_ z) (fun d z=>?_) fun d xs z=>?_
   ·rcases hd with rfl | hd
    ·exact hb
    ·exact fun y=>by rw[y,hT] at hd; cases hd
   ·rw[j8 (mc z),j8 (fun y=>by rw[y,hT] at z; cases z)]; exact z
   ·rw[j8 (mc z),j8 (fun y=>by rw[y,hT] at z; cases z)]; exact z
end
theorem jFS {β:Type}{x:Str} :∀ {l:List (Str×β)},(∀ v,(x,v)∉l)->l.lookup x=none
 | [],_=>rfl
 | (y,v)::r,h=>by
  rw[bi,bS.mpr (fun e=>h v (by rw[e]; exact aJ))]
  exact jFS fun w hw=>h w (aK _ hw)
theorem jC5 {β:Type}{x:Str} :∀ {l m:List (Str×β)},(l++m).lookup x=(l.lookup x).or (m.lookup x)
 | [],_=>rfl
 | (y,v)::r,m=>by
  rw[List.cons_append,bi,bi,jC5]
  cases x==y <;> rfl
theorem jE1:∀ {ps:List Str}{us:List Value}{i:Nat}{x:Str}{u:Value},ps.Nodup->ps[i]?=some x->us[i]?=some u->(ps.zip us).reverse.lookup x=some u
 | [],_,_,_,_,_,h,_=>by simp at h
 | _::_,[],_,_,_,_,_,h=>by simp at h
 | p::ps,w::us,0,x,u,nd,h1,h2=>by
  simp at h1 h2
  subst h1 h2
  rw[im,List.reverse_cons,jC5,jFS fun v hv=>(cM.mp nd).1 (dA (List.mem_reverse.mp hv)).1,bi,beq_self_eq_true]
  rfl
 | p::ps,w::us,i+1,x,u,nd,h1,h2=>by
  rw[im,List.reverse_cons,jC5,jE1 (i:=i) (cM.mp nd).2 (by simpa using h1) (by simpa using h2)]
  rfl
noncomputable def cxN (P:Program)(w:World)(K:W.Frag)(mg:Str->Option Value)(base:Heap)(N:List Str)(qual:Str)(scope:Scope)(f:Addr)(cd:Value)(cl:List (Str×Addr))(A:Around)(outer:List Env)(s:Shared)(H:Hp):Cx where
 prog:=P
 w:=w
 K:=K
 mg:=mg
 base:=base
 A:=A.deeper (envX qual scope s.heap.objs.size f cd cl)
 N:=N
 s₀:=s
 H₀:=H
 env:=envX qual scope s.heap.objs.size f cd cl
 outer:=outer
 stack:=envX qual scope s.heap.objs.size f cd cl::outer
 ex:=[]
 calm:=true
 fn:=fun _=>false
 pn:=[]
 xe:=fun _ _=>False
structure ClOk (cl:List (Str×Addr))(s:Shared)(H:Hp):Prop where
 inj:∀ x y c,cl.lookup x=some c->cl.lookup y=some c->x=y
 cell:∀ x c,cl.lookup x=some c->(∃ v,s.heap.IsCell c v)/\H c=none
def FvOk (fs:List Str)(fv:List V)(cl:List (Str×Addr))(s:Shared):Prop:=fv.length=fs.length/\∀ (i:Nat) (x:Str) (v:V),fs[i]?=some x->fv[i]?=some v->∃ c u,cl.lookup x=some c/\RelV v u/\s.heap.IsCell c (some u)
structure NScope (N ps fs:List Str)(sc:Scope):Prop where
 kind:sc.kind= .function
 co:sc.isCoroutine=false
 gen:sc.isGenerator=false
 nd:N.Nodup
 pre:N.take (ps.length+fs.length)=ps++fs
 par:∀ x∈ps,sc.names.lookup x=some .local
 fre:∀ x∈fs,sc.names.lookup x=some .free
 all:∀ x,sc.names.lookup x=some .free->x∈fs
 nocell:∀ y∈sc.names,y.2≠ .cell
def jD4 (N:List Str)(vs fv:List V):St:=kZ N (vs++fv)
section
variable {P:Program}{w:World}{K:W.Frag}{mg:Str->Option Value}{base:Heap}{N ps fs:List Str}{qual:Str}{scope:Scope}{f:Addr}{cd:Value}{cl:List (Str×Addr)}{A:Around}{outer:List Env}{s:Shared}{H:Hp}{us:List Value}{vs fv:List V}
theorem jIU {h1:Heap}{tk:Nat}(S:NScope N ps fs scope)(hd:A.handled=none)(e0:Env0 P w K mg base A outer s H)(hl:us.length=ps.length)(r:Vals vs us)(C:ClOk cl s H)(Fv:FvOk fs fv cl s)
  (ns:h1.Ns s.heap.objs.size fun x=>(ps.zip us).reverse.lookup x) (hk:∀ b o,s.heap.get? b=some o->h1.get? b=some o):
  Inv (cxN P w K mg base N qual scope f cd cl A outer s H) [] (jD4 N vs fv) H { s with heap:=h1,toks:=tk} :=by
 have hpl:ps.length+fs.length<=N.length:=by have:=bL List.length S.pre; rw[aV,az] at this; omega
 have noA:∀ b:Addr,b∉(cxN P w K mg base N qual scope f cd cl A outer s H).ex:=fun b z=>absurd (show b∈([]:List Addr) from z) (by simp)
 have vl:vs.length=ps.length:=r.length.trans hl
 refine⟨⟨e0.mod,S.kind,rfl,rfl,ai _,C.inj,fun y hy=>?_,fun y c z=>(nomatch z),fun _=>hd,Around.frames_deeper e0.frames, .inr ⟨rfl,rfl⟩,fun b z=>absurd z (noA b),e0.bs,e0.bsz,fun b _ _=>noA b,fun b z=>absurd z (noA b),e0.funs,e0.frf⟩,
  rfl,e0.bare,Un.kept hk,⟨_,ns,fun i y v h1' h2 h3=>?_⟩,fun y c h=>?_,e0.hok.fresh (ai _),fun y c h=>(C.cell y c h).2,fun p hp=>absurd (show p∈([]:List (Addr×Obj)) from hp) (by simp),e0.hok.kept hk,?_⟩
 ·have hy:scope.names.lookup y=some .cell\/scope.names.lookup y=some .free:=hy
  rcases hy with hy | hy
  ·exact absurd rfl (S.nocell _ (cA hy))
  ·have m:=S.all y hy
   obtain⟨i,hi⟩:=cn m
   have hi2:i<fv.length:=by rw[Fv.1]; exact(ah.mp hi).1
   obtain⟨c,u,e,_⟩:=Fv.2 i y fv[i] hi (by simp [hi2])
   exact⟨c,e⟩
 ·have h1':N[i]?=some y:=h1'
  have hlen:(vs++fv).length=ps.length+fs.length:=by rw[az,vl,Fv.1]
  have hi:i<(vs++fv).length:=by
   unfold jD4 kZ at h2
   by_cases hi:i<(vs++fv).length
   ·exact hi
   ·rw[aX (by simpa using hi)] at h2
    rw[gw] at h2
    split at h2 <;> cases h2
  have hv:(vs++fv)[i]?=some v:=by
   unfold jD4 kZ at h2
   rw[bN (by simpa using hi),aU] at h2
   cases e:(vs++fv)[i]? with
   | none=>rw[e] at h2; cases h2
   | some a=>rw[e] at h2; cases h2; rfl
  have hy:(ps++fs)[i]?=some y:=by
   rw[<- S.pre,bQ (by omega)]
   exact h1'
  by_cases hi1:i<ps.length
  ·rw[bN hi1] at hy
   rw[bN (by omega)] at hv
   obtain⟨u,hu,rv⟩:=r.get hv
   have ndP:ps.Nodup:=by
    have:(ps++fs).Nodup:=by rw[<- S.pre]; exact S.nd.sublist (dc _ _)
    exact(eD.mp this).1
   exact⟨u,rv, .inl ⟨S.par y (ay hy),jE1 ndP hy hu⟩⟩
  ·rw[aX (by omega)] at hy
   rw[aX (by omega),vl] at hv
   obtain⟨c,u,e,rv,o,ho,hd⟩:=Fv.2 _ y v hy hv
   exact⟨u,rv, .inr ⟨.inr (S.fre y (ay hy)),c,e,o,hk _ _ ho,hd⟩⟩
 ·obtain⟨⟨v,o,ho,hd⟩,_⟩:=C.cell y c h
  exact⟨v,o,hk _ _ ho,hd⟩
 ·unfold jD4 kZ
  show _=N.length
  rw[az,ae,eN,az,vl,Fv.1]
  omega
end
section
variable {X:Cx}{pins:List (Addr×Obj)}{σ:St}{H:Hp}{s:Shared}{fs:List Str}{fv:List V}{is:List Nat}{scope:Scope}
end
section
variable {X:Cx}{k:Nat}{x q:Str}{args:Arguments}{body:List Stmt}{scope:Scope}{ps fs:List Str}{is:List Nat}{sp:List V->Sp}{p pos:Pos}{e:Expr}{es:List Expr}{t:TA}{j:Nat}
end
section
variable {X:Cx}{tg iter elt:Expr}{ifs:List Expr}{sc:Scope}{pos:Pos}{wi:TI}{g:TG}{tt:TT}{te:St->TE}{m:List (Option Nat)}{Nc:List Str}
end
def jRZ (Ts:List Addr)(H:Hp):Prop:=∀ b,H b=none\/(∃ o xs,H b=some (.frz o (.lst xs)))\/b∈Ts
theorem jIT {cts:List (Addr×Addr)}{P:Program}{w:World}{K:W.Frag}{mg mb:Str->Option Value}{CX:CXT}{k:Nat}{fa a:Addr}{fd:FuncData}{x:Str}{sp:Sp}{s₁:Shared}{vs:List Value}{ns:List Int}
  (KX:K.In s₁.heap) (hns:s₁.heap.Ns mainGlobals mg) (hb:s₁.heap.Ns builtinsNs mb) (hbb:∀ x:Str,x≠ "__name__" ->mb x=bootBuiltins x) (hlim:s₁.heap.NoLimit) (hg:s₁.gens=#[])
  (ha:s₁.heap.get? a=some { cls:= .type "list",data:= .seq vs.toArray}) (hi:IntsAre vs ns) (hl:ns.length<=sizeLine) (hr:Room k callerA) (hT:∀ T∈cts.map (·.2),s₁.heap.get? T=some (tabObj #[])) (CH:∀ p∈cts,PySem.W.CodeHd s₁.heap p.1 p.2) (hKT:∀ T∈cts.map (·.2),K.lookup T=none)
  (F:∀ base:Heap,K.In base->base.Ns mainGlobals mg->FnOk P w K mg base CX k fa fd [x] sp) (hbind:∀ (s:Shared) (u:Value),BindsTo s fd ⟨[u],[]⟩ [(x,u)])
  (hsp:∀ H:Hp,(∀ T∈cts.map (·.2),H T=some (.tbl #[]))->SqL K H a (ns.map V.int)->sp [.ref a] H (fun v _=>v= .bl true) fun _ _ _=>False)
  (hCX:∀ H e s',CX [] H s₁ (fun _ _ _=>False) e s'->False):
  codeAny (model P w) callerA (.call (.ref fa) ⟨[.ref a],[]⟩) (fun r s'=>r= .ok (.ret (.bool true))/\OldK s₁.heap s'.heap/\s'.os=s₁.os/\AllBare s'.gens) s₁:=by
 have rv:=jFA hi
 have lenV:=hi.length
 have core:∀ H:Hp,jRZ (cts.map (·.2)) H->(∀ T∈cts.map (·.2),H T=some (.tbl #[]))->SqL K H a (ns.map V.int)->HOk P w H s₁.heap->(∀ b,H b≠none->b=a\/b∈cts.map (·.2))->(H a≠none->K.lookup a=none)->
   codeAny (model P w) callerA (.call (.ref fa) ⟨[.ref a],[]⟩) (fun r s'=>r= .ok (.ret (.bool true))/\OldK s₁.heap s'.heap/\s'.os=s₁.os/\AllBare s'.gens) s₁:=by
  intro H hO hHT hS hok hA hK
  have base_of:∀ {b:Addr}{o:Obj},s₁.heap.get? b=some o->H b=none->(hidT s₁.heap H).get? b=some o:=fun e n=>jMN e n
  have noA:∀ {b:Addr}{o:Obj}{es:Array DictEntry}{ep:Nat},s₁.heap.get? b=some o->o.data= .dict es ep->H b=none:=fun {b o es ep} e d=>by
   cases q:H b with
   | none=>rfl
   | some u=>
    rcases hA b (by rw[q]; simp) with e' | e'
    ·subst e'
     rw[ha] at e; cases e
     have d':Data.seq vs.toArray _=Data.dict es ep:=d
     cases d'
    ·rw[hT b e'] at e; cases e
     have d':Data.fields _=Data.dict es ep:=d
     cases d'
  have nsK:∀ {b:Addr}{m:Str->Option Value},s₁.heap.Ns b m->(hidT s₁.heap H).Ns b m:=fun {b m} ⟨o,es,ep,e,d,r⟩=>⟨o,es,ep,base_of e (noA e d),d,r⟩
  have hKb:K.In (hidT s₁.heap H):=fun b o e=>base_of (KX b o e) (by
   cases q:H b with
   | none=>rfl
   | some u=>
    rcases hA b (by rw[q]; simp) with e' | e'
    ·subst e'
     rw[hK (by rw[q]; simp)] at e; cases e
    ·rw[hKT b e'] at e; cases e)
  have hM:Mod K mg (hidT s₁.heap H):=⟨hKb,nsK hns,⟨mb,nsK hb,hbb⟩,let ⟨mc,h1,h2⟩:=hlim; ⟨mc,nsK h1,h2⟩⟩
  have e0:Env0 P w K mg (hidT s₁.heap H) callerA [] s₁ H:=⟨rfl,hM,fun b o e=>jPD e,Nat.le_of_eq (jKT _ _),trivial,fun b hb=>absurd (show b∈([]:List Addr) from hb) (by simp),hok, .of_eq hg⟩
  refine dJ ((F _ hKb (nsK hns)).run callerA [] s₁ H ⟨[.ref a],[]⟩ [.ref a] [.ref a] _ _ hr e0 (hbind s₁ (.ref a)) (.cons rfl .nil) (hsp H hHT hS)) fun r s' h=>?_
  cases r with
  | error e=>exact(hCX H e s' h).elim
  | ok fl=>
   cases fl with
   | next=>exact False.elim h
   | brk=>exact False.elim h
   | cont=>exact False.elim h
   | ret u=>
    obtain⟨v,H',os,bare,un,hok',r',q⟩:=h
    have q':v= .bl true:=q
    subst q'
    obtain rfl:u=Value.bool true:=r'
    have gr:∀ T∈cts.map (·.2),∃ more,s'.heap.get? T=some (tabObj (#[]++more)):=fun T hTm=>by
     obtain⟨more,z⟩:=un.tbls T _ (hHT T hTm)
     exact⟨more,hok' T _ z⟩
    have kp:∀ b o,b∉cts.map (·.2)->s₁.heap.get? b=some o->s'.heap.get? b=some o:=fun b o hbT e=>?_
    ·refine⟨rfl,⟨fun b o e=>?_,fun b o e=>?_⟩,os,bare⟩
     ·by_cases hb:b∈cts.map (·.2)
      ·obtain⟨p,hp,rfl⟩:=bF.mp hb
       have q:=hT _ hb
       rw[q] at e
       cases e
       obtain⟨more,z⟩:=gr _ hb
       exact .inr (.inl ⟨((CH p hp).tab q).isCodeTable,rfl,#[],more,rfl,z⟩)
      ·exact .inl (kp b o hb e)
     ·by_cases hb:b∈cts.map (·.2)
      ·obtain⟨more,z⟩:=gr _ hb
       exact⟨_,z⟩
      ·exact⟨o,kp b o hb e⟩
    cases q:H b with
    | none=>exact un.keep b o e q (by intro z; exact absurd (show b∈([]:List Addr) from z) (by simp)) (by simp)
    | some u=>
     rcases hO b with z | ⟨ob,xs,z⟩ | z
     ·rw[q] at z; cases z
     ·have z2:=un.frzs b ob _ z
      obtain⟨e1,_⟩:=hok b _ z
      obtain⟨e2,_⟩:=hok' b _ z2
      rw[e] at e1; cases e1
      exact e2
     ·exact absurd z hbT
 have aT:a∉cts.map (·.2):=fun z=>by rw[hT a z] at ha; cases ha
 cases hk:K.lookup a with
 | some o=>
  have e:=KX a o hk
  rw[ha] at e
  cases e
  refine core (fun b=>if b∈cts.map (·.2) then some (.tbl #[]) else none) (fun b=>?_) (fun T hm=>am hm) (.inr ⟨_,vs.toArray,_,hk,rfl,rfl,rfl,by rw[aA,lenV]; exact hl,by simpa using rv⟩) (fun b u z=>?_) (fun b z=>?_) fun z=>absurd (ak aT) z
  ·by_cases hb:b∈cts.map (·.2)
   ·exact .inr (.inr hb)
   ·exact .inl (ak hb)
  ·by_cases hb:b∈cts.map (·.2)
   ·have z':=(am hb).symm.trans z
    cases z'
    exact hT b hb
   ·have z':=(ak hb).symm.trans z
    cases z'
  ·by_cases hb:b∈cts.map (·.2)
   ·exact .inr hb
   ·exact absurd (ak hb) z
 | none=>
  refine core (fun b=>if b∈cts.map (·.2) then some (.tbl #[]) else if b=a then some (.frz { cls:= .type "list",data:= .seq vs.toArray} (.lst (ns.map V.int))) else none) (fun b=>?_) (fun T hm=>am hm) (.inl (.inr ⟨{ cls:= .type "list",data:= .seq vs.toArray},by dsimp only; rw[ak aT,am rfl]⟩)) (fun b u z=>?_) (fun b z=>?_) fun _=>hk
  ·by_cases hT':b∈cts.map (·.2)
   ·exact .inr (.inr hT')
   ·by_cases hb:b=a
    ·exact .inr (.inl ⟨_,_,by dsimp only; rw[ak hT',am hb]⟩)
    ·exact .inl (by dsimp only; rw[ak hT',ak hb])
  ·dsimp only at z
   by_cases hT':b∈cts.map (·.2)
   ·rw[am hT'] at z
    cases z
    exact hT b hT'
   ·rw[ak hT'] at z
    by_cases hb:b=a
    ·rw[am hb] at z
     cases z
     subst hb
     exact⟨ha,by rw[ae]; exact hl,vs,_,rv,ha⟩
    ·rw[ak hb] at z
     cases z
  ·replace z:(if b∈cts.map (·.2) then some (HO.tbl #[]) else if b=a then some (HO.frz { cls:= .type "list",data:= .seq vs.toArray} (.lst (ns.map V.int))) else none)≠none:=z
   by_cases hT':b∈cts.map (·.2)
   ·exact .inr hT'
   ·by_cases hb:b=a
    ·exact .inl hb
    ·rw[ak hT',ak hb] at z
     exact absurd rfl z
theorem walk_ofTs {cts:List (Addr×Addr)}{l:PySem.W.OpenLaw}{n k:Nat}{q:Program}{loose:List Str}{XP:(Str->Option Value)->Heap->Prop}{YP:World->Heap->Prop}{d:DefRec}{K:Params->W.Frag}{CX:World->CXT}{sp:World->Sp}{x:Str}
  (hn:l.most=some n) (hn2:n<=sizeLine) (hdf:d.params.defaults=[]) (hr:Room k callerA)
  (hY:∀ (w:World) (h:Heap),YP w h->(K w.params).In h/\∀ T∈cts.map (·.2),h.get? T=some (tabObj #[])) (hcd:∀ w:World,∀ p∈cts,codeHdIn (K w.params) p.1 p.2=true) (hKT:∀ w:World,∀ T∈cts.map (·.2),(K w.params).lookup T=none)
  (F:∀ (w:World) (mg:Str->Option Value) (fa:Addr) (h:Heap),(K w.params).In h->h.Ns mainGlobals mg->mg d.name=some (.ref fa)->
   ∃ fd:FuncData,(∀ (s:Shared) (u:Value),BindsTo s fd ⟨[u],[]⟩ [(x,u)])/\
    ∀ base:Heap,(K w.params).In base->base.Ns mainGlobals mg->FnOk l.prog w (K w.params) mg base (CX w) k fa fd [x] (sp w))
  (hsp:∀ (w:World) (H:Hp) (a:Addr) (ns:List Int),ns.length<=n->(∀ T∈cts.map (·.2),H T=some (.tbl #[]))->SqL (K w.params) H a (ns.map V.int)->sp w [.ref a] H (fun v _=>v= .bl true) fun _ _ _=>False)
  (hCX:∀ (w:World) (H:Hp) (s:Shared) (e:Value) (s':Shared),CX w [] H s (fun _ _ _=>False) e s'->False):
  PySem.W.WalkO q loose XP YP l.row.toRowW d [] (fun f vs=>PySem.call f vs):=by
 refine Att.attach_call hn hdf fun w s₀ s₁ mg mb fa o pm cd doc a vs ns G Y ho hd _ hmg hobj hints hlen hg=>?_
 obtain⟨KX,hT⟩:=hY w _ Y
 obtain⟨fd,hb,hF⟩:=F w mg fa _ KX G.T.g hmg
 exact jIT KX G.T.g G.T.b G.T.builtins G.T.nolimit hg hobj hints (bJ hlen hn2) hr hT (fun p hp=>hV KX (hcd w p hp)) (hKT w) hF hb (fun H hO hS=>hsp w H a ns hlen hO hS) fun H e s'=>hCX w H s₁ e s'
open PySem.AutoSeq1 (wpAny_loadPart')
section
variable {prog:Program}{w:World}{A:Around}{E:Value->Shared->Prop}{s:Shared}
theorem jMS {tp:Bool}{e it l:Addr}{i:Nat}{xs:Array Value}{x old:Value}{Q:Value->Shared->Prop}(ee:IsEnum s.heap e it i old)(g1:ItAt tp s.heap it l i)(o1:ObAt tp s.heap l xs)(hx:xs[i]?=some x)(ne:e≠it)
  (k:∀ h',IsEnumOut h' e it ((i:Int)+1) x s.heap.objs.size->ItAt tp h' it l (i+1)->h'.get? s.heap.objs.size=some { cls:= .type "tuple",data:= .seq #[.int i s.toks,x]} ->h'.objs.size=s.heap.objs.size+1->
   (∀ c o,c≠e->c≠it->s.heap.get? c=some o->h'.get? c=some o)->Q (.ref s.heap.objs.size) { s with heap:=h',toks:=s.toks+1}):
  wpAny (model prog w) A (Builtin.«enumerate.__next__» ⟨[.ref e],[]⟩) (fun fin s'=>∃ v,fin= .done (.ret v)/\Q v s') E s:=by
 obtain⟨hp,g,d,tk,os⟩:=s
 show wpAny (model prog w) A (field (.ref e) 2 >>= _) _ _ _
 refine aa (bA ee rfl (x:= .ref it) rfl (aa (next1 g1 o1 hx fun p1 r1 q1=>?_)))
 have q1:Heap.SameBut it hp p1:=q1
 have e1:IsEnum p1 e it i old:=(q1.2 e ne).trans ee
 show wpAny (model prog w) A (field (.ref e) 3 >>= _) _ _ ⟨p1,g,d,tk,os⟩
 refine aa (bA e1 rfl (x:=rawInt i) rfl (?_:wpAny (model prog w) A (field (.ref e) 4 >>= _) _ _ ⟨p1,g,d,tk,os⟩))
 refine aa (bA e1 rfl (x:= .none) rfl (?_:wpAny (model prog w) A (mkInt i >>= _) _ _ ⟨p1,g,d,tk,os⟩))
 refine aa (wpAny_mkInt (?_:wpAny (model prog w) A (setField (.ref e) 3 (rawInt ((i:Int)+1)) >>= _) _ _ ⟨p1,g,d,tk+1,os⟩))
 refine aa (br e1 (by simp) fun p2 e2 q2=>?_)
 have q2:Heap.SameBut e p1 p2:=q2
 have e2:IsEnum p2 e it ((i:Int)+1) old:=e2
 show wpAny (model prog w) A (setField (.ref e) 4 .none >>= _) _ _ ⟨p2,g,d,tk+1,os⟩
 refine aa (br e2 (by simp) fun p3 e3 q3=>?_)
 have q3:Heap.SameBut e p2 p3:=q3
 have e3:IsEnum p3 e it ((i:Int)+1) old:=e3
 show wpAny (model prog w) A (newTuple [.int i tk,x] >>= _) _ _ ⟨p3,g,d,tk+1,os⟩
 refine aa (g4 ?_)
 have e4:IsEnum (p3.push { cls:= .type "tuple",data:= .seq #[.int i tk,x]}) e it ((i:Int)+1) old:=ab _ e3
 have sz:p3.objs.size=hp.objs.size:=by rw[q3.1,q2.1,q1.1]
 have lt:e<hp.objs.size:=ao ee
 have t4:(p3.push { cls:= .type "tuple",data:= .seq #[.int i tk,x]}).get? hp.objs.size=some { cls:= .type "tuple",data:= .seq #[.int i tk,x]} :=by rw[<- sz]; exact aj _ rfl
 have z4:(p3.push { cls:= .type "tuple",data:= .seq #[.int i tk,x]}).objs.size=hp.objs.size+1:=by rw[bM,sz]
 have k4:∀ c o,c≠e->c≠it->hp.get? c=some o->(p3.push { cls:= .type "tuple",data:= .seq #[.int i tk,x]}).get? c=some o:=fun c o n1 n2 v=>ab _ (q3.extBut c o n1 (q2.extBut c o n1 (q1.extBut c o n2 v)))
 have r4:ItAt tp (p3.push { cls:= .type "tuple",data:= .seq #[.int i tk,x]}) it l (i+1):=((r1.but q2.extBut ne.symm).but q3.extBut ne.symm).at fun o v=>ab _ v
 generalize p3.push { cls:= .type "tuple",data:= .seq #[.int i tk,x]} =p4 at e4 t4 z4 k4 r4 ⊢
 show wpAny (model prog w) A (Builtin.SmallTypes.ownedTupleIsFree (.ref e) >>= _) _ _ ⟨p4,g,d,tk+1,os⟩
 rw[sz]
 refine aa (by
  unfold Builtin.SmallTypes.ownedTupleIsFree
  refine aa (bA e4 rfl (x:= .none) rfl (af ?_))
  simp only [ft]
  refine aa (cx (aa (bA e4 rfl (x:=old) rfl (aa (br e4 (by simp) fun p5 e5 q5=>?_)))))
  have q5:Heap.SameBut e p4 p5:=q5
  have e5:IsEnum p5 e it ((i:Int)+1) x:=e5
  refine aa (m:=Builtin.SmallTypes.ownedTupleHandOut (.ref e) (.ref hp.objs.size)) ?_
  unfold Builtin.SmallTypes.ownedTupleHandOut
  refine aa (br e5 (by simp) fun p6 e6 q6=>?_)
  have q6:Heap.SameBut e p5 p6:=q6
  have e6:IsEnumOut p6 e it ((i:Int)+1) x hp.objs.size:=e6
  refine br e6 (by simp) fun p7 e7 q7=>?_
  have q7:Heap.SameBut e p6 p7:=q7
  have e7:IsEnumOut p7 e it ((i:Int)+1) x hp.objs.size:=e7
  have up:∀ c o,c≠e->p4.get? c=some o->p7.get? c=some o:=fun c o n v=>q7.extBut _ _ n (q6.extBut _ _ n (q5.extBut _ _ n v))
  exact aa (gZ (af ⟨_,rfl,k p7 e7 (r4.at fun o v=>up _ o ne.symm v) (up _ _ (cF lt) t4) (by rw[q7.1,q6.1,q5.1,z4]) fun c o n1 n2 v=>up c o n1 (k4 c o n1 n2 v)⟩)))
theorem jII {tp:Bool}{e it l:Addr}{i:Nat}{xs:Array Value}{x old:Value}{Q:Option Value->Shared->Prop}(ee:IsEnum s.heap e it i old)(g1:ItAt tp s.heap it l i)(o1:ObAt tp s.heap l xs)(hx:xs[i]?=some x)(ne:e≠it)
  (k:∀ h',IsEnumOut h' e it ((i:Int)+1) x s.heap.objs.size->ItAt tp h' it l (i+1)->h'.get? s.heap.objs.size=some { cls:= .type "tuple",data:= .seq #[.int i s.toks,x]} ->h'.objs.size=s.heap.objs.size+1->
   (∀ c o,c≠e->c≠it->s.heap.get? c=some o->h'.get? c=some o)->Q (some (.ref s.heap.objs.size)) { s with heap:=h',toks:=s.toks+1}):
  wpAny (model prog w) A (pyNext (.ref e)) Q E s:=by
 have ty:s.TypeIs (.ref e) "enumerate" :=⟨_,ee,rfl⟩
 unfold pyNext
 exact aa (dD (bu (name:=Str.ofString "__next__") ty F.slot_enumerate_next (bv F.slot_enumerate_next ty F.entry_enumerate_next (jMS ee g1 o1 hx ne fun h' b1 b2 b3 b4 b5=>af (k h' b1 b2 b3 b4 b5)) (F.args_enumerate_next_1 _))))
theorem jIJ {tp:Bool}{e it l:Addr}{i:Nat}{xs:Array Value}{old:Value}{Q:Option Value->Shared->Prop}(hh:A.handled=none)(ee:IsEnum s.heap e it i old)(g1:ItAt tp s.heap it l i)(o1:ObAt tp s.heap l xs)(hx:xs[i]?=none)
  (k:∀ h',(∀ c o,c≠e->c≠it->s.heap.get? c=some o->h'.get? c=some o)->Q none { s with heap:=h'}):wpAny (model prog w) A (pyNext (.ref e)) Q E s:=by
 have ty:s.TypeIs (.ref e) "enumerate" :=⟨_,ee,rfl⟩
 unfold pyNext
 refine aa (dD (bu (name:=Str.ofString "__next__") ty F.slot_enumerate_next (bv F.slot_enumerate_next ty F.entry_enumerate_next (?_:wpAny (model prog w) _ (field (.ref e) 2 >>= _) _ _ _) (F.args_enumerate_next_1 _))))
 refine aa (bA ee rfl (x:= .ref it) rfl (aa (next0 hh g1 o1 hx fun h' x kp ⟨u,eu,cu⟩=>?_)))
 exact aa (eS (T:= "StopIteration") (b:=true) ⟨u,eu,cu⟩ gY (af (k _ fun c o _ n v=>kp c o n v)))
end
set_option maxHeartbeats 2000000 in
theorem jKD (tp:Bool)(l:Addr)(xs:Array Value)(u:Obj):
  Meets (Builtin.«enumerate.__new__» ⟨[.type "enumerate", .ref l],[]⟩) (fun _ R s=>s.heap.get? l=some u/\ObAt tp s.heap l xs/\
   R (.ok (.ret (.ref (s.heap.push (yX tp l)).objs.size))) { s with heap:=(s.heap.push (yX tp l)).push { cls:= .type "enumerate",data:= .fields #[.none, .bool false, .ref s.heap.objs.size,rawInt 0, .none, .none]}}):=
 .of_wp fun prog w A R s h=>by
  obtain⟨hp,g,d,tk,os⟩:=s
  obtain⟨a0,a1,q⟩:=h
  have sub:=sub_enumerate
  have e1:ObAt tp (Shared.heap ⟨hp,g,d,tk,os⟩) l xs:=a1
  obtain⟨c,dct,dt,sl⟩:=u
  obtain⟨n,hc,hd⟩:∃ n,c=(if tp then .type "tuple" else .type "list")/\dt= .seq xs n:=by
   cases tp with
   | false=>obtain⟨o,e,hc,n,hd⟩:=a1; cases (a0.symm.trans e); exact⟨n,hc,hd⟩
   | true=>obtain⟨o,e,hc,n,hd⟩:=a1; cases (a0.symm.trans e); exact⟨n,hc,hd⟩
  subst hd
  cases tp with
  | false=>
   subst hc
   wp_walk using cB a0
   refine wpAny_stack_any fun _=>af ?_
   split
   ·rename_i c _ _ _ _ _
    cases hcc:(c==Value.type "enumerate")
    all_goals (wp_walk using cB a0,jC3 e1; exact⟨_,rfl,q⟩)
   ·wp_walk using cB a0,jC3 e1
    exact⟨_,rfl,q⟩
  | true=>
   subst hc
   wp_walk using cB a0
   refine wpAny_stack_any fun _=>af ?_
   split
   ·rename_i c _ _ _ _ _
    cases hcc:(c==Value.type "enumerate")
    all_goals (wp_walk using cB a0,jC3 e1; exact⟨_,rfl,q⟩)
   ·wp_walk using cB a0,jC3 e1
    exact⟨_,rfl,q⟩
theorem jN0 {prog:Program}{w:World}{A:Around}{E:Value->Shared->Prop}{s:Shared}{tp:Bool}{l:Addr}{xs:Array Value}{Q:Value->Shared->Prop}(a1:ObAt tp s.heap l xs)
  (k:∀ h',IsEnum h' (s.heap.objs.size+1) s.heap.objs.size 0 .none->ItAt tp h' s.heap.objs.size l 0->(∀ c o,s.heap.get? c=some o->h'.get? c=some o)->Q (.ref (s.heap.objs.size+1)) { s with heap:=h'}):
  wpAny (model prog w) A (call (.type "enumerate") [.ref l]) Q E s:=by
 obtain⟨u,eu⟩:∃ u,s.heap.get? l=some u:=by
  cases tp with
  | false=>obtain⟨o,e,_⟩:=a1; exact⟨o,e⟩
  | true=>obtain⟨o,e,_⟩:=a1; exact⟨o,e⟩
 refine callType_new F.called_enumerate (by decide) (F.typeCall_enumerate_1 _) (F.newCall_enumerate_1 _) (fun obj=>F.args_object_init_2 obj _) F.entry_enumerate_new (jKD tp l xs u) ⟨eu,a1,?_⟩
 have z1:(s.heap.push (yX tp l)).objs.size=s.heap.objs.size+1:=bM ..
 have y2:IsEnum ((s.heap.push (yX tp l)).push { cls:= .type "enumerate",data:= .fields #[.none, .bool false, .ref s.heap.objs.size,rawInt 0, .none, .none]}) (s.heap.push (yX tp l)).objs.size s.heap.objs.size 0 .none:=aj _ rfl
 have y1:((s.heap.push (yX tp l)).push { cls:= .type "enumerate",data:= .fields #[.none, .bool false, .ref s.heap.objs.size,rawInt 0, .none, .none]}).get? s.heap.objs.size=some (yX tp l):=ab _ (aj _ (jC6 _ _))
 show _/\_
 rw[z1] at y2 ⊢
 exact⟨⟨_,y2,rfl⟩,k _ y2 (.new tp y1) fun c o e=>ab _ (ab _ e)⟩
section
variable {X:Cx}
def Ite (tp:Bool)(K:W.Frag)(l:Addr):It:=
 ⟨fun i H=>∃ xs x,Sq tp K H l xs/\xs[i]?=some x,
  fun i H v H'=>∃ T x,H T=none/\v= .ref T/\H'=upd H T (.tup [.int (i:Int),x])/\∀ xs,Sq tp K H l xs->xs[i]?=some x,
  fun i H=>∃ xs,Sq tp K H l xs/\xs.length<=i⟩
theorem jJ9 {P:Program}{w:World}{K:W.Frag}{elts:List Expr}{x1:Nat}{tps:Pos}(tp:Bool)(l e it:Addr)(ne:e≠it):
  Turn P w K (.Tuple elts x1 tps) (Ite tp K l) [e,it] e (fun i h=>(∃ old,IsEnum h e it ((i:Nat):Int) old)/\ItAt tp h it l i) where
 mem:=by simp
 obj:=fun i h st b hb=>by
  obtain⟨⟨old,he⟩,y1⟩:=st
  simp only [aF,bq,cS] at hb
  rcases hb with rfl | rfl
  ·exact⟨_,he,fun v q=>by cases q⟩
  ·exact y1.obj
 keep:=fun i h h' st k=>by
  obtain⟨⟨old,he⟩,h1⟩:=st
  exact⟨⟨old,k e (by simp) _ he⟩,h1.at fun o z=>k it (by simp) o z⟩
 item:=by
  intro X hP hw hK hc i pins s σ H E I hf st hg
  subst hP hw hK
  obtain⟨xs,x,hq1,hx⟩:=hg
  obtain⟨⟨old,he⟩,h1⟩:=st
  obtain⟨its1,r1,p1,_⟩:=I.sq hq1
  obtain⟨u,hu,ru⟩:=r1.get hx
  refine jII he h1 p1 (x:=u) (by simpa using hu) ne fun h' a1 a2 a3 a4 a5=>?_
  refine⟨_,rfl,wpAny_letOwnedTupleGo_enum (s:= { s with heap:=h',toks:=s.toks+1}) a1 fun h'' b1 sb=>?_⟩
  have fresh:H s.heap.objs.size=none:=I.fresh
  have ntr:∀ b o,H b=some o->b∉([e,it]:List Addr):=fun b o z hb=>by
   have:=(hf b hb).1
   rw[z] at this; cases this
  have kp:∀ b o,b∉([e,it]:List Addr)->s.heap.get? b=some o->h''.get? b=some o:=fun b o hb z=>by
   simp only [aF,bq,cS,iE] at hb
   exact(sb.2 b hb.1).trans (a5 b o hb.1 hb.2 z)
  have nz:s.heap.objs.size≠e:=cF (ao he)
  have hT2:h''.get? s.heap.objs.size=some { cls:= .type "tuple",data:= .seq #[.int i s.toks,u]} :=(sb.2 _ nz).trans a3
  have I2:Inv X pins σ (upd H s.heap.objs.size (.tup [.int (i:Int),x])) { s with heap:=h'',toks:=s.toks+1} :=by
   refine I.step (g':=s.gens) (d':=s.drawn) (t':=s.toks+1) (ch:=[e,it]) (fun b hb=>?_) (fun b o _ _ hb z _=>kp b o hb z) (fun b o _ _ hb z _=>⟨o.slots,kp b o hb z⟩)
    (fun b o _ z n=>by rw[j8 (aO (ao z))]; exact n) (fun b o hb z=>⟨o,kp b o hb z⟩) (fun b ws z=>by rw[j8 (j9 z fresh)]; exact z) (fun b o ws z=>by rw[j8 (j9 z fresh)]; exact z)
    (fun b ps z=>⟨#[],by rw[j8 (j9 z fresh),z]; simp⟩) (fun m hm=>?_) (fun b o z=>?_) I.bare
   ·obtain⟨f0,f1,f2,f3,f4,f5⟩:=hf b hb
    exact⟨f3,f1,f4,f5⟩
   ·obtain⟨o,es,ep,ho,r⟩:=hm
    exact⟨o,es,ep,kp _ o (fun hb=>(hf _ hb).2.1 rfl) ho,r⟩
   ·by_cases hb:b=s.heap.objs.size
    ·subst hb
     rw[j5] at z
     cases z
     exact⟨by rw[db]; show 2<=_; decide,[.int i s.toks,u], .cons ⟨_,rfl⟩ (.cons ru .nil),0,hT2⟩
    ·rw[j8 hb] at z
     refine(I.hok b o z).stay (fun c w hc q=>kp c w ?_ q) (fun c q=>by rw[j8 (j9 q fresh)]; exact q) (fun c ws q=>by rw[j8 (j9 q fresh)]; exact q)
     rcases hc with rfl | hc
     ·exact ntr _ _ z
     ·exact ntr _ _ hc
  refine⟨.ref s.heap.objs.size,_,I2,rfl,⟨_,x,fresh,rfl,rfl,fun xs' q1=>by rw[I.sq_inj q1 hq1]; exact hx⟩,⟨⟨_,b1⟩,?_⟩,fun b hb=>?_⟩
  ·exact a2.at fun o z=>(sb.2 it ne.symm).trans z
  ·rw[j8 (fun q=>by
    obtain⟨o,eo⟩:∃ o,s.heap.get? b=some o:=by
     simp only [aF,bq,cS] at hb
     rcases hb with rfl | rfl
     ·exact⟨_,he⟩
     ·obtain⟨o,z,_⟩:=h1.obj; exact⟨o,z⟩
    exact absurd (ao eo) (by rw[q]; exact ce _))]
   exact(hf b hb).1
 done:=by
  intro X hP hw hK hc i pins s σ H E I hf st hg
  subst hP hw hK
  obtain⟨xs,hq1,hend⟩:=hg
  obtain⟨⟨old,he⟩,h1⟩:=st
  obtain⟨its1,r1,p1,_⟩:=I.sq hq1
  have e1:=r1.length
  refine jIJ (I.ok.hd hc) he h1 p1 (by simp; omega) fun h' kp=>⟨rfl,?_⟩
  have kp2:∀ b o,b∉([e,it]:List Addr)->s.heap.get? b=some o->h'.get? b=some o:=fun b o hb z=>by
   simp only [aF,bq,cS,iE] at hb
   exact kp b o hb.1 hb.2 z
  have ntr:∀ b o,H b=some o->b∉([e,it]:List Addr):=fun b o z hb=>by
   have:=(hf b hb).1
   rw[z] at this; cases this
  refine I.step (g':=s.gens) (d':=s.drawn) (t':=s.toks) (ch:=[e,it]) (fun b hb=>?_) (fun b o _ _ hb z _=>kp2 b o hb z) (fun b o _ _ hb z _=>⟨o.slots,kp2 b o hb z⟩)
   (fun b o _ z n=>n) (fun b o hb z=>⟨o,kp2 b o hb z⟩) (fun b ws z=>z) (fun b o ws z=>z) (fun b ps z=>⟨#[],by rw[z]; simp⟩) (fun m hm=>?_) (fun b o z=>?_) I.bare
  ·obtain⟨f0,f1,f2,f3,f4,f5⟩:=hf b hb
   exact⟨f3,f1,f4,f5⟩
  ·obtain⟨o,es,ep,ho,r⟩:=hm
   exact⟨o,es,ep,kp2 _ o (fun hb=>(hf _ hb).2.1 rfl) ho,r⟩
  ·refine(I.hok b o z).stay (fun c w hc q=>kp2 c w ?_ q) (fun _ q=>q) fun _ _ q=>q
   rcases hc with rfl | hc
   ·exact ntr _ _ z
   ·exact ntr _ _ hc
 self:=fun _ _ _ _ _ st h=>wpAny_pyIter_enum st.1.choose_spec h
def iEnum (K:W.Frag)(ta:TA):TI:=fun σ H R=>ta σ H fun vs H1=>∃ tp l,vs=[.ref l]/\(∃ xs,Sq tp K H1 l xs)/\R (Ite tp K l) H1
theorem jOP {a:Expr}{ta:TA}{p pos:Pos}{elts:List Expr}{x1:Nat}{tp:Pos}(hg:Gl X "enumerate")(hm:X.mg "enumerate" =none)(ha:PA X [a] ta)(hv:bootBuiltins "enumerate" =some (.type "enumerate"):=by decide+kernel)
  (he:starEach [a] X.env=(false,eval a X.env)::starEach [] X.env:=by rfl) (hpl:(backTo pos (starEach [] X.env)).any (·.1)=false:=by rfl):
  PI X (.Tuple elts x1 tp) (.Call (.Name "enumerate" p) [a] [] pos) (iEnum X.K ta):=by
 intro pins s σ H R I h
 refine Call_ (jCM I hg hm hv (cw (thn (ha pos pins s σ H _ I h) fun us s1 ⟨vs,H1,I1,r1,q1⟩=>?_) he hpl))
 obtain⟨t1,l1,rfl,⟨xs,hq1⟩,q⟩:=q1
 obtain⟨u,rfl,ru⟩:=r1.one
 cases ru
 obtain⟨its1,_,p1,_⟩:=I1.sq hq1
 refine jN0 p1 fun h' a1 a2 kp=>?_
 have I2:Inv X pins σ H1 { s1 with heap:=h'} :=I1.kept (t':=s1.toks) kp
 refine wpAny_pyIter_enum a1 ⟨s1.heap.objs.size+1,[s1.heap.objs.size+1,s1.heap.objs.size],_,Ite t1 X.K l1,H1,rfl,I2,jJ9 t1 l1 _ _ (Nat.succ_ne_self _),⟨⟨_,a1⟩,a2⟩,fun b hb=>?_,q⟩
 have hge:s1.heap.objs.size<=b:=by
  simp only [aF,bq,cS] at hb
  rcases hb with rfl | rfl
  ·exact dM _ 1
  ·exact ai _
 exact I1.fpOk hge (I1.hok.fresh hge)
theorem jPM {a:Expr}{t:TA}{p pos:Pos}{elts:List Expr}{x1:Nat}{tp:Pos}(hg:Gl1 X "enumerate")(hm:X.mg "enumerate" =none)(ha:JA X [a] t)(he:starEach [a] X.env=(false,eval a X.env)::starEach [] X.env)(hv:bootBuiltins "enumerate" =some (.type "enumerate"):=by decide+kernel)
  (hpl:(backTo pos (starEach [] X.env)).any (·.1)=false:=by rfl):JI X (.Tuple elts x1 tp) (.Call (.Name "enumerate" p) [a] [] pos) (iEnum X.K t):=⟨jOP hg.a hm ha.h hv he hpl⟩
end
section
variable {K:W.Frag}{m:List (Option Nat)}{g:TG}{tt:TT}{te:TE}{σ:St}{H1:Hp}{Q:VK}
end
section
variable {κ:Type} [DecidableEq κ]
def valV (kvs:List (κ×V))(k:κ):Option V:=(kvs.find? fun kv=>decide (kv.1=k)).map (·.2)
def putK (kvs:List (κ×V))(k:κ)(v:V):List (κ×V):=
 if (kvs.any fun kv=>decide (kv.1=k))=true then kvs.map (fun kv=>if kv.1=k then (kv.1,v) else kv) else kvs++[(k,v)]
theorem jAK {p:κ×V}{r:List (κ×V)}{k:κ}(e:p.1=k):valV (p::r) k=some p.2:=by simp [valV,dC,e]
theorem jA9 {p:κ×V}{r:List (κ×V)}{k:κ}(e:¬ p.1=k):valV (p::r) k=valV r k:=by simp [valV,dC,e]
theorem jEC (k:κ):∀ kvs:List (κ×V),(kvs.any fun kv=>decide (kv.1=k))=(valV kvs k).isSome
 | []=>rfl
 | p::r=>by
  rw[eX]
  by_cases e:p.1=k
  ·simp only [jAK e,ax e,Bool.true_or,Option.isSome_some]
  ·rw[jA9 e,aP e,Bool.false_or]; exact jEC k r
theorem jBD (kvs:List (κ×V))(k:κ)(v:V):(putK kvs k v).length<=kvs.length+1:=by
 unfold putK
 split
 ·rw[ae]; omega
 ·rw[az,aW,dB]; omega
theorem jCX {kvs:List (κ×V)}{k:κ}(v:V)(h:valV kvs k=none):putK kvs k v=kvs++[(k,v)]:=by
 unfold putK
 rw[jEC,h]
 exact ak (by decide)
theorem RelO.isSome_eq {o:Option V}{u:Option Value}(r:RelO o u):o.isSome=u.isSome:=by
 cases o with
 | none=>cases u with
  | none=>rfl
  | some _=>exact(show False from r).elim
 | some _=>cases u with
  | none=>exact(show False from r).elim
  | some _=>rfl
theorem KV.val {kvs:List (κ×V)}{vs:List (κ×Value)}(r:KV kvs vs)(k:κ):RelO (valV kvs k) (valueAt vs k):=by
 unfold KV at r
 induction r with
 | nil=>exact True.intro
 | @cons p q ps qs h t ih=>
  obtain⟨h1,h2⟩:=h
  by_cases e:p.1=k
  ·have e':q.1=k:=h1.symm.trans e
   have b:valueAt (q::qs) k=some q.2:=by simp [valueAt,dC,e']
   rw[jAK e,b]; exact h2
  ·have e':¬ q.1=k:=fun z=>e (h1.trans z)
   have b:valueAt (q::qs) k=valueAt qs k:=by simp [valueAt,dC,e']
   rw[jA9 e,b]; exact ih
theorem KV.any {kvs:List (κ×V)}{vs:List (κ×Value)}(r:KV kvs vs)(k:κ):(kvs.any fun kv=>decide (kv.1=k))=vs.any fun kv=>decide (kv.1=k):=by
 unfold KV at r
 induction r with
 | nil=>rfl
 | cons h t ih=>rw[eX,eX,ih,h.1]
theorem KV.repl {kvs:List (κ×V)}{vs:List (κ×Value)}(r:KV kvs vs)(k:κ){y:V}{u:Value}(ry:RelV y u):
  KV (kvs.map fun kv=>if kv.1=k then (kv.1,y) else kv) (vs.map fun kv=>if kv.1=k then (kv.1,u) else kv):=by
 unfold KV at r ⊢
 induction r with
 | nil=>exact .nil
 | @cons p q ps qs h t ih=>
  rw[be,be]
  refine .cons ?_ ih
  obtain⟨h1,h2⟩:=h
  by_cases e:p.1=k
  ·rw[am e,am (h1.symm.trans e)]; exact⟨h1,ry⟩
  ·rw[ak e,ak (fun z=>e (h1.trans z))]; exact⟨h1,h2⟩
theorem KV.put {kvs:List (κ×V)}{vs:List (κ×Value)}(r:KV kvs vs)(k:κ){y:V}{u:Value}(ry:RelV y u):KV (putK kvs k y) (stored vs k u):=by
 unfold putK stored
 rw[r.any k]
 by_cases e:(vs.any fun kv=>decide (kv.1=k))=true
 ·rw[am e,am e]; exact r.repl k ry
 ·rw[ak e,ak e]; exact Paired.snoc r ⟨rfl,ry⟩
theorem KV.keys {kvs:List (κ×V)}{vs:List (κ×Value)}(r:KV kvs vs):kvs.map (·.1)=vs.map (·.1):=by
 unfold KV at r
 induction r with
 | nil=>rfl
 | cons h t ih=>rw[be,be,ih,h.1]
theorem KV.length {kvs:List (κ×V)}{vs:List (κ×Value)}(r:KV kvs vs):kvs.length=vs.length:=eW r
end
theorem kV_is {P:Program}{w:World}{k:Key}{u:Value}(r:RelV (kV k) u):(kD P w).is k u=true:=by
 cases k with
 | inl i=>obtain⟨t,e⟩:=(show ∃ t,u=Value.int i t from r); subst e; exact jGS P w i t
 | inr x=>obtain⟨t,e⟩:=(show ∃ t,u=Value.str x t from r); subst e; exact jGR P w x t
theorem jFW {P:Program}{w:World} :∀ {ks:List Key}{us:List Value},Vals (ks.map kV) us->ItemsAre (kD P w) ks us
 | [],_,r=>by rw[gF] at r; cases r; exact .nil
 | k::ks,_,r=>by
  rw[be] at r
  cases r with
  | cons h t=>exact .cons (kV_is h) (jFW t)
abbrev KT (H:Hp):List (List Key×V)->List (List Key×Addr×Value)->Prop:=Paired fun p q=>p.1=q.1/\H q.2.1=some (.tup (p.1.map kV))/\RelV p.2 q.2.2
theorem KT.val {H:Hp}{kvs:List (List Key×V)}{xs:List (List Key×Addr×Value)}(r:KT H kvs xs)(k:List Key):RelO (valV kvs k) ((atKey xs k).map (·.2)):=by
 induction r with
 | nil=>exact True.intro
 | @cons p q ps qs h t ih=>
  obtain⟨h1,_,h2⟩:=h
  by_cases e:p.1=k
  ·have e':q.1=k:=h1.symm.trans e
   have b:atKey (q::qs) k=some q.2:=by simp [atKey,dC,e']
   rw[jAK e,b]; exact h2
  ·have e':¬ q.1=k:=fun z=>e (h1.trans z)
   have b:atKey (q::qs) k=atKey qs k:=by simp [atKey,dC,e']
   rw[jA9 e,b]; exact ih
theorem KT.repl {H:Hp}{kvs:List (List Key×V)}{xs:List (List Key×Addr×Value)}(r:KT H kvs xs)(k:List Key){y:V}{u:Value}(ry:RelV y u):
  KT H (kvs.map fun kv=>if kv.1=k then (kv.1,y) else kv) (xs.map (putAt k u)):=by
 induction r with
 | nil=>exact .nil
 | @cons p q ps qs h t ih=>
  rw[be,be]
  refine .cons ?_ ih
  obtain⟨h1,h2,h3⟩:=h
  unfold putAt
  by_cases e:p.1=k
  ·rw[am e,am (h1.symm.trans e)]; exact⟨h1,h2,ry⟩
  ·rw[ak e,ak (fun z=>e (h1.trans z))]; exact⟨h1,h2,h3⟩
theorem KT.put {H:Hp}{kvs:List (List Key×V)}{xs:List (List Key×Addr×Value)}(r:KT H kvs xs)(k:List Key){b:Addr}{y:V}{u:Value}(hb:H b=some (.tup (k.map kV)))(ry:RelV y u):
  KT H (putK kvs k y) (storedH xs k b u):=by
 have e:(kvs.any fun kv=>decide (kv.1=k))=(atKey xs k).isSome:=by
  rw[jEC,(r.val k).isSome_eq,gj]
 unfold putK storedH
 rw[e]
 by_cases q:(atKey xs k).isSome=true
 ·rw[am q,am q]; exact r.repl k ry
 ·rw[ak q,ak q]; exact Paired.snoc r ⟨rfl,hb,ry⟩
theorem KT.keeps {H H':Hp}{kvs:List (List Key×V)}{xs:List (List Key×Addr×Value)}(r:KT H kvs xs)(ht:∀ b ys,H b=some (.tup ys)->H' b=some (.tup ys)):KT H' kvs xs:=
 Paired.mapP r fun _ _ z=>⟨z.1,ht _ _ z.2.1,z.2.2⟩
section
variable {P:Program}{w:World}{H:Hp}{h:Heap}{a:Addr}
theorem rd_of {u:HO}(ok:HOk P w H h)(e:Rd H a u):ObjOk P w H h a u:=e.ok ok
theorem dk_rd {kvs:List (Key×V)}(ok:HOk P w H h)(e:Rd H a (.dK kvs)):kvs.length<=sizeLine/\(a==sysModules)=false/\∃ vs,KV kvs vs/\h.DictOf (kD P w) a vs:=
 show ObjOk P w H h a (.dK kvs) from rd_of ok e
theorem dk_of {kvs:List (Key×V)}(ok:HOk P w H h)(e:H a=some (.dK kvs)):kvs.length<=sizeLine/\(a==sysModules)=false/\∃ vs,KV kvs vs/\h.DictOf (kD P w) a vs:=dk_rd ok (.inl e)
theorem jFU {ks:List Key}(ok:HOk P w H h)(e:H a=some (.tup (ks.map kV))):(tupleKind (kD P w)).is h ks a:=by
 obtain⟨_,its,r,p⟩:=(show ObjOk P w H h a (.tup (ks.map kV)) from ok a _ e)
 obtain⟨o,h1,h2,n,h3⟩:=p.isTup
 exact⟨o,its.toArray,n,h1,h2,h3,by simpa using jFW r⟩
theorem dt_rd {kvs:List (List Key×V)}(ok:HOk P w H h)(e:Rd H a (.dT kvs)):kvs.length<=sizeLine/\(a==sysModules)=false/\
  ∃ xs,KT H kvs xs/\h.DictOfH (tupleKind (kD P w)) a xs:=by
 obtain⟨z,y,xs,r,o,es,ep,h1,h2,h3,h4,h5⟩:=(show ObjOk P w H h a (.dT kvs) from rd_of ok e)
 refine⟨z,y,xs,r,o,es,ep,h1,h2,h3,h4,fun x hx=>?_,h5⟩
 have all:∀ {l:List (List Key×V)}{m:List (List Key×Addr×Value)},KT H l m->∀ x∈m,(tupleKind (kD P w)).is h x.1 x.2.1:=by
  intro l m q
  induction q with
  | nil=>intro x hx; exact nomatch hx
  | @cons p q ps qs hq t ih=>
   intro x hx
   rcases aF.mp hx with e | hx
   ·subst e
    exact jFU ok (by rw[<- hq.1]; exact hq.2.1)
   ·exact ih x hx
 exact all r x hx
theorem dt_of {kvs:List (List Key×V)}(ok:HOk P w H h)(e:H a=some (.dT kvs)):kvs.length<=sizeLine/\(a==sysModules)=false/\
  ∃ xs,KT H kvs xs/\h.DictOfH (tupleKind (kD P w)) a xs:=dt_rd ok (.inl e)
end
def DGet (H:Hp)(a:Addr)(y:V)(r:Option V):Prop:=
 (∃ kvs k,Rd H a (.dK kvs)/\y=kV k/\r=valV kvs k)\/∃ kvs k b,Rd H a (.dT kvs)/\y= .ref b/\H b=some (.tup (k.map kV))/\r=valV kvs k
def DPut (H:Hp)(a:Addr)(y v:V)(H':Hp):Prop:=
 (∃ kvs k,H a=some (.dK kvs)/\y=kV k/\kvs.length<sizeLine/\H'=upd H a (.dK (putK kvs k v)))\/
 ∃ kvs k b,H a=some (.dT kvs)/\y= .ref b/\H b=some (.tup (k.map kV))/\kvs.length<sizeLine/\H'=upd H a (.dT (putK kvs k v))
theorem DGet.k {H:Hp}{a:Addr}{kvs:List (Key×V)}{k:Key}(e:H a=some (.dK kvs)):DGet H a (kV k) (valV kvs k):= .inl ⟨kvs,k, .inl e,rfl,rfl⟩
theorem DGet.t {H:Hp}{a b:Addr}{kvs:List (List Key×V)}{k:List Key}(e:H a=some (.dT kvs))(eb:H b=some (.tup (k.map kV))):DGet H a (.ref b) (valV kvs k):= .inr ⟨kvs,k,b, .inl e,rfl,eb,rfl⟩
theorem DPut.k {H:Hp}{a:Addr}{kvs:List (Key×V)}{k:Key}{v:V}(e:H a=some (.dK kvs))(hl:kvs.length<sizeLine):DPut H a (kV k) v (upd H a (.dK (putK kvs k v))):= .inl ⟨kvs,k,e,rfl,hl,rfl⟩
theorem DPut.t {H:Hp}{a b:Addr}{kvs:List (List Key×V)}{k:List Key}{v:V}(e:H a=some (.dT kvs))(eb:H b=some (.tup (k.map kV)))(hl:kvs.length<sizeLine):
  DPut H a (.ref b) v (upd H a (.dT (putK kvs k v))):= .inr ⟨kvs,k,b,e,rfl,eb,hl,rfl⟩
section
variable {X:Cx}{pins:List (Addr×Obj)}{σ:St}{H:Hp}{s:Shared}{a:Addr}{y v:V}{u r:Value}{o:Option V}{A:Around}{E:Value->Shared->Prop}
theorem Inv.big (I:Inv X pins σ H s):sysModules<s.heap.objs.size:=by
 have h:mainGlobals<s.heap.objs.size:=(I.mod.glob.keeps I.bk).lt
 exact fu (by decide) h
theorem jL4 {Q:Value->Shared->Prop}(hu:A.units+1<cLine)(I:Inv X pins σ H s)(g:DGet H a y (some v))(ry:RelV y u)(h:∀ w' s',Inv X pins σ H s'->RelV v w'->Q w' s'):
  wpAny (model X.prog X.w) A (getItem (.ref a) u) Q E s:=by
 rcases g with ⟨kvs,k,e,ey,l⟩ | ⟨kvs,k,b,e,ey,eb,l⟩
 ·subst ey
  obtain⟨z,hd,vs,rel,dd⟩:=dk_rd I.hok e
  obtain⟨w',hw,rw'⟩:=RelO.some_of (v:=v) (o:=valueAt vs k) (by rw[l]; exact rel.val k)
  exact wpAny_getItem_of (kV_is ry) dd.mapOf hw (h w' _ (I.tok _) rw')
 ·subst ey
  cases (show u=Value.ref b from ry)
  obtain⟨z,hd,xs,rel,dd⟩:=dt_rd I.hok e
  obtain⟨w',hw,rw'⟩:=RelO.some_of (v:=v) (o:=(atKey xs k).map (·.2)) (by rw[l]; exact rel.val k)
  obtain⟨p,hp,hp2⟩:=Option.map_eq_some_iff.mp hw
  refine wpAny_getItem_heap (dX hu) (jFU I.hok eb) dd hp ?_
  rw[hp2]
  exact h w' _ (I.tok _) rw'
theorem d_in {Q:Value->Shared->Prop}(hu:A.units+1<cLine)(I:Inv X pins σ H s)(g:DGet H a y o)(ry:RelV y u)(h:∀ s',Inv X pins σ H s'->Q (.bool o.isSome) s'):
  wpAny (model X.prog X.w) A (compareOp .In u (.ref a)) Q E s:=by
 rcases g with ⟨kvs,k,e,ey,l⟩ | ⟨kvs,k,b,e,ey,eb,l⟩
 ·subst ey
  obtain⟨z,hd,vs,rel,dd⟩:=dk_rd I.hok e
  refine wpAny_in_of (kV_is ry) hd dd.mapOf ?_
  rw[<- (rel.val k).isSome_eq,<- l]
  exact h _ (I.tok _)
 ·subst ey
  cases (show u=Value.ref b from ry)
  obtain⟨z,hd,xs,rel,dd⟩:=dt_rd I.hok e
  refine wpAny_in_heap (dX hu) (jFU I.hok eb) hd dd ?_
  have q:=(rel.val k).isSome_eq
  rw[gj] at q
  rw[<- q,<- l]
  exact h _ (I.tok _)
theorem jPZ {Q:Value->Shared->Prop}(hu:A.units+1<cLine)(I:Inv X pins σ H s)(g:DGet H a y o)(ry:RelV y u)(h:∀ s',Inv X pins σ H s'->Q (.bool (!o.isSome)) s'):
  wpAny (model X.prog X.w) A (compareOp .NotIn u (.ref a)) Q E s:=by
 rcases g with ⟨kvs,k,e,ey,l⟩ | ⟨kvs,k,b,e,ey,eb,l⟩
 ·subst ey
  obtain⟨z,hd,vs,rel,dd⟩:=dk_rd I.hok e
  refine wpAny_notIn_of (kV_is ry) hd dd.mapOf ?_
  rw[<- (rel.val k).isSome_eq,<- l]
  exact h _ (I.tok _)
 ·subst ey
  cases (show u=Value.ref b from ry)
  obtain⟨z,hd,xs,rel,dd⟩:=dt_rd I.hok e
  refine wpAny_notIn_heap (dX hu) (jFU I.hok eb) hd dd ?_
  have q:=(rel.val k).isSome_eq
  rw[gj] at q
  rw[<- q,<- l]
  exact h _ (I.tok _)
theorem jF2 {h':Heap}{t':Nat}{ob:HO}(I:Inv X pins σ H s)(mu:Mut (H a))(hs:Heap.SameBut a s.heap h')(he:∃ q,h'.get? a=some q)(new:ObjOk X.prog X.w (upd H a ob) h' a ob):
  Inv X pins σ (upd H a ob) { s with heap:=h',toks:=t'} :=
 I.write (x:=a) (e:=a) mu (.inl rfl) (fun b q hb z=>(hs.2 b hb).trans z) he new
theorem jO1 {P:Program}{w:World}{H':Hp}{h':Heap}{kvs:List (Key×V)}{vs:List (Key×Value)}(z:kvs.length<=sizeLine)(hd:(a==sysModules)=false)(rel:KV kvs vs)(dd:h'.DictOf (kD P w) a vs):
  ObjOk P w H' h' a (.dK kvs):=⟨z,hd,vs,rel,dd⟩
theorem jL3 {H':Hp}{Q:Unit->Shared->Prop}(hu:A.units+1<cLine)(I:Inv X pins σ H s)(g:DPut H a y v H')(ry:RelV y u)(rv:RelV v r)(h:∀ s',Inv X pins σ H' s'->Q () s'):
  wpAny (model X.prog X.w) A (setItem (.ref a) u r) Q E s:=by
 rcases g with ⟨kvs,k,e,ey,l,eH⟩ | ⟨kvs,k,b,e,ey,eb,l,eH⟩
 ·subst ey eH
  obtain⟨z,hd,vs,rel,dd⟩:=dk_of I.hok e
  have hz:vs.length<=sizeLine:=by rw[<- rel.length]; exact z
  have hl:(putK kvs k v).length<=sizeLine:=by have:=jBD kvs k v; omega
  refine wpAny_setItem_pairs (hsz:=hz) (kV_is ry) dd fun h' dd' hs=>h _ ?_
  have he:∃ q,h'.get? a=some q:=let ⟨q,_,_,hq,_⟩:=dd'; ⟨q,hq⟩
  exact jF2 I (by rw[e]; exact True.intro) hs he (jO1 hl hd (rel.put k rv) dd')
 ·subst ey eH
  cases (show u=Value.ref b from ry)
  obtain⟨z,hd,xs,rel,dd⟩:=dt_of I.hok e
  have hz:xs.length<=sizeLine:=by rw[<- eW rel]; exact z
  have hl:(putK kvs k v).length<=sizeLine:=by have:=jBD kvs k v; omega
  refine wpAny_setItem_heap (hsz:=hz) (dX hu) (jFU I.hok eb) dd fun h' dd' hs=>h _ ?_
  obtain⟨q,es,ep,hq,h2,h3,h4,_,h5⟩:=dd'
  refine jF2 I (by rw[e]; exact True.intro) hs ⟨q,hq⟩ ⟨hl,hd,_,(rel.put k eb rv).keeps fun c ys ec=>?_,q,es,ep,hq,h2,h3,h4,h5⟩
  rw[j8 (ne_of ec e (fun z=>nomatch z))]
  exact ec
end
section
variable {X:Cx}{pins:List (Addr×Obj)}{σ:St}{H:Hp}{s:Shared}{a:Addr}{kvs:List (Key×V)}{k:Key}{u:Value}{A:Around}{E:Value->Shared->Prop}
end
def NoSl (i:Expr):Prop:=∀ ov iv,subscripted i false ov iv=operate [ov,iv] (getItem ov iv)
theorem jO8 {prog:Program}{w:World}{A:Around}{E:Value->Shared->Prop}{s:Shared}{env:Env}{value slice:Expr}{pos:Pos}{T id:String}{Q:Value->Shared->Prop}
  (hl:typeLookup (.type T) "__getitem__" =pure (some (.builtin id))) (hs:NoSl slice)
  (h:wpAny (model prog w) A (eval value env) (fun o s₁=>wpAny (model prog w) A (eval slice env) (fun i s₂=>s₂.TypeIs o T/\wpAny (model prog w) A (getItem o i) Q E s₂) E s₁) E s):
  wpAny (model prog w) A (eval (.Subscript value slice pos) env) Q E s:=by
 refine Subscript_ (bU h (fun o s₁ h₁=>bU h₁ (fun i s₂ h₂=>?_) fun _ _ x=>x) fun _ _ x=>x)
 obtain⟨hT,h₂⟩:=h₂
 unfold subscriptTail
 refine aa ?_
 rw[getitemInPython_of_ne hT.not_modules]
 refine aa (wpAny_specialOf hT hl ?_)
 have fin:wpAny (model prog w) A (subscripted slice false o i) (fun r s₃=>wpAny (model prog w) A (letTemporaryGo value o r >>= fun _=>pure r) Q E s₃) E s₂:=by
  rw[hs o i]
  exact wpAny_operating (bU h₂ (fun r s₃ h₃=>aa (wpAny_letTemporaryGo (af h₃))) fun _ _ x=>x)
 first
  | exact af (aa fin)
  | exact aa (af (aa fin))
  | exact aa fin
theorem jH2 {X:Cx}{pins:List (Addr×Obj)}{σ:St}{H:Hp}{s:Shared}{a:Addr}{y:V}{o:Option V}(I:Inv X pins σ H s)(g:DGet H a y o):s.TypeIs (.ref a) "dict" :=by
 rcases g with ⟨kvs,k,e,_,_⟩ | ⟨kvs,k,b,e,_,_,_⟩
 ·obtain⟨_,_,vs,_,dd⟩:=dk_rd I.hok e
  exact dd.typeIs
 ·obtain⟨_,_,xs,_,dd⟩:=dt_rd I.hok e
  exact dd.typeIs
def tDGet (td ty:TE):TE:=fun σ H Q=>td σ H fun x H1=>ty σ H1 fun y H2=>∃ a v,x= .ref a/\DGet H2 a y (some v)/\Q v H2
def tDIn (ty td:TE):TE:=fun σ H Q=>ty σ H fun y H1=>td σ H1 fun x H2=>∃ a o,x= .ref a/\DGet H2 a y o/\Q (.bl o.isSome) H2
def jJF (ty td:TE):TE:=fun σ H Q=>ty σ H fun y H1=>td σ H1 fun x H2=>∃ a o,x= .ref a/\DGet H2 a y o/\Q (.bl (!o.isSome)) H2
def sDPut (td ty tv:TE):TS:=fun D σ H=>tv σ H fun v H1=>td σ H1 fun x H2=>ty σ H2 fun y H3=>∃ a H4,x= .ref a/\DPut H3 a y v H4/\D.nx σ H4
section
variable {X:Cx}{o i e value:Expr}{pos pos' tpos:Pos}{td ty tv:TE}
theorem jOS (hu:X.A.units+1<cLine)(ho:PE X o td)(hi:PE X i ty)(hs:NoSl i):PE X (.Subscript o i pos) (tDGet td ty):=by
 intro pins s σ H Q I h
 refine jO8 PySem.F.slot_dict_getitem.lookup hs (thn (ho pins s σ H _ I h) fun u s1 ⟨x,H1,I1,rx,q1⟩=>thn (hi pins s1 σ H1 _ I1 q1) fun iv s2 ⟨y,H2,I2,ry,a,v,ex,g,q2⟩=>?_)
 subst ex
 obtain rfl:u=Value.ref a:=rx
 exact⟨jH2 I2 g,jL4 hu I2 g ry fun w' s3 I3 rw'=>⟨v,H2,I3,rw',q2⟩⟩
theorem jNK (hu:X.A.units+1<cLine)(hi:PE X i ty)(ho:PE X o td):PC X .In i o (tDIn ty td):=by
 intro pins s σ H Q I h
 refine thn (hi pins s σ H _ I h) fun iv s1 ⟨y,H1,I1,ry,q1⟩=>thn (ho pins s1 σ H1 _ I1 q1) fun u s2 ⟨x,H2,I2,rx,a,ov,ex,g,q2⟩=>?_
 subst ex
 obtain rfl:u=Value.ref a:=rx
 exact d_in hu I2 g ry fun s3 I3=>⟨.bl ov.isSome,H2,I3,rfl,q2⟩
theorem jJX (hu:X.A.units+1<cLine)(hi:PE X i ty)(ho:PE X o td):PC X .NotIn i o (jJF ty td):=by
 intro pins s σ H Q I h
 refine thn (hi pins s σ H _ I h) fun iv s1 ⟨y,H1,I1,ry,q1⟩=>thn (ho pins s1 σ H1 _ I1 q1) fun u s2 ⟨x,H2,I2,rx,a,ov,ex,g,q2⟩=>?_
 subst ex
 obtain rfl:u=Value.ref a:=rx
 exact jPZ hu I2 g ry fun s3 I3=>⟨.bl (!ov.isSome),H2,I3,rfl,q2⟩
theorem jOI (hu:X.A.units+1<cLine)(ho:PE X o td)(hi:PE X i ty)(hv:PE X value tv)(hs:swapsWith value (some (.Subscript o i pos')) pos.line X.env=pure false):
  PS X (.Assign [.Subscript o i pos'] value pos) (sDPut td ty tv):=by
 intro pins s σ H D I h
 refine wpAny_Assign_Subscript (thn (hv pins s σ H _ I h) fun r s1 ⟨v,H1,I1,rv,q1⟩=>thn (ho pins s1 σ H1 _ I1 q1) fun u s2 ⟨x,H2,I2,rx,q2⟩=>thn (hi pins s2 σ H2 _ I2 q2) fun iv s3 ⟨y,H3,I3,ry,a,H4,ex,g,q3⟩=>?_) hs
 subst ex
 obtain rfl:u=Value.ref a:=rx
 exact jL3 hu I3 g ry rv fun s4 I4=>⟨σ,H4,I4,q3⟩
end
theorem jMU {P:Program}{w:World}{H:Hp}(h:Heap)(hb:sysModules<h.objs.size):ObjOk P w H (h.push { cls:= .type "dict",data:= .dict #[]}) h.objs.size (.dK []):=
 ⟨aY _,bS.mpr (dv (aO hb)),[], .nil,Heap.DictOf.new h⟩
theorem jMT {P:Program}{w:World}{H:Hp}(h:Heap)(hb:sysModules<h.objs.size):ObjOk P w H (h.push { cls:= .type "dict",data:= .dict #[]}) h.objs.size (.dT []):=
 ⟨aY _,bS.mpr (dv (aO hb)),[], .nil,_,#[],0,aj _ rfl,⟨rfl,rfl,rfl⟩,rfl,rfl,gU⟩
def jN7:TE:=fun _ H Q=>∀ p,H p=none->Q (.ref p) (upd H p (.dT []))
section
variable {X:Cx}{pos:Pos}
theorem jM5:PE X (.Dict [] [] pos) jN7:=fun pins s σ H Q I h=>
 wpAny_Dict_empty ⟨.ref s.heap.objs.size,_,I.laid (a:=s.heap.objs.size) (o:= .dT []) (t':=s.toks) (fun _ _ q=>ab _ q) (ai _) (jMT s.heap I.big),rfl,h _ (I.hok.fresh (ai _))⟩
end
def jJD:List (TE×TE)->St->Hp->(List (V×V)->Hp->Prop)->Prop
 | [],_,H,Q=>Q [] H
 | (tk,tv)::r,σ,H,Q=>tk σ H fun x H1=>tv σ H1 fun y H2=>jJD r σ H2 fun ps H3=>Q ((x,y)::ps) H3
abbrev VV:List (V×V)->List (Value×Value)->Prop:=Paired fun p q=>RelV p.1 q.1/\RelV p.2 q.2
def PPs (X:Cx)(pos:Pos)(keys:List (Option Expr))(values:List Expr)(trs:List (TE×TE)):Prop:=
 ∀ (pins:List (Addr×Obj)) (s:Shared) (σ:St) (H:Hp) (Q:List (V×V)->Hp->Prop),Inv X pins σ H s->jJD trs σ H Q->
  wpAny (model X.prog X.w) X.A (evalPairs (pairTrees keys values X.env pos)) (fun vs s'=>∃ ps H',Inv X pins σ H' s'/\VV ps vs/\Q ps H') X.xe s
theorem jOJ {X:Cx}{pos:Pos} :PPs X pos [] [] []:=fun pins s σ H Q I h=>pairTrees_nil_walk ⟨[],H,I, .nil,h⟩
theorem jLZ {X:Cx}{pos:Pos}{k v:Expr}{ks:List (Option Expr)}{vs:List Expr}{tk tv:TE}{trs:List (TE×TE)}(hk:PE X k tk)(hv:PE X v tv)(hr:PPs X pos ks vs trs):
  PPs X pos (some k::ks) (v::vs) ((tk,tv)::trs):=fun pins s σ H Q I h=>
 pairTrees_cons_walk (thn (hk pins s σ H _ I h) fun u s1 ⟨x,H1,I1,rx,q1⟩=>thn (hv pins s1 σ H1 _ I1 q1) fun w2 s2 ⟨y,H2,I2,ry,q2⟩=>
  thn (hr pins s2 σ H2 _ I2 q2) fun ws s3 ⟨ps,H3,I3,rel,q3⟩=>⟨(x,y)::ps,H3,I3, .cons ⟨rx,ry⟩ rel,q3⟩)
def jFQ (kvs more:List (Key×V)):List (Key×V):=more.foldl (fun acc kv=>putK acc kv.1 kv.2) kvs
theorem KV.merge:∀ {more:List (Key×V)}{rs:List (Key×Value)}{kvs:List (Key×V)}{vs:List (Key×Value)},KV more rs->KV kvs vs->KV (jFQ kvs more) (merged vs rs):=by
 intro more rs kvs vs r
 unfold KV at r
 induction r generalizing kvs vs with
 | nil=>intro q; exact q
 | @cons p q ps qs h t ih=>
  intro r0
  have e:KV (putK kvs p.1 p.2) (stored vs q.1 q.2):=by
   have:=r0.put p.1 h.2
   rw[<- h.1]; exact this
  exact ih e
theorem jBP:∀ (more kvs:List (Key×V)),(jFQ kvs more).length<=kvs.length+more.length
 | [],kvs=>by show kvs.length<=kvs.length+0; omega
 | p::r,kvs=>by
  have h1:=jBP r (putK kvs p.1 p.2)
  have h2:=jBD kvs p.1 p.2
  show (jFQ (putK kvs p.1 p.2) r).length<=_
  rw[aW]; omega
theorem jE6 {P:Program}{w:World} :∀ {kvs:List (Key×V)}{ws:List (Value×Value)},VV (kvs.map fun kv=>(kV kv.1,kv.2)) ws->∃ rs,Carries (kD P w) ws rs/\KV kvs rs
 | [],_,r=>by rw[gF] at r; cases r; exact⟨[],True.intro, .nil⟩
 | p::kvs,_,r=>by
  rw[be] at r
  cases r with
  | @cons a b as bs h t=>
   obtain⟨rs,c,q⟩:=jE6 (P:=P) (w:=w) t
   obtain⟨b1,b2⟩:=b
   exact⟨(p.1,b2)::rs,⟨kV_is h.1,rfl,c⟩, .cons ⟨rfl,h.2⟩ q⟩
def tDisp (trs:List (TE×TE)):TE:=fun σ H Q=>∀ p,H p=none->jJD trs σ (upd H p (.dK [])) fun ps H2=>H2 p=some (.dK [])/\∃ kvs:List (Key×V),ps=kvs.map (fun kv=>(kV kv.1,kv.2))/\kvs.length<=15/\Q (.ref p) (upd H2 p (.dK (jFQ [] kvs)))
theorem jOR {X:Cx}{pos:Pos}{keys:List (Option Expr)}{values:List Expr}{trs:List (TE×TE)}(h:PPs X pos keys values trs)(hall:keys.all (·.isSome)=true)(hl:keys.length=values.length)(h0:keys≠ [])
  (h15:keys.length<=15):PE X (.Dict keys values pos) (tDisp trs):=by
 intro pins s σ H Q I q
 have hn:=I.hok.fresh (ai s.heap.objs.size)
 have I1:=I.laid (a:=s.heap.objs.size) (o:= .dK []) (h':=s.heap.push { cls:= .type "dict",data:= .dict #[]}) (t':=s.toks) (fun _ _ q=>ab _ q) (ai _) (jMU s.heap I.big)
 refine wpAny_Dict_walk (knd:=kD X.prog X.w) hall hl h0 h15 (thn (h pins _ σ _ _ I1 (q _ hn)) fun ws s2 ⟨ps,H2,I2,rel,e,kvs,ep,lk,q2⟩=>?_)
 subst ep
 obtain⟨rs,c,rk⟩:=jE6 (P:=X.prog) (w:=X.w) rel
 obtain⟨z,hd,vs0,r0,dd⟩:=dk_of I2.hok e
 cases r0
 refine⟨rs,c,dd,fun h' dd' hs=>⟨.ref s.heap.objs.size,_,?_,rfl,q2⟩⟩
 have hz:(jFQ [] kvs).length<=sizeLine:=by
  have h1:=jBP kvs []
  rw[dB] at h1
  rw[db]; omega
 have he:∃ q,h'.get? s.heap.objs.size=some q:=let ⟨q,_,_,hq,_⟩:=dd'; ⟨q,hq⟩
 exact jF2 I2 (by rw[e]; exact True.intro) hs he (jO1 hz hd (rk.merge .nil) dd')
def IsD (H:Hp)(a:Addr):Prop:=(∃ kvs,Rd H a (.dK kvs))\/∃ kvs,Rd H a (.dT kvs)
theorem jRP {X:Cx}{pins:List (Addr×Obj)}{σ:St}{H:Hp}{s:Shared}{a:Addr}(I:Inv X pins σ H s)(d:IsD H a):
  s.TypeIs (.ref a) "dict" /\(∀ b,Value.ref a= .ref b->∃ ob,s.heap.get? b=some ob/\ob.dict=none)/\(a==sysModules)=false:=by
 rcases d with ⟨kvs,e⟩ | ⟨kvs,e⟩
 ·obtain⟨_,hd,vs,_,dd⟩:=dk_rd I.hok e
  refine⟨dd.typeIs,fun b q=>?_,hd⟩
  cases q
  obtain⟨ob,_,_,h1,h2,_⟩:=dd
  exact⟨ob,h1,h2.2.1⟩
 ·obtain⟨_,hd,xs,_,dd⟩:=dt_rd I.hok e
  refine⟨dd.typeIs,fun b q=>?_,hd⟩
  cases q
  obtain⟨ob,_,_,h1,h2,_⟩:=dd
  exact⟨ob,h1,h2.2.1⟩
section
variable {X:Cx}{pins:List (Addr×Obj)}{σ:St}{H:Hp}{s:Shared}{a:Addr}{y d:V}{u r:Value}{o:Option V}{A:Around}{E:Value->Shared->Prop}
end
section
variable {X:Cx}{o e f:Expr}{apos cpos:Pos}{td ty tx:TE}
end
section
variable {X:Cx}{pins:List (Addr×Obj)}{σ:St}{H:Hp}{s:Shared}{a:Addr}{kvs:List (Key×V)}{A:Around}{E:Value->Shared->Prop}
end
section
variable {X:Cx}{pins:List (Addr×Obj)}{σ:St}{H:Hp}{s:Shared}{a:Addr}{y:V}{u:Value}{A:Around}{E:Value->Shared->Prop}
end
section
variable {κ:Type} [DecidableEq κ]
end
section
variable {prog:Program}{w:World}{A:Around}{E:Value->Shared->Prop}{s:Shared}{d:Addr}{kvs:List (Key×Value)}
theorem jH4 {T:String}{r d:Addr}{n:Nat}{P:Nat->Value->Prop}{OK:Heap->Prop}{R:List Value->Shared->Prop}(K:PySem.W.KdlSrc prog w T r d n P OK)(hh:A.handled=none)(hok:OK s.heap)(hn:n<=sizeLine)
  (h:∀ (h':Heap) (tk:Nat) (acc:Array Value),(∀ b o,s.heap.get? b=some o->h'.get? b=some o)->s.heap.objs.size<h'.objs.size->ItemsOf P acc n->R acc.toList { s with heap:=h',toks:=tk}):
  wpAny (model prog w) A (collect (.ref r)) R E s:=by
 have hlt:=K.there _ hok
 unfold collect
 refine aa (fZ (cf entry_proto_collect' ?_))
 rw[ck fw _]
 show wpAny _ A.in1 (newList [] >>= fun l=>again (.builtin "list.__iadd__" ⟨[l, .ref r],[]⟩)) _ _ s
 refine aa (bD ?_)
 refine af ⟨eZ dq _,cf entry_list_iadd' ?_⟩
 rw[ck dq _]
 have hS:(s.heap.push { cls:= .type "list",data:= .seq ([]:List Value).toArray}).get? s.heap.objs.size=some { cls:= .type "list",data:= .seq #[]} :=aj _ rfl
 show wpAny _ A.in1 (Builtin.List.listExtendWith (.ref s.heap.objs.size) (.ref r) (.ref s.heap.objs.size)) _ _ _
 refine bU (PySem.W.kdl_extend (A:=A) (s:= { s with heap:=s.heap.push { cls:= .type "list",data:= .seq ([]:List Value).toArray}})
  (R:=fun (q:Result) (s':Shared)=>∃ (h':Heap) (tk:Nat) (acc:Array Value) (c:Nat),q= .ok (.ret (.ref s.heap.objs.size))/\s'= { s with heap:=h',toks:=tk} /\
   (∀ b o,s.heap.get? b=some o->h'.get? b=some o)/\h'.get? s.heap.objs.size=some { cls:= .type "list",dict:=none,data:= .seq acc c,slots:=#[]} /\ItemsOf P acc n)
  K hh (K.keep _ _ hok fun b _ o e=>ab _ e) s.heap.objs.size (cF hlt.1) (cF hlt.2) (.ref s.heap.objs.size) 0 hS
  (fun h' tk acc c hk hS' hacc=>⟨h',tk,acc,c,rfl,rfl,fun b o e=>hk b o (aO (ao e)) (ab _ e),hS',hacc⟩) hn) (fun fin s' x=>?_) fun e s' x=>?_
 ·cases fin with
  | done f=>
   obtain⟨h',tk,acc,c,e,rfl,hk,hS',hacc⟩:=x
   cases e
   show wpAny _ A (load s.heap.objs.size >>= _) _ _ _
   exact aa (eR hS' (af (h h' tk acc hk (ao hS') hacc)))
  | again c1=>
   refine⟨x.1,dJ x.2 fun q s2 y=>?_⟩
   obtain⟨h',tk,acc,c,rfl,rfl,hk,hS',hacc⟩:=y
   show wpAny _ A (load s.heap.objs.size >>= _) _ _ _
   exact aa (eR hS' (af (h h' tk acc hk (ao hS') hacc)))
 ·obtain⟨_,_,_,_,e',_⟩:=x
  cases e'
end
section
variable {X:Cx}{o i e f value:Expr}{td ty tv tx:TE}{pos pos' apos cpos:Pos}
theorem jEX (hu:X.A.units+1<cLine)(ho:JE X o td)(hi:JE X i ty)(hs:jAP i):JE X (.Subscript o i pos) (tDGet td ty):=⟨jOS hu ho.h hi.h hs⟩
theorem jDI (hu:X.A.units+1<cLine)(ho:JE X o td)(hi:JE X i ty)(hv:JE X value tv)(hs:SwOk value (some (.Subscript o i pos'))):JS X (.Assign [.Subscript o i pos'] value pos) (sDPut td ty tv):=⟨jOI hu ho.h hi.h hv.h (hs.h _ _)⟩
end
section
variable {prog:Program}{w:World}{A:Around}{E:Value->Shared->Prop}{s:Shared}
end
section
variable {prog:Program}{w:World}{K:Type} [DecidableEq K]{knd:KeyKind prog w K}{A:Around}{R:Result->Shared->Prop}{I:Addr}{fp wr:List Addr}{n:Nat}{P:Nat->Value->Prop}{St:Nat->Shared->Prop}
end
section
variable {prog:Program}{w:World}{K:Type} [DecidableEq K]{knd:KeyKind prog w K}{A:Around}{E:Value->Shared->Prop}{s:Shared}
end
section
variable {X:Cx}
end
section
variable {X:Cx}
end
section
variable {P:Program}{w:World}{K:W.Frag}{mg:Str->Option Value}{base:Heap}{N:List Str}{qual:Str}{sc:Scope}{f:Addr}{cd:Value}{cl:List (Str×Addr)}{A:Around}{outer:List Env}{s:Shared}{H:Hp}{x:Str}
theorem gl_n (h:sc.names.lookup x=some .globalImplicit):Gl1 (cxN P w K mg base N qual sc f cd cl A outer s H) x:=⟨h⟩
theorem vis_n (h:sc.names.lookup x=some .local):Vis1 (cxN P w K mg base N qual sc f cd cl A outer s H) x:=⟨.inl h⟩
end
section
variable {X:Cx}
def AtS (tp:Bool)(H:Hp)(a:Addr)(xs:List V):Prop:=match tp with
 | false=>H a=some (.lst xs)
 | true=>H a=some (.tup xs)
theorem jNW {i o:Expr}{ty td:TE}{pos:Pos}(hu:X.A.units+1<cLine)(hi:JE X i ty)(ho:JE X o td)(h1:behindInMarks .In o=false):JT X (.Compare i [.In] [o] pos) (tB (tDIn ty td)):=⟨jNH (jNK hu hi.h ho.h) h1⟩
end
section
variable {K:W.Frag}{m:List (Option Nat)}{g:TG}{tt:TT}{te:TE}{σ:St}{H1:Hp}{Q:VK}
theorem jL7 {a:Addr}{xs:List V}(hn:xs.length<sizeLine)(Pv:Addr->Nat->St->Hp->List V->Prop)(h0:∀ D,H1 D=none->Pv D 0 (blkσ m σ) (upd H1 D (.lst [])) [])
  (hD:∀ D i σ' H' zs,H1 D=none->Pv D i σ' H' zs->H' a=some (.lst xs)/\H' D=some (.lst zs)/\zs.length<=i)
  (hs:∀ D i σ' H' zs x,H1 D=none->xs[i]?=some x->Pv D i σ' H' zs->g x σ' H' fun σ2 H2=>tt σ2 H2 fun b H3=>if b=true then te σ2 H3 fun v H4=>H4 D=some (.lst zs)/\Pv D (i+1) σ2 (upd H4 D (.lst (zs++[v]))) (zs++[v]) else Pv D (i+1) σ2 H3 zs)
  (hd:∀ D σ' H' zs,H1 D=none->Pv D xs.length σ' H' zs->Q (.ref D) H'):qG m g tt te σ Q (Itl K a) H1:=by
 intro D hDn
 refine⟨fun i k σ' H' zs=>k=xs.length - i/\i<=xs.length/\Pv D i σ' H' zs,⟨_,rfl,aY _,h0 D hDn⟩,?_⟩
 rintro i k σ' H' zs ⟨rfl,hi,p⟩
 obtain⟨s1,q1,q2⟩:=hD D i σ' H' zs hDn p
 refine⟨q1,by omega,?_⟩
 by_cases hlt:i<xs.length
 ·refine .inr ⟨⟨xs,xs[i],SqL.of s1,by simp [hlt]⟩,Pv D (i+1),fun σ2 H2 zs z=>⟨xs.length - (i+1),by omega,rfl,hlt,z⟩,fun v H'' y=>?_⟩
  obtain⟨e1,e2⟩:=y
  subst e1
  exact hs D i σ' _ zs v hDn (e2 xs (SqL.of s1)) p
 ·have e:i=xs.length:=by omega
  subst e
  exact .inl ⟨⟨xs,SqL.of s1,ai _⟩,hd D σ' H' zs hDn p⟩
end
theorem ExtT.of {T:Addr}{H H':Hp}(e:Ext H H'):ExtT T H H':=fun b o h _=>e b o h
theorem ExtT.refl {T:Addr}(H:Hp):ExtT T H H:=fun b o h _=>h
theorem ExtT.trans {T:Addr}{H H' H'':Hp}(a:ExtT T H H')(b:ExtT T H' H''):ExtT T H H'':=fun c o h n=>b c o (a c o h n) n
theorem TabOk.is {H:Hp}{T:Addr}{pos:Pos}{q:Str}(t:TabOk H T pos q):∃ ps,H T=some (.tbl ps):=by
 rcases t with h | ⟨c,h,_⟩
 ·exact⟨_,h⟩
 ·exact⟨_,h⟩
theorem TabOk.ne {H:Hp}{T:Addr}{pos:Pos}{q:Str}(t:TabOk H T pos q){b:Addr}{o:HO}(h:H b=some o)(ho:∀ ps,o≠ .tbl ps):b≠T:=fun e=>by
 obtain⟨ps,z⟩:=t.is
 rw[e,z] at h
 cases h
 exact ho ps rfl
theorem TabOk.ext {H H':Hp}{T:Addr}{pos:Pos}{q:Str}(t:TabOk H T pos q)(e:Ext H H'):TabOk H' T pos q:=by
 rcases t with h | ⟨c,h,h2⟩
 ·exact .inl (e _ _ h)
 ·exact .inr ⟨c,e _ _ h,e _ _ h2⟩
theorem ExtT.at {T:Addr}{H H':Hp}(e:ExtT T H H'){pos:Pos}{q:Str}(t:TabOk H T pos q){b:Addr}{o:HO}(h:H b=some o)(ho:∀ ps,o≠ .tbl ps:=by intro _ z; cases z):H' b=some o:=e b o h (t.ne h ho)
structure FunC (K:W.Frag)(x qual:Str)(st:Stmt)(f:Addr)(fd:FuncData)(c0:Addr):Prop where
 ex:∃ (oc:Value) (od:Option Addr) (kV doc pm:Value) (an:Option Addr) (ct:Value) (osl:Array (Option Value)),fd=PySem.W.fnOf x qual (jG st) (jB st) (j7 st) .none kV doc pm an (.ref c0) ct/\K.lookup f=some ⟨oc,od, .func fd,osl⟩/\PySem.W.codeIn K (.ref c0) qual=true
theorem FunC.ok {P:Program}{w:World}{K:W.Frag}{mg:Str->Option Value}{base:Heap}{x qual:Str}{st:Stmt}{f c0:Addr}{fd:FuncData}{N ps:List Str}{k:Nat}{sp:Sp}(F:FunC K x qual st f fd c0)(S:FnScope N ps (j7 st))(len:∀ vs H Q E,sp vs H Q E->vs.length=ps.length)
  (hbody:∀ (A:Around) (outer:List Env) (s:Shared) (H:Hp) (vs:List V) (Q:VK) (E:XK),Room k (A.deeper (envOfC qual (j7 st) s.heap.objs.size f (.ref c0)))->sp vs H Q E->
   ∃ t,PSs (cxOf CX0 P w K mg base N qual (j7 st) f (.ref c0) A outer s H E).nox (jB st) t/\t { nx:=fun _ H'=>Q .non H',rt:=Q} (kZ N vs) H):FnOk P w K mg base CX0 (k+1) f fd ps sp:=by
 obtain⟨oc,od,kV,doc,pm,an,ct,osl,rfl,lk,hcd⟩:=F.ex
 refine fn_of lk hcd S len fun A outer s H vs Q E hr hsp=>?_
 obtain⟨t,ht,hq⟩:=hbody A outer s H vs Q E hr hsp
 exact⟨t,ht.nox,hq⟩
section
variable {X:Cx}{sc:Scope}{cl:List (Str×Addr)}{C:Addr}{Nc:List Str}{fp:List Addr}{s:Shared}{H:Hp}
variable {sc2:Scope}{cl2:List (Str×Addr)}{C2:Addr}{Nc2:List Str}{fp2:List Addr}{s2:Shared}{H2:Hp}
end
section
variable {K:W.Frag}{m:List (Option Nat)}{g:TG}{tt:TT}{te:TE}{σ:St}{H:Hp}{Q:VK}
abbrev TupsK (H H':Hp):Prop:=∀ b xs,H b=some (.tup xs)->H' b=some (.tup xs)
structure ZOk (Z:Hp->List V->Nat->Prop):Prop where
 z0:∀ H,Z H [] 0
 mono:∀ H H' zs j,TupsK H H'->Z H zs j->Z H' zs j
 len:∀ H zs j,Z H zs j->zs.length<=j
theorem jFC {H:Hp}{D:Addr}{zs:List V}(h:H D=some (.lst zs))(o:HO):TupsK H (upd H D o):=fun b xs hb=>by
 rw[j8 (fun e=>by rw[e,h] at hb; cases hb)]
 exact hb
def TurnZ (g:TG)(tt:TT)(te:TE)(σP:St->Prop)(Z:Hp->List V->Nat->Prop)(x:V)(j:Nat)(σ':St)(H':Hp)(zs:List V):Prop:=
 ∀ (R:St->V->Hp->Prop) (S:St->Hp->Prop),(∀ σ2 v H2,σP σ2->Ext H' H2->Z H2 (zs++[v]) (j+1)->R σ2 v H2)->(∀ σ2 H2,σP σ2->Ext H' H2->Z H2 zs (j+1)->S σ2 H2)->
  g x σ' H' fun σ2 H2=>tt σ2 H2 fun b H3=>if b=true then te σ2 H3 (R σ2) else S σ2 H3
theorem jL8 {tp:Bool}{a:Addr}{xs:List V}(σP:St->Prop)(Z:Hp->List V->Nat->Prop)(zo:ZOk Z)(ha:AtS tp H a xs)(hn:xs.length<sizeLine)(h0:σP (blkσ m σ))
  (step:∀ j x σ' H' zs,xs[j]?=some x->σP σ'->Ext H H'->Z H' zs j->TurnZ g tt te σP Z x j σ' H' zs)
  (hd:∀ D H' zs,H' D=some (.lst zs)->Ext H H'->H D=none->Z H' zs xs.length->Q (.ref D) H'):qG m g tt te σ Q (match tp with | false=>Itl K a | true=>Itt K a) H:=by
 have turn:∀ D j σ' H' zs x,H D=none->xs[j]?=some x->(σP σ'/\Ext H H'/\H' D=some (.lst zs)/\H D=none/\Z H' zs j)->g x σ' H' fun σ2 H2=>tt σ2 H2 fun b H3=>if b=true then te σ2 H3 fun v H4=>H4 D=some (.lst zs)/\(σP σ2/\Ext H (upd H4 D (.lst (zs++[v])))/\(upd H4 D (.lst (zs++[v]))) D=some (.lst (zs++[v]))/\H D=none/\Z (upd H4 D (.lst (zs++[v]))) (zs++[v]) (j+1)) else (σP σ2/\Ext H H3/\H3 D=some (.lst zs)/\H D=none/\Z H3 zs (j+1)):=by
  rintro D j σ' H' zs x hD hx ⟨p,e,h2,hn,hz⟩
  exact step j x σ' H' zs hx p e hz _ _ (fun σ2 v H2 p2 e2 z2=>⟨e2 _ _ h2,p2,(e.trans e2).updNew hn _,j5,hn,zo.mono _ _ _ _ (jFC (e2 _ _ h2) _) z2⟩) fun σ2 H2 p2 e2 z2=>⟨p2,e.trans e2,e2 _ _ h2,hn,z2⟩
 cases tp with
 | false=>exact jL7 (xs:=xs) hn (fun D j σ' H' zs=>σP σ'/\Ext H H'/\H' D=some (.lst zs)/\H D=none/\Z H' zs j) (fun D hD=>⟨h0,(Ext.refl _).new hD _,j5,hD,zo.z0 _⟩) (fun D j σ' H' zs hD ⟨_,e,h2,_,hz⟩=>⟨e _ _ ha,h2,zo.len _ _ _ hz⟩) turn fun D σ' H' zs hD ⟨_,e,h2,hn,hz⟩=>hd D H' zs h2 e hn hz
 | true=>exact jF3 (xs:=xs) hn (fun D j σ' H' zs=>σP σ'/\Ext H H'/\H' D=some (.lst zs)/\H D=none/\Z H' zs j) (fun D hD=>⟨h0,(Ext.refl _).new hD _,j5,hD,zo.z0 _⟩) (fun D j σ' H' zs hD ⟨_,e,h2,_,hz⟩=>⟨e _ _ ha,h2,zo.len _ _ _ hz⟩) turn fun D σ' H' zs hD ⟨_,e,h2,hn,hz⟩=>hd D H' zs h2 e hn hz
theorem jF4 {a:Addr}{xs:List V}(σP:St->Prop)(Z:Hp->List V->Nat->Prop)(zo:ZOk Z)(ha:H a=some (.tup xs))(hn:xs.length<sizeLine)(h0:σP (blkσ m σ))
  (step:∀ j x σ' H' zs,xs[j]?=some x->σP σ'->Ext H H'->Z H' zs j->TurnZ g tt te σP Z x j σ' H' zs)
  (hd:∀ D H' zs,H' D=some (.lst zs)->Ext H H'->H D=none->Z H' zs xs.length->Q (.ref D) H'):qG m g tt te σ Q (Itt K a) H:=jL8 (tp:=true) σP Z zo ha hn h0 step hd
theorem jBW {a:Addr}{xs:List V}(σP:St->Prop)(Z:Hp->List V->Nat->Prop)(zo:ZOk Z)(ha:H a=some (.lst xs))(hn:xs.length<sizeLine)(h0:σP (blkσ m σ))
  (step:∀ j x σ' H' zs,xs[j]?=some x->σP σ'->Ext H H'->Z H' zs j->TurnZ g tt te σP Z x j σ' H' zs)
  (hd:∀ D H' zs,H' D=some (.lst zs)->Ext H H'->H D=none->Z H' zs xs.length->Q (.ref D) H'):qG m g tt te σ Q (Itl K a) H:=jL8 (tp:=false) σP Z zo ha hn h0 step hd
theorem jI2 {n:Nat}(σP:St->Prop)(Z:Hp->List V->Nat->Prop)(zo:ZOk Z)(hn:n<sizeLine)(h0:σP (blkσ m σ))
  (step:∀ j σ' H' zs,j<n->σP σ'->Ext H H'->Z H' zs j->TurnZ g tt te σP Z (.int (0+j)) j σ' H' zs)
  (hd:∀ D H' zs,H' D=some (.lst zs)->Ext H H'->H D=none->Z H' zs n->Q (.ref D) H'):qG m g tt te σ Q (Itr 0 n) H:=by
 refine jB1 (lo:=0) (n:=n) hn (fun D j σ' H' zs=>σP σ'/\Ext H H'/\H' D=some (.lst zs)/\H D=none/\Z H' zs j) (fun D hD=>⟨h0,(Ext.refl _).new hD _,j5,hD,zo.z0 _⟩) (fun D j σ' H' zs hD hj ⟨_,e,h2,_,hz⟩=>⟨h2,zo.len _ _ _ hz⟩) ?_ fun D σ' H' zs hD ⟨_,e,h2,hn,hz⟩=>hd D H' zs h2 e hn hz
 rintro D j σ' H' zs hD hj ⟨p,e,h2,hn,hz⟩
 exact step j σ' H' zs hj p e hz _ _ (fun σ2 v H2 p2 e2 z2=>⟨e2 _ _ h2,p2,(e.trans e2).updNew hn _,j5,hn,zo.mono _ _ _ _ (jFC (e2 _ _ h2) _) z2⟩) fun σ2 H2 p2 e2 z2=>⟨p2,e.trans e2,e2 _ _ h2,hn,z2⟩
end
def outZ {α:Type}(l:List α)(p:α->Bool)(f:α->V):Hp->List V->Nat->Prop:=fun _ zs j=>zs=((l.take j).filter p).map f
theorem outZ.ok {α:Type}(l:List α)(p:α->Bool)(f:α->V):ZOk (outZ l p f):=⟨fun _=>rfl,fun _ _ _ _ _ h=>h,fun _ zs j h=>by
 rw[show zs=_ from h,ae]
 exact bJ (bI _ _) (cN _ _)⟩
theorem outZ.yes {α:Type}{l:List α}{p:α->Bool}{f:α->V}{H H':Hp}{zs:List V}{j:Nat}{x:α}(h:outZ l p f H zs j)(hx:l[j]?=some x)(hp:p x=true):outZ l p f H' (zs++[f x]) (j+1):=by
 show _=_
 rw[bh,hx,bV,aN,<- show zs=_ from h]
 simp [hp]
theorem outZ.no {α:Type}{l:List α}{p:α->Bool}{f:α->V}{H H':Hp}{zs:List V}{j:Nat}{x:α}(h:outZ l p f H zs j)(hx:l[j]?=some x)(hp:p x=false):outZ l p f H' zs (j+1):=by
 show _=_
 rw[bh,hx,bV,aN,<- show zs=_ from h]
 simp [hp]
theorem outZ.all {α:Type}{l:List α}{p:α->Bool}{f:α->V}{H:Hp}{zs:List V}{n:Nat}(h:outZ l p f H zs n)(hn:l.length<=n):zs=(l.filter p).map f:=by
 rw[show zs=_ from h,bz hn]
def mapZ {α:Type}(l:List α)(f:α->V):Hp->List V->Nat->Prop:=fun _ zs j=>zs=(l.take j).map f
theorem mapZ.ok {α:Type}(l:List α)(f:α->V):ZOk (mapZ l f):=⟨fun _=>rfl,fun _ _ _ _ _ h=>h,fun _ zs j h=>by
 rw[show zs=_ from h,ae]
 exact cN _ _⟩
theorem mapZ.yes {α:Type}{l:List α}{f:α->V}{H H':Hp}{zs:List V}{j:Nat}{x:α}(h:mapZ l f H zs j)(hx:l[j]?=some x):mapZ l f H' (zs++[f x]) (j+1):=by
 show _=_
 rw[bh,hx,aN,<- show zs=_ from h]
 rfl
theorem mapZ.all {α:Type}{l:List α}{f:α->V}{H:Hp}{zs:List V}{n:Nat}(h:mapZ l f H zs n)(hn:l.length<=n):zs=l.map f:=by
 rw[show zs=_ from h,bz hn]
section
variable {X:Cx}{sc:Scope}{cl:List (Str×Addr)}{C:Addr}{Nc:List Str}{fp:List Addr}{s:Shared}{H:Hp}
end
section
variable {X:Cx}{st:Stmt}{sts:List Stmt}{t:TS}{e:Expr}{tt:TT}
end
end L2
namespace L2
open PySem PySem.Spec PyProof.Rows
end L2
namespace L2
open PySem
end L2
namespace L2
open PySem PySem.Spec PyProof.Rows
section
variable {m:List (Option Nat)}{g:TG}{tt:TT}{te:TE}{σ:St}{H1:Hp}{Q:VK}
end
open PySem.AutoSeq1 (wpAny_loadPart')
section
variable {prog:Program}{w:World}{A:Around}{E:Value->Shared->Prop}{s:Shared}
end
section
variable {X:Cx}
variable {sc:Scope}{cl:List (Str×Addr)}{C:Addr}{Nc:List Str}{fp:List Addr}{s:Shared}{H:Hp}
end
section
variable {X:Cx}
def rMinL (K:W.Frag):List V->Hp->VK->Prop:=fun xs H Q=>∃ (p:Addr) (ns:List Int),xs=[.ref p]/\(SqL K H p (ns.map V.int))/\0<ns.length/\∀ m,m∈ns->(∀ a∈ns,m<=a)->Q (.int m) H
theorem jLE (hc:X.calm=true):yO X (.builtin "min") (rMinL X.K):=by
 intro pins s σ H xs us Q I r h
 obtain⟨p,ns,rfl,hq,hn,q⟩:=h
 obtain⟨u,rfl,rx⟩:=r.one
 cases rx
 obtain⟨its,r',pl,hz⟩:=I.list hq
 have hlen:=r'.length
 rw[ae] at hlen
 have val:∀ (i:Nat) (v:Value),its[i]?=some v->∃ t,v=Value.int (ns.getD i 0) t:=fun i v hi=>by
  have hb:i<ns.length:=by
   rw[hlen]
   exact(ah.mp hi).1
  obtain⟨u,hu,ru⟩:=r'.get (i:=i) (x:= .int (ns[i])) (by simp [hb])
  rw[hi] at hu
  cases hu
  obtain⟨t,rfl⟩:=ru
  exact⟨t,by simp [List.getD,hb]⟩
 refine call_min_walk (cK pl.isList ?_)
 have hne:p≠s.heap.objs.size:=by
  obtain⟨o,ho,_⟩:=pl.isList
  exact aO (ao ho)
 refine⟨s.heap.objs.size,_,_,_,_,_,_,rfl,gH (by simpa using I.ok.hd hc) _ p hne its.toArray,⟨⟨_,aj _ rfl,rfl,rfl⟩,pl.isList.push _⟩,(fun b hb=>?_),by rw[aA]; omega,CmpOf.ints_lt (fun i=>ns.getD i 0) (fun i v hP=>val i v (by simpa using hP)),fun v h' tk hP hk=>?_⟩
 ·show b<(s.heap.push _).objs.size
  rw[bM]
  obtain⟨o,ho,_⟩:=pl.isList
  have:=ao ho
  rcases aF.mp hb with rfl | hb
  ·exact gy _
  ·rcases aF.mp hb with rfl | hb
   ·exact cc this
   ·cases hb
 ·obtain⟨h1,h2⟩:=argBest_lt (fun i=>ns.getD i 0) (its.toArray.size - 1)
  rw[aA] at h1 h2 hP
  rw[List.getElem?_toArray] at hP
  obtain⟨t,rfl⟩:=val _ v hP
  refine⟨.int _,H,I.kept (t':=tk) fun b o e=>hk b o (by
   intro z
   have z:b=s.heap.objs.size:=by simpa using z
   exact absurd (ao e) (by rw[z]; exact ce _)) (ab _ e),⟨_,rfl⟩,q _ ?_ fun a ha=>?_⟩
  ·generalize argBest _ _=j at h1
   have hj:j<ns.length:=by omega
   rw[aB,ar hj]
   exact cQ hj
  ·obtain⟨j,hj⟩:=List.mem_iff_getElem?.mp ha
   have hjl:=(ah.mp hj).1
   have:=h2 j (by omega)
   have e:ns.getD j 0=a:=by rw[aB,hj]; rfl
   rw[e] at this
   exact this
end
structure FnZ (P:Program)(w:World)(K:W.Frag)(mg:Str->Option Value)(base:Heap)(CX:CXT)(Z:Shared->Hp->Prop)(k:Nat)(f:Addr)(fd:FuncData)(ps:List Str)(sp:Sp):Prop where
 len:∀ vs H Q E,sp vs H Q E->vs.length=ps.length
 run:∀ (A:Around) (outer:List Env) (s:Shared) (H:Hp) (args:Args) (us:List Value) (vs:List V) (Q:VK) (E:XK),Room k A->Env0 P w K mg base A outer s H->BindsTo s fd args (ps.zip us)->Vals vs us->Z s H->sp vs H Q E->
  codeAny (model P w) A (.call (.ref f) args) (CR CX outer P w H s Q E) s
theorem jRR {Z:Shared->Hp->Prop}{CX:CXT}{P:Program}{w:World}{K:W.Frag}{mg:Str->Option Value}{base:Heap}{k:Nat}{f:Addr}{name qual:Str}{params:Arguments}{body:List Stmt}{scope:Scope}{dV kV doc pm cdv ct oc:Value}{an od:Option Addr}
  {osl:Array (Option Value)}{N ps:List Str}{sp:Sp}(lk:K.lookup f=some ⟨oc,od, .func (PySem.W.fnOf name qual params body scope dV kV doc pm an cdv ct),osl⟩) (hcd:PySem.W.codeIn K cdv qual=true) (S:FnScope N ps scope)
  (len:∀ vs H Q E,sp vs H Q E->vs.length=ps.length)
  (hbody:∀ (A:Around) (outer:List Env) (s:Shared) (H:Hp) (vs:List V) (Q:VK) (E:XK),Room k (A.deeper (envOfC qual scope s.heap.objs.size f cdv))->Z s H->sp vs H Q E->
   ∃ t,PSs (cxOf CX P w K mg base N qual scope f cdv A outer s H E) body t/\t { nx:=fun _ H'=>Q .non H',rt:=Q} (kZ N vs) H):
  FnZ P w K mg base CX Z (k+1) f (PySem.W.fnOf name qual params body scope dV kV doc pm an cdv ct) ps sp:=by
 refine⟨len,fun A outer s H args us vs Q E hr e0 hb r hz hsp=>?_⟩
 have hl:=len _ _ _ _ hsp
 have KX:K.In s.heap:=e0.mod.kin.keeps fun b o e=>(e0.bs b o e).1
 have lim:s.heap.NoLimit:=e0.mod.nolimit.keeps fun b o e=>(e0.bs b o e).1
 have hkind:∀ y∈ps.zip us,scope.names.lookup y.1=some .local\/(scope.names.lookup y.1=some .cell/\((cellsFrom (s.heap.objs.size+1) scope.names []).lookup y.1).isSome=true):=fun ⟨n,v⟩ hy=>by
  rcases S.par n (dA hy).1 with q | q
  ·exact .inl q
  ·exact .inr ⟨q,eg _ _ _ (.inl q)⟩
 refine codeAny_call_function hr.depth (KX _ _ lk) rfl S.co S.gen rfl (ij KX hcd) (hb _ _ _ _ ?_)
 refine fY S.kind hkind fun env he s1 x=>?_
 subst he
 refine⟨lim.keeps x.toInCall.keep,codeAny_func ?_⟩
 obtain⟨t,ht,hq⟩:=hbody A outer s H vs Q E (hr.deeper _) hz hsp
 have I:Inv (cxOf CX P w K mg base N qual scope f cdv A outer s H E) [] (kZ N vs) H s1:=jFX S hr.hd e0 hl r x
 refine bU (ht [] s1 (kZ N vs) H _ I hq) (fun fl s' hs=>?_) fun e s' hs=>hs
 have fin:∀ {σ':St}{H':Hp}{v:V}{u:Value},Inv (cxOf CX P w K mg base N qual scope f cdv A outer s H E) [] σ' H' s'->RelV v u->Q v H'->CE outer P w H s Q u s':=
  fun {σ' H' v u} J rv q=>⟨v,H',J.os,J.bare,J.base,J.hok,rv,q⟩
 cases fl with
 | ret u=>
  obtain⟨v,σ',H',J,rv,q⟩:=hs
  exact fin J rv q
 | next=>
  obtain⟨σ',H',J,q⟩:=hs
  exact fin (v:=V.non) (u:=Value.none) J rfl q
 | brk=>
  obtain⟨_,_,_,q⟩:=hs
  exact False.elim q
 | cont=>
  obtain⟨_,_,_,q⟩:=hs
  exact False.elim q
def ZSt (Z:Shared->Hp->Prop):Prop:=∀ (fs:List Addr) (s s':Shared) (H H':Hp),Un fs [] H H' s.heap s'.heap->Z s H->Z s' H'
abbrev ZT:Shared->Hp->Prop:=fun _ _=>True
theorem ZT.st:ZSt ZT:=fun _ _ _ _ _ _ _=>trivial
theorem FnZ.ok {P:Program}{w:World}{K:W.Frag}{mg:Str->Option Value}{base:Heap}{CX:CXT}{k:Nat}{f:Addr}{fd:FuncData}{ps:List Str}{sp:Sp}(F:FnZ P w K mg base CX ZT k f fd ps sp):FnOk P w K mg base CX k f fd ps sp:=
 ⟨F.len,fun A outer s H args us vs Q E hr he hb hv hs=>F.run A outer s H args us vs Q E hr he hb hv trivial hs⟩
section
variable {P:Program}{w:World}{K:W.Frag}{mg:Str->Option Value}{base:Heap}
theorem Fun.okZ {Z:Shared->Hp->Prop}{x qual:Str}{st:Stmt}{f:Addr}{fd:FuncData}{N ps:List Str}{k:Nat}{sp:Sp}(F:Fun K x qual st f fd)(S:FnScope N ps (j7 st))(len:∀ vs H Q E,sp vs H Q E->vs.length=ps.length)
  (hbody:∀ (cdv:Value) (A:Around) (outer:List Env) (s:Shared) (H:Hp) (vs:List V) (Q:VK) (E:XK),Room k (A.deeper (envOfC qual (j7 st) s.heap.objs.size f cdv))->Z s H->sp vs H Q E->
   ∃ t,PSs (cxOf CX0 P w K mg base N qual (j7 st) f cdv A outer s H E).nox (jB st) t/\t { nx:=fun _ H'=>Q .non H',rt:=Q} (kZ N vs) H):FnZ P w K mg base CX0 Z (k+1) f fd ps sp:=by
 obtain⟨_,_,_,_,_,_,cdv,_,_,rfl,lk,hcd⟩:=F.ex
 refine jRR lk hcd S len fun A outer s H vs Q E hr hz hsp=>?_
 obtain⟨t,h,q⟩:=hbody cdv A outer s H vs Q E hr hz hsp
 exact⟨t,h.nox,q⟩
end
structure Callee (P:Program)(w:World)(K:W.Frag)(mg:Str->Option Value)(base:Heap)(Z:Shared->Hp->Prop)(zh:Hp->Prop)(k:Nat)(a:Addr)(sp:Sp):Prop where
 fn:∀ (A:Around) (outer:List Env) (s:Shared) (H:Hp),Env0 P w K mg base A outer s H->zh H->PySem.W.FnAt a s.heap
 run:∀ (A:Around) (outer:List Env) (s:Shared) (H:Hp) (us:List Value) (vs:List V) (Q:VK) (E:XK),Room k A->Env0 P w K mg base A outer s H->Z s H->zh H->Vals vs us->sp vs H Q E->codeAny (model P w) A (.call (.ref a) ⟨us,[]⟩) (CR CX0 outer P w H s Q E) s
def jQE (a:Addr)(zh:Hp->Prop)(sp:Sp)(j:Nat)(t:TA):TE:=fun σ H Q=>σ[j]?=some (some (.ref a))/\t σ H fun vs H1=>zh H1/\sp vs H1 Q E0
section
variable {X:Cx}{Z:Shared->Hp->Prop}{zh:Hp->Prop}{k:Nat}{a:Addr}{sp:Sp}{x:Str}{p pos:Pos}{e:Expr}{es:List Expr}{t:TA}{j:Nat}
theorem jML (F:Callee X.prog X.w X.K X.mg X.base Z zh k a sp)(hr:Room k X.A)(st:ZSt Z)(hz:Z X.s₀ X.H₀)(hex:X.ex=[])(hN:X.N[j]?=some x)(hv:Vis1 X x)
  (ha:JA X (e::es) t) (he:starEach (e::es) X.env=(false,eval e X.env)::starEach es X.env) (hdb:(x==("__debug__" :Str))=false:=by decide) (hcd:(x==("__classdict__" :Str))=false:=by decide) (hpl:(backTo pos (starEach es X.env)).any (·.1)=false:=by rfl):
  JE X (.Call (.Name x p) (e::es) [] pos) (jQE a zh sp j t):=by
 refine⟨fun pins s σ H Q I h=>?_⟩
 obtain⟨hj,h⟩:=h
 refine dw (thn (jJW (pos:=p) hN hv.a hdb hcd pins s σ H (fun v H'=>v= .ref a/\H'=H) I ⟨_,hj,rfl,rfl⟩) fun v s1 ⟨v',H1,I1,r1,q1,q2⟩=>?_)
 subst q1 q2
 cases (show v=Value.ref a from r1)
 have hX:=thn (ha.h pos pins s1 σ H1 _ I1 h) fun us s2 (z:AP X pins σ _ us s2)=>show PySem.W.FnAt a s2.heap/\wpAny (model X.prog X.w) X.A (call (.ref a) ([]++us)) (EP X pins σ Q) X.xe s2 from by
  obtain⟨vs,H2,I2,r,h1,h2⟩:=z
  have un:=I2.base
  rw[hex] at un
  refine⟨F.fn _ _ _ _ I2.env0 h1,wpAny_call (dJ (F.run X.A X.stack s2 H2 us vs Q E0 hr I2.env0 (st _ _ _ _ _ un hz) h1 r h2) fun r s' hq=>?_)⟩
  cases r with
  | error e=>exact hq.elim
  | ok fl=>
   cases fl with
   | ret u=>exact I2.after hq
   | next=>exact False.elim hq
   | brk=>exact False.elim hq
   | cont=>exact False.elim hq
 rw[he] at hX ⊢
 exact PySem.W.callWith_of (by show ((false || (backTo pos (starEach es X.env)).any (·.1)) || false)=false; rw[hpl]; rfl) PySem.W.keeps_F (Calls.evalArgs_plain hX)
end
def nlP (q:Str)(args:Arguments)(body:Expr)(scope:Scope)(cl:List (Str×Addr))(a c:Addr):Heap->Prop:=fun h=>∃ pm ctv,h.get? a=some (kla_obj "<lambda>" q args body scope cl pm c ctv)
theorem nlP.stay {q:Str}{args:Arguments}{body:Expr}{scope:Scope}{cl:List (Str×Addr)}{a c:Addr}(h1 h2:Heap)(p:nlP q args body scope cl a c h1)(k:∀ o,h1.get? a=some o->h2.get? a=some o):nlP q args body scope cl a c h2:=by
 obtain⟨m,t,e⟩:=p
 exact⟨m,t,k _ e⟩
def tLam (q:Str)(args:Arguments)(body:Expr)(scope:Scope)(cl:List (Str×Addr))(T:Addr)(pos:Pos):TE:=fun _ H Q=>TabOk H T pos q/\∀ a c H',H' a=some (.ext (nlP q args body scope cl a c))->H' c=some (.ext (ncP q c))->H' T=some (.tbl (onePs pos c))->ExtT T H H'->H a=none->Q (.ref a) H'
theorem jRL {X:Cx}{args:Arguments}{body:Expr}{scope:Scope}{pos:Pos}{c0 T:Addr}(hcode:X.env.code= .ref c0)(CH:PySem.W.CodeHd X.base c0 T)(hbm:BltAt X.base X.mg)
  (hfree:∀ y∈scope.names,y.2= .free->X.env.scope.names.lookup y.1=some .cell\/X.env.scope.names.lookup y.1=some .free) (hdf:defaultsOf args X.env=([],[])):
  JE X (.Lambda args body scope pos) (tLam (X.env.qual++ "<lambda>") args body scope (kG X.env.cells scope.names []) T pos):=by
 refine⟨fun pins s σ H Q I h=>?_⟩
 obtain⟨tab,h⟩:=h
 refine PySem.W.kla_eval hdf ?_
 have hcl:closureFor scope X.env=pure (kG X.env.cells scope.names []):=jL9 fun y hy hz=>I.ok.has y.1 (hfree y hy hz)
 have hg:s.heap.Ns mainGlobals X.mg:=I.mod.glob.keeps I.bk
 have C:=CH.keeps I.bk
 have gT:∀ {ps:Array Value},H T=some (.tbl ps)->mainGlobals≠T:=fun hT z=>by
  obtain⟨o,es,ep,e,_⟩:=I.mod.glob
  have:=(I.bs _ _ e).2
  rw[z,hT] at this
  cases this
 have bT:∀ {ps:Array Value},H T=some (.tbl ps)->s.heap.BuiltinsAt X.mg T:=fun hT=>by
  obtain⟨bm,o,h1,h2,h3,h4,h5,h6,h7⟩:=hbm
  refine⟨bm,o,h1,h2,h3,fun z=>?_,(I.bs _ _ h4).1,h5,h6,h7⟩
  have:=(I.bs _ _ h4).2
  rw[z,hT] at this
  cases this
 rcases tab with hT | ⟨c,hT,hc⟩
 ·refine PySem.W.kla_makeFunction hcl I.ok.glob hg hcode C (I.hok T _ hT) trivial rfl (gT hT) (bT hT) fun c ctv h' tk k1 k2 k3 k4 k5=>?_
  obtain⟨oc,hoc⟩:=ncP.is (q:=X.env.qual++ "<lambda>") k4
  have I1:Inv X pins σ (upd (upd H T (.tbl (#[]++onePs pos c))) c (.ext (ncP (X.env.qual++ "<lambda>") c))) { s with heap:=h',toks:=tk} :=I.grown hT k1 k5 k2 k4 ⟨oc,hoc⟩ ncP.stay
  have I2:=I1.laidX (t':=tk) (a:=h'.objs.size) (φ:=nlP (X.env.qual++ "<lambda>") args body scope (kG X.env.cells scope.names []) h'.objs.size c) (h':=h'.push (kla_obj "<lambda>" (X.env.qual++ "<lambda>") args body scope (kG X.env.cells scope.names []) ((X.mg "__name__").getD .none) c ctv)) (fun b u q=>ab _ q) (ai _) ⟨_,ctv,aj _ rfl⟩ ⟨_,aj _ rfl⟩ nlP.stay
  have hcn:H c=none:=I.hok.fresh k2
  have han:H h'.objs.size=none:=I.hok.fresh (bJ k2 (dr k3))
  have ca:c≠h'.objs.size:=aO k3
  have Tc:T≠c:=fun z=>by rw[z,hcn] at hT; cases hT
  have Ta:T≠h'.objs.size:=fun z=>by rw[z,han] at hT; cases hT
  refine⟨.ref _,_,I2,rfl,h _ c _ j5 (by rw[j8 ca,j5]) (by rw[j8 Ta,j8 Tc,j5,Array.empty_append]) (fun b o e n=>?_) han⟩
  rw[j8 (j9 e han),j8 (j9 e hcn),j8 n]
  exact e
 ·refine PySem.W.kla_makeFunctionHit (cv:= .ref c) hcl I.ok.glob hg hcode C (I.hok T _ hT) (by exact trivial) (by simp [codeAmong,rawInt]) (bT hT) fun ctv h' tk k1 k2=>?_
  have I2:=I.laidX (t':=tk) (a:=h'.objs.size) (φ:=nlP (X.env.qual++ "<lambda>") args body scope (kG X.env.cells scope.names []) h'.objs.size c) (h':=h'.push (kla_obj "<lambda>" (X.env.qual++ "<lambda>") args body scope (kG X.env.cells scope.names []) ((X.mg "__name__").getD .none) c ctv)) (fun b u q=>ab _ (k1 b u q)) k2 ⟨_,ctv,aj _ rfl⟩ ⟨_,aj _ rfl⟩ nlP.stay
  have han:H h'.objs.size=none:=I.hok.fresh k2
  refine⟨.ref _,_,I2,rfl,h _ c _ j5 (by rw[j8 (j9 hc han)]; exact hc) (by rw[j8 (j9 hT han)]; exact hT) (fun b o e n=>?_) han⟩
  rw[j8 (j9 e han)]
  exact e
theorem jRS {P:Program}{w:World}{K:W.Frag}{mg:Str->Option Value}{base:Heap}{k:Nat}{q:Str}{args:Arguments}{body:Expr}{scope:Scope}{N ps fs:List Str}{sp:Sp}{cl:List (Str×Addr)}{fv:List V}{a c:Addr}(S:NScope N ps fs scope)(len:∀ vs H Q E,sp vs H Q E->vs.length=ps.length)
  (hb:∀ pm ctv (us:List Value),us.length=ps.length->bindArgs (PySem.W.kla_fn "<lambda>" q args body scope cl pm (.ref c) ctv) ⟨us,[]⟩=pure (ps.zip us))
  (hbody:∀ (A:Around) (outer:List Env) (s:Shared) (H:Hp) (vs:List V) (Q:VK) (E:XK),Room k (A.deeper (envX q scope s.heap.objs.size a (.ref c) cl))->sp vs H Q E->
   ∃ t,PE (cxN P w K mg base N q scope a (.ref c) cl A outer s H) body t/\t (jD4 N vs fv) H Q):
  Callee P w K mg base (fun s H=>ClOk cl s H/\FvOk fs fv cl s) (fun H=>H a=some (.ext (nlP q args body scope cl a c))/\H c=some (.ext (ncP q c))) (k+1) a sp:=by
 refine⟨fun A outer s H e z=>?_,fun A outer s H us vs Q E hr e0 hz zh r hsp=>?_⟩
 ·obtain⟨⟨m,t,g⟩,_,_⟩:=(show ObjOk P w H s.heap a (.ext _) from e.hok a _ z.1)
  exact⟨_,_,_,_,g⟩
 obtain⟨C,Fv⟩:=hz
 obtain⟨⟨pm,ctv,ho⟩,_,_⟩:=(show ObjOk P w H s.heap a (.ext _) from e0.hok a _ zh.1)
 obtain⟨hc,_,_⟩:=(show ObjOk P w H s.heap c (.ext _) from e0.hok c _ zh.2)
 have hl:us.length=ps.length:=r.length.symm.trans (len _ _ _ _ hsp)
 have lim:s.heap.NoLimit:=e0.mod.nolimit.keeps fun b o e=>(e0.bs b o e).1
 refine PySem.W.kla_callFunE hr.depth ho rfl S.co S.gen rfl hc ?_
 rw[hb pm ctv us hl]
 refine af (wpAny_newFunctionEnv S.nocell (fun y hy=>S.par y.1 (dA hy).1) (fun h₁ hns hsb=>⟨lim.fresh _ hsb,?_⟩) S.kind)
 show codeAny _ _ (.expr body (envX q scope s.heap.objs.size a (.ref c) cl)) _ _
 have hk:∀ b o,s.heap.get? b=some o->h₁.get? b=some o:=fun b o e=>hsb.extBut b o (aO (ao e)) (ab _ e)
 obtain⟨t,ht,hq⟩:=hbody A outer s H vs Q E (hr.deeper _) hsp
 have I:Inv (cxN P w K mg base N q scope a (.ref c) cl A outer s H) [] (jD4 N vs fv) H { s with heap:=h₁,toks:=s.toks+(ps.zip us).length} :=jIU S hr.hd e0 hl r C Fv hns hk
 refine PySem.W.kla_codeExpr (bU (ht [] _ (jD4 N vs fv) H _ I hq) (fun u s' hs=>?_) fun e s' hs=>False.elim hs)
 obtain⟨v,H',J,rv,q⟩:=hs
 exact⟨v,H',J.os,J.bare,J.base,J.hok,rv,q⟩
end L2
end
section
namespace TM
open PySem PyProof.Rows
class Od where
 kd:SortKind
 ky:Keyed->Int
 is:Keyed->Prop
abbrev key [Od]:Keyed->Int:=Od.ky
abbrev IsI [Od]:Keyed->Prop:=Od.is
class LtOk (prog:Program) (w:World) (A:Around) (s:Shared) [Od]:Prop where
 lt:∀ {E:Value->Shared->Prop}{st:SortSt}{x y:Keyed}{Q:Option Bool->SortSt->Prop},kindOf st=Od.kd->IsI x->IsI y->Q (some (decide (key x<key y))) st->wpS (model prog w) A E s (lt' x y) Q st
variable [Od]
abbrev AllI (l:List Keyed):Prop:=∀ p∈l,IsI p
abbrev LE (x y:Keyed):Prop:=key x<=key y
def jBF:Bool->Keyed->Array Keyed->Nat->Nat->Nat->StateT SortSt Sem (Option Nat):=sortPriv% PySem.Builtin.gallop
def gallopB: { g:Bool->Keyed->Array Keyed->Nat->Nat->Nat->StateT SortSt Sem (Option Nat) // jBF=g} :=⟨fun _ _ _ _ _ _=>bind _ _,rfl⟩
theorem elP:(sortPriv% PySem.Builtin.elem)=elem':=rfl
theorem ltP:(sortPriv% PySem.Builtin.lt)=lt':=rfl
theorem ltAtP:(sortPriv% PySem.Builtin.ltAt)=ltAt':=rfl
theorem jH0:(sortPriv% PySem.Builtin.gallop)=jBF:=rfl
section
variable {prog:Program}{w:World}{A:Around}{E:Value->Shared->Prop}{s:Shared}
theorem jF9 [LtOk prog w A s]{st:SortSt}{x y:Keyed}{Q:Option Bool->SortSt->Prop}(hk:kindOf st=Od.kd)(hx:IsI x)(hy:IsI y)(h:Q (some (decide (key x<key y))) st):wpS (model prog w) A E s (lt' x y) Q st:=LtOk.lt hk hx hy h
theorem jR {st:SortSt}{arr:Array Keyed}{i:Nat}{p:Keyed}{Q:Keyed->SortSt->Prop}(hi:arr[i]?=some p)(h:Q p st):wpS (model prog w) A E s (elem' arr i) Q st:=by
 rw[elem'_eq,hi]
 exact aw h
end
section
variable {prog:Program}{w:World}{A:Around}{E:Value->Shared->Prop}{s:Shared} [LtOk prog w A s]
theorem jAV {left:Bool}{ky:Keyed}{arr:Array Keyed}{base n hint:Nat}{st:SortSt}{Q:Option Nat->SortSt->Prop}(hk:kindOf st=Od.kd)(hky:IsI ky)(hI:∀ i,i<n->∃ p,arr[base+i]?=some p/\IsI p)(hh:hint<n)(B:Nat->Bool)
  (hB:∀ i p,i<n->arr[base+i]?=some p->B i=(if left=true then decide (key p<key ky) else !decide (key ky<key p))) (mono:∀ i j,i<=j->j<n->B j=true->B i=true)
  (h:∀ k,k<=n->(∀ i,i<k->B i=true)->(∀ i,k<=i->i<n->B i=false)->Q (some k) st):wpS (model prog w) A E s (jBF left ky arr base n hint) Q st:=by
 rw[gallopB.2]
 delta gallopB
 dsimp only
 simp only [elP,ltP]
 have bey:∀ i (R:Option Bool->SortSt->Prop),i<n->R (some (B i)) st->wpS (model prog w) A E s (do
   let x <- elem' arr (base+i)
   if left=true then lt' x ky else do
    let r <- lt' ky x
    pure (r.map (!·))) R st:=fun i R hi hR=>by
  obtain⟨p,hp,ip⟩:=hI i hi
  refine aq (jR hp ?_)
  have e:=hB i p hi hp
  cases left with
  | true=>
   rw[am rfl] at e ⊢
   rw[e] at hR
   exact jF9 hk ip hky hR
  | false=>
   rw[ak ag] at e ⊢
   rw[e] at hR
   exact aq (jF9 hk hky ip (aw hR))
 have down:∀ i j,i<=j->j<n->B i=false->B j=false:=fun i j hij hj hi=>by
  cases hb:B j with
  | false=>rfl
  | true=>rw[mono i j hij hj hb] at hi; cases hi
 refine aq (bey hint _ hh ?_)
 dsimp only
 cases hb:B hint with
 | true=>
  rw[am rfl]
  refine aq (cG (bG (I:=fun x c st'=>st'=st/\∃ l o,c=(none,l,o)/\l<o/\x+1<=o/\hint+l<n/\B (hint+l)=true)
   (Q:=fun c st'=>st'=st/\∃ l o,c=(none,l,o)/\l<o/\hint+l<n/\B (hint+l)=true/\(n - hint<=o\/(hint+o<n/\B (hint+o)=false))) ?step ?fin ⟨rfl,0,1,rfl,by omega,by omega,by omega,by rw[fz]; exact hb⟩) ?post)
  case post=>
   rintro c st' ⟨rfl,l,o,rfl,a1,a2,a3,a4⟩
   dsimp only
   have p3:∀ i,i<hint+l+1->B i=true:=fun i hi=>mono i (hint+l) (by omega) a2 a3
   have p4:∀ i,hint+min o (n - hint)<=i->i<n->B i=false:=fun i h1 h2=>by
    rcases a4 with a4 | ⟨a4,a5⟩
    ·omega
    ·exact down (hint+o) i (by omega) h2 a5
   refine aq (cG (bG (I:=fun x c st''=>st''=st'/\∃ lo hi,c=(none,lo,hi)/\lo<=hi/\hi<=n/\hi - lo<=n - x/\(∀ i,i<lo->B i=true)/\(∀ i,hi<=i->i<n->B i=false))
    (Q:=fun c st''=>st''=st'/\∃ k,c=(none,k,k)/\k<=n/\(∀ i,i<k->B i=true)/\(∀ i,k<=i->i<n->B i=false)) ?step2 ?fin2 ⟨rfl,hint+l+1,hint+min o (n - hint),rfl,by omega,by omega,by omega,p3,p4⟩) ?post2)
   case post2=>
    rintro c st'' ⟨rfl,k,rfl,k1,k2,k3⟩
    exact aw (h k k1 k2 k3)
   case fin2=>
    rintro c st'' ⟨rfl,lo,hi,rfl,a1,a2,a3,a4,a5⟩
    have:lo=hi:=by omega
    subst this
    exact⟨rfl,lo,rfl,a2,a4,a5⟩
   case step2=>
    rintro x c st'' _ hx ⟨rfl,lo,hi,rfl,a1,a2,a3,a4,a5⟩
    dsimp only
    by_cases hge:lo ≥ hi
    ·rw[am hge]
     have:lo=hi:=by omega
     subst this
     exact aw ⟨rfl,lo,rfl,a2,a4,a5⟩
    ·rw[ak hge]
     refine aq (bey _ _ (by omega) ?_)
     dsimp only
     cases hb:B (lo+(hi - lo) / 2) with
     | true=>
      rw[am rfl]
      exact aw ⟨rfl,lo+(hi - lo) / 2+1,hi,rfl,by omega,a2,by omega,fun i hi'=>mono i _ (by omega) (by omega) hb,a5⟩
     | false=>
      rw[ak ag]
      exact aw ⟨rfl,lo,lo+(hi - lo) / 2,rfl,by omega,by omega,by omega,a4,fun i h1 h2=>down _ i h1 h2 hb⟩
  case fin=>
   rintro c st' ⟨rfl,l,o,rfl,a1,a2,a3,a4⟩
   exact⟨rfl,l,o,rfl,a1,a3,a4, .inl (by omega)⟩
  case step=>
   rintro x c st' _ hx ⟨rfl,l,o,rfl,a1,a2,a3,a4⟩
   dsimp only
   by_cases hge:o ≥ n - hint
   ·rw[am hge]
    exact aw ⟨rfl,l,o,rfl,a1,a3,a4, .inl hge⟩
   ·rw[ak hge]
    refine aq (bey _ _ (by omega) ?_)
    dsimp only
    cases hb2:B (hint+o) with
    | true=>
     rw[ak (by decide)]
     exact aw ⟨rfl,o,2*o+1,rfl,by omega,by omega,by omega,hb2⟩
    | false=>
     rw[am (by decide)]
     exact aw ⟨rfl,l,o,rfl,a1,a3,a4, .inr ⟨by omega,hb2⟩⟩
 | false=>
  rw[ak ag]
  refine aq (cG (bG (I:=fun x c st'=>st'=st/\∃ l o,c=(none,l,o)/\l<o/\x+1<=o/\l<=hint/\B (hint - l)=false)
   (Q:=fun c st'=>st'=st/\∃ l o,c=(none,l,o)/\l<o/\l<=hint/\B (hint - l)=false/\(hint+1<=o\/(o<=hint/\B (hint - o)=true))) ?step ?fin ⟨rfl,0,1,rfl,by omega,by omega,by omega,by rw[Nat.sub_zero]; exact hb⟩) ?post)
  case post=>
   rintro c st' ⟨rfl,l,o,rfl,a1,a2,a3,a4⟩
   dsimp only
   have p3:∀ i,i<hint+1 - min o (hint+1)->B i=true:=fun i hi=>by
    rcases a4 with a4 | ⟨a4,a5⟩
    ·omega
    ·exact mono i (hint - o) (by omega) (by omega) a5
   have p4:∀ i,hint - l<=i->i<n->B i=false:=fun i h1 h2=>down (hint - l) i (by omega) h2 a3
   refine aq (cG (bG (I:=fun x c st''=>st''=st'/\∃ lo hi,c=(none,lo,hi)/\lo<=hi/\hi<=n/\hi - lo<=n - x/\(∀ i,i<lo->B i=true)/\(∀ i,hi<=i->i<n->B i=false))
    (Q:=fun c st''=>st''=st'/\∃ k,c=(none,k,k)/\k<=n/\(∀ i,i<k->B i=true)/\(∀ i,k<=i->i<n->B i=false)) ?step2 ?fin2 ⟨rfl,hint+1 - min o (hint+1),hint - l,rfl,by omega,by omega,by omega,p3,p4⟩) ?post2)
   case post2=>
    rintro c st'' ⟨rfl,k,rfl,k1,k2,k3⟩
    exact aw (h k k1 k2 k3)
   case fin2=>
    rintro c st'' ⟨rfl,lo,hi,rfl,a1,a2,a3,a4,a5⟩
    have:lo=hi:=by omega
    subst this
    exact⟨rfl,lo,rfl,a2,a4,a5⟩
   case step2=>
    rintro x c st'' _ hx ⟨rfl,lo,hi,rfl,a1,a2,a3,a4,a5⟩
    dsimp only
    by_cases hge:lo ≥ hi
    ·rw[am hge]
     have:lo=hi:=by omega
     subst this
     exact aw ⟨rfl,lo,rfl,a2,a4,a5⟩
    ·rw[ak hge]
     refine aq (bey _ _ (by omega) ?_)
     dsimp only
     cases hb:B (lo+(hi - lo) / 2) with
     | true=>
      rw[am rfl]
      exact aw ⟨rfl,lo+(hi - lo) / 2+1,hi,rfl,by omega,a2,by omega,fun i hi'=>mono i _ (by omega) (by omega) hb,a5⟩
     | false=>
      rw[ak ag]
      exact aw ⟨rfl,lo,lo+(hi - lo) / 2,rfl,by omega,by omega,by omega,a4,fun i h1 h2=>down _ i h1 h2 hb⟩
  case fin=>
   rintro c st' ⟨rfl,l,o,rfl,a1,a2,a3,a4⟩
   exact⟨rfl,l,o,rfl,a1,a3,a4, .inl (by omega)⟩
  case step=>
   rintro x c st' _ hx ⟨rfl,l,o,rfl,a1,a2,a3,a4⟩
   dsimp only
   by_cases hge:o ≥ hint+1
   ·rw[am hge]
    exact aw ⟨rfl,l,o,rfl,a1,a3,a4, .inl hge⟩
   ·rw[ak hge]
    refine aq (bey _ _ (by omega) ?_)
    dsimp only
    cases hb2:B (hint - o) with
    | true=>
     rw[am rfl]
     exact aw ⟨rfl,l,o,rfl,a1,a3,a4, .inr ⟨by omega,hb2⟩⟩
    | false=>
     rw[ak ag]
     exact aw ⟨rfl,o,2*o+1,rfl,by omega,by omega,by omega,hb2⟩
end
abbrev jFK (st:SortSt)(g:Nat):SortSt:=SortSt.mk' (kindOf st) (arrOf st) (pendingOf st) g (failedOf st)
def jBJ:Nat->StateT SortSt Sem Unit:=sortPriv% PySem.Builtin.setMinGallop
theorem jJL:(sortPriv% PySem.Builtin.setMinGallop)=jBJ:=rfl
theorem jA2 (g:Nat):jBJ g=modify fun s=>jFK s g:=rfl
def jEQ:Array Keyed->Array Keyed->StateT SortSt Sem (Array Keyed):=sortPriv% PySem.Builtin.mergeLo
def mergeLoB: { g:Array Keyed->Array Keyed->StateT SortSt Sem (Array Keyed) // jEQ=g} :=⟨fun _ _=>bind _ _,rfl⟩
theorem jMD:(sortPriv% PySem.Builtin.mergeLo)=jEQ:=rfl
def jER:Array Keyed->Array Keyed->StateT SortSt Sem (Array Keyed):=sortPriv% PySem.Builtin.mergeHi
def mergeHiB: { g:Array Keyed->Array Keyed->StateT SortSt Sem (Array Keyed) // jER=g} :=⟨fun _ _=>bind _ _,rfl⟩
theorem jME:(sortPriv% PySem.Builtin.mergeHi)=jER:=rfl
abbrev Srt (l:List Keyed):Prop:=l.Pairwise LE
structure ML (a b out:List Keyed)(ia ib:Nat):Prop where
 perm:(out++(a.drop ia++b.drop ib)).Perm (a++b)
 srt:Srt out
 le:∀ x∈out,∀ y∈a.drop ia++b.drop ib,LE x y
theorem Srt.drop {l:List Keyed}(h:Srt l)(i:Nat):Srt (l.drop i):=h.sublist (ge _ _)
theorem Srt.take {l:List Keyed}(h:Srt l)(i:Nat):Srt (l.take i):=h.sublist (dc _ _)
theorem yM {l m:List Keyed}(h1:Srt l)(h2:Srt m)(h:∀ x∈l,∀ y∈m,LE x y):Srt (l++m):=ci.mpr ⟨h1,h2,h⟩
theorem ML.takeA {a b out:List Keyed}{ia ib:Nat}(h:ML a b out ia ib)(sa:Srt a)(k:Nat)(hc:∀ x∈(a.drop ia).take k,∀ y∈b.drop ib,LE x y):ML a b (out++(a.drop ia).take k) (ia+k) ib:=by
 have e:a.drop (ia+k)=(a.drop ia).drop k:=by rw[gb]
 refine⟨?_,yM h.srt ((sa.drop ia).take k) fun x hx y hy=>h.le x hx y (aQ _ (bW hy)),fun x hx y hy=>?_⟩
 ·refine List.Perm.trans ?_ h.perm
  rw[e]
  refine gN ?_
  rw[aM,<- aM ((a.drop ia).take k),bg]
 ·rcases aI.mp hx with q | q
  ·refine h.le x q y ?_
   rcases aI.mp hy with z | z
   ·rw[e] at z
    exact aQ _ (cj z)
   ·exact aG _ z
  ·rcases aI.mp hy with z | z
   ·rw[e] at z
    have s:=sa.drop ia
    rw[<- bg k (a.drop ia)] at s
    exact(ci.mp s).2.2 x q y z
   ·exact hc x q y z
theorem ML.takeB {a b out:List Keyed}{ia ib:Nat}(h:ML a b out ia ib)(sb:Srt b)(k:Nat)(hc:∀ x∈(b.drop ib).take k,∀ y∈a.drop ia,LE x y):ML a b (out++(b.drop ib).take k) ia (ib+k):=by
 have e:b.drop (ib+k)=(b.drop ib).drop k:=by rw[gb]
 refine⟨?_,yM h.srt ((sb.drop ib).take k) fun x hx y hy=>h.le x hx y (aG _ (bW hy)),fun x hx y hy=>?_⟩
 ·refine List.Perm.trans ?_ h.perm
  rw[e,aM]
  refine cD out ?_
  refine cX.trans ?_
  rw[aM]
  refine cD _ ?_
  refine cX.trans ?_
  rw[bg]
 ·rcases aI.mp hx with q | q
  ·refine h.le x q y ?_
   rcases aI.mp hy with z | z
   ·exact aQ _ z
   ·rw[e] at z
    exact aG _ (cj z)
  ·rcases aI.mp hy with z | z
   ·exact hc x q y z
   ·rw[e] at z
    have s:=sb.drop ib
    rw[<- bg k (b.drop ib)] at s
    exact(ci.mp s).2.2 x q y z
theorem ML.outA {a b out:List Keyed}{ia ib:Nat}(h:ML a b out ia ib)(sa:Srt a)(hb:b.length<=ib):(out++a.drop ia++b.drop ib).Perm (a++b)/\Srt (out++a.drop ia++b.drop ib):=by
 refine⟨by rw[aM]; exact h.perm,?_⟩
 rw[gI hb,aZ]
 exact yM h.srt (sa.drop ia) fun x hx y hy=>h.le x hx y (aQ _ hy)
theorem ML.outB {a b out:List Keyed}{ia ib:Nat}(h:ML a b out ia ib)(sb:Srt b)(ha:a.length<=ia):(out++a.drop ia++b.drop ib).Perm (a++b)/\Srt (out++a.drop ia++b.drop ib):=by
 refine⟨by rw[aM]; exact h.perm,?_⟩
 rw[gI ha,aZ]
 exact yM h.srt (sb.drop ib) fun x hx y hy=>h.le x hx y (aG _ hy)
theorem ML.last {a b out:List Keyed}{ia ib:Nat}(h:ML a b out ia ib)(sa:Srt a)(sb:Srt b)(ha:∀ x∈b,∀ y∈a.drop ia,LE x y):(out++b.drop ib++a.drop ia).Perm (a++b)/\Srt (out++b.drop ib++a.drop ia):=by
 refine⟨?_,?_⟩
 ·rw[aM]
  exact(cD out cX).trans h.perm
 ·refine yM (yM h.srt (sb.drop ib) fun x hx y hy=>h.le x hx y (aG _ hy)) (sa.drop ia) fun x hx y hy=>?_
  rcases aI.mp hx with q | q
  ·exact h.le x q y (aQ _ hy)
  ·exact ha x (cj q) y hy
theorem jA5 {l:List Keyed}{i:Nat}{p:Keyed}(h:l[i]?=some p):(l.drop i).take 1=[p]:=by
 obtain⟨hi,e⟩:=ah.mp h
 rw[<- List.getElem_cons_drop (h:=hi),e]
 rfl
theorem jDX {l:List Keyed}(h:Srt l){i j:Nat}{x y:Keyed}(hx:l[i]?=some x)(hy:l[j]?=some y)(hij:i<=j):LE x y:=by
 obtain⟨h1,rfl⟩:=ah.mp hx
 obtain⟨h2,rfl⟩:=ah.mp hy
 by_cases e:i=j
 ·subst e; exact cH _
 ·exact bO.mp h i j h1 h2 (by omega)
theorem jCZ {l:List Keyed}{i:Nat}{y:Keyed}(h:y∈l.drop i):∃ j,i<=j/\l[j]?=some y:=by
 obtain⟨k,hk⟩:=cn h
 rw[dY] at hk
 exact⟨i+k,by omega,hk⟩
theorem jA3 {l:List Keyed}{i k:Nat}{y:Keyed}(h:y∈(l.drop i).take k):∃ j,i<=j/\j<i+k/\l[j]?=some y:=by
 obtain⟨n,hn⟩:=cn h
 have hlt:n<k:=by
  have:=(ah.mp hn).1
  rw[aV] at this
  omega
 rw[bQ hlt,dY] at hn
 exact⟨i+n,by omega,by omega,hn⟩
theorem jCB {a:Array Keyed}{i:Nat} :(a.extract i a.size).toList=a.toList.drop i:=by
 rw[dG,cY]
 exact bz (by rw[cP,aC]; exact ai _)
theorem ext_k {a:Array Keyed}{i k:Nat} :(a.extract i (i+k)).toList=(a.toList.drop i).take k:=by
 rw[dG,cY,cq]
structure Two (a b:Array Keyed):Prop where
 ia:AllI a.toList
 ib:AllI b.toList
 sa:Srt a.toList
 sb:Srt b.toList
 na:0<a.size
 nb:0<b.size
 last:∀ x∈b.toList,∀ y,a.toList[a.size - 1]?=some y->key x<key y
 first:∀ y∈a.toList,∀ p,b.toList[0]?=some p->key p<key y
def yG (a b r:Array Keyed):Prop:=r.toList.Perm (a.toList++b.toList)/\Srt r.toList
structure SG (st st':SortSt):Prop where
 k:kindOf st'=kindOf st
 a:arrOf st'=arrOf st
 p:pendingOf st'=pendingOf st
 f:failedOf st'=failedOf st
theorem SG.refl (st:SortSt):SG st st:=⟨rfl,rfl,rfl,rfl⟩
theorem SG.gal {st st':SortSt}(h:SG st st')(g:Nat):SG st (jFK st' g):=⟨h.k,h.a,h.p,h.f⟩
abbrev MA (a b out:Array Keyed)(ia ib:Nat):Prop:=ML a.toList b.toList out.toList ia ib
section
variable {a b out:Array Keyed}{i j k:Nat}
theorem at_list {p:Keyed} :a[i]?=some p↔a.toList[i]?=some p:=by rw[bw]
theorem yZ (h:i<a.size):∃ p,a[i]?=some p/\a.toList[i]?=some p:=⟨a[i],by simp [h],by simp [h]⟩
theorem MA.doneA (T:Two a b)(h:MA a b out i j)(hj:b.size<=j):yG a b (out++a.extract i a.size++b.extract j b.size):=by
 unfold yG
 rw[ba,ba,jCB,jCB]
 exact ML.outA h T.sa (by rw[aC]; exact hj)
theorem MA.doneB (T:Two a b)(h:MA a b out i j)(hi:a.size<=i):yG a b (out++a.extract i a.size++b.extract j b.size):=by
 unfold yG
 rw[ba,ba,jCB,jCB]
 exact ML.outB h T.sb (by rw[aC]; exact hi)
theorem MA.doneL (T:Two a b)(h:MA a b out i j)(hi:i+1=a.size):yG a b (out++b.extract j b.size++a.extract i a.size):=by
 unfold yG
 rw[ba,ba,jCB,jCB]
 refine ML.last h T.sa T.sb fun x hx y hy=>?_
 obtain⟨n,h1,h2⟩:=jCZ hy
 have:n=a.size - 1:=by
  have:=(ah.mp h2).1
  rw[aC] at this
  omega
 subst this
 exact cb (T.last x hx y h2)
theorem MA.pushB (T:Two a b)(h:MA a b out i j){p q:Keyed}(hp:b[j]?=some p)(hc:∀ y∈a.toList.drop i,LE p y):MA a b (out.push p) i (j+1):=by
 have:=ML.takeB h T.sb 1 (by
  rw[jA5 (at_list.mp hp)]
  intro x hx
  rw[aH.mp hx]
  exact hc)
 rw[jA5 (at_list.mp hp)] at this
 unfold MA
 rw[de]
 exact this
theorem MA.pushA (T:Two a b)(h:MA a b out i j){p q:Keyed}(hp:a[i]?=some p)(hc:∀ y∈b.toList.drop j,LE p y):MA a b (out.push p) (i+1) j:=by
 have:=ML.takeA h T.sa 1 (by
  rw[jA5 (at_list.mp hp)]
  intro x hx
  rw[aH.mp hx]
  exact hc)
 rw[jA5 (at_list.mp hp)] at this
 unfold MA
 rw[de]
 exact this
theorem MA.appA (T:Two a b)(h:MA a b out i j)(k:Nat)(hc:∀ n x,i<=n->n<i+k->a.toList[n]?=some x->∀ y∈b.toList.drop j,LE x y):MA a b (out++a.extract i (i+k)) (i+k) j:=by
 unfold MA
 rw[ba,ext_k]
 exact ML.takeA h T.sa k fun x hx y hy=>by
  obtain⟨n,h1,h2,h3⟩:=jA3 hx
  exact hc n x h1 h2 h3 y hy
theorem MA.appB (T:Two a b)(h:MA a b out i j)(k:Nat)(hc:∀ n x,j<=n->n<j+k->b.toList[n]?=some x->∀ y∈a.toList.drop i,LE x y):MA a b (out++b.extract j (j+k)) i (j+k):=by
 unfold MA
 rw[ba,ext_k]
 exact ML.takeB h T.sb k fun x hx y hy=>by
  obtain⟨n,h1,h2,h3⟩:=jA3 hx
  exact hc n x h1 h2 h3 y hy
theorem Two.atA (T:Two a b)(h:i<a.size):∃ p,a[i]?=some p/\IsI p:=by
 obtain⟨p,h1,h2⟩:=yZ h
 exact⟨p,h1,T.ia p (ay h2)⟩
theorem Two.atB (T:Two a b)(h:i<b.size):∃ p,b[i]?=some p/\IsI p:=by
 obtain⟨p,h1,h2⟩:=yZ h
 exact⟨p,h1,T.ib p (ay h2)⟩
theorem jEU (s:Srt a.toList){p q:Keyed}(hp:a[i]?=some p)(h:LE q p):∀ y∈a.toList.drop i,LE q y:=fun y hy=>by
 obtain⟨n,h1,h2⟩:=jCZ hy
 exact cy h (jDX s (at_list.mp hp) h2 h1)
end
section
variable {prog:Program}{w:World}{A:Around}{E:Value->Shared->Prop}{s:Shared} [LtOk prog w A s]
theorem jPU {st:SortSt}{a:Array Keyed}{i:Nat}{p:Keyed}{Q:Option Nat->SortSt->Prop}(hk:kindOf st=Od.kd)(hp:IsI p)(ha:AllI a.toList)(sa:Srt a.toList)(hi:i<a.size)
  (h:∀ k,i+k<=a.size->(∀ n x,i<=n->n<i+k->a.toList[n]?=some x->LE x p)->(∀ n x,i+k<=n->a.toList[n]?=some x->key p<key x)->Q (some k) st):
  wpS (model prog w) A E s (jBF false p a i (a.size - i) 0) Q st:=by
 refine jAV hk hp (fun n hn=>?_) (by omega) (fun n=>match a[i+n]? with | some x=>!decide (key p<key x) | none=>false) (fun n x hn hx=>?_) (fun n m hnm hm hb=>?_) fun k hk1 hk2 hk3=>h k (by omega) (fun n x h1 h2 h3=>?_) fun n x h1 h2=>?_
 ·obtain⟨q,q1,q2⟩:=yZ (a:=a) (i:=i+n) (by omega)
  exact⟨q,q1,ha q (ay q2)⟩
 ·rw[hx,ak ag]
 ·obtain⟨x,x1,x2⟩:=yZ (a:=a) (i:=i+n) (by omega)
  obtain⟨y,y1,y2⟩:=yZ (a:=a) (i:=i+m) (by omega)
  rw[y1] at hb
  rw[x1]
  have:=jDX sa x2 y2 (by omega)
  have hb:¬ key p<key y:=by simpa using hb
  show (!decide (key p<key x))=true
  rw[eE,d9]
  have:key x<=key y:=this
  omega
 ·have:=hk2 (n - i) (by omega)
  rw[show i+(n - i)=n by omega,at_list.mpr h3] at this
  have this:¬ key p<key x:=by simpa using this
  show key x<=key p
  omega
 ·have hn:=(ah.mp h2).1
  rw[aC] at hn
  have:=hk3 (n - i) (by omega) (by omega)
  rw[show i+(n - i)=n by omega,at_list.mpr h2] at this
  simpa using this
theorem jPV {st:SortSt}{a:Array Keyed}{i:Nat}{p:Keyed}{Q:Option Nat->SortSt->Prop}(hk:kindOf st=Od.kd)(hp:IsI p)(ha:AllI a.toList)(sa:Srt a.toList)(hi:i<a.size)
  (h:∀ k,i+k<=a.size->(∀ n x,i<=n->n<i+k->a.toList[n]?=some x->key x<key p)->(∀ n x,i+k<=n->a.toList[n]?=some x->LE p x)->Q (some k) st):
  wpS (model prog w) A E s (jBF true p a i (a.size - i) 0) Q st:=by
 refine jAV hk hp (fun n hn=>?_) (by omega) (fun n=>match a[i+n]? with | some x=>decide (key x<key p) | none=>false) (fun n x hn hx=>?_) (fun n m hnm hm hb=>?_) fun k hk1 hk2 hk3=>h k (by omega) (fun n x h1 h2 h3=>?_) fun n x h1 h2=>?_
 ·obtain⟨q,q1,q2⟩:=yZ (a:=a) (i:=i+n) (by omega)
  exact⟨q,q1,ha q (ay q2)⟩
 ·rw[hx,am rfl]
 ·obtain⟨x,x1,x2⟩:=yZ (a:=a) (i:=i+n) (by omega)
  obtain⟨y,y1,y2⟩:=yZ (a:=a) (i:=i+m) (by omega)
  rw[y1] at hb
  rw[x1]
  have:=jDX sa x2 y2 (by omega)
  have hb:key y<key p:=aL hb
  show decide (key x<key p)=true
  rw[bb]
  have:key x<=key y:=this
  omega
 ·have:=hk2 (n - i) (by omega)
  rw[show i+(n - i)=n by omega,at_list.mpr h3] at this
  exact aL this
 ·have hn:=(ah.mp h2).1
  rw[aC] at hn
  have:=hk3 (n - i) (by omega) (by omega)
  rw[show i+(n - i)=n by omega,at_list.mpr h2] at this
  have this:¬ key x<key p:=io this
  show key p<=key x
  omega
end
section
variable {prog:Program}{w:World}{A:Around}{E:Value->Shared->Prop}{s:Shared} [LtOk prog w A s]
theorem bp {a b:Nat}(h:a=b):(a==b)=true:=iq.mpr h
theorem bn {a b:Nat}(h:¬ a=b):¬ (a==b)=true:=fun z=>h (iq.mp z)
structure LoI (a b:Array Keyed)(st:SortSt)(out:Array Keyed)(ia ib:Nat)(st':SortSt):Prop where
 m:MA a b out ia ib
 i:ia+1<a.size
 j:ib<b.size
 s:SG st st'
theorem jGC {a b:Array Keyed}{st:SortSt}{Q:Array Keyed->SortSt->Prop}(hk:kindOf st=Od.kd)(T:Two a b)(h:∀ r st',yG a b r->SG st st'->Q r st'):wpS (model prog w) A E s (jEQ a b) Q st:=by
 rw[mergeLoB.2]
 delta mergeLoB
 dsimp only
 simp only [elP,ltP,jH0,jJL]
 have na:=T.na
 have nb:=T.nb
 refine aq (gA (cx ⟨rfl,?_⟩))
 obtain⟨p0,hp0,ip0⟩:=T.atB nb
 refine aq (jR hp0 ?_)
 have M0:MA a b #[p0] 0 1:=by
  have z:MA a b #[] 0 0:=⟨by show (([]:List Keyed)++(a.toList.drop 0++b.toList.drop 0)).Perm _; rw[List.nil_append,g7,g7],List.Pairwise.nil,fun x hx=>by cases hx⟩
  have:=MA.pushB (q:=p0) T z hp0 fun y hy=>cb (T.first y (cj hy) p0 (at_list.mp hp0))
  exact this
 by_cases e1:1=b.size
 ·rw[am (bp e1)]
  exact aw (h _ _ (MA.doneA T M0 (by omega)) (SG.refl _))
 rw[ak (bn e1)]
 by_cases e2:0+1=a.size
 ·rw[am (bp e2)]
  exact aw (h _ _ (MA.doneL T M0 e2) (SG.refl _))
 rw[ak (bn e2)]
 refine aq (fB ?_)
 refine aq (cG (bG (I:=fun x c st'=>∃ out ia ib mg,c=(none,out,ia,ib,mg)/\LoI a b st out ia ib st'/\x+1<=ia+ib)
  (Q:=fun c st'=>∃ r,c.1=some r/\yG a b r/\SG st st') ?step ?fin ⟨_,0,1,_,rfl,⟨M0,by omega,by omega,SG.refl _⟩,by omega⟩) ?post)
 case post=>
  rintro ⟨r0,c⟩ st' ⟨r,hr,d,g⟩
  have hr:r0=some r:=hr
  subst hr
  exact aw (h r st' d g)
 case fin=>
  rintro c st' ⟨out,ia,ib,mg,rfl,I0,hx⟩
  have:=I0.i
  have:=I0.j
  omega
 case step=>
  rintro x c st1 _ hx ⟨out,ia,ib,mg,rfl,I0,hxx⟩
  dsimp only
  refine aq (cG (bG (I:=fun y c st'=>∃ out' ia' ib' ac bc,c=(none,out',ia',ib',ac,bc)/\LoI a b st out' ia' ib' st'/\ia+ib<=ia'+ib'/\(y=0\/ia+ib<ia'+ib'))
   (Q:=fun c st'=>(∃ r,c.1=some r/\yG a b r/\SG st st')\/∃ out' ia' ib' ac bc,c=(none,out',ia',ib',ac,bc)/\LoI a b st out' ia' ib' st'/\ia+ib<ia'+ib') ?step1 ?fin1 ⟨_,_,_,_,_,rfl,I0,by omega, .inl rfl⟩) ?post1)
  case fin1=>
   rintro c st' ⟨out',ia',ib',ac,bc,rfl,I1,h1,h2⟩
   exact .inr ⟨_,_,_,_,_,rfl,I1,by omega⟩
  case step1=>
   rintro y c st2 _ hy ⟨out',ia',ib',ac,bc,rfl,I1,h1,h2⟩
   dsimp only
   obtain⟨pb,hpb,ipb⟩:=T.atB I1.j
   obtain⟨pa,hpa,ipa⟩:=T.atA (i:=ia') (by have:=I1.i; omega)
   have ii:=I1.i
   have jj:=I1.j
   refine aq (jR hpb (aq (jR hpa (aq (jF9 (I1.s.k.trans hk) ipb ipa ?_)))))
   dsimp only
   by_cases hlt:key pb<key pa
   ·rw[ax hlt,am rfl]
    refine aq (jR hpb ?_)
    have M2:=MA.pushB (q:=pb) T I1.m hpb (jEU T.sa hpa (cb hlt))
    by_cases f1:ib'+1=b.size
    ·rw[am (bp f1)]
     exact aw (.inl ⟨_,rfl,MA.doneA T M2 (by omega),I1.s⟩)
    rw[ak (bn f1)]
    split
    ·exact aw (.inr ⟨_,_,_,_,_,rfl,⟨M2,ii,by omega,I1.s⟩,by omega⟩)
    ·exact aw ⟨_,_,_,_,_,rfl,⟨M2,ii,by omega,I1.s⟩,by omega, .inr (by omega)⟩
   ·rw[aP hlt,ak ag]
    refine aq (jR hpa ?_)
    have M2:=MA.pushA (q:=pa) T I1.m hpa (jEU T.sb hpb (by show key pa<=key pb; omega))
    by_cases f1:ia'+1+1=a.size
    ·rw[am (bp f1)]
     exact aw (.inl ⟨_,rfl,MA.doneL T M2 f1,I1.s⟩)
    rw[ak (bn f1)]
    split
    ·exact aw (.inr ⟨_,_,_,_,_,rfl,⟨M2,by omega,jj,I1.s⟩,by omega⟩)
    ·exact aw ⟨_,_,_,_,_,rfl,⟨M2,by omega,jj,I1.s⟩,by omega, .inr (by omega)⟩
  case post1=>
   rintro c st2 (⟨r,hr,d,g⟩ | ⟨out1,ia1,ib1,ac,bc,rfl,I1,h1⟩)
   ·obtain⟨r0,c⟩:=c
    have hr:r0=some r:=hr
    subst hr
    exact aw ⟨r,rfl,d,g⟩
   dsimp only
   refine aq (gA (cx ⟨rfl,?_⟩))
   refine aq (cG (bG (I:=fun y c st'=>∃ out' ia' ib' mg' ac bc,c=(none,out',ia',ib',mg',ac,bc)/\LoI a b st out' ia' ib' st'/\ia+ib<ia'+ib')
    (Q:=fun c st'=>(∃ r,c.1=some r/\yG a b r/\SG st st')\/∃ out' ia' ib' mg' ac bc,c=(none,out',ia',ib',mg',ac,bc)/\LoI a b st out' ia' ib' st'/\ia+ib<ia'+ib') ?step2 ?fin2 ⟨_,_,_,_,_,_,rfl,I1,h1⟩) ?post2)
   case fin2=>
    rintro c st' ⟨out',ia',ib',mg',ac,bc,rfl,I2,h2⟩
    exact .inr ⟨_,_,_,_,_,_,rfl,I2,h2⟩
   case post2=>
    rintro c st3 (⟨r,hr,d,g⟩ | ⟨out2,ia2,ib2,mg2,ac,bc,rfl,I2,h2⟩)
    ·obtain⟨r0,c⟩:=c
     have hr:r0=some r:=hr
     subst hr
     exact aw ⟨r,rfl,d,g⟩
    dsimp only
    rw[jA2]
    exact aq (dy (aw ⟨_,_,_,_,rfl,⟨I2.m,I2.i,I2.j,I2.s.gal _⟩,by omega⟩))
   case step2=>
    clear I0 I1
    rintro y c st2 _ hy ⟨out,ia,ib,mg',ac,bc,rfl,I0,h2⟩
    dsimp only
    obtain⟨pb,hpb,ipb⟩:=T.atB I0.j
    by_cases hg:mg'>1
    case' pos=>
     rw[am hg]
     generalize hgg:mg' - 1=gg
    case' neg=>
     rw[ak hg]
     generalize hgg:mg'=gg
    all_goals
     rw[jA2]
     refine aq (dy ?_)
     have G1:=I0.s.gal gg
     refine aq (jR hpb ?_)
     refine aq (jPU (G1.k.trans hk) ipb T.ia T.sa (by have:=I0.i; omega) fun k1 g1 g2 g3=>?_)
     dsimp only
     have M1:=MA.appA T I0.m k1 (fun n x h1 h2 h3=>jEU T.sb hpb (g2 n x h1 h2 h3))
     have hgt:∀ y∈a.toList.drop (ia+k1),LE pb y:=fun y hy=>by
      obtain⟨n,h1,h2⟩:=jCZ hy
      exact cb (g3 n y h1 h2)
     have jb:=I0.j
     by_cases e0:k1>0
     case' pos=>
      rw[am e0]
      by_cases f1:ia+k1+1=a.size
      ·rw[am (bp f1)]
       exact aw (.inl ⟨_,rfl,MA.doneL T M1 f1,G1⟩)
      rw[ak (bn f1)]
      by_cases f2:ia+k1=a.size
      ·rw[am (bp f2)]
       exact aw (.inl ⟨_,rfl,MA.doneB T M1 (by omega),G1⟩)
      rw[ak (bn f2)]
      obtain⟨pa,hpa,ipa⟩:=T.atA (i:=ia+k1) (by omega)
      have hz:ia+k1<a.size:=by omega
      generalize hiz:ia+k1=iz at*
     case' neg=>
      rw[ak e0]
      have e0':k1=0:=by omega
      subst e0'
      have M1:=I0.m
      obtain⟨pa,hpa,ipa⟩:=T.atA (i:=ia) (by have:=I0.i; omega)
      have hz:ia<a.size:=by have:=I0.i; omega
      rw[fz] at hgt
      have hia:=I0.i
      generalize hiz:ia=iz at*
     all_goals
      refine aq (jR hpb ?_)
      have M2:=MA.pushB (q:=pb) T M1 hpb hgt
      by_cases e1:ib+1=b.size
      ·rw[am (bp e1)]
       exact aw (.inl ⟨_,rfl,MA.doneA T M2 (by omega),G1⟩)
      rw[ak (bn e1)]
      refine aq (jR hpa ?_)
      refine aq (jPV (G1.k.trans hk) ipa T.ib T.sb (by omega) fun k2 l1 l2 l3=>?_)
      dsimp only
      have M3:=MA.appB T M2 k2 (fun n x h1 h2 h3=>jEU T.sa hpa (cb (l2 n x h1 h2 h3)))
      have fin3:∀ y∈b.toList.drop (ib+1+k2),LE pa y:=fun y hy=>by
       obtain⟨n,h1,h2⟩:=jCZ hy
       exact l3 n y h1 h2
      by_cases e2:k2>0
      ·rw[am e2]
       by_cases e3:ib+1+k2=b.size
       ·rw[am (bp e3)]
        exact aw (.inl ⟨_,rfl,MA.doneA T M3 (by omega),G1⟩)
       rw[ak (bn e3)]
       refine aq (jR hpa ?_)
       have M4:=MA.pushA (q:=pa) T M3 hpa fin3
       by_cases e4:iz+1+1=a.size
       ·rw[am (bp e4)]
        exact aw (.inl ⟨_,rfl,MA.doneL T M4 e4,G1⟩)
       rw[ak (bn e4)]
       split
       ·exact aw (.inr ⟨_,_,_,_,_,_,rfl,⟨M4,by omega,by omega,G1⟩,by omega⟩)
       ·exact aw ⟨_,_,_,_,_,_,rfl,⟨M4,by omega,by omega,G1⟩,by omega⟩
      ·rw[ak e2]
       have e0:k2=0:=by omega
       subst e0
       refine aq (jR hpa ?_)
       have M4:=MA.pushA (q:=pa) T M2 hpa fin3
       by_cases e4:iz+1+1=a.size
       ·rw[am (bp e4)]
        exact aw (.inl ⟨_,rfl,MA.doneL T M4 e4,G1⟩)
       rw[ak (bn e4)]
       split
       ·exact aw (.inr ⟨_,_,_,_,_,_,rfl,⟨M4,by omega,by omega,G1⟩,by omega⟩)
       ·exact aw ⟨_,_,_,_,_,_,rfl,⟨M4,by omega,by omega,G1⟩,by omega⟩
end
structure MHL (tot xa xb o:List Keyed):Prop where
 perm:(xa++xb++o).Perm tot
 srt:Srt o
 le:∀ x∈o,∀ y∈xa++xb,LE y x
theorem MHL.takeA {tot u v xb o:List Keyed}(h:MHL tot (u++v) xb o)(s:Srt (u++v))(hc:∀ x∈v,∀ y∈xb,LE y x):MHL tot u xb (v++o):=by
 have sp:=ci.mp s
 refine⟨?_,yM sp.2.1 h.srt fun x hx y hy=>h.le y hy x (aQ _ (aG _ hx)),fun x hx y hy=>?_⟩
 ·refine List.Perm.trans ?_ h.perm
  rw[aM,aM,aM]
  refine cD u ?_
  rw[<- aM,<- aM]
  exact eF o cX
 ·rcases aI.mp hx with q | q
  ·rcases aI.mp hy with z | z
   ·exact sp.2.2 y z x q
   ·exact hc x q y z
  ·refine h.le x q y ?_
   rcases aI.mp hy with z | z
   ·exact aQ _ (aQ _ z)
   ·exact aG _ z
theorem MHL.takeB {tot u v xa o:List Keyed}(h:MHL tot xa (u++v) o)(s:Srt (u++v))(hc:∀ x∈v,∀ y∈xa,LE y x):MHL tot xa u (v++o):=by
 have sp:=ci.mp s
 refine⟨?_,yM sp.2.1 h.srt fun x hx y hy=>h.le y hy x (aG _ (aG _ hx)),fun x hx y hy=>?_⟩
 ·refine List.Perm.trans (gN ?_) h.perm
  simp only [aM]
 ·rcases aI.mp hx with q | q
  ·rcases aI.mp hy with z | z
   ·exact hc x q y z
   ·exact sp.2.2 y z x q
  ·refine h.le x q y ?_
   rcases aI.mp hy with z | z
   ·exact aQ _ z
   ·exact aG _ (aQ _ z)
theorem MHL.out {tot xa xb o:List Keyed}(h:MHL tot xa xb o)(s:Srt (xa++xb)):(xa++xb++o).Perm tot/\Srt (xa++xb++o):=
 ⟨h.perm,yM s h.srt fun x hx y hy=>h.le y hy x hx⟩
theorem MHL.outF {tot xa xb o:List Keyed}(h:MHL tot xa xb o)(s:Srt (xb++xa)):(xb++xa++o).Perm tot/\Srt (xb++xa++o):=
 ⟨(eF o cX).trans h.perm,yM s h.srt fun x hx y hy=>h.le y hy x (by
  rcases aI.mp hx with z | z
  ·exact aG _ z
  ·exact aQ _ z)⟩
theorem jHA {l:List Keyed}{n:Nat}{p:Keyed}(hn:0<n)(h:l[n - 1]?=some p):l.take n=l.take (n - 1)++[p]:=by
 obtain⟨m,rfl⟩:∃ m,n=m+1:=⟨n - 1,by omega⟩
 rw[Nat.add_sub_cancel] at h ⊢
 rw[List.take_succ,h]
 rfl
theorem jH9 {l:List Keyed}{k n:Nat}(hk:k<=n):l.take n=l.take k++(l.drop k).take (n - k):=by
 obtain⟨m,rfl⟩:∃ m,n=k+m:=⟨n - k,by omega⟩
 rw[cq,List.take_add]
theorem jAG {a:Array Keyed}{k n:Nat} :(a.extract k n).toList=(a.toList.drop k).take (n - k):=by
 rw[dG,cY]
theorem jB0 {a:Array Keyed}{n:Nat} :(a.extract 0 n).toList=a.toList.take n:=by
 rw[jAG,g7,Nat.sub_zero]
abbrev MH (a b out:Array Keyed)(na nb:Nat):Prop:=MHL (a.toList++b.toList) (a.toList.take na) (b.toList.take nb) out.toList.reverse
theorem jCY {l:List Keyed}{n:Nat}{y:Keyed}(h:y∈l.take n):∃ j,j<n/\l[j]?=some y:=by
 obtain⟨k,hk⟩:=cn h
 have hlt:k<n:=by
  have:=(ah.mp hk).1
  rw[aV] at this
  omega
 rw[bQ hlt] at hk
 exact⟨k,hlt,hk⟩
section
variable {a b out:Array Keyed}{i j k:Nat}
theorem jCW (s:Srt a.toList){p q:Keyed}(hp:a[i - 1]?=some p)(h:LE p q):∀ y∈a.toList.take i,LE y q:=fun y hy=>by
 obtain⟨n,h1,h2⟩:=jCY hy
 exact cy (jDX s h2 (at_list.mp hp) (by omega)) h
theorem MH.pushA (T:Two a b)(h:MH a b out i j){p:Keyed}(hi:0<i)(hp:a[i - 1]?=some p)(hc:∀ y∈b.toList.take j,LE y p):MH a b (out.push p) (i - 1) j:=by
 have e:=jHA hi (at_list.mp hp)
 have s:=T.sa.take i
 unfold MH at h ⊢
 rw[e] at h s
 rw[de,dQ]
 exact h.takeA s fun x hx=>by rw[aH.mp hx]; exact hc
theorem MH.pushB (T:Two a b)(h:MH a b out i j){p:Keyed}(hj:0<j)(hp:b[j - 1]?=some p)(hc:∀ y∈a.toList.take i,LE y p):MH a b (out.push p) i (j - 1):=by
 have e:=jHA hj (at_list.mp hp)
 have s:=T.sb.take j
 unfold MH at h ⊢
 rw[e] at h s
 rw[de,dQ]
 exact h.takeB s fun x hx=>by rw[aH.mp hx]; exact hc
theorem MH.appA (T:Two a b)(h:MH a b out i j)(hk:k<=i)(hc:∀ n x,k<=n->n<i->a.toList[n]?=some x->∀ y∈b.toList.take j,LE y x):MH a b (out++(a.extract k i).reverse) k j:=by
 have e:=jH9 (l:=a.toList) hk
 have s:=T.sa.take i
 unfold MH at h ⊢
 rw[e] at h s
 rw[ba,cI,dQ,g8,jAG]
 exact h.takeA s fun x hx y hy=>by
  obtain⟨n,h1,h2,h3⟩:=jA3 hx
  exact hc n x h1 (by omega) h3 y hy
theorem MH.appB (T:Two a b)(h:MH a b out i j)(hk:k<=j)(hc:∀ n x,k<=n->n<j->b.toList[n]?=some x->∀ y∈a.toList.take i,LE y x):MH a b (out++(b.extract k j).reverse) i k:=by
 have e:=jH9 (l:=b.toList) hk
 have s:=T.sb.take j
 unfold MH at h ⊢
 rw[e] at h s
 rw[ba,cI,dQ,g8,jAG]
 exact h.takeB s fun x hx y hy=>by
  obtain⟨n,h1,h2,h3⟩:=jA3 hx
  exact hc n x h1 (by omega) h3 y hy
theorem MH.doneA (T:Two a b)(h:MH a b out 0 j):yG a b (a.extract 0 0++b.extract 0 j++out.reverse):=by
 unfold yG
 rw[ba,ba,jB0,jB0,cI]
 exact h.out (by rw[eG]; exact T.sb.take j)
theorem MH.doneB (T:Two a b)(h:MH a b out i 0):yG a b (a.extract 0 i++b.extract 0 0++out.reverse):=by
 unfold yG
 rw[ba,ba,jB0,jB0,cI]
 exact h.out (by rw[eG,aZ]; exact T.sa.take i)
theorem MH.doneF (T:Two a b)(h:MH a b out i 1):yG a b (b.extract 0 1++a.extract 0 i++out.reverse):=by
 unfold yG
 rw[ba,ba,jB0,jB0,cI]
 refine h.outF (yM (T.sb.take 1) (T.sa.take i) fun x hx y hy=>?_)
 obtain⟨n,h1,h2⟩:=jCY hx
 have:n=0:=by omega
 subst this
 exact cb (T.first y (bW hy) x h2)
end
section
variable {prog:Program}{w:World}{A:Around}{E:Value->Shared->Prop}{s:Shared} [LtOk prog w A s]
theorem jHV {st:SortSt}{a:Array Keyed}{i len hint:Nat}{p:Keyed}{Q:Option Nat->SortSt->Prop}(hk:kindOf st=Od.kd)(hp:IsI p)(ha:AllI a.toList)
  (sa:∀ n m x y,i<=n->n<=m->m<i+len->a[n]?=some x->a[m]?=some y->LE x y) (hh:hint<len) (hl:i+len<=a.size)
  (h:∀ k,k<=len->(∀ n x,i<=n->n<i+k->a[n]?=some x->LE x p)->(∀ n x,i+k<=n->n<i+len->a[n]?=some x->key p<key x)->Q (some k) st):
  wpS (model prog w) A E s (jBF false p a i len hint) Q st:=by
 refine jAV hk hp (fun n hn=>?_) hh (fun n=>match a[i+n]? with | some x=>!decide (key p<key x) | none=>false) (fun n x hn hx=>?_) (fun n m hnm hm hb=>?_) fun k hk1 hk2 hk3=>h k (by omega) (fun n x h1 h2 h3=>?_) fun n x h1 h2 h3=>?_
 ·obtain⟨q,q1,q2⟩:=yZ (a:=a) (i:=i+n) (by omega)
  exact⟨q,q1,ha q (ay q2)⟩
 ·rw[hx,ak ag]
 ·obtain⟨x,x1,x2⟩:=yZ (a:=a) (i:=i+n) (by omega)
  obtain⟨y,y1,y2⟩:=yZ (a:=a) (i:=i+m) (by omega)
  rw[y1] at hb
  rw[x1]
  have:=sa (i+n) (i+m) x y (by omega) (by omega) (by omega) x1 y1
  have hb:¬ key p<key y:=by simpa using hb
  show (!decide (key p<key x))=true
  rw[eE,d9]
  have:key x<=key y:=this
  omega
 ·have:=hk2 (n - i) (by omega)
  rw[show i+(n - i)=n by omega,h3] at this
  have this:¬ key p<key x:=by simpa using this
  show key x<=key p
  omega
 ·have:=hk3 (n - i) (by omega) (by omega)
  rw[show i+(n - i)=n by omega,h3] at this
  simpa using this
theorem jHW {st:SortSt}{a:Array Keyed}{i len hint:Nat}{p:Keyed}{Q:Option Nat->SortSt->Prop}(hk:kindOf st=Od.kd)(hp:IsI p)(ha:AllI a.toList)
  (sa:∀ n m x y,i<=n->n<=m->m<i+len->a[n]?=some x->a[m]?=some y->LE x y) (hh:hint<len) (hl:i+len<=a.size)
  (h:∀ k,k<=len->(∀ n x,i<=n->n<i+k->a[n]?=some x->key x<key p)->(∀ n x,i+k<=n->n<i+len->a[n]?=some x->LE p x)->Q (some k) st):
  wpS (model prog w) A E s (jBF true p a i len hint) Q st:=by
 refine jAV hk hp (fun n hn=>?_) hh (fun n=>match a[i+n]? with | some x=>decide (key x<key p) | none=>false) (fun n x hn hx=>?_) (fun n m hnm hm hb=>?_) fun k hk1 hk2 hk3=>h k (by omega) (fun n x h1 h2 h3=>?_) fun n x h1 h2 h3=>?_
 ·obtain⟨q,q1,q2⟩:=yZ (a:=a) (i:=i+n) (by omega)
  exact⟨q,q1,ha q (ay q2)⟩
 ·rw[hx,am rfl]
 ·obtain⟨x,x1,x2⟩:=yZ (a:=a) (i:=i+n) (by omega)
  obtain⟨y,y1,y2⟩:=yZ (a:=a) (i:=i+m) (by omega)
  rw[y1] at hb
  rw[x1]
  have:=sa (i+n) (i+m) x y (by omega) (by omega) (by omega) x1 y1
  have hb:key y<key p:=aL hb
  show decide (key x<key p)=true
  rw[bb]
  have:key x<=key y:=this
  omega
 ·have:=hk2 (n - i) (by omega)
  rw[show i+(n - i)=n by omega,h3] at this
  exact aL this
 ·have:=hk3 (n - i) (by omega) (by omega)
  rw[show i+(n - i)=n by omega,h3] at this
  have this:¬ key x<key p:=io this
  show key p<=key x
  omega
end
section
variable {prog:Program}{w:World}{A:Around}{E:Value->Shared->Prop}{s:Shared} [LtOk prog w A s]
structure HiI (a b:Array Keyed)(st:SortSt)(out:Array Keyed)(na nb:Nat)(st':SortSt):Prop where
 m:MH a b out na nb
 i:0<na
 ia:na<=a.size
 j:1<nb
 jb:nb<=b.size
 s:SG st st'
theorem whole {a:Array Keyed}(s:Srt a.toList){len:Nat} :∀ n m x y,0<=n->n<=m->m<0+len->a[n]?=some x->a[m]?=some y->LE x y:=fun n m x y _ h _ hx hy=>jDX s (at_list.mp hx) (at_list.mp hy) h
theorem jGD {a b:Array Keyed}{st:SortSt}{Q:Array Keyed->SortSt->Prop}(hk:kindOf st=Od.kd)(T:Two a b)(h:∀ r st',yG a b r->SG st st'->Q r st'):wpS (model prog w) A E s (jER a b) Q st:=by
 rw[mergeHiB.2]
 delta mergeHiB
 dsimp only
 simp only [elP,ltP,jH0,jJL]
 have na:=T.na
 have nb:=T.nb
 refine aq (gA (cx ⟨rfl,?_⟩))
 obtain⟨p0,hp0,ip0⟩:=T.atA (i:=a.size - 1) (by omega)
 refine aq (jR hp0 ?_)
 have M0:MH a b #[p0] (a.size - 1) b.size:=by
  have z:MH a b #[] a.size b.size:=⟨by
   rw[show a.toList.take a.size=a.toList from bz (by simp),show b.toList.take b.size=b.toList from bz (by simp)]
   show ((a.toList++b.toList)++([]:List Keyed)).Perm _
   rw[aZ],List.Pairwise.nil,fun x hx=>by cases hx⟩
  have:=MH.pushA T z (by omega) hp0 fun y hy=>cb (T.last y (bW hy) p0 (at_list.mp hp0))
  exact this
 by_cases e1:a.size - 1=0
 ·rw[am (bp e1)]
  rw[e1] at M0 ⊢
  exact aw (h _ _ (MH.doneA T M0) (SG.refl _))
 rw[ak (bn e1)]
 by_cases e2:b.size=1
 ·rw[am (bp e2)]
  rw[e2] at M0 ⊢
  exact aw (h _ _ (MH.doneF T M0) (SG.refl _))
 rw[ak (bn e2)]
 refine aq (fB ?_)
 refine aq (cG (bG (I:=fun x c st'=>∃ out na nb mg,c=(none,na,nb,out,mg)/\HiI a b st out na nb st'/\x+1<=a.size - na+(b.size - nb))
  (Q:=fun c st'=>∃ r,c.1=some r/\yG a b r/\SG st st') ?step ?fin ⟨_,_,_,_,rfl,⟨M0,by omega,by omega,by omega,by omega,SG.refl _⟩,by omega⟩) ?post)
 case post=>
  rintro ⟨r0,c⟩ st' ⟨r,hr,d,g⟩
  have hr:r0=some r:=hr
  subst hr
  exact aw (h r st' d g)
 case fin=>
  rintro c st' ⟨out,na,nb,mg,rfl,I0,hx⟩
  have:=I0.i
  have:=I0.j
  omega
 case step=>
  rintro x c st1 _ hx ⟨out,na,nb,mg,rfl,I0,hxx⟩
  dsimp only
  refine aq (cG (bG (I:=fun y c st'=>∃ out' na' nb' ac bc,c=(none,na',nb',out',ac,bc)/\HiI a b st out' na' nb' st'/\na'+nb'<=na+nb/\(y=0\/na'+nb'<na+nb))
   (Q:=fun c st'=>(∃ r,c.1=some r/\yG a b r/\SG st st')\/∃ out' na' nb' ac bc,c=(none,na',nb',out',ac,bc)/\HiI a b st out' na' nb' st'/\na'+nb'<na+nb) ?step1 ?fin1 ⟨_,_,_,_,_,rfl,I0,by omega, .inl rfl⟩) ?post1)
  case fin1=>
   rintro c st' ⟨out',na',nb',ac,bc,rfl,I1,h1,h2⟩
   exact .inr ⟨_,_,_,_,_,rfl,I1,by omega⟩
  case step1=>
   rintro y c st2 _ hy ⟨out',na',nb',ac,bc,rfl,I1,h1,h2⟩
   dsimp only
   have i0:=I1.i
   have i1:=I1.ia
   have j0:=I1.j
   have j1:=I1.jb
   obtain⟨pb,hpb,ipb⟩:=T.atB (i:=nb' - 1) (by omega)
   obtain⟨pa,hpa,ipa⟩:=T.atA (i:=na' - 1) (by omega)
   refine aq (jR hpb (aq (jR hpa (aq (jF9 (I1.s.k.trans hk) ipb ipa ?_)))))
   dsimp only
   by_cases hlt:key pb<key pa
   ·rw[ax hlt,am rfl]
    refine aq (jR hpa ?_)
    have M2:=MH.pushA T I1.m i0 hpa (jCW T.sb hpb (cb hlt))
    by_cases f1:na' - 1=0
    ·rw[am (bp f1)]
     rw[f1] at M2 ⊢
     exact aw (.inl ⟨_,rfl,MH.doneA T M2,I1.s⟩)
    rw[ak (bn f1)]
    split
    ·exact aw (.inr ⟨_,_,_,_,_,rfl,⟨M2,by omega,by omega,j0,j1,I1.s⟩,by omega⟩)
    ·exact aw ⟨_,_,_,_,_,rfl,⟨M2,by omega,by omega,j0,j1,I1.s⟩,by omega, .inr (by omega)⟩
   ·rw[aP hlt,ak ag]
    refine aq (jR hpb ?_)
    have M2:=MH.pushB T I1.m (by omega) hpb (jCW T.sa hpa (by show key pa<=key pb; omega))
    by_cases f1:nb' - 1=1
    ·rw[am (bp f1)]
     rw[f1] at M2 ⊢
     exact aw (.inl ⟨_,rfl,MH.doneF T M2,I1.s⟩)
    rw[ak (bn f1)]
    split
    ·exact aw (.inr ⟨_,_,_,_,_,rfl,⟨M2,i0,i1,by omega,by omega,I1.s⟩,by omega⟩)
    ·exact aw ⟨_,_,_,_,_,rfl,⟨M2,i0,i1,by omega,by omega,I1.s⟩,by omega, .inr (by omega)⟩
  case post1=>
   rintro c st2 (⟨r,hr,d,g⟩ | ⟨out1,na1,nb1,ac,bc,rfl,I1,h1⟩)
   ·obtain⟨r0,c⟩:=c
    have hr:r0=some r:=hr
    subst hr
    exact aw ⟨r,rfl,d,g⟩
   dsimp only
   refine aq (gA (cx ⟨rfl,?_⟩))
   refine aq (cG (bG (I:=fun y c st'=>∃ out' na' nb' mg' ac bc,c=(none,na',nb',out',mg',ac,bc)/\HiI a b st out' na' nb' st'/\na'+nb'<na+nb)
    (Q:=fun c st'=>(∃ r,c.1=some r/\yG a b r/\SG st st')\/∃ out' na' nb' mg' ac bc,c=(none,na',nb',out',mg',ac,bc)/\HiI a b st out' na' nb' st'/\na'+nb'<na+nb) ?step2 ?fin2 ⟨_,_,_,_,_,_,rfl,I1,h1⟩) ?post2)
   case fin2=>
    rintro c st' ⟨out',na',nb',mg',ac,bc,rfl,I2,h2⟩
    exact .inr ⟨_,_,_,_,_,_,rfl,I2,h2⟩
   case post2=>
    have q1:=I0.ia
    have q2:=I0.jb
    rintro c st3 (⟨r,hr,d,g⟩ | ⟨out2,na2,nb2,mg2,ac,bc,rfl,I2,h2⟩)
    ·obtain⟨r0,c⟩:=c
     have hr:r0=some r:=hr
     subst hr
     exact aw ⟨r,rfl,d,g⟩
    dsimp only
    rw[jA2]
    have q3:=I2.ia
    have q4:=I2.jb
    exact aq (dy (aw ⟨_,_,_,_,rfl,⟨I2.m,I2.i,I2.ia,I2.j,I2.jb,I2.s.gal _⟩,by omega⟩))
   case step2=>
    clear I0 I1
    rename_i na00 nb00
    generalize hbd:na+nb=bd
    clear hxx h1
    rintro y c st2 _ hy ⟨out,na,nb,mg',ac,bc,rfl,I0,h2⟩
    dsimp only
    obtain⟨pb,hpb,ipb⟩:=T.atB (i:=nb - 1) (by have:=I0.j; have:=I0.jb; omega)
    by_cases hg:mg'>1
    case' pos=>
     rw[am hg]
     generalize hgg:mg' - 1=gg
    case' neg=>
     rw[ak hg]
     generalize hgg:mg'=gg
    all_goals
     rw[jA2]
     refine aq (dy ?_)
     have G1:=I0.s.gal gg
     have na0:=I0.i
     have na1:=I0.ia
     have nb0:=I0.j
     have nb1:=I0.jb
     refine aq (jR hpb ?_)
     refine aq (jHV (G1.k.trans hk) ipb T.ia (whole T.sa) (by omega) (by omega) fun k1 g1 g2 g3=>?_)
     dsimp only
     have M1:=MH.appA T I0.m g1 (fun n x h1 h2 h3=>jCW T.sb hpb (cb (g3 n x (by omega) (by omega) (at_list.mpr h3))))
     have hle:∀ y∈a.toList.take k1,LE y pb:=fun y hy=>by
      obtain⟨n,h1,h2⟩:=jCY hy
      exact g2 n y (by omega) (by omega) (at_list.mpr h2)
     by_cases e0:na - k1>0
     case' pos=>
      rw[am e0]
      by_cases f1:k1=0
      ·rw[am (bp f1)]
       rw[f1] at M1 ⊢
       exact aw (.inl ⟨_,rfl,MH.doneA T M1,G1⟩)
      rw[ak (bn f1)]
      obtain⟨pa,hpa,ipa⟩:=T.atA (i:=k1 - 1) (by omega)
      have hz:0<k1:=by omega
      generalize hiz:k1=iz at*
     case' neg=>
      rw[ak e0]
      have e0':k1=na:=by omega
      subst e0'
      have M1:=I0.m
      obtain⟨pa,hpa,ipa⟩:=T.atA (i:=k1 - 1) (by omega)
      have hz:0<k1:=by omega
      generalize hiz:k1=iz at*
     all_goals
      refine aq (jR hpb ?_)
      have M2:=MH.pushB T M1 (by omega) hpb hle
      by_cases e1:nb - 1=1
      ·rw[am (bp e1)]
       rw[e1] at M2 ⊢
       exact aw (.inl ⟨_,rfl,MH.doneF T M2,G1⟩)
      rw[ak (bn e1)]
      refine aq (jR hpa ?_)
      refine aq (jHW (G1.k.trans hk) ipa T.ib (whole T.sb) (by omega) (by omega) fun k2 l1 l2 l3=>?_)
      dsimp only
      have M3:=MH.appB T M2 l1 (fun n x h1 h2 h3=>jCW T.sa hpa (l3 n x (by omega) (by omega) (at_list.mpr h3)))
      have fin3:∀ y∈b.toList.take k2,LE y pa:=fun y hy=>by
       obtain⟨n,h1,h2⟩:=jCY hy
       exact cb (l2 n y (by omega) (by omega) (at_list.mpr h2))
      by_cases e2:nb - 1 - k2>0
      ·rw[am e2]
       by_cases e3:k2=1
       ·rw[am (bp e3)]
        rw[e3] at M3 ⊢
        exact aw (.inl ⟨_,rfl,MH.doneF T M3,G1⟩)
       rw[ak (bn e3)]
       by_cases e5:k2=0
       ·rw[am (bp e5)]
        rw[e5] at M3 ⊢
        exact aw (.inl ⟨_,rfl,MH.doneB T M3,G1⟩)
       rw[ak (bn e5)]
       refine aq (jR hpa ?_)
       have M4:=MH.pushA T M3 hz hpa fin3
       by_cases e4:iz - 1=0
       ·rw[am (bp e4)]
        rw[e4] at M4 ⊢
        exact aw (.inl ⟨_,rfl,MH.doneA T M4,G1⟩)
       rw[ak (bn e4)]
       split
       ·exact aw (.inr ⟨_,_,_,_,_,_,rfl,⟨M4,by omega,by omega,by omega,by omega,G1⟩,by omega⟩)
       ·exact aw ⟨_,_,_,_,_,_,rfl,⟨M4,by omega,by omega,by omega,by omega,G1⟩,by omega⟩
      ·rw[ak e2]
       have e0:k2=nb - 1:=by omega
       subst e0
       refine aq (jR hpa ?_)
       have M4:=MH.pushA T M2 hz hpa fin3
       by_cases e4:iz - 1=0
       ·rw[am (bp e4)]
        rw[e4] at M4 ⊢
        exact aw (.inl ⟨_,rfl,MH.doneA T M4,G1⟩)
       rw[ak (bn e4)]
       split
       ·exact aw (.inr ⟨_,_,_,_,_,_,rfl,⟨M4,by omega,by omega,by omega,by omega,G1⟩,by omega⟩)
       ·exact aw ⟨_,_,_,_,_,_,rfl,⟨M4,by omega,by omega,by omega,by omega,G1⟩,by omega⟩
end
def KI (xs:Array Keyed)(i:Nat):Int:=match xs[i]? with
 | some p=>key p
 | none=>0
def STo (xs:Array Keyed)(k:Nat):Prop:=∀ i j,i<=j->j<k->KI xs i<=KI xs j
structure SB (a₀:Array Keyed)(st:SortSt):Prop where
 perm:(arrOf st).Perm a₀
 kind:kindOf st=Od.kd
 failed:failedOf st=none
 pend:pendingOf st=#[]
theorem SB.size {a₀:Array Keyed}{st:SortSt}(h:SB a₀ st):(arrOf st).size=a₀.size:=h.perm.size_eq
theorem jB3 {xs ys:Array Keyed}{i j:Nat}(h:xs[i]?=ys[j]?):KI xs i=KI ys j:=by unfold KI; rw[h]
theorem jLQ {xs:Array Keyed}{src d:Nat}(hs:src<xs.size)(hd:d<=src)(k:Nat):
  KI (bubble xs src d) k=if k=src - d then KI xs src else if src - d<k/\k<=src then KI xs (k - 1) else KI xs k:=by
 have e:=getElem?_bubble hs d hd k
 by_cases h1:k=src - d
 ·rw[am h1] at e ⊢; exact jB3 e
 ·rw[ak h1] at e ⊢
  by_cases h2:src - d<k/\k<=src
  ·rw[am h2] at e ⊢; exact jB3 e
  ·rw[ak h2] at e ⊢; exact jB3 e
theorem jBX {xs:Array Keyed}{i j:Nat}(hj:j<=xs.size)(k:Nat):
  KI (mirror xs i j ((j - i) / 2)) k=if i<=k/\k<j then KI xs (i+j - 1 - k) else KI xs k:=by
 have e:=getElem?_mirror_all (i:=i) hj k
 by_cases h1:i<=k/\k<j
 ·rw[am h1] at e
  rw[am h1]
  exact jB3 e
 ·rw[ak h1] at e
  rw[ak h1]
  exact jB3 e
theorem jA1 {xs:Array Keyed}{i j:Nat}(hj:j<=xs.size)(heq:∀ k,i<=k->k<j->KI xs k=KI xs (j - 1))(k:Nat):
  KI (mirror xs i j ((j - i) / 2)) k=KI xs k:=by
 rw[jBX hj]
 split
 ·rename_i h
  rw[heq _ (by omega) (by omega),heq k h.1 h.2]
 ·rfl
def Up (xs:Array Keyed)(lo n:Nat):Prop:=∀ i j,lo<=i->i<=j->j<lo+n->KI xs i<=KI xs j
def Dn (xs:Array Keyed)(lo n:Nat):Prop:=∀ i j,lo<=i->i<=j->j<lo+n->KI xs j<=KI xs i
structure BB (a₀:Array Keyed)(p:Array (Nat×Nat×Nat))(F:Nat->Int)(lo:Nat)(st:SortSt):Prop where
 perm:(arrOf st).Perm a₀
 kind:kindOf st=Od.kd
 failed:failedOf st=none
 pend:pendingOf st=p
 low:∀ k,k<lo->KI (arrOf st) k=F k
theorem jNR {a₀ xs:Array Keyed}(hp:xs.Perm a₀)(h0:AllI a₀.toList){i:Nat}(hi:i<a₀.size):∃ q,xs[i]?=some q/\IsI q/\key q=KI xs i:=by
 have hi':i<xs.size:=by rw[hp.size_eq]; exact hi
 have hm:xs[i]∈a₀.toList:=(cV.mp hp).mem_iff.mp (by simp)
 have e:xs[i]?=some xs[i]:=getElem?_pos _ i hi'
 exact⟨xs[i],e,h0 _ hm,by unfold KI; rw[e]⟩
section
variable {prog:Program}{w:World}{A:Around}{E:Value->Shared->Prop}{s:Shared} [LtOk prog w A s]{a₀:Array Keyed}{p:Array (Nat×Nat×Nat)}{F:Nat->Int}{lo:Nat}
theorem BB.sz {st:SortSt}(h:BB a₀ p F lo st):(arrOf st).size=a₀.size:=h.perm.size_eq
theorem BB.arr {st:SortSt}(h:BB a₀ p F lo st){xs:Array Keyed}(hp:xs.Perm (arrOf st))(hl:∀ k,k<lo->KI xs k=KI (arrOf st) k):BB a₀ p F lo (setArr st xs):=
 ⟨hp.trans h.perm,h.kind,h.failed,h.pend,fun k hk=>(hl k hk).trans (h.low k hk)⟩
theorem jBY {st:SortSt}{i j:Nat}{Q:Option Bool->SortSt->Prop}(hB:BB a₀ p F lo st)(h0:AllI a₀.toList)(hi:i<a₀.size)(hj:j<a₀.size)
  (h:Q (some (decide (KI (arrOf st) i<KI (arrOf st) j))) st):wpS (model prog w) A E s (ltAt' i j) Q st:=by
 obtain⟨x,e1,i1,k1⟩:=jNR hB.perm h0 hi
 obtain⟨y,e2,i2,k2⟩:=jNR hB.perm h0 hj
 rw[ltAt'_eq]
 refine aq (fB ?_)
 show wpS _ _ _ _ (do let x <- elem' (arrOf st) i; let y <- elem' (arrOf st) j; lt' x y) Q st
 rw[elem'_eq,elem'_eq,e1,e2]
 refine aq (aw (aq (aw (jF9 hB.kind i1 i2 ?_))))
 rw[k1,k2]
 exact h
theorem Up.one {xs:Array Keyed} :Up xs lo 1:=fun i j h1 h2 h3=>by
 have:i=j:=by omega
 rw[this]
 exact cH _
theorem Dn.one {xs:Array Keyed} :Dn xs lo 1:=fun i j h1 h2 h3=>by
 have:i=j:=by omega
 rw[this]
 exact cH _
theorem Up.more {xs:Array Keyed}{n:Nat}(h:Up xs lo n)(hn:0<n)(hc:KI xs (lo+n - 1)<=KI xs (lo+n)):Up xs lo (n+1):=fun i j h1 h2 h3=>by
 by_cases e:j<lo+n
 ·exact h i j h1 h2 e
 ·have ej:j=lo+n:=by omega
  subst ej
  by_cases ei:i=lo+n
  ·rw[ei]
   exact cH _
  ·exact cy (h i (lo+n - 1) h1 (by omega) (by omega)) hc
theorem Dn.more {xs:Array Keyed}{n:Nat}(h:Dn xs lo n)(hn:0<n)(hc:KI xs (lo+n)<=KI xs (lo+n - 1)):Dn xs lo (n+1):=fun i j h1 h2 h3=>by
 by_cases e:j<lo+n
 ·exact h i j h1 h2 e
 ·have ej:j=lo+n:=by omega
  subst ej
  by_cases ei:i=lo+n
  ·rw[ei]
   exact cH _
  ·exact cy hc (h i (lo+n - 1) h1 (by omega) (by omega))
theorem Dn.congr {xs ys:Array Keyed}{n:Nat}(h:Dn xs lo n)(e:∀ k,KI ys k=KI xs k):Dn ys lo n:=fun i j h1 h2 h3=>by
 rw[e i,e j]
 exact h i j h1 h2 h3
theorem jE9 {st:SortSt}{nrem:Nat}{Q:Option Nat->SortSt->Prop}(h0:AllI a₀.toList)(hn:lo+nrem<=a₀.size)(hn1:1<=nrem)(hB:BB a₀ p F lo st)
  (h:∀ m st',BB a₀ p F lo st'->1<=m->m<=nrem->Up (arrOf st') lo m->Q (some m) st'):wpS (model prog w) A E s (countRun' lo nrem) Q st:=by
 rw[countRun'_eq]
 dsimp only
 refine aq (cG (bG (I:=fun x c st'=>st'=st/\c=(none,x)/\Up (arrOf st) lo x)
  (Q:=fun c st'=>st'=st/\∃ n,c=(none,n)/\1<=n/\n<=nrem/\Up (arrOf st) lo n/\(n=nrem\/KI (arrOf st) (lo+n)<KI (arrOf st) (lo+n - 1))) ?step ?fin ⟨rfl,rfl,Up.one⟩) ?post)
 case fin=>
  rintro c st' ⟨rfl,rfl,hu⟩
  rw[show max 1 nrem=nrem by omega] at hu ⊢
  exact⟨rfl,nrem,rfl,hn1,ai _,hu, .inl rfl⟩
 case step=>
  rintro x c st' h1 h2 ⟨rfl,rfl,hu⟩
  dsimp only
  refine aq (jBY hB h0 (by omega) (by omega) ?_)
  dsimp only
  by_cases hl:KI (arrOf st') (lo+x)<KI (arrOf st') (lo+x - 1)
  ·rw[ax hl,am rfl]
   exact aw ⟨rfl,x,rfl,by omega,by omega,hu, .inr hl⟩
  ·rw[aP hl,ak ag]
   exact aw ⟨rfl,rfl,hu.more (by omega) (by omega)⟩
 case post=>
  rintro c st' ⟨rfl,n,rfl,n1,n2,hu,hor⟩
  dsimp only
  by_cases hnn:n=nrem
  ·rw[am (bp hnn)]
   exact aw (h n st' hB n1 n2 hu)
  rw[ak (bn hnn)]
  have hlt:=hor.resolve_left hnn
  have hz:lo+n<=(arrOf st').size:=by rw[hB.sz]; omega
  by_cases hgt:n>1
  case' pos=>
   rw[am hgt]
   refine aq (jBY hB h0 (by omega) (by omega) ?_)
   dsimp only
   by_cases hr:KI (arrOf st') lo<KI (arrOf st') (lo+n - 1)
   ·rw[ax hr,am rfl]
    exact aw (h n st' hB n1 n2 hu)
   rw[aP hr,ak ag]
   have hall:∀ k,lo<=k->k<lo+n->KI (arrOf st') k=KI (arrOf st') (lo+n - 1):=fun k h1 h2=>by
    have a1:=hu lo k (by omega) h1 h2
    have a2:=hu k (lo+n - 1) h1 (by omega) (by omega)
    omega
   refine aq (wpS_reverse ?_)
   have hB1:=hB.arr (xs:=mirror (arrOf st') lo (lo+n) ((lo+n - lo) / 2)) (mirror_perm _ _ _ _) fun k _=>jA1 hz hall k
   have hs0:Dn (arrOf st') lo n:=fun i j h1 h2 h3=>by
    rw[hall i h1 (by omega),hall j (by omega) h3]
    exact cH _
   have hs1:Dn (arrOf (setArr st' (mirror (arrOf st') lo (lo+n) ((lo+n - lo) / 2)))) lo (n+1):=(hs0.more (by omega) (cb hlt)).congr (jA1 hz hall)
   generalize setArr st' (mirror (arrOf st') lo (lo+n) ((lo+n - lo) / 2))=st1 at*
  case' neg=>
   rw[ak hgt]
   have en:n=1:=by omega
   have hB1:=hB
   have hs1:Dn (arrOf st') lo (n+1):=by
    rw[en] at hlt ⊢
    exact Dn.one.more (by omega) (cb hlt)
  all_goals
   refine aq (gA (cx ⟨rfl,?_⟩))
   refine aq (cG (bG (I:=fun x c st'=>∃ q,c=(none,x,q)/\BB a₀ p F lo st'/\Dn (arrOf st') lo x/\q+1<=x/\∀ i,lo+x - (q+1)<=i->i<lo+x->KI (arrOf st') i=KI (arrOf st') (lo+x - 1))
    (Q:=fun c st'=>∃ m q,c=(none,m,q)/\1<=m/\m<=nrem/\BB a₀ p F lo st'/\Dn (arrOf st') lo m/\q+1<=m/\∀ i,lo+m - (q+1)<=i->i<lo+m->KI (arrOf st') i=KI (arrOf st') (lo+m - 1)) ?dstep ?dfin ⟨0,rfl,hB1,hs1,by omega,fun i h1 h2=>by congr 1; omega⟩) ?dpost)
   case dfin=>
    rintro c st' ⟨q,rfl,hb,hd,hq,he⟩
    rw[show max (n+1) nrem=nrem by omega] at hd hq he ⊢
    exact⟨nrem,q,rfl,by omega,by omega,hb,hd,hq,he⟩
   case dstep=>
    rintro x c st' h1 h2 ⟨q,rfl,hb,hd,hq,he⟩
    dsimp only
    have hz:lo+x<=(arrOf st').size:=by rw[hb.sz]; omega
    refine aq (jBY hb h0 (by omega) (by omega) ?_)
    dsimp only
    by_cases hl:KI (arrOf st') (lo+x)<KI (arrOf st') (lo+x - 1)
    ·rw[ax hl,am rfl]
     have d1:=hd.more (by omega) (cb hl)
     by_cases hq0:q>0
     ·rw[am hq0]
      refine aq (wpS_reverse (aw ⟨0,rfl,hb.arr (mirror_perm _ _ _ _) fun k _=>jA1 hz he k,d1.congr (jA1 hz he),by omega,fun i h1 h2=>by congr 1; omega⟩))
     ·rw[ak hq0]
      exact aw ⟨0,rfl,hb,d1,by omega,fun i h1 h2=>by congr 1; omega⟩
    ·rw[aP hl,ak ag]
     refine aq (jBY hb h0 (by omega) (by omega) ?_)
     dsimp only
     by_cases hg:KI (arrOf st') (lo+x - 1)<KI (arrOf st') (lo+x)
     ·rw[ax hg,am rfl]
      exact aw ⟨x,q,rfl,by omega,by omega,hb,hd,hq,he⟩
     ·rw[aP hg,ak ag]
      have ex:KI (arrOf st') (lo+x)=KI (arrOf st') (lo+x - 1):=by omega
      refine aw ⟨q+1,rfl,hb,hd.more (by omega) (by omega),by omega,fun i h1 h2=>?_⟩
      rw[show lo+(x+1) - 1=lo+x by omega]
      by_cases hix:i=lo+x
      ·rw[hix]
      ·rw[ex]
       exact he i (by omega) (by omega)
   case dpost=>
    rintro c st2 ⟨m,q,rfl,m1,m2,hB2,hs2,hq,he⟩
    dsimp only
    have hz2:lo+m<=(arrOf st2).size:=by rw[hB2.sz]; omega
    by_cases hq0:q>0
    case' pos=>
     rw[am hq0]
     refine aq (wpS_reverse ?_)
     have hB3:=hB2.arr (xs:=mirror (arrOf st2) (lo+m - (q+1)) (lo+m) ((lo+m - (lo+m - (q+1))) / 2)) (mirror_perm _ _ _ _) fun k _=>jA1 hz2 he k
     have hs3:Dn (arrOf (setArr st2 (mirror (arrOf st2) (lo+m - (q+1)) (lo+m) ((lo+m - (lo+m - (q+1))) / 2)))) lo m:=hs2.congr (jA1 hz2 he)
     generalize setArr st2 (mirror (arrOf st2) (lo+m - (q+1)) (lo+m) ((lo+m - (lo+m - (q+1))) / 2))=st3 at*
    case' neg=>
     rw[ak hq0]
     have hB3:=hB2
     have hs3:=hs2
     generalize st2=st3 at*
    all_goals
     have hz3:lo+m<=(arrOf st3).size:=by rw[hB3.sz]; omega
     refine aq (wpS_reverse ?_)
     have hB4:=hB3.arr (xs:=mirror (arrOf st3) lo (lo+m) ((lo+m - lo) / 2)) (mirror_perm _ _ _ _) fun k hk=>by
      rw[jBX hz3,ak (by omega)]
     have hU:Up (mirror (arrOf st3) lo (lo+m) ((lo+m - lo) / 2)) lo m:=fun i j h1 h2 h3=>by
      rw[jBX hz3,jBX hz3,am ⟨h1,by omega⟩,am ⟨by omega,h3⟩]
      exact hs3 _ _ (by omega) (by omega) (by omega)
     generalize mirror (arrOf st3) lo (lo+m) ((lo+m - lo) / 2)=xs4 at*
     refine aq (cG (bG (I:=fun x c st'=>st'=setArr st3 xs4/\c=(none,x)/\Up xs4 lo x)
      (Q:=fun c st'=>st'=setArr st3 xs4/\∃ n,c=(none,n)/\1<=n/\n<=nrem/\Up xs4 lo n) ?tstep ?tfin ⟨rfl,rfl,hU⟩) ?tpost)
     case tfin=>
      rintro c st' ⟨rfl,rfl,hu⟩
      rw[show max m nrem=nrem by omega] at hu ⊢
      exact⟨rfl,nrem,rfl,by omega,by omega,hu⟩
     case tstep=>
      rintro x c st' h1 h2 ⟨rfl,rfl,hu⟩
      dsimp only
      refine aq (jBY hB4 h0 (by omega) (by omega) ?_)
      dsimp only
      by_cases hl:KI xs4 (lo+x)<KI xs4 (lo+x - 1)
      ·rw[ax hl,am rfl]
       exact aw ⟨rfl,x,rfl,by omega,by omega,hu⟩
      ·rw[aP hl,ak ag]
       exact aw ⟨rfl,rfl,hu.more (by omega) (by omega)⟩
     case tpost=>
      rintro c st' ⟨rfl,n,rfl,n1,n2,hu⟩
      exact aw (h n _ hB4 n1 n2 hu)
theorem jD3 {st:SortSt}{n ok:Nat}{Q:Bool->SortSt->Prop}(h0:AllI a₀.toList)(hn:lo+n<=a₀.size)(hok:ok<=n)(hB:BB a₀ p F lo st)(hs:Up (arrOf st) lo ok)
  (h:∀ st',BB a₀ p F lo st'->Up (arrOf st') lo n->Q true st'):wpS (model prog w) A E s (binarySort' lo n ok) Q st:=by
 rw[binarySort'_eq]
 dsimp only
 refine aq (cG (bG (I:=fun k c st'=>c=(none,())/\BB a₀ p F lo st'/\Up (arrOf st') lo (min k n))
  (Q:=fun c st'=>c=(none,())/\BB a₀ p F lo st'/\Up (arrOf st') lo n) ?step ?fin ⟨rfl,hB,?init⟩) ?post)
 case post=>
  rintro c st' ⟨rfl,hb,hu⟩
  exact aw (h st' hb hu)
 case init=>
  by_cases e:ok=0
  ·intro i j h1 h2 h3
   have:i=j:=by omega
   rw[this]
   exact cH _
  ·exact fun i j h1 h2 h3=>hs i j h1 h2 (by omega)
 case fin=>
  rintro c st' ⟨hc,hb,hu⟩
  rw[show min (max (max ok 1) n) n=n by omega] at hu
  exact⟨hc,hb,hu⟩
 case step=>
  rintro k c st1 hk1 hk2 ⟨rfl,hb,hu⟩
  rw[show min k n=k by omega] at hu
  refine aq (cG (bG (I:=fun x c st'=>st'=st1/\∃ l r,c=(none,l,r)/\l<=r/\r<=k/\r - l<=k - x/\
    (∀ i,i<l->KI (arrOf st1) (lo+i)<=KI (arrOf st1) (lo+k))/\∀ i,r<=i->i<k->KI (arrOf st1) (lo+k)<KI (arrOf st1) (lo+i))
   (Q:=fun c st'=>st'=st1/\∃ l r,c=(none,l,r)/\l<=k/\
    (∀ i,i<l->KI (arrOf st1) (lo+i)<=KI (arrOf st1) (lo+k))/\∀ i,l<=i->i<k->KI (arrOf st1) (lo+k)<KI (arrOf st1) (lo+i)) ?step1 ?fin1 ⟨rfl,0,k,rfl,by omega,by omega,by omega,fun i hi=>by omega,fun i h1 h2=>by omega⟩) ?post1)
  case fin1=>
   rintro c st' ⟨rfl,l,r,rfl,b1,b2,b3,b4,b5⟩
   have:l=r:=by omega
   subst this
   exact⟨rfl,l,l,rfl,b2,b4,b5⟩
  case step1=>
   rintro x c st' _ hx ⟨rfl,l,r,rfl,b1,b2,b3,b4,b5⟩
   dsimp only
   by_cases hge:l ≥ r
   ·rw[am hge]
    have:l=r:=by omega
    subst this
    exact aw ⟨rfl,l,l,rfl,b2,b4,b5⟩
   rw[ak hge]
   refine aq (jBY hb h0 (by omega) (by omega) ?_)
   dsimp only
   by_cases hl:KI (arrOf st') (lo+k)<KI (arrOf st') (lo+(l+r) / 2)
   ·rw[ax hl,am rfl]
    exact aw ⟨rfl,l,(l+r) / 2,rfl,by omega,by omega,by omega,b4,fun i h1 h2=>Int.lt_of_lt_of_le hl (hu _ _ (by omega) (by omega) (by omega))⟩
   ·rw[aP hl,ak ag]
    exact aw ⟨rfl,(l+r) / 2+1,r,rfl,by omega,by omega,by omega,fun i h1=>cy (hu (lo+i) (lo+(l+r) / 2) (by omega) (by omega) (by omega)) (Int.not_lt.mp hl),b5⟩
  case post1=>
   rintro c st' ⟨rfl,l,r,rfl,hlk,b4,b5⟩
   dsimp only
   rw[moveDown'_eq]
   have hks:lo+k<(arrOf st').size:=by rw[hb.sz]; omega
   have kb:∀ x,KI (bubble (arrOf st') (lo+k) (lo+k - (lo+l))) x=if x=lo+l then KI (arrOf st') (lo+k) else if lo+l<x/\x<=lo+k then KI (arrOf st') (x - 1) else KI (arrOf st') x:=fun x=>by
    have:=jLQ hks (d:=lo+k - (lo+l)) (by omega) x
    rw[show lo+k - (lo+k - (lo+l))=lo+l by omega] at this
    exact this
   refine aq (dy (aw ⟨rfl,hb.arr (bubble_perm _ _ _) fun x hx=>?_,?_⟩))
   ·rw[kb,ak (by omega),ak (by omega)]
   rw[show min (k+1) n=k+1 by omega]
   intro i j h1 h2 h3
   show KI (bubble _ _ _) i<=KI (bubble _ _ _) j
   rw[kb,kb]
   have lo1:∀ i,lo<=i->i<lo+l->KI (arrOf st') i<=KI (arrOf st') (lo+k):=fun i h1 h2=>by
    have:=b4 (i - lo) (by omega)
    rw[show lo+(i - lo)=i by omega] at this
    exact this
   have hi1:∀ i,lo+l<=i->i<lo+k->KI (arrOf st') (lo+k)<=KI (arrOf st') i:=fun i h1 h2=>by
    have:=b5 (i - lo) (by omega) (by omega)
    rw[show lo+(i - lo)=i by omega] at this
    exact cb this
   repeat' split
   all_goals first
    | (exfalso; omega)
    | exact cH _
    | exact lo1 _ (by omega) (by omega)
    | exact hi1 _ (by omega) (by omega)
    | exact hu _ _ (by omega) (by omega) (by omega)
end
def mergeAtB: { g:Nat->StateT SortSt Sem Bool // mergeAt'=g} :=⟨fun _=>bind _ _,rfl⟩
theorem yN {xs:Array Keyed}{i:Nat}{p:Keyed}(h:xs[i]?=some p):KI xs i=key p:=by
 unfold KI
 rw[h]
theorem jHI (s1:Nat):∀ (l:List Keyed) (j0:Nat) (a:Array Keyed) (P M S:List Keyed),P.length=s1+j0->M.length=l.length->a.toList=P++(M++S)->
  ((l.zipIdx j0).foldl (fun (a:Array Keyed) (x:Keyed×Nat)=>a.setIfInBounds (s1+x.2) x.1) a).toList=P++(l++S)
 | [],j0,a,P,M,S,h1,h2,h3=>by
  rw[ff h2] at h3
  exact h3
 | q::l,j0,a,P,[],S,h1,h2,h3=>by cases h2
 | q::l,j0,a,P,m::M,S,h1,h2,h3=>by
  rw[gz,List.foldl_cons]
  have:=jHI s1 l (j0+1) (a.setIfInBounds (s1+j0) q) (P++[q]) M S (by rw[az,h1]; rfl) (Nat.succ.inj h2) (by
   rw[gc,h3,<- h1,gR _ _ (ai _),gJ,aM]
   rfl)
  rw[this,aM]
  rfl
theorem jPF {P m1 m2 S:List Keyed}(e:m1.length=m2.length){k:Nat}(h:k<P.length\/P.length+m1.length<=k):(P++(m1++S))[k]?=(P++(m2++S))[k]?:=by
 rcases h with h | h
 ·rw[bN h,bN h]
 ·rw[aX (by omega),aX (by omega),aX (by omega),aX (by omega),e]
theorem jRB {P m S:List Keyed}{k:Nat}(h1:P.length<=k)(h2:k<P.length+m.length):(P++(m++S))[k]?=m[k - P.length]?:=by
 rw[aX h1,bN (by omega)]
theorem jHX {xs:Array Keyed}{i j t:Nat}(h:t<j - i):(xs.extract i j).toList[t]?=xs[i+t]?:=by
 rw[jAG,bQ h,dY,bw]
theorem jCA {xs:Array Keyed}{i j:Nat}{p:Keyed}(h:p∈(xs.extract i j).toList):∃ t,i<=t/\t<j/\xs[t]?=some p:=by
 rw[jAG] at h
 obtain⟨t,h1,h2,h3⟩:=jA3 h
 exact⟨t,h1,by omega,at_list.mpr h3⟩
theorem jDM {xs:Array Keyed}{i j:Nat}(h:j<=xs.size):(xs.extract i j).size=j - i:=by
 rw[Array.size_extract]
 omega
theorem jKZ {xs:Array Keyed}{i j:Nat}(h:∀ n m x y,i<=n->n<=m->m<j->xs[n]?=some x->xs[m]?=some y->LE x y):Srt (xs.extract i j).toList:=by
 refine bO.mpr fun a b ha hb hab=>?_
 have hl:(xs.extract i j).toList.length<=j - i:=by rw[jAG,aV]; omega
 have e1:=jHX (xs:=xs) (i:=i) (j:=j) (t:=a) (by omega)
 have e2:=jHX (xs:=xs) (i:=i) (j:=j) (t:=b) (by omega)
 rw[ar ha] at e1
 rw[ar hb] at e2
 exact h (i+a) (i+b) _ _ (by omega) (by omega) (by omega) e1.symm e2.symm
theorem KI_at {xs ys:Array Keyed}{i j:Nat}(h:xs.toList[i]?=ys.toList[j]?):KI xs i=KI ys j:=jB3 (by rw[<- bw,<- bw]; exact h)
theorem jIO {xs r R:Array Keyed}{sa na sb nb k1 k2:Nat}(hsb:sb=sa+na)(hk1:k1<na)(hk2:0<k2)(hk2':k2<=nb)(hz:sb+nb<=xs.size)
  (u1:Up xs sa na) (u2:Up xs sb nb) (g2:∀ t,sa<=t->t<sa+k1->KI xs t<=KI xs sb) (l3:∀ t,sb+k2<=t->t<sb+nb->KI xs (sb - 1)<=KI xs t)
  (D:yG (xs.extract (sa+k1) sb) (xs.extract sb (sb+k2)) r)
  (hR:R.toList=xs.toList.take (sa+k1)++(r.toList++xs.toList.drop (sb+k2))):
  R.Perm xs/\(∀ k,k<sa\/sa+(na+nb)<=k->KI R k=KI xs k)/\Up R sa (na+nb):=by
 have lr:r.toList.length=sb+k2 - (sa+k1):=by
  rw[D.1.length_eq,az,aC,aC,jDM (by omega),jDM (by omega)]
  omega
 have lP:(xs.toList.take (sa+k1)).length=sa+k1:=by rw[aV,aC]; omega
 have hX:xs.toList=xs.toList.take (sa+k1)++(((xs.extract (sa+k1) sb).toList++(xs.extract sb (sb+k2)).toList)++xs.toList.drop (sb+k2)):=by
  have a1:=bg (sa+k1) xs.toList
  have a2:=bg (sb - (sa+k1)) (xs.toList.drop (sa+k1))
  have a3:=bg k2 (xs.toList.drop sb)
  rw[gb] at a2 a3
  rw[show sa+k1+(sb - (sa+k1))=sb by omega] at a2
  rw[jAG,jAG,cq,aM,a3,a2,a1]
 have lm:((xs.extract (sa+k1) sb).toList++(xs.extract sb (sb+k2)).toList).length=r.toList.length:=D.1.length_eq.symm
 have out:∀ k,k<sa+k1\/sb+k2<=k->KI R k=KI xs k:=fun k hk=>KI_at (by
  have:=jPF (P:=xs.toList.take (sa+k1)) (S:=xs.toList.drop (sb+k2)) lm.symm (k:=k) (by rw[lP,lr]; omega)
  exact(bL (·[k]?) hR).trans (this.trans (bL (·[k]?) hX).symm))
 have inn:∀ k,sa+k1<=k->k<sb+k2->R.toList[k]?=r.toList[k - (sa+k1)]?:=fun k h1 h2=>by
  rw[hR,jRB (by rw[lP]; exact h1) (by rw[lP,lr]; omega),lP]
 have mem:∀ k,sa+k1<=k->k<sb+k2->∃ t,sa+k1<=t/\t<sb+k2/\KI R k=KI xs t:=fun k h1 h2=>by
  have hk:k - (sa+k1)<r.toList.length:=by omega
  have e:=inn k h1 h2
  rw[ar hk] at e
  have hm:=D.1.mem_iff.mp (cQ hk)
  rcases aI.mp hm with q | q
  ·obtain⟨t,t1,t2,t3⟩:=jCA q
   exact⟨t,t1,by omega,(yN (at_list.mpr e)).trans (yN t3).symm⟩
  ·obtain⟨t,t1,t2,t3⟩:=jCA q
   exact⟨t,by omega,t2,(yN (at_list.mpr e)).trans (yN t3).symm⟩
 have srt:∀ i j,sa+k1<=i->i<=j->j<sb+k2->KI R i<=KI R j:=fun i j h1 h2 h3=>by
  have hi:i - (sa+k1)<r.toList.length:=by omega
  have hj:j - (sa+k1)<r.toList.length:=by omega
  have e1:=inn i h1 (by omega)
  have e2:=inn j (by omega) h3
  rw[ar hi] at e1
  rw[ar hj] at e2
  rw[yN (at_list.mpr e1),yN (at_list.mpr e2)]
  exact jDX D.2 (ar hi) (ar hj) (by omega)
 have low:∀ t u,sa<=t->t<sa+k1->t<=u->u<sb+nb->KI xs t<=KI xs u:=fun t u h1 h2 h3 h4=>by
  by_cases e:u<sb
  ·exact u1 t u h1 h3 (by omega)
  ·exact cy (g2 t h1 h2) (u2 sb u (ai _) (by omega) h4)
 have high:∀ t u,sa<=t->t<=u->sb+k2<=u->u<sb+nb->KI xs t<=KI xs u:=fun t u h1 h2 h3 h4=>by
  by_cases e:t<sb
  ·exact cy (u1 t (sb - 1) h1 (by omega) (by omega)) (l3 u h3 h4)
  ·exact u2 t u (by omega) h2 h4
 refine⟨?_,fun k hk=>out k (by omega),fun i j h1 h2 h3=>?_⟩
 ·refine cV.mpr ?_
  rw[hR]
  refine List.Perm.trans ?_ (gN hX.symm)
  exact cD _ (eF _ D.1)
 ·have h3:j<sb+nb:=by omega
  by_cases i1:i<sa+k1
  ·rw[out i (.inl i1)]
   by_cases j1:j<sa+k1
   ·rw[out j (.inl j1)]
    exact low i j h1 i1 h2 h3
   by_cases j2:j<sb+k2
   ·obtain⟨t,t1,t2,t3⟩:=mem j (by omega) j2
    rw[t3]
    exact low i t h1 i1 (by omega) (by omega)
   ·rw[out j (.inr (by omega))]
    exact low i j h1 i1 h2 h3
  by_cases i2:i<sb+k2
  ·by_cases j2:j<sb+k2
   ·exact srt i j (by omega) h2 j2
   ·obtain⟨t,t1,t2,t3⟩:=mem i (by omega) i2
    rw[t3,out j (.inr (by omega))]
    exact high t j (by omega) (by omega) (by omega) h3
  ·rw[out i (.inr (by omega)),out j (.inr (by omega))]
   exact high i j h1 h2 (by omega) h3
section
variable {prog:Program}{w:World}{A:Around}{E:Value->Shared->Prop}{s:Shared} [LtOk prog w A s]
theorem jO4 {st st':SortSt}{Q:PUnit->SortSt->Prop}(h:Q ⟨⟩ st'):wpS (model prog w) A E s (set st':StateT SortSt Sem PUnit) Q st:=dy (f:=fun _=>st') h
theorem jJ3 {α:Type}{a b:α}{Q:α->SortSt->Prop}{st:SortSt}(e:a=b)(h:Q b st):wpS (model prog w) A E s (pure a:StateT SortSt Sem α) Q st:=aw (e ▸ h)
structure Merged (st st':SortSt)(i sa na sb nb pw:Nat):Prop where
 perm:(arrOf st').Perm (arrOf st)
 kind:kindOf st'=Od.kd
 failed:failedOf st'=none
 pend:pendingOf st'=((pendingOf st).setIfInBounds i (sa,na+nb,pw)).eraseIdxIfInBounds (i+1)
 out:∀ k,k<sa\/sa+(na+nb)<=k->KI (arrOf st') k=KI (arrOf st) k
 up:Up (arrOf st') sa (na+nb)
theorem jGE {st:SortSt}{i sa na pw sb nb w2:Nat}{Q:Bool->SortSt->Prop}(hk:kindOf st=Od.kd)(hf:failedOf st=none)(hI:AllI (arrOf st).toList)
  (h1:(pendingOf st)[i]?=some (sa,na,pw)) (h2:(pendingOf st)[i+1]?=some (sb,nb,w2)) (hsb:sb=sa+na) (hna:0<na) (hnb:0<nb) (hz:sb+nb<=(arrOf st).size)
  (u1:Up (arrOf st) sa na) (u2:Up (arrOf st) sb nb) (h:∀ st',Merged st st' i sa na sb nb pw->Q true st'):wpS (model prog w) A E s (mergeAt' i) Q st:=by
 rw[mergeAtB.2]
 delta mergeAtB
 dsimp only
 simp only [elP,ltP,ltAtP,jH0,jMD,jME]
 refine aq (fB ?_)
 rw[h1,h2]
 dsimp only
 refine aq (jO4 ?_)
 generalize hpp:((pendingOf st).setIfInBounds i (sa,na+nb,pw)).eraseIdxIfInBounds (i+1)=pp
 show wpS _ _ _ _ _ _ (SortSt.mk' (kindOf st) (arrOf st) pp (gallopOf st) (failedOf st))
 generalize hst1:SortSt.mk' (kindOf st) (arrOf st) pp (gallopOf st) (failedOf st)=st1
 have G1:kindOf st1=kindOf st/\arrOf st1=arrOf st/\pendingOf st1=pp/\failedOf st1=failedOf st:=by rw[<- hst1]; exact⟨rfl,rfl,rfl,rfl⟩
 have at_:∀ t,t<(arrOf st).size->∃ q,(arrOf st)[t]?=some q/\IsI q:=fun t ht=>by
  obtain⟨q,q1,q2⟩:=yZ ht
  exact⟨q,q1,hI q (ay q2)⟩
 have m1:∀ n m x y,sa<=n->n<=m->m<sa+na->(arrOf st)[n]?=some x->(arrOf st)[m]?=some y->LE x y:=fun n m x y a1 a2 a3 hx hy=>by
  have:=u1 n m a1 a2 a3
  rw[yN hx,yN hy] at this
  exact this
 have m2:∀ n m x y,sb<=n->n<=m->m<sb+nb->(arrOf st)[n]?=some x->(arrOf st)[m]?=some y->LE x y:=fun n m x y a1 a2 a3 hx hy=>by
  have:=u2 n m a1 a2 a3
  rw[yN hx,yN hy] at this
  exact this
 obtain⟨pb,hpb,ipb⟩:=at_ sb (by omega)
 refine aq (jR hpb ?_)
 refine aq (jHV (G1.1.trans hk) ipb hI m1 hna (show sa+na<=(arrOf st).size by omega) fun k1 g1 g2 g3=>?_)
 dsimp only
 have g2:∀ t,sa<=t->t<sa+k1->KI (arrOf st) t<=KI (arrOf st) sb:=fun t t1 t2=>by
  obtain⟨q,hq,_⟩:=at_ t (by omega)
  rw[yN hq,yN hpb]
  exact g2 t q t1 t2 hq
 by_cases e1:na - k1=0
 ·rw[am (bp e1)]
  refine aw (h _ ⟨?_,G1.1.trans hk,G1.2.2.2.trans hf,G1.2.2.1.trans hpp.symm,fun k _=>?_,?_⟩)
  ·rw[G1.2.1]
  ·rw[G1.2.1]
  ·rw[G1.2.1]
   intro i j i1 i2 i3
   by_cases a:i<sb
   ·by_cases b:j<sb
    ·exact u1 i j i1 i2 (by omega)
    ·exact cy (g2 i i1 (by omega)) (u2 sb j (ai _) (by omega) (by omega))
   ·exact u2 i j (by omega) i2 (by omega)
 rw[ak (bn e1)]
 obtain⟨pa,hpa,ipa⟩:=at_ (sa+k1+(na - k1) - 1) (by omega)
 refine aq (jR hpa ?_)
 refine aq (jHW (G1.1.trans hk) ipa hI m2 (by omega) (show sb+nb<=(arrOf st).size by omega) fun k2 l1 l2 l3=>?_)
 dsimp only
 have epa:sa+k1+(na - k1) - 1=sb - 1:=by omega
 rw[epa] at hpa
 have l3':∀ t,sb+k2<=t->t<sb+nb->KI (arrOf st) (sb - 1)<=KI (arrOf st) t:=fun t t1 t2=>by
  obtain⟨q,hq,_⟩:=at_ t (by omega)
  rw[yN hq,yN hpa]
  exact l3 t q t1 t2 hq
 by_cases e2:k2=0
 ·rw[am (bp e2)]
  refine aw (h _ ⟨?_,G1.1.trans hk,G1.2.2.2.trans hf,G1.2.2.1.trans hpp.symm,fun k _=>?_,?_⟩)
  ·rw[G1.2.1]
  ·rw[G1.2.1]
  ·rw[G1.2.1]
   intro i j i1 i2 i3
   by_cases a:i<sb
   ·by_cases b:j<sb
    ·exact u1 i j i1 i2 (by omega)
    ·exact cy (u1 i (sb - 1) i1 (by omega) (by omega)) (l3' j (by omega) (by omega))
   ·exact u2 i j (by omega) i2 (by omega)
 rw[ak (bn e2)]
 have T:Two ((arrOf st).extract (sa+k1) sb) ((arrOf st).extract sb (sb+k2)):=by
  refine⟨fun q hq=>?_,fun q hq=>?_,jKZ fun n m x y a1 a2 a3=>m1 n m x y (by omega) a2 (by omega),jKZ fun n m x y a1 a2 a3=>m2 n m x y (by omega) a2 (by omega),?_,?_,fun x hx y hy=>?_,fun y hy q hq=>?_⟩
  ·obtain⟨t,_,_,t3⟩:=jCA hq
   exact hI q (ay (at_list.mp t3))
  ·obtain⟨t,_,_,t3⟩:=jCA hq
   exact hI q (ay (at_list.mp t3))
  ·rw[jDM (by omega)]; omega
  ·rw[jDM (by omega)]; omega
  ·obtain⟨t,t1,t2,t3⟩:=jCA hx
   rw[jDM (by omega),jHX (by omega),show sa+k1+(sb - (sa+k1) - 1)=sb - 1 by omega,hpa] at hy
   cases hy
   exact l2 t x t1 t2 t3
  ·obtain⟨t,t1,t2,t3⟩:=jCA hy
   rw[jHX (by omega),fz,hpb] at hq
   cases hq
   exact g3 t y t1 (by omega) t3
 by_cases e3:na - k1<=k2
 case' pos=>
  rw[am e3]
  refine aq (jGC (G1.1.trans hk) T fun r st2 D G0=>?_)
  have G:SG (SortSt.mk' (kindOf st) (arrOf st) pp (gallopOf st) (failedOf st)) st2:=by rw[hst1]; exact G0
  subst hpp
 case' neg=>
  rw[ak e3]
  refine aq (jGD (G1.1.trans hk) T fun r st2 D G0=>?_)
  have G:SG (SortSt.mk' (kindOf st) (arrOf st) pp (gallopOf st) (failedOf st)) st2:=by rw[hst1]; exact G0
  subst hpp
 all_goals
  refine aq (dy (aq (fB ?_)))
  have ea:arrOf st2=arrOf st:=G.a
  have W:=jIO (R:=((r.toList.zipIdx 0).foldl (fun (a:Array Keyed) (x:Keyed×Nat)=>a.setIfInBounds (sa+k1+x.2) x.1) (arrOf st))) hsb (by omega) (by omega) l1 hz u1 u2 g2 l3' D (jHI (sa+k1) r.toList 0 (arrOf st) ((arrOf st).toList.take (sa+k1)) (((arrOf st).extract (sa+k1) sb).toList++((arrOf st).extract sb (sb+k2)).toList) ((arrOf st).toList.drop (sb+k2)) (by rw[aV,aC]; omega) D.1.length_eq.symm (by
   have a1:=bg (sa+k1) (arrOf st).toList
   have a2:=bg (sb - (sa+k1)) ((arrOf st).toList.drop (sa+k1))
   have a3:=bg k2 ((arrOf st).toList.drop sb)
   rw[gb] at a2 a3
   rw[show sa+k1+(sb - (sa+k1))=sb by omega] at a2
   rw[jAG,jAG,cq,aM,a3,a2,a1]))
  rw[<- ea] at W
  refine jJ3 (by show (failedOf st2).isNone=true; rw[G.f]; show (failedOf st).isNone=true; rw[hf]; rfl) (h _ ⟨?_,G.k.trans hk,G.f.trans hf,G.p,?_,?_⟩)
  ·rw[<- ea]
   exact W.1
  ·rw[<- ea]
   exact W.2.1
  ·exact W.2.2
end
def Runs (xs:Array Keyed):List (Nat×Nat×Nat)->Nat->Nat->Prop
 | [],a,b=>a=b
 | (s,n,_)::t,a,b=>s=a/\0<n/\Up xs s n/\Runs xs t (a+n) b
section
variable {xs ys:Array Keyed}
theorem Runs.le:∀ {l:List (Nat×Nat×Nat)}{a b:Nat},Runs xs l a b->a+l.length<=b
 | [],a,b,h=>by have:a=b:=h; rw[dB]; omega
 | (s,n,_)::t,a,b,⟨_,h2,_,h4⟩=>by
  have:=Runs.le h4
  rw[aW]
  omega
theorem Runs.app:∀ {l m:List (Nat×Nat×Nat)}{a b:Nat},Runs xs (l++m) a b->∃ c,Runs xs l a c/\Runs xs m c b
 | [],m,a,b,h=>⟨a,rfl,h⟩
 | (s,n,_)::t,m,a,b,⟨h1,h2,h3,h4⟩=>by
  obtain⟨c,c1,c2⟩:=Runs.app h4
  exact⟨c,⟨h1,h2,h3,c1⟩,c2⟩
theorem Runs.put:∀ {l m:List (Nat×Nat×Nat)}{a b c:Nat},Runs xs l a c->Runs xs m c b->Runs xs (l++m) a b
 | [],m,a,b,c,h,g=>by have:a=c:=h; subst this; exact g
 | (s,n,_)::t,m,a,b,c,⟨h1,h2,h3,h4⟩,g=>⟨h1,h2,h3,Runs.put h4 g⟩
theorem Up.same {lo n:Nat}(h:Up xs lo n)(e:∀ k,lo<=k->k<lo+n->KI ys k=KI xs k):Up ys lo n:=fun i j h1 h2 h3=>by
 rw[e i h1 (by omega),e j (by omega) h3]
 exact h i j h1 h2 h3
theorem Runs.same:∀ {l:List (Nat×Nat×Nat)}{a b:Nat},Runs xs l a b->(∀ k,a<=k->k<b->KI ys k=KI xs k)->Runs ys l a b
 | [],a,b,h,_=>h
 | (s,n,_)::t,a,b,⟨h1,h2,h3,h4⟩,e=>by
  have:=Runs.le h4
  exact⟨h1,h2,h3.same fun k k1 k2=>e k (by omega) (by omega),Runs.same h4 fun k k1 k2=>e k (by omega) k2⟩
theorem Runs.mod {f:Nat×Nat×Nat->Nat×Nat×Nat}(hf:∀ x,(f x).1=x.1/\(f x).2.1=x.2.1):∀ {l:List (Nat×Nat×Nat)}{i a b:Nat},Runs xs l a b->Runs xs (l.modify i f) a b
 | [],i,a,b,h=>by rw[List.modify_nil]; exact h
 | (s,n,w)::t,0,a,b,⟨h1,h2,h3,h4⟩=>by
  rw[List.modify_zero_cons]
  obtain⟨e1,e2⟩:=hf (s,n,w)
  generalize f (s,n,w)=v at e1 e2 ⊢
  obtain⟨s',n',w'⟩:=v
  have e1:s'=s:=e1
  have e2:n'=n:=e2
  subst e1 e2
  exact⟨h1,h2,h3,h4⟩
 | (s,n,w)::t,i+1,a,b,⟨h1,h2,h3,h4⟩=>by
  rw[List.modify_succ_cons]
  exact⟨h1,h2,h3,Runs.mod hf h4⟩
end
structure RI (a₀:Array Keyed)(lo:Nat)(st:SortSt):Prop where
 perm:(arrOf st).Perm a₀
 kind:kindOf st=Od.kd
 failed:failedOf st=none
 runs:Runs (arrOf st) (pendingOf st).toList 0 lo
theorem jFE:∀ (l:List (Nat×Nat×Nat)) (i:Nat),i+1<l.length->∃ u x y t,l=u++x::y::t/\u.length=i
 | [],i,h=>absurd h (fi _)
 | [x],i,h=>by rw[gP] at h; omega
 | x::y::t,0,h=>⟨[],x,y,t,rfl,rfl⟩
 | x::y::t,i+1,h=>by
  obtain⟨u,x',y',t',e,hu⟩:=jFE (y::t) i (by rw[aW] at h; omega)
  exact⟨x::u,x',y',t',by rw[e]; rfl,by rw[aW,hu]⟩
theorem jQ6 {a₀ xs:Array Keyed}(h0:AllI a₀.toList)(hp:xs.Perm a₀):AllI xs.toList:=fun p hp'=>h0 p ((cV.mp hp).mem_iff.mp hp')
section
variable {prog:Program}{w:World}{A:Around}{E:Value->Shared->Prop}{s:Shared} [LtOk prog w A s]{a₀:Array Keyed}
theorem jD2 {st:SortSt}{i lo:Nat}{Q:Bool->SortSt->Prop}(h0:AllI a₀.toList)(R:RI a₀ lo st)(hlo:lo<=a₀.size)(hi:i+1<(pendingOf st).size)
  (h:∀ st',RI a₀ lo st'->(pendingOf st').size+1=(pendingOf st).size->(∀ k,lo<=k->KI (arrOf st') k=KI (arrOf st) k)->Q true st'):wpS (model prog w) A E s (mergeAt' i) Q st:=by
 obtain⟨u,⟨sa,na,pw⟩,⟨sb,nb,w2⟩,t,e,hu⟩:=jFE (pendingOf st).toList i (by rw[aC]; exact hi)
 have rr:=R.runs
 rw[e] at rr
 obtain⟨c,r1,a1,a2,a3,a4,a5,a6,a7⟩:=Runs.app rr
 have r2:=Runs.le a7
 have r3:=Runs.le r1
 subst a1
 have e1:(pendingOf st)[i]?=some (sa,na,pw):=by
  rw[<- bw,e,aX (by omega),hu,gJ]
  rfl
 have e2:(pendingOf st)[i+1]?=some (sb,nb,w2):=by
  rw[<- bw,e,aX (by omega),hu,cq]
  rfl
 have z:=R.perm.size_eq
 refine jGE R.kind R.failed (jQ6 h0 R.perm) e1 e2 a4 a2 a5 (by omega) a3 a6 fun st' M=>?_
 have ep:(pendingOf st').toList=u++(sa,na+nb,pw)::t:=by
  rw[M.pend,Array.toList_eraseIdxIfInBounds,gc,e,gR _ _ (by omega),hu,gJ,List.set_cons_zero,List.eraseIdx_append_of_length_le (by omega),hu,cq]
  rfl
 refine h st' ⟨M.perm.trans R.perm,M.kind,M.failed,?_⟩ ?_ fun k hk=>M.out k (by omega)
 ·rw[ep]
  refine Runs.put (Runs.same r1 fun k k1 k2=>M.out k (by omega)) ⟨rfl,by omega,M.up,?_⟩
  have:=Runs.same (ys:=arrOf st') a7 fun k k1 k2=>M.out k (by omega)
  rw[Nat.add_assoc] at this
  exact this
 ·have q1:=bL List.length ep
  have q2:=bL List.length e
  rw[aC,az,aW] at q1
  rw[aC,az,aW,aW] at q2
  omega
theorem RI.of {st:SortSt}{F:Nat->Int}{lo:Nat}{p:Array (Nat×Nat×Nat)}{xs:Array Keyed}(h:BB a₀ p F lo st)(hr:Runs xs p.toList 0 lo)(hF:∀ k,F k=KI xs k):RI a₀ lo st:=
 ⟨h.perm,h.kind,h.failed,by rw[h.pend]; exact hr.same fun k _ hk=>(h.low k hk).trans (hF k)⟩
theorem jD1 {st:SortSt}{Q:Unit->SortSt->Prop}(h0:AllI a₀.toList)(hB:SB a₀ st)(h1:1<=a₀.size)
  (h:∀ st',(arrOf st').Perm a₀->failedOf st'=none->STo (arrOf st') a₀.size->Q () st'):wpS (model prog w) A E s sortRuns' Q st:=by
 rw[sortRuns'_eq]
 refine aq (fB ?_)
 try dsimp only
 have hz:=hB.size
 rw[hz]
 generalize minRun' a₀.size a₀.size 0=mr
 refine aq (cG (bG (I:=fun x c st'=>∃ lo,c=(none,lo)/\x<=lo/\lo<=a₀.size/\RI a₀ lo st')
  (Q:=fun c st'=>c=(none,a₀.size)/\RI a₀ a₀.size st') ?step ?fin ⟨0,rfl,ai _,aY _,hB.perm,hB.kind,hB.failed,by rw[hB.pend]; rfl⟩) ?post)
 case fin=>
  rintro c st' ⟨lo,rfl,l1,l2,R⟩
  have:lo=a₀.size:=by omega
  subst this
  exact⟨rfl,R⟩
 case step=>
  rintro x c st1 _ hx ⟨lo,rfl,l1,l2,R1⟩
  try dsimp only
  by_cases hl:lo ≥ a₀.size
  ·rw[am hl]
   have:lo=a₀.size:=by omega
   subst this
   exact aw ⟨rfl,R1⟩
  rw[ak hl]
  refine aq (jE9 (F:=fun k=>KI (arrOf st1) k) (p:=pendingOf st1) h0 (by omega) (by omega) ⟨R1.perm,R1.kind,R1.failed,rfl,fun _ _=>rfl⟩ fun m st2 B2 m1 m2 U2=>?_)
  try dsimp only
  by_cases hm:m<mr
  case' pos=>
   rw[am hm]
   refine aq (gA (cx ⟨rfl,?_⟩))
   refine aq (jD3 h0 (by omega) (by omega) B2 U2 fun st4 B4 U4=>?_)
   have R4:=RI.of B4 R1.runs fun _=>rfl
   have n0:0<min (a₀.size - lo) mr:=by omega
   have n9:min (a₀.size - lo) mr<=a₀.size - lo:=by omega
   generalize min (a₀.size - lo) mr=n at*
  case' neg=>
   rw[ak hm]
   have R4:=RI.of B2 R1.runs fun _=>rfl
   have U4:=U2
   generalize st2=st4 at*
   generalize m=n at*
  all_goals
   refine aq (fB ?_)
   have last:∀ st5:SortSt,RI a₀ lo st5->Up (arrOf st5) lo n->∃ lo',(none,lo+n)=((none:Option PUnit),lo')/\x+1<=lo'/\lo'<=a₀.size/\RI a₀ lo' (setPending st5 ((pendingOf st5).push (lo,n,0))):=fun st5 R5 U5=>
    ⟨lo+n,rfl,by omega,by omega,R5.perm,R5.kind,R5.failed,by
     show Runs (arrOf st5) ((pendingOf st5).push (lo,n,0)).toList 0 (lo+n)
     rw[de]
     exact R5.runs.put ⟨rfl,by omega,U5,rfl⟩⟩
   cases hb:(pendingOf st4).back? with
   | none=>
    try dsimp only
    exact aq (dy (aw (last st4 R4 U4)))
   | some v=>
    obtain⟨s1,n1,w1⟩:=v
    try dsimp only
    refine aq (cG (bG (I:=fun _ c st'=>c=(none,())/\RI a₀ lo st'/\Up (arrOf st') lo n) (Q:=fun c st'=>c=(none,())/\RI a₀ lo st'/\Up (arrOf st') lo n) ?mstep (fun _ _ z=>z) ⟨rfl,R4,U4⟩) ?mpost)
    case mstep=>
     rintro y c st5 _ _ ⟨rfl,R5,U5⟩
     try dsimp only
     refine aq (fB ?_)
     by_cases hs:(pendingOf st5).size>1
     ·rw[am hs]
      obtain⟨v,hv⟩:∃ v,(pendingOf st5)[(pendingOf st5).size - 2]?=some v:=⟨_,Array.getElem?_eq_getElem (by omega)⟩
      rw[hv]
      obtain⟨v1,v2,older⟩:=v
      try dsimp only
      by_cases ho:older<=power' a₀.size (2*s1+n1) (2*s1+n1+n1+n) a₀.size
      ·rw[am ho]
       exact aw ⟨rfl,R5,U5⟩
      rw[ak ho]
      refine aq (jD2 h0 R5 (by omega) (by omega) fun st6 R6 _ E6=>?_)
      exact aw ⟨rfl,R6,U5.same fun k k1 _=>E6 k k1⟩
     ·rw[ak hs]
      exact aw ⟨rfl,R5,U5⟩
    case mpost=>
     rintro c st5 ⟨rfl,R5,U5⟩
     try dsimp only
     refine aq (dy (aq (dy (aw (last (setPending st5 ((pendingOf st5).modify ((pendingOf st5).size - 1) fun x=>(x.1,x.2.1,power' a₀.size (2*s1+n1) (2*s1+n1+n1+n) a₀.size))) ⟨R5.perm,R5.kind,R5.failed,?_⟩ U5)))))
     show Runs (arrOf st5) (Array.modify _ _ _).toList 0 lo
     rw[Array.toList_modify]
     exact Runs.mod (f:=fun x=>(x.1,x.2.1,power' a₀.size (2*s1+n1) (2*s1+n1+n1+n) a₀.size)) (fun _=>⟨rfl,rfl⟩) R5.runs
 case post=>
  rintro c st1 ⟨rfl,R1⟩
  try dsimp only
  refine aq (cG (bG (I:=fun x c st'=>c=(none,())/\RI a₀ a₀.size st'/\1<=(pendingOf st').size/\(pendingOf st').size+x<=a₀.size)
   (Q:=fun c st'=>c=(none,())/\RI a₀ a₀.size st'/\(pendingOf st').size=1) ?step2 ?fin2 ⟨rfl,R1,?a1,?a2⟩) ?post2)
  case a1=>
   have:=R1.runs
   cases hp:(pendingOf st1).toList with
   | nil=>
    rw[hp] at this
    have:0=a₀.size:=this
    omega
   | cons v t=>
    have:=bL List.length hp
    rw[aC,aW] at this
    omega
  case a2=>
   have:=R1.runs.le
   rw[aC] at this
   omega
  case fin2=>
   rintro c st2 ⟨_,_,h2,h3⟩
   omega
  case post2=>
   rintro c st2 ⟨rfl,R2,h2⟩
   try dsimp only
   refine aw (h st2 R2.perm R2.failed ?_)
   have rr:=R2.runs
   cases hp:(pendingOf st2).toList with
   | nil=>
    rw[<- aC,hp] at h2
    cases h2
   | cons v t=>
    have:=bL List.length hp
    rw[aC,h2,aW] at this
    have:t=[]:=ff (by omega)
    subst this
    rw[hp] at rr
    obtain⟨v1,v2,v3⟩:=v
    obtain⟨q1,q2,q3,q4⟩:=rr
    have q4:0+v2=a₀.size:=q4
    subst q1
    exact fun i j hij hj=>q3 i j (aY _) hij (by omega)
  case step2=>
   rintro x c st2 _ hx ⟨rfl,R2,h2,h3⟩
   try dsimp only
   refine aq (fB ?_)
   by_cases hs:(pendingOf st2).size<=1
   ·rw[am hs]
    exact aw ⟨rfl,R2,by omega⟩
   rw[ak hs]
   refine aq (jD2 h0 R2 (ai _) ?_ fun st3 R3 e3 _=>?_)
   ·have ite_le:∀ (c:Prop) [Decidable c] (a b:Nat),(if c then a else b)<=max a b:=fun c _ a b=>by
     by_cases z:c
     ·rw[am z]; omega
     ·rw[ak z]; omega
    refine ik (Nat.add_le_add_right (ite_le _ _ _) 1) ?_
    omega
   ·exact aw ⟨rfl,R3,by omega,by omega⟩
end
end TM
end
section
namespace TM
open PySem PySem.Spec PyProof.Rows
section
variable {prog:Program}{w:World}{A:Around}{E:Value->Shared->Prop}{s:Shared}
abbrev turned (b:Bool)(xs:Array Value):Array Value:=if b then xs.reverse else xs
theorem jGH {b:Bool}{xs:Array Value} :(turned b xs).size=xs.size:=by
 cases b
 ·rfl
 ·exact Array.size_reverse
theorem jC0 (b:Bool)(vs:List Value):(if b=true then (vs.toArray.zip vs.toArray).reverse else vs.toArray.zip vs.toArray).Perm (pairsOf vs):=by
 cases b with
 | false=>exact Array.Perm.refl _
 | true=>exact cV.mpr (by show ((vs.toArray.zip vs.toArray).reverse).toList.Perm _; rw[cI]; exact List.reverse_perm _)
def AskOk [Od](prog:Program)(w:World)(A:Around)(s:Shared)(a:Addr)(vs:List Value):Prop:=
 ∀ h6:Heap,(∀ c o,s.heap.get? c=some o->c≠a->h6.get? c=some o)->
  (∀ (Q:SortKind->Shared->Prop) (E:Value->Shared->Prop),Q Od.kd { s with heap:=h6} ->wpAny (model prog w) A (keyKind' vs.toArray) Q E { s with heap:=h6})/\LtOk prog w A { s with heap:=h6}
theorem jLU [Od]{a:Addr}{vs:List Value}{n:Nat}{b:Bool}{P:Fin->Shared->Prop}(ho:s.heap.get? a=some (seqObj "list" vs.toArray n))(hz:vs.length<=sizeLine)(hI:AllI (pairsOf vs).toList)(hk:2<=vs.length->AskOk prog w A s a vs)
  (h:∀ xs:Array Keyed,xs.Perm (pairsOf vs)->STo xs (pairsOf vs).size->P (.done (.ret .none)) { s with heap:=sortedHeap s.heap a vs (turned b (xs.map (·.2)))}):
  wpAny (model prog w) A (Builtin.«list.sort» ⟨[.ref a],[(Str.ofString "reverse", .bool b)]⟩) P E s:=by
 rw[list_sort_rev]
 have ha:=ao ho
 have hz':vs.toArray.size<=sizeLine:=by rw[aA]; exact hz
 refine aa (listItems_at ho rfl (aa (gu ho rfl ?_ hz' (aY _))))
 obtain⟨e1,ho1⟩:∃ e1,(s.heap.update a (Obj.mapSeq fun _=>#[])).get? a=some (seqObj "list" #[] e1):=⟨_,get?_update_seq ho _⟩
 refine aa (seqEpoch_at ho1 rfl (aa (g4 ?_ hz)))
 refine aa (fb (bY ?_))
 generalize hh6:((s.heap.update a (Obj.mapSeq fun _=>#[])).push (seqObj "tuple" vs.toArray 0)).push (seqObj "list" #[] 0)=h6
 have ho6:h6.get? a=some (seqObj "list" #[] e1):=by
  rw[<- hh6]
  exact ab _ (ab _ ho1)
 have k6:∀ c o,s.heap.get? c=some o->c≠a->h6.get? c=some o:=fun c o q ne=>by
  rw[<- hh6]
  exact ab _ (ab _ ((cO _ _ (dv ne)).trans q))
 have sh:∀ out,sortedHeap s.heap a vs out=h6.update a (Obj.mapSeq fun _=>out):=fun out=>by rw[<- hh6]; rfl
 have go:∀ X:Sem Fin,wpAny (model prog w) A X P E { s with heap:=h6} ->wpAny (model prog w) A (if b=true then (do let _ <- rule "list.sort.reverse"; X) else X) P E { s with heap:=h6} :=fun X hX=>by
  cases b with
  | false=>exact hX
  | true=>exact aa (cx hX)
 have hend:∀ st':SortSt,(arrOf st').Perm (pairsOf vs)->STo (arrOf st') (pairsOf vs).size->P (.done (.ret .none)) { s with heap:=h6.update a (Obj.mapSeq fun _=>turned b ((arrOf st').map (·.2)))} :=fun st' p1 p2=>by
  rw[<- sh]
  exact h _ p1 p2
 have hfit:∀ st':SortSt,(arrOf st').Perm (pairsOf vs)->(turned b ((arrOf st').map (·.2))).size<=sizeLine+1:=fun st' p1=>by
  rw[jGH,Array.size_map,p1.size_eq,pairsOf_size]
  omega
 dsimp only
 refine go _ ?_
 by_cases few:vs.toArray.size<2
 ·rw[am few,am few]
  refine aa (af ?_)
  rw[StateT.run_pure]
  refine aa (af ?_)
  dsimp only
  refine aa (seqEpoch_at ho6 rfl (aa (gu ho6 rfl ?_ (aY _) (hfit (SortSt.mk' general' _ #[] 7 none) (jC0 b vs)))))
  rw[bne_self_eq_false,ak ag]
  refine af (hend (SortSt.mk' general' _ #[] 7 none) (jC0 b vs) fun i j hij hj=>?_)
  have:i=j:=by
   rw[pairsOf_size] at hj
   rw[aA] at few
   omega
  rw[this]
  exact cH _
 ·rw[ak few,ak few]
  rw[aA] at few
  obtain⟨kk,ll⟩:=hk (by omega) h6 k6
  refine aa (kk _ _ (aa (bU (jD1 (a₀:=pairsOf vs) (st:=SortSt.mk' Od.kd _ #[] 7 none)
   (Q:=fun _ st'=>(arrOf st').Perm (pairsOf vs)/\failedOf st'=none/\STo (arrOf st') (pairsOf vs).size)
   hI ⟨jC0 b _,rfl,rfl,rfl⟩ (by rw[pairsOf_size]; omega) fun st' a1 a2 a3=>⟨a1,a2,a3⟩) ?_ fun _ _ e=>e)))
  rintro ⟨⟨⟩,st'⟩ s' ⟨rfl,p1,p2,p3⟩
  dsimp only
  refine aa (seqEpoch_at ho6 rfl (aa (gu ho6 rfl ?_ (aY _) (hfit st' p1))))
  rw[p2]
  dsimp only
  rw[bne_self_eq_false,ak ag]
  exact af (hend st' p1 p3)
abbrev odI:Od:=⟨oneType',fun p=>numOf p.1,fun p=>∃ n t,p.1=Value.int n t⟩
theorem ltI: @LtOk prog w A s odI:= @LtOk.mk prog w A s odI fun {E st x y Q} hk hx hy h=>by
 obtain⟨a,t,ha⟩:=hx
 obtain⟨b,u,hb⟩:=hy
 have e1: @key odI x=a:=by show numOf x.1=a; rw[ha]; rfl
 have e2: @key odI y=b:=by show numOf y.1=b; rw[hb]; rfl
 rw[e1,e2] at h
 rw[lt'_eq]
 refine aq (fB ?_)
 rw[show kindOf st=oneType' from hk,keyLt'_oneType,ha,hb]
 exact aq (gA (dD (oneLt_int ⟨rfl,aw h⟩)))
theorem stoI {xs:Array Keyed}{k:Nat}(h: @STo odI xs k):SortedTo xs k:=h
theorem askI {a:Addr}{vs:List Value}{ns:List Int}(hI:IntsAre vs ns)(h2:2<=vs.length): @AskOk odI prog w A s a vs:=fun h6 _=>⟨fun Q E h=>by
 obtain⟨u,v,r,rfl⟩:∃ u v r,vs=u::v::r:=by
  match vs,h2 with
  | [_],few=>exact absurd few (show ¬ 2<=1 by decide)
  | u::v::r,_=>exact⟨u,v,r,rfl⟩
 rw[keyKind_ints hI]
 exact af h,ltI⟩
theorem sort_rev_any {a:Addr}{vs:List Value}{ns:List Int}{n:Nat}{b:Bool}{P:Fin->Shared->Prop}(ho:s.heap.get? a=some (seqObj "list" vs.toArray n))(hI:IntsAre vs ns)(hz:vs.length<=sizeLine)
  (h:∀ (out:Array Value) (ns':List Int),IntsAre out.toList ns'->ns'.Perm ns->Ordered b ns'->P (.done (.ret .none)) { s with heap:=sortedHeap s.heap a vs out}):
  wpAny (model prog w) A (Builtin.«list.sort» ⟨[.ref a],[(Str.ofString "reverse", .bool b)]⟩) P E s:=
 @jLU prog w A E s odI a vs n b P ho hz hI.intKeys (fun h2=>askI hI h2) fun xs p1 p2=>by
  obtain⟨ns',q1,q2,q3⟩:=sorted_out_rev hI p1 (stoI p2) b
  exact h _ ns' q1 q2 q3
end
end TM
end
section
namespace L2
open PySem PySem.Spec PyProof.Rows
section
variable {prog:Program}{w:World}{A:Around}{E:Value->Shared->Prop}{s:Shared}{d:Addr}{kvs:List (Key×Value)}
theorem jE4:∀ {vs:List Value}{ks:List Int},vs.length=ks.length->(∀ (j:Nat) (v:Value),vs[j]?=some v->∃ i t,ks[j]?=some i/\v=Value.int i t)->IntsAre vs ks
 | [],[],_,_=> .nil
 | [],_::_,h,_=>by cases h
 | _::_,[],h,_=>by cases h
 | v::vs,a::r,h,hat=>by
  obtain⟨i,t,e1,rfl⟩:=hat 0 v rfl
  cases e1
  exact .cons _ t (jE4 (Nat.succ.inj h) fun j v e=>hat (j+1) v e)
theorem jFG {Q:Value->Shared->Prop}{ks:List Int}{b:Bool}(hh:A.handled=none)(lo:(d==sysModules)=false)(D:s.heap.DictOf (kD prog w) d kvs)(hk:kvs.map (·.1)=ks.map Sum.inl)(hz:ks.length<=sizeLine)
  (h:∀ (hf:Heap) (tk:Nat) (l:Addr) (vs:List Value) (ns:List Int) (e:Nat),s.heap.objs.size<=l->(∀ b u,s.heap.get? b=some u->hf.get? b=some u)->
   hf.get? l=some { cls:= .type "list",data:= .seq vs.toArray e} ->IntsAre vs ns->ns.Perm ks->Ordered b ns->Q (.ref l) { s with heap:=hf,toks:=tk}):
  wpAny (model prog w) A (call (.builtin "sorted") [.ref d] [(Str.ofString "reverse", .bool b)]) Q E s:=by
 obtain⟨ep,hat⟩:=D.dictAt
 have hlen:kvs.length=ks.length:=by
  have:=bL List.length hk
  rwa [ae,ae] at this
 refine call_function_entry_kw kind_sorted plain_sorted entry_sorted (args_sorted_rev _ _) ?_
 unfold Builtin.«sorted»
 refine aa (m:=checkCount "sorted" 1 1 _) (af ?_)
 refine aa (jH4 (A:=A.in1) (PySem.W.kdl_dict (knd:=kD prog w) (kvs:=kvs) (ep:=ep) lo) hh hat (by omega) fun h1 tk acc hk1 hlt1 hacc=>?_)
 have hal:acc.toList.length=ks.length:=by rw[aC,hacc.1,hlen]
 have hI:IntsAre acc.toList ks:=jE4 hal fun j v e=>by
  obtain⟨k,x,hx,hv⟩:=hacc.2 j v (by rw[<- bw]; exact e)
  have e2:(kvs.map (·.1))[j]?=some k:=by rw[aU,hx]; rfl
  rw[hk,aU] at e2
  cases hq:ks[j]? with
  | none=>rw[hq] at e2; cases e2
  | some i=>
   rw[hq] at e2
   cases e2
   rcases kJ (show keyIs (Sum.inl i) v=true from hv) with ⟨i',t,q1,q2⟩ | ⟨x,t,q1,q2⟩
   ·cases q1
    exact⟨i,t,rfl,q2⟩
   ·cases q1
 refine aa (fb ?_ (by omega))
 have hL:(h1.push (seqObj "list" acc.toList.toArray 0)).get? h1.objs.size=some (seqObj "list" acc.toList.toArray 0):=aj _ rfl
 show wpAny _ _ _ _ _ { s with heap:=h1.push (seqObj "list" acc.toList.toArray 0),toks:=tk}
 refine aa (bY (wpAny_call_entry_kw slot_list_sort ⟨_,hL,rfl⟩ entry_list_sort (TM.sort_rev_any hL hI (by omega) fun out ns' a1 a2 a3=>⟨_,rfl,?_⟩) (args_list_sort_rev _ _)))
 obtain⟨e,he⟩:=sortedHeap_at (out:=out) hL
 have kept:∀ b u,s.heap.get? b=some u->(sortedHeap (h1.push (seqObj "list" acc.toList.toArray 0)) h1.objs.size acc.toList out).get? b=some u:=fun b u q=>by
  have q1:=hk1 b u q
  have hb:b<h1.objs.size:=ao q1
  rw[sortedHeap_old (aO hb) (by rw[size_push']; exact cc hb)]
  exact ab _ q1
 generalize sortedHeap (h1.push (seqObj "list" acc.toList.toArray 0)) h1.objs.size acc.toList out=hf at he kept ⊢
 exact af ⟨_,rfl,h hf tk h1.objs.size out.toList ns' e (dr hlt1) kept (by rw[dH]; exact he) a1 a2 a3⟩
end
def jO3 (X:Cx)(f:Value)(ks:List Str)(r:List V->List V->Hp->VK->Prop):Prop:=
 ∀ (pins:List (Addr×Obj)) (s:Shared) (σ:St) (H:Hp) (xs zs:List V) (us ws:List Value) (Q:VK),Inv X pins σ H s->Vals xs us->Vals zs ws->r xs zs H Q->
  wpAny (model X.prog X.w) X.A (call f us (ks.zip ws)) (EP X pins σ Q) X.xe s
def tCBK (r:List V->List V->Hp->VK->Prop)(t tk:TA):TE:=fun σ H Q=>t σ H fun vs H1=>tk σ H1 fun zs H2=>r vs zs H2 Q
structure JK (X:Cx)(kws:List Keyword)(t:TA):Prop where
 h:PK X kws t
section
variable {X:Cx}{x:Str}{p pos kpos:Pos}{e:Expr}{es:List Expr}{kws:List Keyword}{t tk:TA}{te:TE}{nm:Option Str}{ks:List Str}{id:String}{r:List V->List V->Hp->VK->Prop}
theorem jRK:JK X [] tNil:=⟨jQR⟩
theorem jPL (ha:JE X e te)(hr:JK X kws t):JK X (⟨nm,e,kpos⟩::kws) (tCons te t):=⟨jOM ha.h hr.h⟩
theorem jKM (hc:jO3 X (.builtin id) ks r)(hg:Gl1 X x)(hm:X.mg x=none)(hv:bootBuiltins x=some (.builtin id))(ha:JA X (e::es) t)(hkw:JK X kws tk)(he:starEach (e::es) X.env=(false,eval e X.env)::starEach es X.env)
  (hn:x≠ "__name__" :=by decide) (hdb:(x==("__debug__" :Str))=false:=by decide) (hall:(backToKw pos (keywordEach kws X.env)).all (·.1.isSome)=true:=by rfl) (hks:(backToKw pos (keywordEach kws X.env)).filterMap (·.1)=ks:=by rfl)
  (hpl:(backTo pos (starEach es X.env)).any (·.1)=false:=by rfl) (hkn:(backToKw pos (keywordEach kws X.env)).any (·.1.isNone)=false:=by rfl):JE X (.Call (.Name x p) (e::es) kws pos) (tCBK r t tk):=by
 refine⟨fun pins s σ H Q I h=>?_⟩
 refine dw (jCM I hg.a hm hv ?_ hn hdb)
 refine callWith_kw (thn (ha.h pos pins s σ H _ I h) fun us s1 ⟨vs,H1,I1,r1,q1⟩=>thn (hkw.h pos pins s1 σ H1 _ I1 q1) fun ws s2 ⟨zs,H2,I2,rz,q2⟩=>?_) (by rw[he]; rfl) (by rw[he]; exact hpl) hall hkn
 rw[hks]
 exact hc pins s2 σ H2 vs zs us ws Q I2 r1 rz q2
theorem jF5 (hc:X.calm=true):jO3 X (.builtin "sorted") [Str.ofString "reverse"] (fun xs zs H Q=>∃ (p:Addr) (kvs:List (Key×V)) (ks:List Int) (b:Bool),xs=[.ref p]/\zs=[.bl b]/\H p=some (.dK kvs)/\kvs.map (·.1)=ks.map Sum.inl/\ks.length<=sizeLine/\
  ∀ (l:Addr) (ns:List Int),H l=none->Ordered b ns->ns.Perm ks->Q (.ref l) (upd H l (.lst (ns.map V.int)))):=by
 intro pins s σ H xs zs us ws Q I r rz h
 obtain⟨p,kvs,ks,b,rfl,rfl,hp,hk,hn,q⟩:=h
 obtain⟨u,rfl,rx⟩:=r.one
 obtain⟨v,rfl,ry⟩:=rz.one
 cases rx
 cases ry
 obtain⟨z,lo,vs,rel,dd⟩:=dk_of I.hok hp
 refine jFG (I.ok.hd hc) lo dd (by rw[<- rel.keys]; exact hk) hn fun hf tk l vs ns e hl kp he hi pm srt=>?_
 have hz:(ns.map V.int).length<=sizeLine:=by rw[ae,pm.length_eq]; exact hn
 have I2:Inv X pins σ (upd H l (.lst (ns.map V.int))) { s with heap:=hf,toks:=tk} :=I.laid (t':=tk) kp hl ⟨hz,vs,e,jAA hi,he⟩
 exact⟨.ref l,_,I2,rfl,q l ns (I.hok.fresh hl) srt pm⟩
end
section
variable {X:Cx}
theorem jKN {o:Expr}{to:TE}{name:Str}{apos cpos:Pos}{T id:String}{r:V->List V->Hp->VK->Prop}(pa:PlainAttrs T)(slot:Slot T name id)(hty:typeOf (.builtin id)=pure (.type "method_descriptor"))(hm:MtR X id r)(ho:JE X o to)
  (hbase:attributeBase o name X.env (eval o X.env)=eval o X.env:=by rfl) (hline:(apos.endLine==cpos.line)=true:=by rfl):JE X (.Call (.Attribute o name apos) [] [] cpos) (tBM0 X.K T r to):=⟨jR1 pa slot hty hm ho.h hbase hline⟩
def rBits:V->List V->Hp->VK->Prop:=fun x vs H Q=>∃ i,x= .int i/\vs=[]/\Q (.int (Builtin.Int.intBits i)) H
theorem jKC:MtR X "int.bit_length" rBits:=by
 intro pins s σ H x vs v us Q I rx rv h
 obtain⟨i,rfl,rfl,q⟩:=h
 obtain⟨t,rfl⟩:=rx
 have hus:=rv.zero
 subst hus
 exact call_int_bit_length ⟨.int _,H,I.tok _,⟨_,rfl⟩,q⟩
theorem jFV {i o:Expr}{ty td:TE}{pos:Pos}(hu:X.A.units+1<cLine)(hi:JE X i ty)(ho:JE X o td)(h1:behindInMarks .NotIn o=false):JT X (.Compare i [.NotIn] [o] pos) (tB (jJF ty td)):=⟨jNH (jJX hu hi.h ho.h) h1⟩
def jQC (i:Int)(b:Bool):TE:=fun _ H Q=>∀ p H',H' p=some (.dK [(.inl i, .bl b)])->Ext H H'->H p=none->Q (.ref p) H'
theorem jMJ {i:Int}{b:Bool}{k1 k2:Nat}{p1 p2 pos:Pos} :JE X (.Dict [some (.Constant (.int i) k1 p1)] [.Constant (.bool b) k2 p2] pos) (jQC i b):=
 ⟨fun pins s σ H Q I h=>jOR (jLZ je_int.h je_bl.h jOJ) rfl rfl (by intro z; cases z) (by show 1<=15; decide) pins s σ H Q I fun p hp=>⟨j5,[(.inl i, .bl b)],rfl,by show 1<=15; decide,h p _ j5 (((Ext.refl H).new hp _).updNew hp _) hp⟩⟩
theorem jMP {K:W.Frag}{tp:Bool}{l:Addr}{xs:List V}{g:TG}{tb:TS}{D:Ends}{σ:St}{H:Hp}(Pv:Nat->St->Hp->Prop)(h0:Pv 0 σ H)(hl:∀ i σ H,Pv i σ H->Sq tp K H l xs)
  (hs:∀ i x T σ H,xs[i]?=some x->H T=none->Pv i σ H->g (.ref T) σ (upd H T (.tup [.int (i:Int),x])) fun σ2 H2=>tb { D with nx:=Pv (i+1),ct:=Pv (i+1),bk:=D.nx} σ2 H2) (hd:∀ σ H,Pv xs.length σ H->D.nx σ H):
  ∃ W:Nat->Nat->St->Hp->Prop,(∃ m,W 0 m σ H)/\∀ i m σ H,W i m σ H->
   ((Ite tp K l).stop i H/\D.nx σ H)\/((Ite tp K l).go i H/\∃ N:St->Hp->Prop,(∀ σ' H',N σ' H'->∃ m',m'<m/\W (i+1) m' σ' H')/\∀ x H',(Ite tp K l).yld i H x H'->g x σ H' fun σ2 H2=>tb { D with nx:=N,ct:=N,bk:=D.nx} σ2 H2):=by
 refine⟨fun i m σ H=>m=xs.length - i/\i<=xs.length/\Pv i σ H,⟨_,rfl,aY _,h0⟩,?_⟩
 rintro i m σ H ⟨rfl,hi,p⟩
 have s1:=hl i σ H p
 by_cases hlt:i<xs.length
 ·refine .inr ⟨⟨xs,xs[i],s1,by simp [hlt]⟩,Pv (i+1),fun σ' H' p'=>⟨xs.length - (i+1),by omega,rfl,hlt,p'⟩,fun v H'' y=>?_⟩
  obtain⟨T,x,e1,e2,e3,e4⟩:=y
  subst e2 e3
  exact hs i x T σ _ (e4 xs s1) e1 p
 ·have e:i=xs.length:=by omega
  subst e
  exact .inl ⟨⟨xs,s1,ai _⟩,hd σ H p⟩
end
def All2 {α β:Type}(R:α->β->Prop):List α->List β->Prop
 | [],[]=>True
 | a::as,b::bs=>R a b/\All2 R as bs
 | _,_=>False
section
variable {α β:Type}{R S:α->β->Prop}
theorem All2.len:∀ {as:List α}{bs:List β},All2 R as bs->as.length=bs.length
 | [],[],_=>rfl
 | _::_,_::_,h=>bL (· +1) (All2.len h.2)
theorem All2.imp (f:∀ a b,R a b->S a b):∀ {as:List α}{bs:List β},All2 R as bs->All2 S as bs
 | [],[],_=>trivial
 | _::_,_::_,h=>⟨f _ _ h.1,All2.imp f h.2⟩
theorem All2.snoc {a:α}{b:β} :∀ {as:List α}{bs:List β},All2 R as bs->R a b->All2 R (as++[a]) (bs++[b])
 | [],[],_,h=>⟨h,trivial⟩
 | _::_,_::_,h,k=>⟨h.1,All2.snoc h.2 k⟩
theorem All2.get:∀ {as:List α}{bs:List β}{i:Nat}{b:β},All2 R as bs->bs[i]?=some b->∃ a,as[i]?=some a/\R a b
 | [],[],i,b,_,h=>by simp at h
 | a::_,_::_,0,b,h,e=>by
  simp at e
  subst e
  exact⟨a,rfl,h.1⟩
 | _::_,_::_,i+1,b,h,e=>by
  obtain⟨a,h1,h2⟩:=All2.get h.2 (i:=i) (b:=b) (by simpa using e)
  exact⟨a,by simpa using h1,h2⟩
theorem All2.get':∀ {as:List α}{bs:List β}{i:Nat}{a:α},All2 R as bs->as[i]?=some a->∃ b,bs[i]?=some b/\R a b
 | [],[],i,b,_,h=>by simp at h
 | a::_,b::_,0,x,h,e=>by
  simp at e
  subst e
  exact⟨b,rfl,h.1⟩
 | _::_,_::_,i+1,x,h,e=>by
  obtain⟨b,h1,h2⟩:=All2.get' h.2 (i:=i) (a:=x) (by simpa using e)
  exact⟨b,by simpa using h1,h2⟩
theorem All2.of_get {as:List α}{bs:List β}(hl:as.length=bs.length)(h:∀ (i:Nat) a b,as[i]?=some a->bs[i]?=some b->R a b):All2 R as bs:=by
 induction as generalizing bs with
 | nil=>cases bs with
  | nil=>trivial
  | cons b bs=>cases hl
 | cons a as ih=>cases bs with
  | nil=>cases hl
  | cons b bs=>exact⟨h 0 a b rfl rfl,ih (by simpa using hl) fun i a b h1 h2=>h (i+1) a b (by simpa using h1) (by simpa using h2)⟩
end
def lowN (m:Nat):Nat:=if m % 2=1 then lowN (m / 2)+1 else 0
theorem jDG {m:Nat}(h:m % 2=0):lowN m=0:=by
 unfold lowN
 rw[ak (by omega)]
theorem jET {m:Nat}(h:m % 2=1):lowN m=lowN (m / 2)+1:=by
 rw[lowN,am h]
theorem jQ5 (a b:Nat):a&&&b=2*((a / 2)&&&(b / 2))+(a % 2)*(b % 2):=by
 have h1:(a&&&b) / 2=(a / 2)&&&(b / 2):=Nat.and_div_two
 have h2:(a&&&b) % 2=(a % 2)*(b % 2):=by
  have t:=fj a b 0
  rw[dN,dN,dN] at t
  have t':((a&&&b) % 2=1)↔(a % 2=1/\b % 2=1):=by
   rw[<- fg.trans (and_congr bb bb),<- t,bb]
  rcases cz a with ha | ha <;> rcases cz b with hb | hb <;> rw[ha,hb] at t' ⊢ <;> omega
 omega
theorem jPH (m:Nat):(m+1) - ((m+1)&&&m)=2 ^ lowN m:=by
 induction m using Nat.strongRecOn with
 | _ m ih=>
  rw[jQ5]
  rcases cz m with h | h
  ·rw[jDG h,show (m+1) / 2=m / 2 by omega,Nat.and_self,h]
   omega
  ·have:=ih (m / 2) (by omega)
   rw[jET h,Nat.pow_succ,show (m+1) / 2=m / 2+1 by omega,show (m+1) % 2=0 by omega]
   omega
theorem jMF (m:Nat):Builtin.Int.intBits (Builtin.bitAnd (Builtin.bitNot (m:Int)) ((m:Int)+1))=lowN m+1:=by
 have e:Builtin.bitAnd (Builtin.bitNot (m:Int)) ((m:Int)+1)=((2 ^ lowN m:Nat):Int):=by
  unfold Builtin.bitAnd
  have h1:¬ (0<=Builtin.bitNot (m:Int)):=by unfold Builtin.bitNot; omega
  have h2:(0:Int)<=(m:Int)+1:=by omega
  have h3:(Builtin.bitNot (Builtin.bitNot (m:Int))).toNat=m:=by unfold Builtin.bitNot; omega
  rw[aP h1,ax h2]
  show ((m:Int)+1) - ((((m:Int)+1).toNat&&&(Builtin.bitNot (Builtin.bitNot (m:Int))).toNat:Nat):Int)=_
  rw[h3,show ((m:Int)+1).toNat=m+1 by omega,<- jPH m]
  have:(m+1)&&&m<=m+1:=Nat.and_le_left
  omega
 rw[e]
 unfold Builtin.Int.intBits
 have hp:0<2 ^ lowN m:=fk _
 have h0:((((2 ^ lowN m:Nat):Int))==0)=false:=by
  rw[bS]
  omega
 rw[h0]
 simp [Nat.log2_two_pow]
theorem jDE (m:Nat):m.testBit (lowN m)=false:=by
 induction m using Nat.strongRecOn with
 | _ m ih=>
  rcases cz m with h | h
  ·rw[jDG h,dN,h]
   rfl
  ·rw[jET h,Nat.testBit_succ]
   exact ih _ (by omega)
theorem jGV (m:Nat):∀ j,j<lowN m->m.testBit j=true:=by
 induction m using Nat.strongRecOn with
 | _ m ih=>
  intro j hj
  rcases cz m with h | h
  ·rw[jDG h] at hj
   omega
  ·rw[jET h] at hj
   cases j with
   | zero=>rw[dN,h]; rfl
   | succ j=>
    rw[Nat.testBit_succ]
    exact ih _ (by omega) j (by omega)
theorem jKX {m w:Nat}(h:m<2 ^ w)(a:∀ j,j<w->m.testBit j=true):m=2 ^ w - 1:=by
 apply dI
 intro i
 rw[fE]
 by_cases hi:i<w
 ·rw[a i hi,ax hi]
 ·rw[aP hi]
  exact dz (aR h (bX (by decide) (by omega)))
theorem jDF {m w:Nat}(h:m<2 ^ w)(hn:m≠2 ^ w - 1):lowN m<w:=by
 refine cZ fun z=>hn (jKX h fun j hj=>jGV m j (by omega))
abbrev Ch:=List (List (Int×Nat))
def fullN (ch:Ch):Nat:=2 ^ ch.length - 1
def chAt (ch:Ch)(m:Nat):List (Int×Nat):=(ch.getD (lowN m) []).filter fun c=>c.2&&&m==0
structure ChOk (ch:Ch):Prop where
 w:ch.length<=16
 len:∀ (t:Nat) (cs:List (Int×Nat)),ch[t]?=some cs->cs.length<=33
 it:∀ (t:Nat) (cs:List (Int×Nat)),ch[t]?=some cs->∀ c∈cs,c.2.testBit t=true/\c.2<2 ^ ch.length/\ -1<=c.1/\c.1<32
theorem ChOk.mem {ch:Ch}{m:Nat}{c:Int×Nat}(o:ChOk ch)(h:m<2 ^ ch.length)(hn:m≠fullN ch)(hc:c∈chAt ch m):c.2.testBit (lowN m)=true/\c.2<2 ^ ch.length/\c.2&&&m=0/\ -1<=c.1/\c.1<32:=by
 obtain⟨h1,h2⟩:=bP.mp hc
 have hl:=jDF h hn
 rw[aB,ar hl] at h1
 obtain⟨a,b,c1,c2⟩:=o.it _ _ (ar hl) c h1
 exact⟨a,b,by simpa using h2,c1,c2⟩
theorem ChOk.up {ch:Ch}{m:Nat}{c:Int×Nat}(o:ChOk ch)(h:m<2 ^ ch.length)(hn:m≠fullN ch)(hc:c∈chAt ch m):m<m|||c.2/\m|||c.2<2 ^ ch.length:=by
 obtain⟨a,b,z,_⟩:=o.mem h hn hc
 refine⟨?_,Nat.or_lt_two_pow h b⟩
 refine Nat.lt_of_le_of_ne Nat.left_le_or fun e=>?_
 have t:m.testBit (lowN m)=(m|||c.2).testBit (lowN m):=bL (fun z=>z.testBit (lowN m)) e
 rw[ga,a,iA,jDE] at t
 cases t
def gvN {α:Type}(ch:Ch)(e:α)(J:List (Int×α)->α):Nat->Nat->α
 | 0,_=>e
 | n+1,m=>if m=fullN ch then e else J ((chAt ch m).map fun c=>(c.1,gvN ch e J n (m|||c.2)))
def gv {α:Type}(ch:Ch)(e:α)(J:List (Int×α)->α)(m:Nat):α:=gvN ch e J (fullN ch - m) m
theorem jPS {α:Type}{ch:Ch}{e:α}{J:List (Int×α)->α}(o:ChOk ch):∀ (k n m:Nat),fullN ch - m<=k->fullN ch - m<=n->m<2 ^ ch.length->gvN ch e J n m=gvN ch e J k m:=by
 intro k
 induction k with
 | zero=>
  intro n m h1 h2 h3
  have:m=fullN ch:=by
   unfold fullN at h1 ⊢
   omega
  subst this
  cases n with
  | zero=>rfl
  | succ n=>show gvN ch e J (n+1) (fullN ch)=e; rw[gvN,am rfl]
 | succ k ih=>
  intro n m h1 h2 h3
  by_cases hm:m=fullN ch
  ·subst hm
   cases n with
   | zero=>show e=gvN ch e J (k+1) (fullN ch); rw[gvN,am rfl]
   | succ n=>
    have q:∀ i,gvN ch e J (i+1) (fullN ch)=e:=fun i=>by rw[gvN,am rfl]
    rw[q,q]
  ·have hlt:m<fullN ch:=by
    unfold fullN at hm ⊢
    omega
   cases n with
   | zero=>omega
   | succ n=>
    rw[gvN,ak hm,gvN,ak hm]
    congr 1
    refine dn fun c hc=>?_
    obtain⟨u1,u2⟩:=o.up h3 hm hc
    rw[ih n (m|||c.2) (by omega) (by omega) u2]
theorem jPR {α:Type}{ch:Ch}{e:α}{J:List (Int×α)->α} :gv ch e J (fullN ch)=e:=by
 unfold gv
 rw[gJ,gvN]
theorem jPQ {α:Type}{ch:Ch}{e:α}{J:List (Int×α)->α}{m:Nat}(o:ChOk ch)(h:m<2 ^ ch.length)(hn:m≠fullN ch):gv ch e J m=J ((chAt ch m).map fun c=>(c.1,gv ch e J (m|||c.2))):=by
 have hlt:m<fullN ch:=by
  unfold fullN at hn ⊢
  omega
 have:gv ch e J m=gvN ch e J ((fullN ch - m - 1)+1) m:=by
  unfold gv
  rw[show fullN ch - m - 1+1=fullN ch - m by omega]
 rw[this,gvN,ak hn]
 congr 1
 refine dn fun c hc=>?_
 obtain⟨u1,u2⟩:=o.up h hn hc
 unfold gv
 rw[jPS o (fullN ch - (m|||c.2)) _ _ (ai _) (by omega) u2]
end L2
end
section
namespace L2
open PySem
section
variable {X:Cx}{tg iter elt:Expr}{ifs:List Expr}{sc:Scope}{pos:Pos}{wi:TI}{g:TG}{tt:TT}{te:TE}{m:List (Option Nat)}{Nc:List Str}
end
section
variable {X:Cx}
end
end L2
end
section
namespace L2
open PySem PySem.Spec PyProof.Rows
end L2
end
section
namespace TM
open PySem PySem.Spec PyProof.Rows PySem.W
open L2 (All2)
section
variable {prog:Program}{w:World}{A:Around}{E:Value->Shared->Prop}{s:Shared}{kd:SortKind}{f:Value->List Int}
end
section
variable {prog:Program}{w:World}{A:Around}{E:Value->Shared->Prop}{s:Shared}
end
end TM
namespace L2
open PySem PySem.Spec PyProof.Rows
section
variable {X:Cx}
end
section
variable {prog:Program}{w:World}{A:Around}{E:Value->Shared->Prop}{s:Shared}{S:KeyS}
end
section
variable {X:Cx}{S:KeyS}
end
end L2
end
section
namespace TM
open PySem PySem.Spec PyProof.Rows PySem.W
open L2 (All2)
section
variable {prog:Program}{w:World}{A:Around}{E:Value->Shared->Prop}{s:Shared}
end
end TM
namespace L2
open PySem PySem.Spec PyProof.Rows
section
variable {X:Cx}{S:KeyS}
end
end L2
end
section
namespace TM
open PySem PySem.Spec PyProof.Rows
section
variable {prog:Program}{w:World}{A:Around}{E:Value->Shared->Prop}{s:Shared}
end
end TM
namespace L2
open PySem PySem.Spec PyProof.Rows
section
variable {X:Cx}{o:Expr}{td:TE}{apos cpos:Pos}{S:KeyS}
end
theorem jKP:entryFor table "dict_itemiterator.__iter__" =some Builtin.«dict_keyiterator.__iter__»:=gX (id':= "dict_keyiterator.__iter__") (by kernel_rfl) rfl (by decide+kernel) (by kernel_rfl)
section
variable {X:Cx}
def Iti (a:Addr)(o:Obj)(kvs:List (Key×V)):It:=
 ⟨fun i H=>H a=some (.frz o (.dK kvs))/\i<kvs.length,
  fun i H v H'=>∃ T k y,H T=none/\v= .ref T/\H'=upd H T (.tup [kV k,y])/\kvs[i]?=some (k,y),
  fun i H=>H a=some (.frz o (.dK kvs))/\kvs.length<=i⟩
theorem KV.at {kvs:List (Key×V)}{vs:List (Key×Value)}(r:KV kvs vs){i:Nat}{k:Key}{y:V}(h:kvs[i]?=some (k,y)):∃ u,vs[i]?=some (k,u)/\RelV y u:=by
 induction r generalizing i with
 | nil=>cases h
 | @cons p q ps qs hp _ ih=>
  cases i with
  | zero=>
   have:p=(k,y):=by simpa using h
   subst this
   obtain⟨q1,q2⟩:=q
   obtain⟨e1,e2⟩:=hp
   have e1:k=q1:=e1
   subst e1
   exact⟨q2,rfl,e2⟩
  | succ i=>exact ih (by simpa using h)
theorem jIE {P:Program}{w:World}{K:W.Frag}{elts:List Expr}{x1:Nat}{tps:Pos}(a it:Addr)(o:Obj)(kvs:List (Key×V))(ep:Nat)(hep:∀ h:Heap,h.get? a=some o->∀ vs,h.DictOf (kD P w) a vs->h.DictAt (kD P w) a vs ep):
  Turn P w K (.Tuple elts x1 tps) (Iti a o kvs) [it] it (fun i h=>∃ ok ov,IsItemIter h it a i kvs.length ep ok ov) where
 mem:=by simp
 obj:=fun i h st b hb=>by
  obtain⟨ok,ov,he⟩:=st
  rw[aH] at hb
  subst hb
  exact⟨_,he,fun v q=>by cases q⟩
 keep:=fun i h h' st k=>by
  obtain⟨ok,ov,he⟩:=st
  exact⟨ok,ov,k it (by simp) _ he⟩
 item:=by
  intro X hP hw hK hc i pins s σ H E I hf st hg
  subst hP hw hK
  obtain⟨ha,hi⟩:=hg
  obtain⟨ok,ov,he⟩:=st
  obtain⟨ho,z,hd,vs,rel,dd⟩:ObjOk X.prog X.w H s.heap a (.frz o (.dK kvs)):=I.hok a _ ha
  have hm:=hep _ ho vs dd
  have hl:=KV.length rel
  have hx:kvs[i]?=some kvs[i]:=ar hi
  generalize kvs[i]=p at hx
  obtain⟨k,y⟩:=p
  obtain⟨u,hu,ru⟩:=KV.at rel hx
  rw[hl] at he
  refine wpAny_pyNext_items_item he hm hu fun key h' hk a1 a3 a4 a5=>?_
  refine⟨_,rfl,wpAny_letOwnedTupleGo_items (s:= { s with heap:=h'}) a1 fun h'' b1 sb=>?_⟩
  have fresh:H s.heap.objs.size=none:=I.fresh
  have ntr:∀ b o,H b=some o->b∉([it]:List Addr):=fun b o z hb=>by
   have:=(hf b hb).1
   rw[z] at this; cases this
  have kp:∀ b o,b∉([it]:List Addr)->s.heap.get? b=some o->h''.get? b=some o:=fun b o hb z=>by
   rw[aH] at hb
   exact(sb.2 b hb).trans (a5 b o hb z)
  have nz:s.heap.objs.size≠it:=cF (ao he)
  have hT2:h''.get? s.heap.objs.size=some { cls:= .type "tuple",data:= .seq #[key,u]} :=(sb.2 _ nz).trans a3
  have rk:RelV (kV k) key:=by
   rcases kJ (show keyIs k key=true from hk) with ⟨i',t,q1,q2⟩ | ⟨x,t,q1,q2⟩
   ·rw[q1,q2]; exact⟨t,rfl⟩
   ·rw[q1,q2]; exact⟨t,rfl⟩
  have I2:Inv X pins σ (upd H s.heap.objs.size (.tup [kV k,y])) { s with heap:=h''} :=by
   refine I.step (g':=s.gens) (d':=s.drawn) (t':=s.toks) (ch:=[it]) (fun b hb=>?_) (fun b o _ _ hb z _=>kp b o hb z) (fun b o _ _ hb z _=>⟨o.slots,kp b o hb z⟩)
    (fun b o _ z n=>by rw[j8 (aO (ao z))]; exact n) (fun b o hb z=>⟨o,kp b o hb z⟩) (fun b ws z=>by rw[j8 (j9 z fresh)]; exact z) (fun b o ws z=>by rw[j8 (j9 z fresh)]; exact z)
    (fun b ps z=>⟨#[],by rw[j8 (j9 z fresh),z]; simp⟩) (fun m hm=>?_) (fun b o z=>?_) I.bare
   ·obtain⟨f0,f1,f2,f3,f4,f5⟩:=hf b hb
    exact⟨f3,f1,f4,f5⟩
   ·obtain⟨o,es,ep,ho,r⟩:=hm
    exact⟨o,es,ep,kp _ o (fun hb=>(hf _ hb).2.1 rfl) ho,r⟩
   ·by_cases hb:b=s.heap.objs.size
    ·subst hb
     rw[j5] at z
     cases z
     exact⟨by rw[db]; show 2<=_; decide,[key,u], .cons rk (.cons ru .nil),0,hT2⟩
    ·rw[j8 hb] at z
     refine(I.hok b o z).stay (fun c w hc q=>kp c w ?_ q) (fun c q=>by rw[j8 (j9 q fresh)]; exact q) (fun c ws q=>by rw[j8 (j9 q fresh)]; exact q)
     rcases hc with rfl | hc
     ·exact ntr _ _ z
     ·exact ntr _ _ hc
  refine⟨.ref s.heap.objs.size,_,I2,rfl,⟨_,k,y,fresh,rfl,rfl,hx⟩,⟨_,_,by rw[hl]; exact b1⟩,fun b hb=>?_⟩
  rw[j8 (fun q=>by
   rw[aH] at hb
   exact nz (q.symm.trans hb))]
  exact(hf b hb).1
 done:=by
  intro X hP hw hK hc i pins s σ H E I hf st hg
  subst hP hw hK
  obtain⟨ha,hend⟩:=hg
  obtain⟨ok,ov,he⟩:=st
  obtain⟨ho,z,hd,vs,rel,dd⟩:ObjOk X.prog X.w H s.heap a (.frz o (.dK kvs)):=I.hok a _ ha
  have hm:=hep _ ho vs dd
  have hl:=KV.length rel
  rw[hl] at he
  refine wpAny_pyNext_items_end (I.ok.hd hc) he hm (cE (by omega)) fun h' kp=>⟨rfl,?_⟩
  have kp2:∀ b o,b∉([it]:List Addr)->s.heap.get? b=some o->h'.get? b=some o:=fun b o hb z=>by
   rw[aH] at hb
   exact kp b o hb z
  have ntr:∀ b o,H b=some o->b∉([it]:List Addr):=fun b o z hb=>by
   have:=(hf b hb).1
   rw[z] at this; cases this
  refine I.step (g':=s.gens) (d':=s.drawn) (t':=s.toks) (ch:=[it]) (fun b hb=>?_) (fun b o _ _ hb z _=>kp2 b o hb z) (fun b o _ _ hb z _=>⟨o.slots,kp2 b o hb z⟩)
   (fun b o _ z n=>n) (fun b o hb z=>⟨o,kp2 b o hb z⟩) (fun b ws z=>z) (fun b o ws z=>z) (fun b ps z=>⟨#[],by rw[z]; simp⟩) (fun m hm=>?_) (fun b o z=>?_) I.bare
  ·obtain⟨f0,f1,f2,f3,f4,f5⟩:=hf b hb
   exact⟨f3,f1,f4,f5⟩
  ·obtain⟨o,es,ep,ho,r⟩:=hm
   exact⟨o,es,ep,kp2 _ o (fun hb=>(hf _ hb).2.1 rfl) ho,r⟩
  ·refine(I.hok b o z).stay (fun c w hc q=>kp2 c w ?_ q) (fun _ q=>q) fun _ _ q=>q
   rcases hc with rfl | hc
   ·exact ntr _ _ z
   ·exact ntr _ _ hc
 self:=fun A i s Q E st h=>by
  obtain⟨ok,ov,he⟩:=st
  have hT:s.TypeIs (.ref it) "dict_itemiterator" :=⟨_,he,rfl⟩
  refine gi hT F.slot_dict_itemiterator_iter (bv F.slot_dict_itemiterator_iter hT jKP ?_ (F.args_dict_itemiterator_iter_1 _))
  show wpAny _ _ (ret (.ref it)) _ _ s
  exact af ⟨_,rfl,"dict_itemiterator",_,hT,F.slot_dict_itemiterator_next.lookup,h⟩
def jNX (td:TE):TI:=fun σ H R=>td σ H fun x H1=>∃ (a:Addr) (kvs:List (Key×V)),x= .ref a/\Rd H1 a (.dK kvs)/\∀ o:Obj,R (Iti a o kvs) (upd H1 a (.frz o (.dK kvs)))
theorem jM1 {e:Expr}{td:TE}{apos cpos:Pos}{elts:List Expr}{x1:Nat}{tp:Pos}(ho:PE X e td)(base:attributeBase e "items" X.env (eval e X.env)=eval e X.env:=by rfl)(line:(apos.endLine==cpos.line)=true:=by rfl):
  PI X (.Tuple elts x1 tp) (.Call (.Attribute e "items" apos) [] [] cpos) (jNX td):=by
 intro pins s σ H R I h
 refine wpAny_Call_method0_late base line (thn (ho pins s σ H _ I h) fun u s1 ⟨x,H1,I1,rx,a,kvs,ex,d,q1⟩=>?_)
 subst ex
 obtain rfl:u=Value.ref a:=rx
 obtain⟨t1,t2,sm⟩:=jRP I1 (.inl ⟨kvs,d⟩)
 obtain⟨z,hd,vs,rel,dd⟩:=dk_rd I1.hok d
 refine⟨_,_,PySem.F.plainAttrs_dict,gB,PySem.F.type_dict_items,t1,t2,eC rfl (g9 ?_)⟩
 refine call_meetsIn gB dd.typeIs PySem.F.entry_dict_items (PySem.F.args_dict_items_1 _) (meets_dict_items (kD X.prog X.w) a hd) ⟨⟨_,dd⟩,?_⟩
 obtain⟨o,es,ep,ho,hr⟩:=id dd
 have hm:s1.heap.DictAt (kD X.prog X.w) a vs ep:=⟨o,es,ho,hr⟩
 have g:(s1.heap.push { cls:= .type "dict_items",data:= .fields #[.ref a]}).get? s1.heap.objs.size=some { cls:= .type "dict_items",data:= .fields #[.ref a]} :=aj _ rfl
 have k1:∀ b u,s1.heap.get? b=some u->(s1.heap.push { cls:= .type "dict_items",data:= .fields #[.ref a]}).get? b=some u:=fun b u q=>ab _ q
 refine wpAny_pyIter_items (knd:=kD X.prog X.w) (kvs:=vs) (ep:=ep) ⟨_,g,rfl,rfl⟩ ⟨o,es,k1 _ _ ho,hr⟩ ?_
 have I2:Inv X pins σ (upd H1 a (.frz o (.dK kvs))) s1:=by
  rcases d with d | ⟨o',d⟩
  ·exact jF2 (t':=s1.toks) I1 (by rw[d]; trivial) ⟨rfl,fun _ _=>rfl⟩ ⟨_,ho⟩ ⟨ho,z,hd,vs,rel,dd⟩
  ·have e1:s1.heap.get? a=some o':=(I1.hok a _ d).1
   rw[ho] at e1
   cases e1
   have e2:upd H1 a (.frz o (.dK kvs))=H1:=by
    funext b
    by_cases hb:b=a
    ·rw[hb,j5,d]
    ·rw[j8 hb]
   rw[e2]
   exact I1
 have hl:=KV.length rel
 have nw:∀ h:Heap,((h.push { cls:= .type "dict_items",data:= .fields #[.ref a]}).push { cls:= .type "dict_itemiterator",data:= .fields #[.none, .bool false, .ref a, .int 0 0, .int vs.length 0, .int ep 0, .none, .none]}).get? (h.push { cls:= .type "dict_items",data:= .fields #[.ref a]}).objs.size=some { cls:= .type "dict_itemiterator",data:= .fields #[.none, .bool false, .ref a, .int 0 0, .int vs.length 0, .int ep 0, .none, .none]} :=fun h=>aj _ rfl
 refine⟨_,[_],_,Iti a o kvs,_,rfl,I2.kept (t':=s1.toks) fun b u q=>ab _ (ab _ q),jIE a _ o kvs ep fun h hh vs' ⟨o',es',ep',ho',r1,r2,r3⟩=>?_,⟨_,_,by rw[hl]; exact nw _⟩,fun b hb=>?_,q1 o⟩
 ·rw[hh] at ho'
  cases ho'
  have:=hr.2.1
  rw[r2] at this
  cases this
  exact⟨o,es,hh,r1,r2,r3⟩
 ·rw[aH] at hb
  have hge:s1.heap.objs.size<=b:=by
   rw[hb,bM]
   exact gh _
  exact I2.fpOk hge (I2.hok.fresh hge)
theorem jMI {e:Expr}{td:TE}{apos cpos:Pos}{elts:List Expr}{x1:Nat}{tp:Pos}(ho:JE X e td)(base:attributeBase e "items" X.env (eval e X.env)=eval e X.env:=by rfl)(line:(apos.endLine==cpos.line)=true:=by rfl):
  JI X (.Tuple elts x1 tp) (.Call (.Attribute e "items" apos) [] [] cpos) (jNX td):=⟨jM1 ho.h base line⟩
end
section
variable {m:List (Option Nat)}{g:TG}{tt:TT}{te:TE}{σ:St}{H1:Hp}{Q:VK}
theorem jJ0 {a:Addr}{o:Obj}{kvs:List (Key×V)}(hn:kvs.length<sizeLine)(Pv:Addr->Nat->St->Hp->List V->Prop)(h0:∀ D,H1 D=none->Pv D 0 (blkσ m σ) (upd H1 D (.lst [])) [])
  (hD:∀ D i σ' H' zs,H1 D=none->Pv D i σ' H' zs->H' a=some (.frz o (.dK kvs))/\H' D=some (.lst zs)/\zs.length<=i)
  (hs:∀ D i σ' H' zs k y T,H1 D=none->kvs[i]?=some (k,y)->H' T=none->Pv D i σ' H' zs->g (.ref T) σ' (upd H' T (.tup [kV k,y])) fun σ2 H2=>tt σ2 H2 fun b H3=>if b=true then te σ2 H3 fun v H4=>H4 D=some (.lst zs)/\Pv D (i+1) σ2 (upd H4 D (.lst (zs++[v]))) (zs++[v]) else Pv D (i+1) σ2 H3 zs)
  (hd:∀ D σ' H' zs,H1 D=none->Pv D kvs.length σ' H' zs->Q (.ref D) H'):qG m g tt te σ Q (Iti a o kvs) H1:=by
 intro D hDn
 refine⟨fun i k σ' H' zs=>k=kvs.length - i/\i<=kvs.length/\Pv D i σ' H' zs,⟨_,rfl,aY _,h0 D hDn⟩,?_⟩
 rintro i k σ' H' zs ⟨rfl,hi,p⟩
 obtain⟨s1,q1,q2⟩:=hD D i σ' H' zs hDn p
 refine⟨q1,by omega,?_⟩
 by_cases hlt:i<kvs.length
 ·refine .inr ⟨⟨s1,hlt⟩,Pv D (i+1),fun σ2 H2 zs z=>⟨kvs.length - (i+1),by omega,rfl,hlt,z⟩,fun v H'' y=>?_⟩
  obtain⟨T,k,x,e1,e2,e3,e4⟩:=y
  subst e2 e3
  exact hs D i σ' _ zs k x T hDn e4 e1 p
 ·have e:i=kvs.length:=by omega
  subst e
  exact .inl ⟨⟨s1,ai _⟩,hd D σ' H' zs hDn p⟩
end
end L2
end
section
end
section
namespace Eo
open PySem L2
def Keep (H H':Hp)(p:Addr):Prop:=∀ b o,H b=some o->b≠p->H' b=some o
structure Txt (mg:Str->Option Value):Prop where
 len:mg "len" =none
 range:mg "range" =none
 tuple:mg "tuple" =none
 sorted:mg "sorted" =none
 set:mg "set" =none
 list:mg "list" =none
 int:mg "int" =none
 isinstance:mg "isinstance" =none
 bool:mg "bool" =none
 str:mg "str" =none
 all:mg "all" =none
 zip:mg "zip" =none
 max:mg "max" =none
 min:mg "min" =none
 any:mg "any" =none
 abs:mg "abs" =none
 sum:mg "sum" =none
 enumerate:mg "enumerate" =none
 dict:mg "dict" =none
structure Can (P:Program)(w:World)(K:W.Frag)(mg:Str->Option Value)(base:Heap)(x:Str)(k:Nat)(f:Addr)(fd:FuncData)(ps:List Str)(sp:Sp):Prop where
 G:FnOk P w K mg base CX0 k f fd ps sp
 m:mg x=some (.ref f)
 kp:keepIn K (.ref f)=true
 b:Binds K fd ps []
theorem Can.pe {X:Cx}{x:Str}{k:Nat}{f:Addr}{fd:FuncData}{ps:List Str}{sp:Sp}{e:Expr}{es:List Expr}{t:TA}{p pos:Pos}(C:Can X.prog X.w X.K X.mg X.base x k f fd ps sp)(hr:Room k X.A)(hg:Gl X x)(ha:PA X (e::es) t)(hdb:(x==("__debug__" :Str))=false:=by decide)
  (he:starEach (e::es) X.env=(false,eval e X.env)::starEach es X.env:=by rfl) (hpl:(backTo pos (starEach es X.env)).any (·.1)=false:=by rfl):PE X (.Call (.Name x p) (e::es) [] pos) (tCall sp [] E0 t):=
 jOW C.G hr hg C.m C.kp C.b .nil pass0 ha hdb he hpl
theorem Can.je {X:Cx}{x:Str}{k:Nat}{f:Addr}{fd:FuncData}{ps:List Str}{sp:Sp}{e:Expr}{es:List Expr}{t:TA}{p pos:Pos}(C:Can X.prog X.w X.K X.mg X.base x k f fd ps sp)(hr:Room k X.A)(hg:Gl1 X x)(ha:JA X (e::es) t)(he:starEach (e::es) X.env=(false,eval e X.env)::starEach es X.env)
  (hdb:(x==("__debug__" :Str))=false:=by decide) (hpl:(backTo pos (starEach es X.env)).any (·.1)=false:=by rfl):JE X (.Call (.Name x p) (e::es) [] pos) (tCall sp [] E0 t):=
 ⟨C.pe hr hg.a ha.h hdb he hpl⟩
section
variable {P:Program}{w:World}{K:W.Frag}{mg:Str->Option Value}{base:Heap}
def jJH (K:W.Frag):Sp:=fun vs H Q _=>∃ (a:Addr) (ns:List Int) (k:Int),vs=[.ref a, .int k]/\SqL K H a (ns.map V.int)/\0<=k/\∀ c:Int,Q (.int c) H
theorem jQH:FnScope ["script","k"] ["script","k"] (j7 sCell):=⟨rfl,rfl,rfl,by decide+kernel,rfl,by decide+kernel,by decide+kernel⟩
theorem jPA {f:Addr}{fd:FuncData}(F:Fun K "_law_cell_at" "_law_cell_at" sCell f fd)(T:Txt mg):FnOk P w K mg base CX0 1 f fd ["script","k"] (jJH K):=by
 refine F.ok jQH (fun vs H Q E h=>?_) (fun cdv A outer s H vs Q E hr h=>?_)
 ·obtain⟨a,ns,k,rfl,_⟩:=h
  rfl
 ·obtain⟨a,ns,k,rfl,hS,h0,q⟩:=h
  refine⟨_,kQ (ps_if (jD8 op_lt (pv 1) (jEP jO (by rfl) T.len PySem.boot_len (jW (pv 0) yD)) (jN _)) (jAO (jCI (pe_ix jAE (pv 0) (pv 1) (fun _ _=>rfl)))) jEN) (jAO (jCI jM)),?_⟩
  refine⟨_,rfl,_,rfl,a,_,rfl, .inl hS,_,_,rfl,rfl,_,rfl,?_⟩
  refine ite2 (fun hlt=>?_) (fun _=>?_)
  ·have hlt:k<((ns.map V.int).length:Int):=aL hlt
   have hk:k.toNat<ns.length:=by rw[ae] at hlt; omega
   refine⟨_,rfl,_,rfl,a,_,k, .int (ns[k.toNat]),rfl,rfl,hS,?_,q _⟩
   have e:(k.toNat:Int)=k:=by omega
   have q2:=jBG (xs:=ns.map V.int) (j:=k.toNat) (v:=V.int ns[k.toNat]) (by simp [hk])
   rw[e] at q2
   exact q2
  ·exact q 0
def yI:Sp:=fun vs H Q _=>∃ (p:Addr) (N w:Int),vs=[.ref p, .int w]/\H p=some (.lst [.int N])/\0<=N/\0<w/\w<2 ^ 64/\∀ N' r:Int,0<=N'->0<=r->r<w->Q (.int r) (upd H p (.lst [.int N']))
theorem scTake:FnScope ["pot","wide","found"] ["pot","wide"] (j7 sTake):=⟨rfl,rfl,rfl,by decide+kernel,rfl,by decide+kernel,by decide+kernel⟩
theorem jP2 {f:Addr}{fd:FuncData}(F:Fun K "_law_take" "_law_take" sTake f fd):FnOk P w K mg base CX0 1 f fd ["pot","wide"] yI:=by
 refine F.ok scTake (fun vs H Q E h=>?_) (fun cdv A outer s H vs Q E hr h=>?_)
 ·obtain⟨a,ns,k,rfl,_⟩:=h
  rfl
 ·obtain⟨p,N,w,rfl,hp,h0,h1,h2,q⟩:=h
  refine⟨_,kQ (yU (i:=2) scTake.nd rfl (Or.inl rfl) (kL jFP (pe_ix jAE (pv 0) jM (fun _ _=>rfl)) (pv 1)))
   (kQ (jQQ (kL jHM (pe_ix jAE (pv 0) jM (fun _ _=>rfl)) (pv 1)) (jQV (pv 0) jM jLV))
   (jAO (jCI (pv 2)))),?_⟩
  refine⟨_,rfl,p,_,0, .int N,rfl,rfl,SqL.of hp,rfl,_,rfl,_,_,rfl,rfl,h1,?_⟩
  refine⟨_,rfl,p,_,0, .int N,rfl,rfl,SqL.of hp,rfl,_,rfl,_,_,rfl,rfl,⟨h1,h2⟩,?_⟩
  refine⟨_,rfl,p,_,0,0,rfl,rfl,hp,rfl,_,rfl,?_⟩
  exact q _ _ (Int.ediv_nonneg h0 (by omega)) (Int.emod_nonneg _ (by omega)) (ir _ h1)
def spPot:Sp:=fun vs H Q _=>∃ c:Int,vs=[.int c]/\∀ (p:Addr) (N:Int),H p=none->0<=N->Q (.ref p) (upd H p (.lst [.int N]))
theorem scPot:FnScope ["cell","number","j","more"] ["cell"] (j7 sPot):=⟨rfl,rfl,rfl,by decide+kernel,rfl,by decide+kernel,by decide+kernel⟩
theorem jR4 {f:Addr}{fd:FuncData}(F:Fun K "_law_pot" "_law_pot" sPot f fd)(T:Txt mg):FnOk P w K mg base CX0 1 f fd ["cell"] spPot:=by
 refine F.ok scPot (fun vs H Q E h=>?_) (fun cdv A outer s H vs Q E hr h=>?_)
 ·obtain⟨c,rfl,_⟩:=h
  rfl
 ·obtain⟨c,rfl,q⟩:=h
  have one: [V.int 0].length<=sizeLine:=by show 1<=sizeLine; decide
  refine⟨_,kQ (ps_if (jD8 op_ge (pv 0) (kL jJY jM jM) (jN _)) (jAO (jCI (jHK (jW (kL jCK (pv 0) (kL jJY jM jM)) yD)))) jEN)
   (kQ (yU (i:=1) scPot.nd rfl (Or.inl rfl) jM)
   (kQ (jNI b0 rfl (jBM rfl T.range (jW jM yD)) (jEO (i:=2) scPot.nd rfl (Or.inl rfl))
    (kQ (yU (i:=3) scPot.nd rfl (Or.inl rfl) (kL jFP (kL jCL (kL yK (kL yK (kL jFP (pv 0) jM) (kL jCL jM (pv 2))) jM) jM) jM))
    (kQ (yU (i:=3) scPot.nd rfl (Or.inl rfl) (kL jFP (kL yK (kL yK (kL jCL (pv 3) (pv 3)) (kL jCL jM (pv 2))) jM) jM))
    (jAO (yU (i:=1) scPot.nd rfl (Or.inl rfl) (kL yK (kL jCL (pv 1) jM) (pv 3)))))))
   (jAO (jCI (jHK (jW (pv 1) yD)))))),?_⟩
  refine⟨_,rfl,_,_,rfl,rfl,⟨by decide,by decide,by decide⟩,_,_,rfl,rfl,_,rfl,?_⟩
  refine ite2 (fun hge=>?_) (fun _=>?_)
  ·refine⟨_,rfl,_,_,rfl,rfl,⟨by decide,by decide,by decide⟩,_,_,rfl,rfl,one,fun p hp=>q p _ hp ?_⟩
   exact Int.sub_nonneg_of_le (aL hge)
  ·refine⟨64,rfl,by decide,by decide,jDL (n:=64) (fun i σ H2=>∃ (num:Int) (v1 v2:Option V),σ=[some (.int c),some (.int num),v1,v2]/\0<=num/\H2=H) ⟨0,none,none,rfl,cH _,rfl⟩ ?_ ?_⟩
   ·rintro i σ H2 hi ⟨num,v1,v2,rfl,hn,rfl⟩
    refine⟨_,rfl,_,_,rfl,rfl,(by show (0:Int)<2147483629; decide),_,rfl,_,_,rfl,rfl, .inl ⟨by decide,by decide⟩,_,_,rfl,rfl,_,_,rfl,rfl,_,_,rfl,rfl, .inr ⟨by decide,by decide⟩,_,_,rfl,rfl,(by show (0:Int)<2147483647; decide),?_⟩
    refine⟨_,rfl,_,rfl,_,_,rfl,rfl, .inl ⟨?_,?_⟩,_,rfl,_,_,rfl,rfl, .inl ⟨by decide,by decide⟩,_,_,rfl,rfl,_,_,rfl,rfl,_,_,rfl,rfl,(by show (0:Int)<2147483587; decide),?_⟩
    ·omega
    ·omega
    ·refine⟨_,rfl,_,_,rfl,rfl, .inr ⟨by decide,by decide⟩,_,rfl,_,_,rfl,rfl,?_⟩
     refine⟨_,_,_,rfl,?_,rfl⟩
     omega
   ·rintro σ H2 ⟨num,v1,v2,rfl,hn,rfl⟩
    exact⟨_,rfl,one,fun p hp=>q p num hp hn⟩
end
theorem jBZ {H:Hp}{a:Addr}{o o':HO} :upd (upd H a o) a o'=upd H a o':=by
 funext b
 unfold upd
 by_cases h:b=a
 ·rw[am h,am h]
 ·rw[ak h,ak h,ak h]
theorem y9 {H:Hp}{a b:Addr}{o:HO}(h:upd H a o b=none):b≠a/\H b=none:=by
 have h1:b≠a:=fun e=>by rw[e,j5] at h; cases h
 exact⟨h1,by rw[j8 h1] at h; exact h⟩
theorem Keep.refl (H:Hp)(p:Addr):Keep H H p:=fun _ _ h _=>h
theorem Keep.trans {H H1 H2:Hp}{p:Addr}(a:Keep H H1 p)(b:Keep H1 H2 p):Keep H H2 p:=fun c o h n=>b c o (a c o h n) n
theorem Keep.upd {H H1:Hp}{p:Addr}(a:Keep H H1 p)(o:HO):Keep H (upd H1 p o) p:=fun c u h n=>by rw[j8 n]; exact a c u h n
theorem Keep.new {H H1:Hp}{p l:Addr}(a:Keep H H1 p)(hl:H1 l=none)(o:HO):Keep H (L2.upd H1 l o) p:=fun c u h n=>by
 have:=a c u h n
 rw[j8 (j9 this hl)]
 exact this
theorem pw {w:Int}(h1:1<=w)(h2:w<=16):(2:Int)<=2 ^ w.toNat/\(2:Int) ^ w.toNat<=65536:=by
 have e:∀ n:Nat,n<17->1<=n->(2:Int)<=2 ^ n/\(2:Int) ^ n<=65536:=by decide+kernel
 exact e w.toNat (by omega) (by omega)
structure Lot (w:Int)(ts:List Int):Prop where
 ris:ts.Pairwise (· < ·)
 bnd:∀ z∈ts,0<=z/\z<w
 ne:ts≠ []
def bits (n:Int)(k:Nat):List Int:=((List.range k).filter fun t=>decide (Builtin.bitAnd (n / 2 ^ t) 1=1)).map fun (t:Nat)=>(t:Int)
theorem jG5 (n:Int)(k:Nat):bits n (k+1)=bits n k++(if decide (Builtin.bitAnd (n / 2 ^ k) 1=1)=true then [(k:Int)] else []):=by
 unfold bits
 rw[fm,bV,aN]
 congr 1
 rw[dO]
 split <;> rfl
theorem jN2 {n w:Int}(h1:1<=n)(hw:0<=w)(h2:n<2 ^ w.toNat):Lot w (bits n w.toNat):=by
 refine⟨?_,fun z hz=>?_,?_⟩
 ·unfold bits
  rw[df]
  have:=(eJ (n:=w.toNat)).filter (fun t=>decide (Builtin.bitAnd (n / 2 ^ t) 1=1))
  exact this.imp fun h=>by omega
 ·unfold bits at hz
  obtain⟨t,ht,rfl⟩:=bF.mp hz
  have:=bo.mp (bP.mp ht).1
  omega
 ·obtain⟨m,rfl⟩:∃ m:Nat,n=(m:Int):=⟨n.toNat,by omega⟩
  have hm:m≠0:=by omega
  have hlt:m<2 ^ w.toNat:=by
   have:((m:Nat):Int)<((2 ^ w.toNat:Nat):Int):=by rw[Int.natCast_pow]; exact h2
   omega
  obtain⟨i,hi⟩:=Nat.exists_testBit_of_ne_zero hm
  have hiw:i<w.toNat:=by
   rcases iB i w.toNat with h | h
   ·exact h
   ·rw[dz (aR hlt (bX (by omega) h))] at hi
    cases hi
  have hb:Builtin.bitAnd ((m:Int) / 2 ^ i) 1=1:=by
   have e:((m:Int) / 2 ^ i)=((m / 2 ^ i:Nat):Int):=by rw[Int.natCast_ediv,Int.natCast_pow]; rfl
   rw[e,PyProof.Rows.bitAnd_pp (dW _) (by decide)]
   have e2:(((m / 2 ^ i:Nat):Int).toNat&&&(1:Int).toNat)=1:=by
    rw[bf]
    show (m / 2 ^ i)&&&1=1
    rw[iu]
    have:=hi
    rw[eL] at this
    exact aL this
   rw[e2]
   rfl
  intro z
  have hmem:(i:Int)∈bits (m:Int) w.toNat:=by
   unfold bits
   exact bF.mpr ⟨i,bP.mpr ⟨bo.mpr hiw,ax hb⟩,rfl⟩
  rw[z] at hmem
  cases hmem
section
variable {P:Program}{w:World}{K:W.Frag}{mg:Str->Option Value}{base:Heap}
def qC:Sp:=fun vs H Q _=>∃ (p:Addr) (N w:Int),vs=[.ref p, .int w]/\H p=some (.lst [.int N])/\0<=N/\1<=w/\w<=16/\
 ∀ (q:Addr) (N':Int) (ts:List Int) (H':Hp),0<=N'->Lot w ts->H' q=some (.tup (ts.map V.int))->H' p=some (.lst [.int N'])->Keep H H' p->Q (.ref q) H'
theorem scLot:FnScope ["pot","wide","way","number","start","step","size"] ["pot","wide"] (j7 sLot):=⟨rfl,rfl,rfl,by decide+kernel,rfl,by decide+kernel,by decide+kernel⟩
theorem jR6 {f fT:Addr}{fd fdT:FuncData}(F:Fun K "_law_lot" "_law_lot" sLot f fd)(T:Txt mg)(CT:Can P w K mg base "_law_take" 1 fT fdT ["pot","wide"] yI):FnOk P w K mg base CX0 2 f fd ["pot","wide"] qC:=by
 refine F.ok scLot (fun vs H Q E h=>?_) (fun cdv A outer s H vs Q E hr h=>?_)
 ·obtain⟨a,ns,k,rfl,_⟩:=h
  rfl
 ·obtain⟨p,N,w,rfl,hp,hN,h1,h2,q⟩:=h
  have hpw:=pw h1 h2
  have nd:=scLot.nd
  refine⟨_,kQ (yU (i:=2) nd rfl (Or.inl rfl) (CT.pe hr rfl (jW (pv 0) (jW jM yD))))
   (kQ (ps_if (jD8 yQ (pv 2) jM (jN _))
    (kQ (yU (i:=3) nd rfl (Or.inr rfl) (kL yK jM (CT.pe hr rfl (jW (pv 0) (jW (kL jCK (kL jHL jM (pv 1)) jM) yD)))))
    (jAO (jCI (jBN jA0 rfl T.tuple (by decide+kernel) (jW
     (jGO (m:=[none,some 3]) (Nc:=["t","number"]) rfl (jBM rfl T.range (jW (pv 1) yD)) rfl (by decide+kernel) (by decide+kernel) (kP (psc:=j7 sLot) (by decide+kernel))
      (jP (N:=["pot","wide","way","number","start","step","size"]) rfl rfl (by decide+kernel))
      (fun cl C fp s H=>jEO (i:=0) (show (["t","number"]:List Str).Nodup by decide+kernel) rfl (Or.inl rfl))
      (fun cl C fp s H=>jJR (jD8 yQ (kL jHN (kL jNM (pv 1) (pv 0)) jM) jM (jN _)))
      (fun cl C fp s H=>pv 0)) yD)))))
    jEN)
   (kQ (yU (i:=4) nd rfl (Or.inr rfl) (CT.pe hr rfl (jW (pv 0) (jW (pv 1) yD))))
   (kQ (yU (i:=5) nd rfl (Or.inr rfl) (kL yK jM (CT.pe hr rfl (jW (pv 0) (jW jM yD)))))
   (kQ (yU (i:=6) nd rfl (Or.inl rfl) (kL yK jM (CT.pe hr rfl (jW (pv 0) (jW (pe_ix jAE (jHK (jW jM (jW jM (jW jM yD)))) (kL jCK (pv 2) jM) (fun _ _=>rfl)) yD)))))
   (jAO (jCI (jBN jA0 rfl T.tuple (by decide+kernel) (jW (jEP (jDV rfl) rfl T.sorted (by decide+kernel) (jW (jBN (jLD rfl) rfl T.set (by decide+kernel) (jW
     (jGO (m:=[none,some 4,some 5,some 1]) (Nc:=["j","start","step","wide"]) rfl (jBM rfl T.range (jW (pv 6) yD)) rfl (by decide+kernel) (by decide+kernel) (kP (psc:=j7 sLot) (by decide+kernel))
      (jP (N:=["pot","wide","way","number","start","step","size"]) rfl rfl (by decide+kernel))
      (fun cl C fp s H=>jEO (i:=0) (show (["j","start","step","wide"]:List Str).Nodup by decide+kernel) rfl (Or.inl rfl))
      (fun cl C fp s H=>jJS)
      (fun cl C fp s H=>kL jFP (kL yK (pv 1) (kL jCL (pv 2) (pv 0))) (pv 3))) yD)) yD)) yD)))))))),?_⟩
  refine⟨_,rfl,p,N,4,rfl,hp,hN,by decide,by decide,fun N1 way b1 b2 b3=>?_⟩
  have hp1:∀ M,(upd H p (.lst [.int M])) p=some (.lst [.int M]):=fun _=>j5
  refine⟨_,rfl,rfl,_,rfl,?_⟩
  refine ite2 (fun _=>?_) (fun hw0=>?_)
  ·refine⟨_,rfl,_,rfl,_,_,rfl,rfl,⟨by omega,by omega,by decide⟩,_,_,rfl,rfl,p,N1,_,rfl,hp1 _,b1,by omega,by omega,fun N2 r2 c1 c2 c3=>⟨_,_,rfl,rfl,?_⟩⟩
   have hnum:1+r2<2 ^ w.toNat:=by omega
   refine⟨_,rfl,w,rfl,by omega,by omega,jB1 (n:=w.toNat) (by rw[aE]; omega) (fun D i σ' H' ys=>(∃ v,σ'=[v,some (.int (1+r2))])/\ys=(bits (1+r2) i).map V.int/\H'=upd (upd (upd H p (.lst [.int N1])) p (.lst [.int N2])) D (.lst ys)) ?_ ?_ ?_ ?_⟩
   ·intro D hD
    exact⟨⟨_,rfl⟩,rfl,rfl⟩
   ·rintro D i σ' H' ys hD hi ⟨_,e1,e2⟩
    refine⟨by rw[e2]; exact j5,?_⟩
    rw[e1,ae]
    unfold bits
    rw[ae]
    exact bJ (bI _ _) (by rw[bE]; exact ai _)
   ·rintro D i σ' H' ys hD hi ⟨⟨v,rfl⟩,rfl,rfl⟩
    refine⟨_,rfl,_,rfl,_,_,rfl,rfl,(by show (0:Int)<=0+(i:Int); omega),_,_,rfl,rfl,rfl,_,rfl,?_⟩
    have ei:(0+(i:Int)).toNat=i:=by omega
    refine ite2 (fun hb=>?_) (fun hb=>?_)
    ·have hb:Builtin.bitAnd ((1+r2) / 2 ^ i) 1=1:=by
      have:=aL hb
      rw[ei] at this
      exact V.int.inj this
     refine⟨_,rfl,j5,⟨_,rfl⟩,?_,jBZ⟩
     rw[jG5,am (ax hb),aN]
     congr 1
     show [V.int (0+(i:Int))]=[V.int (i:Int)]
     rw[Int.zero_add]
    ·have hb:¬ Builtin.bitAnd ((1+r2) / 2 ^ i) 1=1:=fun e=>hb (ax (by rw[ei]; exact bL V.int e))
     refine⟨⟨_,rfl⟩,?_,rfl⟩
     rw[jG5,ak (by simpa using hb),aZ]
   ·rintro D σ' H' ys hD ⟨_,rfl,rfl⟩
    refine⟨D,_,rfl, .inl ⟨SqL.of j5,fun qq hqq=>?_⟩⟩
    obtain⟨n1,n2⟩:=y9 hqq
    have pD:p≠D:=j9 j5 hD
    have pq:p≠qq:=j9 j5 n2
    exact q qq N2 (bits (1+r2) w.toNat) _ c1 (jN2 (by omega) (by omega) hnum) j5 (by rw[j8 pq,j8 pD,j5]) (((((Keep.refl H p).upd _).upd _).new hD _).new hqq _)
  ·have hway:1<=way:=by
    have:¬ way=0:=fun e=>hw0 (ax (by rw[e]))
    omega
   refine⟨_,rfl,_,rfl,p,N1,w,rfl,hp1 _,b1,by omega,by omega,fun N2 kZ c1 c2 c3=>?_⟩
   rw[jBZ]
   refine⟨_,rfl,p,N2,3,rfl,hp1 _,c1,by decide,by decide,fun N3 st d1 d2 d3=>⟨_,_,rfl,rfl,?_⟩⟩
   rw[jBZ]
   refine⟨_,rfl,(by show 3<=sizeLine; decide),fun l hl=>?_⟩
   have pl:p≠l:=j9 (hp1 _) hl
   obtain⟨wd,hwd,e1,e2⟩:∃ wd:Int,atI [V.int 1,V.int 2,V.int 4] (way - 1)=some (.int wd)/\1<=wd/\wd<=4:=by
    rcases (show way=1\/way=2\/way=3 by omega) with e | e | e
    ·subst e; exact⟨1,rfl,by decide,by decide⟩
    ·subst e; exact⟨2,rfl,by decide,by decide⟩
    ·subst e; exact⟨4,rfl,by decide,by decide⟩
   refine⟨_,rfl,_,_,rfl,rfl,l,_,_,_,rfl,rfl,SqL.of j5,hwd,p,N3,wd,rfl,by rw[j8 pl]; exact hp1 _,d1,by omega,by omega,fun N4 r4 g1 g2 g3=>⟨_,_,rfl,rfl,?_⟩⟩
   have kp:Keep H (upd (upd (upd H p (.lst [.int N3])) l (.lst [V.int 1,V.int 2,V.int 4])) p (.lst [.int N4])) p:=(((Keep.refl H p).upd _).new hl _).upd _
   have hp4:(upd (upd (upd H p (.lst [.int N3])) l (.lst [V.int 1,V.int 2,V.int 4])) p (.lst [.int N4])) p=some (.lst [.int N4]):=j5
   generalize (upd (upd (upd H p (.lst [.int N3])) l (.lst [V.int 1,V.int 2,V.int 4])) p (.lst [.int N4]))=H4 at kp hp4 ⊢
   refine⟨_,rfl,1+r4,rfl,by omega,by omega,jB1 (n:=(1+r4).toNat) (by rw[aE]; omega) (fun D i σ' H' ys=>(∃ v,σ'=[v,some (.int kZ),some (.int (1+st)),some (.int w)])/\(∃ ns:List Int,ys=ns.map V.int/\ns.length=i/\∀ z∈ns,0<=z/\z<w)/\H'=upd H4 D (.lst ys)) ?_ ?_ ?_ ?_⟩
   ·intro D hD
    exact⟨⟨_,rfl⟩,⟨[],rfl,rfl,fun z hz=>by cases hz⟩,rfl⟩
   ·rintro D i σ' H' ys hD hi ⟨_,⟨ns,rfl,e,_⟩,rfl⟩
    exact⟨j5,by rw[ae,e]; exact ai _⟩
   ·rintro D i σ' H' ys hD hi ⟨⟨v,rfl⟩,⟨ns,rfl,e,hb⟩,rfl⟩
    dsimp only [yA,yP]
    rw[am rfl]
    refine⟨_,rfl,_,rfl,_,rfl,_,_,rfl,rfl, .inl ⟨by omega,by omega⟩,_,_,rfl,rfl,_,rfl,_,_,rfl,rfl,(by show 0<w; omega),j5,⟨_,rfl⟩,⟨ns++[(kZ+(1+st)*(0+(i:Int))) % w],by simp,by simp [e],fun z hz=>?_⟩,jBZ⟩
    rcases aI.mp hz with hz | hz
    ·exact hb z hz
    ·have:z=(kZ+(1+st)*(0+(i:Int))) % w:=by simpa using hz
     rw[this]
     exact⟨Int.emod_nonneg _ (by omega),ir _ (by omega)⟩
   ·rintro D σ' H' ys hD ⟨_,⟨ns,rfl,e,hb⟩,rfl⟩
    refine⟨D,ns,rfl,SqL.of j5,by omega,fun z hz=>⟨(hb z hz).1,by have:=(hb z hz).2; omega⟩,fun l1 ks h11 hm1=>?_⟩
    refine⟨l1,ks,rfl,j5,fun l2 ms h12 srt hm2=>?_⟩
    refine⟨l2,_,rfl, .inl ⟨SqL.of j5,fun qq hqq=>?_⟩⟩
    have pD:p≠D:=j9 hp4 hD
    have p1:p≠l1:=j9 hp4 (y9 h11).2
    have p2:p≠l2:=j9 hp4 (y9 (y9 h12).2).2
    have pq:p≠qq:=j9 hp4 (y9 (y9 (y9 hqq).2).2).2
    refine q qq N4 ms _ g1 ⟨srt,fun z hz=>hb z ((hm1 z).mp ((hm2 z).mp hz)),fun z=>?_⟩ j5 (by rw[j8 pq,j8 p2,j8 p1,j8 pD]; exact hp4) ((((kp.new hD _).new h11 _).new h12 _).new hqq _)
    subst z
    cases ns with
    | nil=>simp at e; omega
    | cons x r=>
     have:=(hm2 x).mpr ((hm1 x).mpr aJ)
     cases this
end
structure Ris (w:Int)(ts:List Int):Prop where
 ris:ts.Pairwise (· < ·)
 bnd:∀ z∈ts,0<=z/\z<w
theorem Ris.nil (w:Int):Ris w []:=⟨.nil,fun z hz=>by cases hz⟩
theorem Ris.take {w:Int}{ts:List Int}(h:Ris w ts)(k:Nat):Ris w (ts.take k):=⟨h.ris.sublist (dc _ _),fun z hz=>h.bnd z (bW hz)⟩
theorem Ris.drop {w:Int}{ts:List Int}(h:Ris w ts)(k:Nat):Ris w (ts.drop k):=⟨h.ris.sublist (ge _ _),fun z hz=>h.bnd z (cj hz)⟩
theorem Ris.snoc {i:Nat}{ts:List Int}(h:Ris i ts):Ris (i+1:Nat) (ts++[(i:Int)]):=by
 refine⟨ci.mpr ⟨h.ris,ed _ _,fun a ha b hb=>?_⟩,fun z hz=>?_⟩
 ·have:=(h.bnd a ha).2
  have e:b=i:=by simpa using hb
  omega
 ·rcases aI.mp hz with q | q
  ·have:=h.bnd z q
   omega
  ·have e:z=i:=by simpa using q
   omega
theorem Ris.step {i:Nat}{ts:List Int}(h:Ris i ts):Ris (i+1:Nat) ts:=⟨h.ris,fun z hz=>by have:=h.bnd z hz; omega⟩
def upto (n:Nat):List Int:=(List.range n).map fun (i:Nat)=>(i:Int)
theorem jKS (n:Nat):jDK n=(upto n).map V.int:=by
 unfold jDK upto
 rw[bK]
 rfl
theorem jCU (n:Nat):Ris n (upto n):=by
 refine⟨?_,fun z hz=>?_⟩
 ·unfold upto
  rw[df]
  exact eJ.imp fun h=>by omega
 ·unfold upto at hz
  obtain⟨t,ht,rfl⟩:=bF.mp hz
  have:=bo.mp ht
  omega
def Tups (H H':Hp):Prop:=∀ b xs,H b=some (.tup xs)->H' b=some (.tup xs)
theorem Tups.trans {H H1 H2:Hp}(a:Tups H H1)(b:Tups H1 H2):Tups H H2:=fun c o h=>b c o (a c o h)
theorem Keep.tups {H H':Hp}{p:Addr}{xs:List V}(k:Keep H H' p)(hp:H p=some (.lst xs)):Tups H H':=fun b ys hb=>k b _ hb fun e=>by
 subst e
 rw[hb] at hp
 cases hp
theorem Tups.upd {H:Hp}{p:Addr}{xs:List V}(hp:H p=some (.lst xs))(o:HO):Tups H (upd H p o):=fun b ys hb=>by
 rw[j8 (fun e=>by subst e; rw[hb] at hp; cases hp)]
 exact hb
theorem Tups.new {H:Hp}{p:Addr}(hp:H p=none)(o:HO):Tups H (L2.upd H p o):=fun b ys hb=>by
 rw[j8 (j9 hb hp)]
 exact hb
def PcAt (H:Hp)(v:V)(pc:List Int×Int):Prop:=∃ a q,v= .ref a/\H a=some (.tup [.ref q, .int pc.2])/\H q=some (.tup (pc.1.map V.int))
def PcsAt (H:Hp):List V->List (List Int×Int)->Prop
 | [],[]=>True
 | v::vs,p::ps=>PcAt H v p/\PcsAt H vs ps
 | _,_=>False
theorem PcAt.mono {H H':Hp}{v:V}{pc:List Int×Int}(h:PcAt H v pc)(t:Tups H H'):PcAt H' v pc:=by
 obtain⟨a,q,rfl,h1,h2⟩:=h
 exact⟨a,q,rfl,t _ _ h1,t _ _ h2⟩
theorem PcsAt.mono {H H':Hp}(t:Tups H H'):∀ {vs:List V}{ps:List (List Int×Int)},PcsAt H vs ps->PcsAt H' vs ps
 | [],[],_=>trivial
 | _::_,_::_,h=>⟨h.1.mono t,PcsAt.mono t h.2⟩
 | [],_::_,h=>h.elim
 | _::_,[],h=>h.elim
theorem PcsAt.len {H:Hp} :∀ {vs:List V}{ps:List (List Int×Int)},PcsAt H vs ps->vs.length=ps.length
 | [],[],_=>rfl
 | _::_,_::_,h=>bL (· +1) (PcsAt.len h.2)
 | [],_::_,h=>h.elim
 | _::_,[],h=>h.elim
theorem PcsAt.put {H:Hp}{v:V}{p:List Int×Int}(hv:PcAt H v p):∀ (k:Nat) {vs:List V}{ps:List (List Int×Int)},PcsAt H vs ps->PcsAt H (vs.take k++v::vs.drop k) (ps.take k++p::ps.drop k)
 | 0,_,_,h=>⟨hv,h⟩
 | _+1,[],[],_=>⟨hv,trivial⟩
 | k+1,_::_,_::_,h=>⟨h.1,PcsAt.put hv k h.2⟩
 | _+1,[],_::_,h=>h.elim
 | _+1,_::_,[],h=>h.elim
structure GoodPc (w:Int)(pc:List Int×Int):Prop where
 lot:Lot w pc.1
 lo: -1000000000000<=pc.2
 hi:pc.2<=1000000000000
structure BoxAt (H:Hp)(b:Addr)(w:Int)(mays:List Int)(pcs:List (List Int×Int)):Prop where
 ex:∃ qm qp vs,H b=some (.tup [.int w, .ref qm, .ref qp])/\H qm=some (.tup (mays.map V.int))/\H qp=some (.tup vs)/\PcsAt H vs pcs
theorem BoxAt.mono {H H':Hp}{b:Addr}{w:Int}{mays:List Int}{pcs:List (List Int×Int)}(h:BoxAt H b w mays pcs)(t:Tups H H'):BoxAt H' b w mays pcs:=by
 obtain⟨qm,qp,vs,h1,h2,h3,h4⟩:=h.ex
 exact⟨qm,qp,vs,t _ _ h1,t _ _ h2,t _ _ h3,h4.mono t⟩
structure Good (mt mp:Int)(w:Int)(mays:List Int)(pcs:List (List Int×Int)):Prop where
 w0:0<=w
 w1:w<=mt
 mr:Ris w mays
 pl:(pcs.length:Int)<=mp
 pg:∀ pc∈pcs,GoodPc w pc
theorem Keep.updNew {H H1:Hp}{p l:Addr}(a:Keep H H1 p)(hl:H l=none)(o:HO):Keep H (L2.upd H1 l o) p:=fun c u h n=>by
 rw[j8 (j9 h hl)]
 exact a c u h n
section
variable {P:Program}{w:World}{K:W.Frag}{mg:Str->Option Value}{base:Heap}
def spBox:Sp:=fun vs H Q _=>∃ (p:Addr) (N mt mp:Int),vs=[.ref p, .int mt, .int mp]/\H p=some (.lst [.int N])/\0<=N/\0<=mt/\mt<=16/\0<=mp/\mp<=32/\
 ∀ (b:Addr) (N' w:Int) (mays:List Int) (pcs:List (List Int×Int)) (H':Hp),0<=N'->H' p=some (.lst [.int N'])->BoxAt H' b w mays pcs->Good mt mp w mays pcs->Keep H H' p->Q (.ref b) H'
noncomputable abbrev nBox:List Str:=["pot","most_things","most_pieces","wide","mays","left","far","pieces","k","size","things"]
theorem scBox:FnScope nBox ["pot","most_things","most_pieces"] (j7 sBox):=⟨rfl,rfl,rfl,by decide+kernel,rfl,by decide+kernel,by decide+kernel⟩
end
section
variable {P:Program}{w:World}{K:W.Frag}{mg:Str->Option Value}{base:Heap}
abbrev XBox (P:Program)(w:World)(K:W.Frag)(mg:Str->Option Value)(base:Heap)(f:Addr)(cdv:Value)(A:Around)(outer:List Env)(s:Shared)(H:Hp)(E:XK):Cx:=(cxOf CX0 P w K mg base nBox "_law_box" (j7 sBox) f cdv A outer s H E).nox
def jB8:Stmt->List Stmt
 | .For _ _ b _ _=>b
 | _=> []
def boxI {f fT fL:Addr}{fdT fdL:FuncData}{cdv:Value}{A:Around}{outer:List Env}{s:Shared}{H:Hp}{E:XK}(T:Txt mg)(CT:Can P w K mg base "_law_take" 1 fT fdT ["pot","wide"] yI)(CL:Can P w K mg base "_law_lot" 2 fL fdL ["pot","wide"] qC)(hr:Room 2 (XBox P w K mg base f cdv A outer s H E).A): { t:TS // JSs (XBox P w K mg base f cdv A outer s H E) ((jB8 ((jB sBox).getD 7 (.Pass ⟨0,0,0,0⟩))).drop 4) t} :=
 have nd:=scBox.nd
 ⟨_,(jC (jDH (je_bm cr PySem.F.slot_list_insert PySem.F.type_list_insert jKB (jv 7 rfl vL) (j3 (CT.je (hr.mono (by decide)) gD (j3 (jv 0 rfl vC) (j3 (kY yK (jD jO gD T.len (by decide+kernel) (j3 (jv 7 rfl vL) j6 j4) j4) (je_int)) j6 yJ) j4) j4) (j3 (jHS (j3 (jv 10 rfl vL) (j3 (kY jCK (CT.je (hr.mono (by decide)) gD (j3 (jv 0 rfl vC) (j3 (jv 6 rfl vL) j6 j4) j4) j4) (kY jHM (jv 6 rfl vL) (je_int))) j6 yJ) j4)) j6 jBK) jF) jF) jV))⟩
def boxL {f fT fL:Addr}{fdT fdL:FuncData}{cdv:Value}{A:Around}{outer:List Env}{s:Shared}{H:Hp}{E:XK}(T:Txt mg)(CT:Can P w K mg base "_law_take" 1 fT fdT ["pot","wide"] yI)(CL:Can P w K mg base "_law_lot" 2 fL fdL ["pot","wide"] qC)(hr:Room 2 (XBox P w K mg base f cdv A outer s H E).A): { t:TS // JSs (XBox P w K mg base f cdv A outer s H E) (jB8 ((jB sBox).getD 7 (.Pass ⟨0,0,0,0⟩))) t} :=
 have nd:=scBox.nd
 ⟨_,(jA (jS (i:=9) nd rfl lL (kY yK (je_int) (CT.je (hr.mono (by decide)) gD (j3 (jv 0 rfl vC) (j3 (je_int) j6 jL) j4) j4)) jNB)
   (jA (jS (i:=10) nd rfl lL (kR jA0 gD T.tuple (by decide+kernel) (j3 (jEW jJK (jv 5 rfl vL) jGY (jGX (jv 9 rfl vL))) j6 jX) jX) jV)
   (jA (jS (i:=5) nd rfl lL (jEW jJK (jv 5 rfl vL) (jGX (jv 9 rfl vL)) jGY) jNA)
   (jA (kU (jT (jK0 hr.units0) (jv 10 rfl vL) (jHS j6) (jN _)) (jC (jS (i:=10) nd rfl lL (CL.je hr gD (j3 (jv 0 rfl vC) (j3 (jv 3 rfl vL) j6 j4) j4) j4) jV)) jQ)
   (boxI T CT CL hr).2))))⟩
def boxC {f fT fL:Addr}{fdT fdL:FuncData}{cdv:Value}{A:Around}{outer:List Env}{s:Shared}{H:Hp}{E:XK}(T:Txt mg)(CT:Can P w K mg base "_law_take" 1 fT fdT ["pot","wide"] yI)(CL:Can P w K mg base "_law_lot" 2 fL fdL ["pot","wide"] qC)(hr:Room 2 (XBox P w K mg base f cdv A outer s H E).A): { t:TS // JSs (XBox P w K mg base f cdv A outer s H E) ((jB sBox).drop 5) t} :=
 have nd:=scBox.nd
 ⟨_,(jA (jS (i:=6) nd rfl lL (jZ jAE (jKK (j3 (je_int) (j3 (je_int) (j3 (jRM) j6 yJ) jL) jL)) (CT.je (hr.mono (by decide)) gD (j3 (jv 0 rfl vC) (j3 (je_int) j6 jL) j4) j4) jJP) jNA)
   (jA (jS (i:=7) nd rfl lL (jKK j6) jHB)
   (jA (jBQ b0 rfl (jAJ gD T.range (j3 (kY jCL (CT.je (hr.mono (by decide)) gD (j3 (jv 0 rfl vC) (j3 (kY yK (jv 2 rfl vL) (je_int)) j6 yJ) j4) j4) (kR jDR gD T.int (by decide+kernel) (j3 (yC op_gt (jv 3 rfl vL) (je_int) (jN _)) j6 jE0) jE0)) j6 yJ) yJ) (kI (i:=8) nd rfl lL) (boxL T CT CL hr).2 y8)
   (jC (jH (jHS (j3 (jv 3 rfl vL) (j3 (jv 4 rfl vL) (j3 (kR jA0 gD T.tuple (by decide+kernel) (j3 (jv 7 rfl vL) j6 j4) j4) j6 jF) j4) j4)))))))⟩
def boxB {f fT fL:Addr}{fdT fdL:FuncData}{cdv:Value}{A:Around}{outer:List Env}{s:Shared}{H:Hp}{E:XK}(T:Txt mg)(CT:Can P w K mg base "_law_take" 1 fT fdT ["pot","wide"] yI)(CL:Can P w K mg base "_law_lot" 2 fL fdL ["pot","wide"] qC)(hr:Room 2 (XBox P w K mg base f cdv A outer s H E).A): { t:TS // JSs (XBox P w K mg base f cdv A outer s H E) ((jB sBox).drop 3) t} :=
 have nd:=scBox.nd
 ⟨_,(jA (jS (i:=5) nd rfl lL (kR (jG1 rfl) gD T.list (by decide+kernel) (j3 (kR jH6 gD T.range (by decide+kernel) (j3 (jv 3 rfl vL) j6 j4) j4) j6 jF) jF) jV)
   (jA (kU (jT yQ (CT.je (hr.mono (by decide)) gD (j3 (jv 0 rfl vC) (j3 (je_int) j6 jL) j4) j4) (je_int) (jN _)) (jC (jS (i:=5) nd rfl lL (jKK j6) jHB)) jQ)
   (boxC T CT CL hr).2))⟩
def boxA {f fT fL:Addr}{fdT fdL:FuncData}{cdv:Value}{A:Around}{outer:List Env}{s:Shared}{H:Hp}{E:XK}(T:Txt mg)(CT:Can P w K mg base "_law_take" 1 fT fdT ["pot","wide"] yI)(CL:Can P w K mg base "_law_lot" 2 fL fdL ["pot","wide"] qC)(hr:Room 2 (XBox P w K mg base f cdv A outer s H E).A): { t:TS // JSs (XBox P w K mg base f cdv A outer s H E) (jB sBox) t} :=
 have nd:=scBox.nd
 ⟨_,(jA (jS (i:=3) nd rfl lL (CT.je (hr.mono (by decide)) gD (j3 (jv 0 rfl vC) (j3 (kY yK (jv 1 rfl vL) (je_int)) j6 yJ) j4) j4) jV)
   (jA (jS (i:=4) nd rfl lL (jHS j6) jN9)
   (jA (kU (jT yQ (CT.je (hr.mono (by decide)) gD (j3 (jv 0 rfl vC) (j3 (je_int) j6 jL) j4) j4) (je_int) (jN _)) (jC (jS (i:=4) nd rfl lL (kR jA0 gD T.tuple (by decide+kernel) (j3 (kW (m:=[none,some 0]) (Nc:=["t","pot"]) rfl (jAJ gD T.range (j3 (jv 3 rfl vL) j6 j4) j4) rfl (by decide+kernel) (by decide+kernel) (kP (psc:=j7 sBox) (by decide+kernel)) (jP (N:=nBox) rfl rfl (by decide+kernel)) (fun cl C fp s H=>kI (i:=0) (show (["t","pot"]:List Str).Nodup by decide+kernel) rfl (yV (by decide+kernel))) (fun cl C fp s H=>jEV (jT yQ (CT.je (hr.mono (by decide)) (gl_b (by decide+kernel)) (j3 (jv 1 rfl (yL (by decide+kernel))) (j3 (je_int) j6 jL) j4) j4) (je_int) (jN _))) (fun cl C fp s H=>(jv 0 rfl (kE (by decide+kernel)))) y8) j6 jK) jK) jV)) jQ)
   (boxB T CT CL hr).2)))⟩
end
structure St0 (H H2:Hp)(p:Addr)(w:Int)(qm ql:Addr)(mays lf:List Int)(N:Int):Prop where
 hp:H2 p=some (.lst [.int N])
 hN:0<=N
 hm:H2 qm=some (.tup (mays.map V.int))
 rm:Ris w mays
 hl:H2 ql=some (.lst (lf.map V.int))
 rl:Ris w lf
 ne:ql≠p
 kp:Keep H H2 p
theorem St0.step {H H2 H3:Hp}{p:Addr}{w:Int}{qm ql:Addr}{mays lf:List Int}{N N':Int}(S:St0 H H2 p w qm ql mays lf N)(k:Keep H2 H3 p)(hp:H3 p=some (.lst [.int N']))(hN:0<=N'):St0 H H3 p w qm ql mays lf N':=
 ⟨hp,hN,k qm _ S.hm (ne_of S.hm S.hp (by intro z; cases z)),S.rm,k ql _ S.hl S.ne,S.rl,S.ne,S.kp.trans k⟩
theorem jL5 {w:Int}{lf:List Int}(h:Ris w lf)(lo hi:Option Int):∃ l',cutV (lf.map V.int) lo hi=l'.map V.int/\Ris w l':=by
 refine⟨(lf.drop (HT.sIx lf.length 0 lo)).take (HT.sIx lf.length lf.length hi - HT.sIx lf.length 0 lo),?_,(h.drop _).take _⟩
 unfold cutV
 rw[ae,ic,List.map_drop]
section
variable {P:Program}{w:World}{K:W.Frag}{mg:Str->Option Value}{base:Heap}
variable {f fT fL:Addr}{fdT fdL:FuncData}{cdv:Value}{A:Around}{outer:List Env}{s:Shared}{H0:Hp}{E:XK}
theorem jG2 (T:Txt mg)(CT:Can P w K mg base "_law_take" 1 fT fdT ["pot","wide"] yI)(CL:Can P w K mg base "_law_lot" 2 fL fdL ["pot","wide"] qC)(hr:Room 2 (XBox P w K mg base f cdv A outer s H0 E).A)
  {D:Ends}{H H5:Hp}{p qm ql qp qt:Addr}{mt mp w N far:Int}{mays lf ts:List Int}{vs:List V}{pcs:List (List Int×Int)}{v8 v9:Option V}
  (S:St0 H H5 p w qm ql mays lf N) (hqp:H5 qp=some (.lst vs)) (hv:PcsAt H5 vs pcs) (hg:∀ pc∈pcs,GoodPc w pc) (hqt:H5 qt=some (.tup (ts.map V.int))) (lt:Lot w ts) (hf:far=1\/far=10\/far=2000000000001) (hn:pcs.length<=100) (hH:H qp=none) (hne:ql≠qp) (hpp:p≠qp)
  (nx:∀ H6 N' vs' pcs',St0 H H6 p w qm ql mays lf N'->H6 qp=some (.lst vs')->PcsAt H6 vs' pcs'->(∀ pc∈pcs',GoodPc w pc)->pcs'.length=pcs.length+1->D.nx [some (.ref p),some (.int mt),some (.int mp),some (.int w),some (.ref qm),some (.ref ql),some (.int far),some (.ref qp),v8,v9,some (.ref qt)] H6):
  (boxI T CT CL hr).1 D [some (.ref p),some (.int mt),some (.int mp),some (.int w),some (.ref qm),some (.ref ql),some (.int far),some (.ref qp),v8,v9,some (.ref qt)] H5:=by
 have hlen:=hv.len
 have h64:(0:Int)<far/\far<2 ^ 64:=by rcases hf with e | e | e <;> subst e <;> decide
 refine⟨_,rfl, .inl ⟨rfl,_,SqL.of hqp⟩,_,rfl,_,rfl,qp,vs,rfl, .inl (SqL.of hqp),_,_,rfl,rfl,p,N,_,rfl,S.hp,S.hN,by omega,by omega,fun N1 i a1 a2 a3=>?_⟩
 refine⟨_,rfl,_,rfl,_,rfl,p,N1,far,rfl,j5,a1,h64.1,h64.2,fun N2 r b1 b2 b3=>?_⟩
 rw[jBZ]
 refine⟨_,rfl,_,_,rfl,rfl,⟨by decide,by decide⟩,_,_,rfl,rfl,(by show 2<=sizeLine; decide),fun tq htq=>?_⟩
 obtain⟨t1,t2⟩:=y9 htq
 have ht:tq≠qp:=fun e=>by subst e; rw[hqp] at t2; cases t2
 refine⟨qp,vs,i,_,rfl,rfl,by rw[j8 ht.symm,j8 hpp.symm]; exact hqp,a2,by omega,by rw[aE]; omega,?_⟩
 have T1:Tups H5 (upd (upd H5 p (.lst [.int N2])) tq (.tup [.ref qt, .int (r - far / 2)])):=(Tups.upd S.hp _).trans (Tups.new htq _)
 have k1:Keep H5 (upd (upd H5 p (.lst [.int N2])) tq (.tup [.ref qt, .int (r - far / 2)])) p:=((Keep.refl _ _).upd _).new htq _
 have S1:=S.step k1 (by rw[j8 t1.symm]; exact j5) b1
 have hq1:(upd (upd H5 p (.lst [.int N2])) tq (.tup [.ref qt, .int (r - far / 2)])) qp=some (.lst vs):=by rw[j8 ht.symm,j8 hpp.symm]; exact hqp
 have T2:=T1.trans (Tups.upd hq1 (.lst (vs.take i.toNat++V.ref tq::vs.drop i.toNat)))
 have pc:PcAt (upd (upd H5 p (.lst [.int N2])) tq (.tup [.ref qt, .int (r - far / 2)])) (.ref tq) (ts,r - far / 2):=⟨tq,qt,rfl,j5,T1 _ _ hqt⟩
 refine nx _ N2 _ (pcs.take i.toNat++(ts,r - far / 2)::pcs.drop i.toNat) ⟨?_,b1,?_,S.rm,?_,S.rl,S.ne,S1.kp.updNew hH _⟩ j5 ?_ ?_ ?_
 ·rw[j8 hpp]; exact S1.hp
 ·exact(Tups.upd hq1 _) _ _ S1.hm
 ·rw[j8 hne]; exact S1.hl
 ·exact PcsAt.put (pc.mono (Tups.upd hq1 _)) _ (hv.mono T2)
 ·intro c hc
  rcases aI.mp hc with h | h
  ·exact hg c (bW h)
  ·rcases aF.mp h with h | h
   ·subst h
    refine⟨lt,?_,?_⟩
    ·show -1000000000000<=r - far / 2
     rcases hf with e | e | e <;> subst e <;> omega
    ·show r - far / 2<=1000000000000
     rcases hf with e | e | e <;> subst e <;> omega
   ·exact hg c (cj h)
 ·rw[az,aW,aV,cP]
  omega
end
section
variable {P:Program}{w:World}{K:W.Frag}{mg:Str->Option Value}{base:Heap}
variable {f fT fL:Addr}{fdT fdL:FuncData}{cdv:Value}{A:Around}{outer:List Env}{s:Shared}{H0:Hp}{E:XK}
theorem jLI (T:Txt mg)(CT:Can P w K mg base "_law_take" 1 fT fdT ["pot","wide"] yI)(CL:Can P w K mg base "_law_lot" 2 fL fdL ["pot","wide"] qC)(hr:Room 2 (XBox P w K mg base f cdv A outer s H0 E).A)
  {D:Ends}{H H5:Hp}{p qm ql qp:Addr}{mt mp w N far:Int}{mays lf:List Int}{vs:List V}{pcs:List (List Int×Int)}{v8 v9 v10:Option V}
  (S:St0 H H5 p w qm ql mays lf N) (hqp:H5 qp=some (.lst vs)) (hv:PcsAt H5 vs pcs) (hg:∀ pc∈pcs,GoodPc w pc) (hf:far=1\/far=10\/far=2000000000001) (hn:pcs.length<=100) (hH:H qp=none) (hpp:p≠qp) (w1:1<=w) (w2:w<=16)
  (nx:∀ H6 N' vs' pcs' ql' lf' v9' v10',St0 H H6 p w qm ql' mays lf' N'->ql'≠qp->H6 qp=some (.lst vs')->PcsAt H6 vs' pcs'->(∀ pc∈pcs',GoodPc w pc)->pcs'.length=pcs.length+1->D.nx [some (.ref p),some (.int mt),some (.int mp),some (.int w),some (.ref qm),some (.ref ql'),some (.int far),some (.ref qp),v8,v9',v10'] H6):
  (boxL T CT CL hr).1 D [some (.ref p),some (.int mt),some (.int mp),some (.int w),some (.ref qm),some (.ref ql),some (.int far),some (.ref qp),v8,v9,v10] H5:=by
 refine⟨_,rfl,p,N,3,rfl,S.hp,S.hN,by decide,by decide,fun N1 r1 a1 a2 a3=>⟨_,_,rfl,rfl,?_⟩⟩
 have S1:=S.step ((Keep.refl _ _).upd (.lst [.int N1])) j5 a1
 have hq1:(upd H5 p (.lst [.int N1])) qp=some (.lst vs):=by rw[j8 hpp.symm]; exact hqp
 have hv1:=hv.mono (Tups.upd S.hp (.lst [.int N1]))
 generalize upd H5 p (.lst [.int N1])=H6 at S1 hq1 hv1 ⊢
 clear S hqp hv
 obtain⟨l1,e1,g1⟩:=jL5 S1.rl none (some (1+r1))
 obtain⟨l2,e2,g2⟩:=jL5 S1.rl (some (1+r1)) none
 refine⟨_,rfl,_,rfl,1+r1,rfl,ql,_,rfl,SqL.of S1.hl,fun x hx=>⟨x,_,rfl, .inl ⟨SqL.of j5,fun qt hqt=>?_⟩⟩⟩
 rw[e1] at hqt ⊢
 have k1:Keep H6 (upd (upd H6 x (.lst (l1.map V.int))) qt (.tup (l1.map V.int))) p:=((Keep.refl _ _).new hx _).new hqt _
 obtain⟨t1,t2⟩:=y9 hqt
 have px:p≠x:=j9 S1.hp hx
 have pt:p≠qt:=j9 S1.hp t2
 have qx:qp≠x:=j9 hq1 hx
 have qq:qp≠qt:=j9 hq1 t2
 have S2:=S1.step k1 (by rw[j8 pt,j8 px]; exact S1.hp) S1.hN
 have hq2:(upd (upd H6 x (.lst (l1.map V.int))) qt (.tup (l1.map V.int))) qp=some (.lst vs):=by rw[j8 qq,j8 qx]; exact hq1
 have hv2:=hv1.mono (k1.tups S1.hp)
 have ht2:(upd (upd H6 x (.lst (l1.map V.int))) qt (.tup (l1.map V.int))) qt=some (.tup (l1.map V.int)):=j5
 generalize upd (upd H6 x (.lst (l1.map V.int))) qt (.tup (l1.map V.int))=H7 at S2 hq2 hv2 ht2 ⊢
 clear k1 hqt t2 hx S1 hq1 hv1
 refine⟨_,rfl,_,rfl,1+r1,rfl,ql,_,rfl,SqL.of S2.hl,fun ql' hql=>?_⟩
 rw[e2]
 have pl:p≠ql':=j9 S2.hp hql
 have k2:Keep H7 (upd H7 ql' (.lst (l2.map V.int))) p:=(Keep.refl _ _).new hql _
 have S3':=S2.step k2 (by rw[j8 pl]; exact S2.hp) S2.hN
 have S3:St0 H (upd H7 ql' (.lst (l2.map V.int))) p w qm ql' mays l2 N1:=⟨S3'.hp,S3'.hN,S3'.hm,S3'.rm,j5,g2,pl.symm,S3'.kp⟩
 have hne:qp≠ql':=j9 hq2 hql
 have hq3:(upd H7 ql' (.lst (l2.map V.int))) qp=some (.lst vs):=by rw[j8 hne]; exact hq2
 have hv3:=hv2.mono (k2.tups S2.hp)
 have ht3:=k2.tups S2.hp _ _ ht2
 generalize upd H7 ql' (.lst (l2.map V.int))=H8 at S3 hq3 hv3 ht3 ⊢
 clear k2 S3' S2 hq2 hv2 ht2 hql
 refine⟨_,rfl,(by show 0<=sizeLine; exact aY _),fun z hz=>⟨qt,z,l1.map V.int,rfl,rfl,SqT.of ?_,SqT.of j5,_,rfl,?_⟩⟩
 ·rw[j8 (j9 ht3 hz)]; exact ht3
 have pz:p≠z:=j9 S3.hp hz
 have qz:qp≠z:=j9 hq3 hz
 have k3:Keep H8 (upd H8 z (.tup [])) p:=(Keep.refl _ _).new hz _
 have S4:=S3.step k3 (by rw[j8 pz]; exact S3.hp) S3.hN
 have hq4:(upd H8 z (.tup [])) qp=some (.lst vs):=by rw[j8 qz]; exact hq3
 have hv4:=hv3.mono (k3.tups S3.hp)
 have ht4:=k3.tups S3.hp _ _ ht3
 generalize upd H8 z (.tup [])=H9 at S4 hq4 hv4 ht4 ⊢
 clear k3 S3 hq3 hv3 ht3 hz pz qz
 refine ite2 (fun hy=>?_) (fun hy=>?_)
 ·refine⟨_,rfl,_,rfl,p,N1,w,rfl,S4.hp,S4.hN,w1,w2,fun q N2 ts H' b1 lt b2 b3 b4=>?_⟩
  exact jG2 T CT CL hr (S4.step b4 b3 b1) (b4 _ _ hq4 hpp.symm) (hv4.mono (b4.tups S4.hp)) hg b2 lt hf hn hH hne.symm hpp fun H6 N' vs' pcs' z1 z2 z3 z4 z5=>nx H6 N' vs' pcs' ql' l2 _ _ z1 hne.symm z2 z3 z4 z5
 ·have nl:l1≠ []:=fun e=>hy (ax (by rw[e]; rfl))
  exact jG2 T CT CL hr S4 hq4 hv4 hg ht4 ⟨g1.ris,g1.bnd,nl⟩ hf hn hH hne.symm hpp fun H6 N' vs' pcs' z1 z2 z3 z4 z5=>nx H6 N' vs' pcs' ql' l2 _ _ z1 hne.symm z2 z3 z4 z5
end
section
variable {P:Program}{w:World}{K:W.Frag}{mg:Str->Option Value}{base:Heap}
variable {f fT fL:Addr}{fdT fdL:FuncData}{cdv:Value}{A:Around}{outer:List Env}{s:Shared}{H0:Hp}{E:XK}
def Told (H:Hp)(p:Addr)(mt mp:Int)(R:VK):Prop:=∀ (b:Addr) (N' w:Int) (mays:List Int) (pcs:List (List Int×Int)) (H':Hp),0<=N'->H' p=some (.lst [.int N'])->BoxAt H' b w mays pcs->Good mt mp w mays pcs->Keep H H' p->R (.ref b) H'
theorem jG3 (T:Txt mg)(CT:Can P w K mg base "_law_take" 1 fT fdT ["pot","wide"] yI)(CL:Can P w K mg base "_law_lot" 2 fL fdL ["pot","wide"] qC)(hr:Room 2 (XBox P w K mg base f cdv A outer s H0 E).A)
  {D:Ends}{H H5:Hp}{p qm ql:Addr}{mt mp w N:Int}{mays lf:List Int}{v6 v7 v8 v9 v10:Option V}
  (S:St0 H H5 p w qm ql mays lf N) (hpH:∃ o,H p=some o) (w0:0<=w) (w1:w<=mt) (w2:mt<=16) (n0:0<=mp) (n1:mp<=32) (q:Told H p mt mp D.rt):
  (boxC T CT CL hr).1 D [some (.ref p),some (.int mt),some (.int mp),some (.int w),some (.ref qm),some (.ref ql),v6,v7,v8,v9,v10] H5:=by
 refine⟨(by show 3<=sizeLine; decide),fun l hl=>?_⟩
 have pl:p≠l:=j9 S.hp hl
 refine⟨_,rfl,p,N,3,rfl,by rw[j8 pl]; exact S.hp,S.hN,by decide,by decide,fun N1 r a1 a2 a3=>?_⟩
 obtain⟨far,hfar,hf⟩:∃ far:Int,atI [V.int 1,V.int 10,V.int 2000000000001] r=some (.int far)/\(far=1\/far=10\/far=2000000000001):=by
  rcases (show r=0\/r=1\/r=2 by omega) with e | e | e
  ·subst e; exact⟨_,rfl, .inl rfl⟩
  ·subst e; exact⟨_,rfl, .inr (.inl rfl)⟩
  ·subst e; exact⟨_,rfl, .inr (.inr rfl)⟩
 refine⟨l,_,r,_,rfl,rfl,SqL.of (by rw[j8 pl.symm]; exact j5),hfar,?_⟩
 have S1:=S.step ((((Keep.refl _ _).new hl (.lst [V.int 1,V.int 10,V.int 2000000000001])).upd (.lst [.int N1]))) j5 a1
 generalize upd (upd H5 l (.lst [V.int 1,V.int 10,V.int 2000000000001])) p (.lst [.int N1])=H6 at S1 ⊢
 clear hl S
 refine⟨(by show 0<=sizeLine; exact aY _),fun qp hqp=>?_⟩
 have pq:p≠qp:=j9 S1.hp hqp
 have hHq:H qp=none:=by
  cases e:H qp with
  | none=>rfl
  | some o=>
   have:=S1.kp _ _ e pq.symm
   rw[hqp] at this
   cases this
 have lq:ql≠qp:=j9 S1.hl hqp
 have S2:=S1.step ((Keep.refl _ _).new hqp (.lst [])) (by rw[j8 pq]; exact S1.hp) S1.hN
 have hq2:(upd H6 qp (.lst [])) qp=some (.lst []):=j5
 generalize upd H6 qp (.lst [])=H7 at S2 hq2 ⊢
 clear hqp S1
 refine⟨_,rfl,_,rfl,_,_,rfl,rfl,p,N1,_,rfl,S2.hp,S2.hN,by omega,by omega,fun N2 n b1 b2 b3=>?_⟩
 refine⟨_,rfl,_,_,rfl,rfl, .inr ⟨_,rfl,_,_,rfl,rfl, .inl ⟨by omega,by omega⟩,_,rfl,?_⟩⟩
 have S3:=S2.step ((Keep.refl _ _).upd (.lst [.int N2])) j5 b1
 have hq3:(upd H7 p (.lst [.int N2])) qp=some (.lst []):=by rw[j8 pq.symm]; exact hq2
 generalize upd H7 p (.lst [.int N2])=H8 at S3 hq3 ⊢
 clear S2 hq2
 obtain⟨m,em,hm,hw⟩:∃ m:Int,n*(if decide (0<w)=true then 1 else 0)=m/\(0<=m/\m<=mp)/\(0<m->1<=w):=by
  by_cases h:0<w
  ·exact⟨n,by simp [h],⟨b2,by omega⟩,fun _=>h⟩
  ·exact⟨0,by simp [h],⟨by omega,n0⟩,fun z=>by omega⟩
 show _/\_/\_
 rw[show (n*(if decide (0<w)=true then 1 else 0))=m from em]
 refine⟨by omega,by omega,jDL (n:=m.toNat) (fun i σ H5=>∃ ql' lf' N' vs pcs v8 v9 v10,σ=[some (.ref p),some (.int mt),some (.int mp),some (.int w),some (.ref qm),some (.ref ql'),some (.int far),some (.ref qp),v8,v9,v10]/\St0 H H5 p w qm ql' mays lf' N'/\ql'≠qp/\H5 qp=some (.lst vs)/\PcsAt H5 vs pcs/\(∀ pc∈pcs,GoodPc w pc)/\pcs.length=i) ?_ ?_ ?_⟩
 ·exact⟨ql,lf,N2,[],[],_,_,_,rfl,S3,lq,hq3,trivial,(fun _ h=>by cases h),rfl⟩
 ·rintro i σ H9 hi ⟨ql',lf',N',vs,pcs,x8,x9,x10,rfl,S4,l4,hq4,hv4,hg4,e4⟩
  exact jLI T CT CL hr S4 hq4 hv4 hg4 hf (by omega) hHq pq (hw (by omega)) (by omega) fun H6 N' vs' pcs' ql' lf' v9' v10' z1 z2 z3 z4 z5 z6=>⟨ql',lf',N',vs',pcs',_,_,_,rfl,z1,z2,z3,z4,z5,by omega⟩
 ·rintro σ H9 ⟨ql',lf',N',vs,pcs,x8,x9,x10,rfl,S4,l4,hq4,hv4,hg4,e4⟩
  refine⟨_,rfl,_,rfl,_,rfl,qp,vs,rfl, .inl ⟨SqL.of hq4,fun tq htq=>⟨(by show 3<=sizeLine; decide),fun b hb=>?_⟩⟩⟩
  have k1:Keep H9 (upd H9 tq (.tup vs)) p:=(Keep.refl _ _).new htq _
  have k2:Keep H9 (upd (upd H9 tq (.tup vs)) b (.tup [.int w, .ref qm, .ref tq])) p:=k1.new hb _
  have tb:=j9 j5 hb
  have S5:=S4.step k2 (by rw[j8 (y9 hb |>.2 |> fun h=>j9 S4.hp h),j8 (j9 S4.hp htq)]; exact S4.hp) S4.hN
  exact q b N' w mays pcs _ S4.hN S5.hp ⟨qm,tq,vs,j5,S5.hm,by rw[j8 tb]; exact j5,hv4.mono (k2.tups S4.hp)⟩ ⟨w0,w1,S4.rm,by omega,hg4⟩ S5.kp
end
section
variable {P:Program}{w:World}{K:W.Frag}{mg:Str->Option Value}{base:Heap}
section
variable {f fT fL:Addr}{fdT fdL:FuncData}{cdv:Value}{A:Around}{outer:List Env}{s:Shared}{H0:Hp}{E:XK}
theorem jG4 (T:Txt mg)(CT:Can P w K mg base "_law_take" 1 fT fdT ["pot","wide"] yI)(CL:Can P w K mg base "_law_lot" 2 fL fdL ["pot","wide"] qC)(hr:Room 2 (XBox P w K mg base f cdv A outer s H0 E).A)
  {D:Ends}{H H5:Hp}{p qm:Addr}{mt mp w N:Int}{mays:List Int}{v5 v6 v7 v8 v9 v10:Option V}
  (hp:H5 p=some (.lst [.int N])) (hN:0<=N) (hm:H5 qm=some (.tup (mays.map V.int))) (rm:Ris w mays) (kp:Keep H H5 p) (hpH:∃ o,H p=some o) (w0:0<=w) (w1:w<=mt) (w2:mt<=16) (n0:0<=mp) (n1:mp<=32) (q:Told H p mt mp D.rt):
  (boxB T CT CL hr).1 D [some (.ref p),some (.int mt),some (.int mp),some (.int w),some (.ref qm),v5,v6,v7,v8,v9,v10] H5:=by
 refine⟨_,rfl,w,rfl,fun x hx=>⟨x,w,rfl,j5,w0,by omega,fun ql hql=>?_⟩⟩
 rw[jKS]
 have px:p≠x:=j9 hp hx
 have pl:p≠ql:=j9 hp (y9 hql).2
 have k1:Keep H5 (upd (upd H5 x (.rng 0 w)) ql (.lst ((upto w.toNat).map V.int))) p:=((Keep.refl _ _).new hx _).new hql _
 have e:((w.toNat:Nat):Int)=w:=by omega
 have rl:Ris w (upto w.toNat):=by
  have:=jCU w.toNat
  rw[e] at this
  exact this
 have S:St0 H (upd (upd H5 x (.rng 0 w)) ql (.lst ((upto w.toNat).map V.int))) p w qm ql mays (upto w.toNat) N:=
  ⟨by rw[j8 pl,j8 px]; exact hp,hN,k1 qm _ hm (ne_of hm hp (by intro z; cases z)),rm,j5,rl,pl.symm,kp.trans k1⟩
 generalize upd (upd H5 x (.rng 0 w)) ql (.lst ((upto w.toNat).map V.int))=H6 at S ⊢
 clear k1 hql hx hp hm kp
 refine⟨_,rfl,p,N,3,rfl,S.hp,S.hN,by decide,by decide,fun N1 r a1 a2 a3=>⟨rfl,_,rfl,?_⟩⟩
 have S1:=S.step ((Keep.refl _ _).upd (.lst [.int N1])) j5 a1
 generalize upd H6 p (.lst [.int N1])=H7 at S1 ⊢
 clear S
 refine ite2 (fun hy=>?_) (fun hy=>?_)
 ·refine⟨(by show 0<=sizeLine; exact aY _),fun l hl=>?_⟩
  have pl2:p≠l:=j9 S1.hp hl
  have S2:=S1.step ((Keep.refl _ _).new hl (.lst [])) (by rw[j8 pl2]; exact S1.hp) S1.hN
  have S3:St0 H (upd H7 l (.lst [])) p w qm l mays [] N1:=⟨S2.hp,S2.hN,S2.hm,S2.rm,j5,Ris.nil w,pl2.symm,S2.kp⟩
  exact jG3 T CT CL hr S3 hpH w0 w1 w2 n0 n1 q
 ·exact jG3 T CT CL hr S1 hpH w0 w1 w2 n0 n1 q
theorem jLJ (T:Txt mg)(CT:Can P w K mg base "_law_take" 1 fT fdT ["pot","wide"] yI)(CL:Can P w K mg base "_law_lot" 2 fL fdL ["pot","wide"] qC)(hr:Room 2 (XBox P w K mg base f cdv A outer s H0 E).A)
  {D:Ends}{H:Hp}{p:Addr}{mt mp N:Int}
  (hp:H p=some (.lst [.int N])) (hN:0<=N) (w0:0<=mt) (w2:mt<=16) (n0:0<=mp) (n1:mp<=32) (q:Told H p mt mp D.rt):
  (boxA T CT CL hr).1 D [some (.ref p),some (.int mt),some (.int mp),none,none,none,none,none,none,none,none] H:=by
 refine⟨_,rfl,_,rfl,_,_,rfl,rfl,p,N,_,rfl,hp,hN,by omega,by omega,fun N1 w a1 a2 a3=>?_⟩
 refine⟨(by show 0<=sizeLine; exact aY _),fun t ht=>?_⟩
 have pt:p≠t:=(y9 ht).1.symm
 refine⟨_,rfl,p,N1,3,rfl,by rw[j8 pt]; exact j5,a1,by decide,by decide,fun N2 r b1 b2 b3=>⟨rfl,_,rfl,?_⟩⟩
 have k1:Keep H (upd (upd (upd H p (.lst [.int N1])) t (.tup [])) p (.lst [.int N2])) p:=(((Keep.refl _ _).upd _).new ht _).upd _
 have hp1:(upd (upd (upd H p (.lst [.int N1])) t (.tup [])) p (.lst [.int N2])) p=some (.lst [.int N2]):=j5
 have ht1:(upd (upd (upd H p (.lst [.int N1])) t (.tup [])) p (.lst [.int N2])) t=some (.tup []):=by rw[j8 pt.symm]; exact j5
 generalize upd (upd (upd H p (.lst [.int N1])) t (.tup [])) p (.lst [.int N2])=H1 at k1 hp1 ht1 ⊢
 clear ht
 refine ite2 (fun hy=>?_) (fun hy=>?_)
 ·refine⟨_,rfl,w,rfl,by omega,by omega,jB1 (n:=w.toNat) (by rw[aE]; omega) (fun D i σ' H' ys=>(∃ v,σ'=[v,some (.ref p)])/\(∃ (ms:List Int) (N':Int),ys=ms.map V.int/\ms.length<=i/\Ris i ms/\0<=N'/\H' p=some (.lst [.int N']))/\Keep H1 H' p/\H' D=some (.lst ys)/\D≠p/\H1 D=none) ?_ ?_ ?_ ?_⟩
  ·intro D hD
   have:p≠D:=j9 hp1 hD
   exact⟨⟨_,rfl⟩,⟨[],N2,rfl,ai _,Ris.nil _,b1,by rw[j8 this]; exact hp1⟩,(Keep.refl _ _).new hD _,j5,this.symm,hD⟩
  ·rintro D i σ' H' ys hD hi ⟨_,⟨ms,N',rfl,e,_⟩,_,e2,_⟩
   exact⟨e2,by rw[ae]; exact e⟩
  ·rintro D i σ' H' ys hD hi ⟨⟨v,rfl⟩,⟨ms,N',rfl,e,rs,n',hp'⟩,kk,e2,dp,hn⟩
   refine⟨_,rfl,p,N',3,rfl,hp',n',by decide,by decide,fun N3 r3 c1 c2 c3=>⟨rfl,_,rfl,?_⟩⟩
   have k2:Keep H1 (upd H' p (.lst [.int N3])) p:=kk.upd _
   have e3:(upd H' p (.lst [.int N3])) D=some (.lst (ms.map V.int)):=by rw[j8 dp]; exact e2
   have hp3:(upd H' p (.lst [.int N3])) p=some (.lst [.int N3]):=j5
   generalize upd H' p (.lst [.int N3])=H'' at k2 e3 hp3 ⊢
   refine ite2 (fun hz=>?_) (fun hz=>?_)
   ·refine⟨_,rfl,e3,⟨_,rfl⟩,⟨ms++[(i:Int)],N3,?_,?_,rs.snoc,c1,by rw[j8 dp.symm]; exact hp3⟩,k2.updNew hn _,j5,dp,hn⟩
    ·rw[aN]
     show _++[V.int (0+(i:Int))]=_++[V.int (i:Int)]
     rw[Int.zero_add]
    ·rw[az]
     show ms.length+1<=i+1
     omega
   ·exact⟨⟨_,rfl⟩,⟨ms,N3,rfl,by omega,rs.step,c1,hp3⟩,k2,e3,dp,hn⟩
  ·rintro D σ' H' ys hD ⟨_,⟨ms,N',rfl,e,rs,n',hp'⟩,kk,e2,dp,hn⟩
   refine⟨D,_,rfl, .inl ⟨SqL.of e2,fun qm hqm=>?_⟩⟩
   have pm:p≠qm:=j9 hp' hqm
   have e':((w.toNat:Nat):Int)=w:=by omega
   rw[e'] at rs
   exact jG4 T CT CL hr (by rw[j8 pm]; exact hp') n' j5 rs ((k1.trans kk).new hqm _) ⟨_,hp⟩ a2 (by omega) w2 n0 n1 q
 ·exact jG4 T CT CL hr hp1 b1 (mays:=[]) ht1 (Ris.nil w) k1 ⟨_,hp⟩ a2 (by omega) w2 n0 n1 q
end
theorem jR9 {f fT fL:Addr}{fd fdT fdL:FuncData}(F:Fun K "_law_box" "_law_box" sBox f fd)(T:Txt mg)(CT:Can P w K mg base "_law_take" 1 fT fdT ["pot","wide"] yI)(CL:Can P w K mg base "_law_lot" 2 fL fdL ["pot","wide"] qC):
  FnOk P w K mg base CX0 3 f fd ["pot","most_things","most_pieces"] spBox:=by
 refine F.ok scBox (fun vs H Q E h=>?_) (fun cdv A outer s H vs Q E hr h=>?_)
 ·obtain⟨_,_,_,_,rfl,_⟩:=h
  rfl
 ·obtain⟨p,N,mt,mp,rfl,hp,hN,m0,m1,n0,n1,q⟩:=h
  exact⟨_,(boxA T CT CL hr).2.h,jLJ T CT CL hr hp hN m0 m1 n0 n1 q⟩
end
inductive Ob where
 | int (i:Int)
 | oth
 | tup (os:List Ob)
def OthAt (H:Hp)(v:V):Prop:=v= .non\/(∃ b,v= .bl b)\/(∃ x,v= .str x)\/∃ a,v= .ref a/\((∃ xs,H a=some (.lst xs))\/∃ kvs,H a=some (.dK kvs))
mutual
def At (H:Hp):Ob->V->Prop
 | .int i,v=>v= .int i
 | .oth,v=>OthAt H v
 | .tup os,v=>∃ a vs,v= .ref a/\H a=some (.tup vs)/\vs.length<=100/\Ats H os vs
def Ats (H:Hp):List Ob->List V->Prop
 | [],vs=>vs=[]
 | o::os,vs=>∃ v r,vs=v::r/\At H o v/\Ats H os r
end
structure Kp (H H':Hp):Prop where
 t:Tups H H'
 l:∀ a xs,H a=some (.lst xs)->∃ ys,H' a=some (.lst ys)
 d:∀ a xs,H a=some (.dK xs)->∃ ys,H' a=some (.dK ys)
theorem Kp.of {H H':Hp}(e:Ext H H'):Kp H H':=⟨fun b xs h=>e b _ h,fun a xs h=>⟨xs,e a _ h⟩,fun a xs h=>⟨xs,e a _ h⟩⟩
theorem OthAt.mono {H H':Hp}(k:Kp H H'){v:V}(h:OthAt H v):OthAt H' v:=by
 rcases h with h | h | h | ⟨a,rfl,⟨xs,h⟩ | ⟨xs,h⟩⟩
 ·exact .inl h
 ·exact .inr (.inl h)
 ·exact .inr (.inr (.inl h))
 ·exact .inr (.inr (.inr ⟨a,rfl, .inl (k.l _ _ h)⟩))
 ·exact .inr (.inr (.inr ⟨a,rfl, .inr (k.d _ _ h)⟩))
mutual
theorem At.mono {H H':Hp}(k:Kp H H'):∀ (o:Ob) (v:V),At H o v->At H' o v
 | .int _,_,h=>h
 | .oth,_,h=>OthAt.mono k h
 | .tup os,_,⟨a,vs,e,h,n,r⟩=>⟨a,vs,e,k.t _ _ h,n,Ats.mono k os vs r⟩
theorem Ats.mono {H H':Hp}(k:Kp H H'):∀ (os:List Ob) (vs:List V),Ats H os vs->Ats H' os vs
 | [],_,h=>h
 | o::os,_,⟨v,r,e,h,t⟩=>⟨v,r,e,At.mono k o v h,Ats.mono k os r t⟩
end
theorem At.ext {H H':Hp}(e:Ext H H'){o:Ob}{v:V}(h:At H o v):At H' o v:=At.mono (.of e) o v h
theorem Ats.len {H:Hp} :∀ {os:List Ob}{vs:List V},Ats H os vs->vs.length=os.length
 | [],_,h=>by cases (show _=[] from h); rfl
 | o::os,_,⟨v,r,e,h,t⟩=>by rw[e,aW,aW,Ats.len t]
theorem Ats.get {H:Hp} :∀ {os:List Ob}{vs:List V},Ats H os vs->∀ {i:Nat}{v:V},vs[i]?=some v->∃ o,os[i]?=some o/\At H o v
 | [],_,h,i,v,e=>by cases (show _=[] from h); cases e
 | o::os,_,⟨v,r,e,h,t⟩,0,v',e'=>by subst e; cases e'; exact⟨o,rfl,h⟩
 | o::os,_,⟨v,r,e,h,t⟩,i+1,v',e'=>by subst e; exact Ats.get t (i:=i) e'
theorem Ats.ints {H:Hp} :∀ (l:List Int),Ats H (l.map Ob.int) (l.map V.int)
 | []=>rfl
 | i::r=>⟨.int i,_,rfl,rfl,Ats.ints r⟩
def isInt:Ob->Bool
 | .int _=>true
 | _=>false
def isTup:Ob->Bool
 | .tup _=>true
 | _=>false
def upB (lo hi:Int):Ob->Bool
 | .int i=>decide (lo<=i)&&decide (i<=hi)
 | _=>false
def val:Ob->Int
 | .int i=>i
 | _=>0
def adj (is:List Int):List Bool:=(List.range (is.length - 1)).map fun k=>decide (is.getD k 0<is.getD (k+1) 0)
noncomputable def risB:Ob->Bool
 | .tup os=>os.all isInt&&(adj (os.map val)).all id
 | _=>false
noncomputable def lotB (w:Int):Ob->Bool
 | .tup os=>os.all (upB 0 (w - 1))&&(adj (os.map val)).all id
 | _=>false
def lotB' (w:Int)(o:Ob):Bool:=risB o&&match o with
 | .tup os=>decide (os=[]) || (decide (0<=(os.map val).getD 0 0)&&decide ((os.map val).getLastD 0<w))
 | _=>false
theorem jQ7 {is:List Int}(h:(adj is).all id=true){k:Nat}(hk:k+1<is.length):is.getD k 0<is.getD (k+1) 0:=by
 rw[bj] at h
 exact aL (h _ (bF.mpr ⟨k,bo.mpr (by omega),rfl⟩))
theorem jLO {is:List Int}(h:(adj is).all id=true):∀ (j k:Nat),j<=k->k<is.length->is.getD j 0<=is.getD k 0
 | j,0,h1,_=>by
  have:j=0:=by omega
  subst this
  exact cH _
 | j,k+1,h1,h2=>by
  rcases iB k j with q | q
  ·have:j=k+1:=by omega
   subst this
   exact cH _
  ·have a:=jLO h j k q (by omega)
   have b:=jQ7 h h2
   omega
theorem jRC (w:Int)(o:Ob):lotB' w o=lotB w o:=by
 cases o with
 | int i=>rfl
 | oth=>rfl
 | tup os=>
  rw[bB]
  unfold lotB' risB lotB
  simp only [bC,gO,gk]
  constructor
  ·rintro ⟨⟨a,b⟩,c⟩
   refine⟨?_,b⟩
   rw[bj] at a ⊢
   intro x hx
   obtain⟨j,hj,rfl⟩:=dk hx
   have hi:=a _ hx
   have e:os≠ []:=fun e=>by subst e; cases hx
   obtain⟨c1,c2⟩:=c.resolve_left e
   have hl:(os.map val).length=os.length:=ae _
   have g:(os.map val).getD j 0=val os[j]:=by
    rw[aB,aU]
    simp [hj]
   have l1:=jLO b 0 j (by omega) (by omega)
   have l2:=jLO b j (os.length - 1) (by omega) (by omega)
   have l3:(os.map val).getLastD 0=(os.map val).getD (os.length - 1) 0:=by
    rw[dP,cC,aB,hl]
   rw[g] at l1 l2
   rw[l3] at c2
   cases e2:os[j] with
   | int i=>
    rw[e2] at l1 l2
    simp only [val] at l1 l2
    simp only [upB,bC,gk]
    omega
   | oth=>rw[e2] at hi; cases hi
   | tup r=>rw[e2] at hi; cases hi
  ·rintro ⟨a,b⟩
   rw[bj] at a
   refine⟨⟨?_,b⟩,?_⟩
   ·rw[bj]
    intro x hx
    have:=a x hx
    cases x with
    | int i=>rfl
    | oth=>cases this
    | tup r=>cases this
   ·by_cases e:os=[]
    ·exact .inl e
    ·refine .inr ?_
     have key:∀ j,j<os.length->0<=(os.map val).getD j 0/\(os.map val).getD j 0<w:=fun j hj=>by
      have g:(os.map val).getD j 0=val os[j]:=by
       rw[aB,aU]
       simp [hj]
      have:=a os[j] (cQ hj)
      rw[g]
      cases e2:os[j] with
      | int i=>
       rw[e2] at this
       simp only [upB,bC,gk] at this
       simp only [val]
       omega
      | oth=>rw[e2] at this; cases this
      | tup r=>rw[e2] at this; cases this
     have hpos:0<os.length:=by
      cases os with
      | nil=>exact absurd rfl e
      | cons _ _=>simp
     have l3:(os.map val).getLastD 0=(os.map val).getD (os.length - 1) 0:=by
      rw[dP,cC,aB,ae]
     rw[l3]
     exact⟨(key 0 hpos).1,(key (os.length - 1) (by omega)).2⟩
theorem Ats.allInt {H:Hp} :∀ {os:List Ob}{vs:List V},Ats H os vs->os.all isInt=true->vs=(os.map val).map V.int
 | [],_,h,_=>by cases (show _=[] from h); rfl
 | o::os,_,⟨v,r,e,h,t⟩,ha=>by
  rw[gn,bC] at ha
  subst e
  rw[be,be,<- Ats.allInt t ha.2]
  cases o with
  | int i=>cases (show v= .int i from h); rfl
  | oth=>cases ha.1
  | tup _=>cases ha.1
theorem jRW (l:List Ob)(F:Ob->Bool):(l.map F).all id=l.all F:=by
 rw[List.all_map]
 rfl
theorem jLN (is:List Int):(adj is).length=is.length - 1:=by
 unfold adj
 rw[ae,bE]
theorem jRX {is:List Int}{k:Nat}(h:k<is.length - 1):(adj is)[k]?=some (decide (is.getD k 0<is.getD (k+1) 0)):=by
 unfold adj
 rw[aU,dR h]
 rfl
theorem jI9 {is:List Int}{k:Nat}(h:k<is.length - 1):(adj is).take (k+1)=(adj is).take k++[decide (is.getD k 0<is.getD (k+1) 0)]:=by
 rw[bh,jRX h]
 rfl
theorem getI {is:List Int}{k:Nat}(h:k<is.length):(is.map V.int)[k]?=some (.int (is.getD k 0)):=by
 rw[aU,aB]
 simp [h]
theorem At.ty (K:W.Frag){H:Hp}{o:Ob}{v:V}(h:At H o v):∃ t,TyOf K H v t/\kitOne K t (.type "tuple")=some (isTup o)/\∃ b1 b2,kitOne K t (.type "int")=some b1/\kitOne K t (.type "bool")=some b2/\(b1&&!b2)=isInt o:=by
 cases o with
 | int i=>
  cases (show v= .int i from h)
  exact⟨_, .int i,rfl,true,false,rfl,rfl,rfl⟩
 | oth=>
  rcases (show OthAt H v from h) with rfl | ⟨b,rfl⟩ | ⟨x,rfl⟩ | ⟨a,rfl,⟨xs,e⟩ | ⟨xs,e⟩⟩
  ·exact⟨_, .non,rfl,false,false,rfl,rfl,rfl⟩
  ·exact⟨_, .bl b,rfl,true,true,rfl,rfl,rfl⟩
  ·exact⟨_, .str x,rfl,false,false,rfl,rfl,rfl⟩
  ·exact⟨_, .lst e,rfl,false,false,rfl,rfl,rfl⟩
  ·exact⟨_, .dK e,rfl,false,false,rfl,rfl,rfl⟩
 | tup os=>
  obtain⟨a,vs,rfl,e,_⟩:=h
  exact⟨_, .tup e,rfl,false,false,rfl,rfl,rfl⟩
theorem At.tupOf {H:Hp}{o:Ob}{v:V}(h:At H o v)(t:isTup o=true):∃ os a vs,o= .tup os/\v= .ref a/\H a=some (.tup vs)/\vs.length<=100/\Ats H os vs:=by
 cases o with
 | int i=>cases t
 | oth=>cases t
 | tup os=>
  obtain⟨a,vs,e1,e2,e4,e3⟩:=h
  exact⟨os,a,vs,rfl,e1,e2,e4,e3⟩
theorem jL6 {K:W.Frag}{m:List (Option Nat)}{g:TG}{tt:TT}{te:TE}{σ:St}{H1:Hp}{Q:VK}{a:Addr}{xs:List V}{os:List Ob}{F:Ob->Bool}(ha:H1 a=some (.tup xs))(hx:Ats H1 os xs)(hn:xs.length<sizeLine)(σP:St->Prop)(h0:σP (blkσ m σ))
  (step:∀ (σ':St) (H':Hp) (v:V) (o:Ob) (R:St->V->Hp->Prop) (S:St->Hp->Prop),σP σ'->Ext H1 H'->At H' o v->(∀ σ2 H'',σP σ2->Ext H' H''->R σ2 (.bl (F o)) H'')->g v σ' H' fun σ2 H2=>tt σ2 H2 fun b H3=>if b=true then te σ2 H3 (R σ2) else S σ2 H3)
  (hd:∀ D H',Ext H1 H'->H' D=some (.lst ((os.map F).map V.bl))->Q (.ref D) H'):qG m g tt te σ Q (Itt K a) H1:=by
 have hl:=hx.len
 refine jF3 (xs:=xs) hn (fun D i σ' H' zs=>σP σ'/\Ext H1 H'/\H' D=some (.lst zs)/\H1 D=none/\zs=((os.take i).map F).map V.bl) ?_ ?_ ?_ ?_
 ·intro D hD
  exact⟨h0,(Ext.refl _).new hD _,j5,hD,rfl⟩
 ·rintro D i σ' H' zs hD ⟨_,e,h2,_,rfl⟩
  refine⟨e _ _ ha,h2,?_⟩
  rw[ae,ae,aV]
  omega
 ·rintro D i σ' H' zs x hD hi ⟨p,e,h2,hn,rfl⟩
  obtain⟨o,ho,hAt⟩:=hx.get hi
  refine step σ' H' x o _ _ p e (hAt.ext e) fun σ2 H'' p2 e2=>⟨e2 _ _ h2,p2,(e.trans e2).updNew hn _,j5,hn,?_⟩
  have:os.take (i+1)=os.take i++[o]:=by
   rw[bh,ho]
   rfl
  rw[this,aN,aN]
  rfl
 ·rintro D σ' H' zs hD ⟨_,e,h2,_,rfl⟩
  rw[hl,bR] at h2
  exact hd D H' e h2
section
variable {P:Program}{w:World}{K:W.Frag}{mg:Str->Option Value}{base:Heap}
noncomputable abbrev XOf (N:List Str)(q:Str)(st:Stmt)(P:Program)(w:World)(K:W.Frag)(mg:Str->Option Value)(base:Heap)(f:Addr)(cdv:Value)(A:Around)(outer:List Env)(s:Shared)(H:Hp)(E:XK):Cx:=(cxOf CX0 P w K mg base N q (j7 st) f cdv A outer s H E).nox
variable {f fW fR:Addr}{fdW fdR:FuncData}{cdv:Value}{A:Around}{outer:List Env}{s:Shared}{H0:Hp}{E:XK}
abbrev jK7:List Str:=["thing"]
theorem scWhole0:FnScope jK7 ["thing"] (j7 jAN):=⟨rfl,rfl,rfl,by decide+kernel,rfl,by decide+kernel,by decide+kernel⟩
def spWh:Sp:=fun vs H Q _=>∃ v o,vs=[v]/\At H o v/\Q (.bl (isInt o)) H
def jO6 (T:Txt mg): { t:TS // JSs (XOf jK7 "is_whole" jAN P w K mg base f cdv A outer s H0 E) (jB jAN) t} :=
 have nd:=scWhole0.nd
 ⟨_,(jC (jH ((jBA (jD jI gD T.isinstance (by decide+kernel) (j3 (jv 0 rfl vL) (j3 (kO (v:= .ty "int") gD T.int (by decide+kernel) rfl) j6 j4) j4) j4) (yW (jNU (jD jI gD T.isinstance (by decide+kernel) (j3 (jv 0 rfl vL) (j3 (kO (v:= .ty "bool") gD T.bool (by decide+kernel) rfl) j6 j4) j4) j4)))))))⟩
theorem jK2 {fd:FuncData}(F:Fun K "is_whole" "is_whole" jAN f fd)(T:Txt mg):FnOk P w K mg base CX0 1 f fd ["thing"] spWh:=by
 refine F.ok scWhole0 (fun vs H Q E h=>?_) (fun cdv A outer s H vs Q E hr h=>?_)
 ·obtain⟨_,_,rfl,_⟩:=h
  rfl
 ·obtain⟨v,o,rfl,hA,q⟩:=h
  obtain⟨t,ty,_,b1,b2,k1,k2,e⟩:=hA.ty K
  refine⟨_,(jO6 T).2.h,?_⟩
  refine⟨_,rfl,_,_,_,b1,rfl,ty,k1,b1,rfl,?_⟩
  rw[<- e] at q
  cases b1 with
  | true=>exact iteT ⟨_,rfl,_,_,_,b2,rfl,ty,k2,b2,rfl,q⟩
  | false=>exact iteF q
abbrev jDD:List Str:=["thing"]
theorem scRising:FnScope jDD ["thing"] (j7 yH):=⟨rfl,rfl,rfl,by decide+kernel,rfl,by decide+kernel,by decide+kernel⟩
def spB (F:Ob->Bool):Sp:=fun vs H Q _=>∃ v o,vs=[v]/\At H o v/\∀ H',Ext H H'->Q (.bl (F o)) H'
def jOB (T:Txt mg)(CW:Can P w K mg base "is_whole" 1 fW fdW ["thing"] spWh)(hr:Room 1 (XOf jDD "is_rising" yH P w K mg base f cdv A outer s H0 E).A): { t:TS // JSs (XOf jDD "is_rising" yH P w K mg base f cdv A outer s H0 E) (jB yH) t} :=
 have nd:=scRising.nd
 ⟨_,(jA (kU (yF (y6 (jD jI gD T.isinstance (by decide+kernel) (j3 (jv 0 rfl vC) (j3 (kO (v:= .ty "tuple") gD T.tuple (by decide+kernel) rfl) j6 j4) j4) j4) kN)) (jC (jH (je_bl))) jQ)
   (jA (kU (yF (y6 (jD (jA8 rfl) gD T.all (by decide+kernel) (j3 (kW (m:=[none]) (Nc:=["number"]) rfl (jCN (jv 0 rfl vC)) rfl (by decide+kernel) (by decide+kernel) (kP (psc:=j7 yH) (by decide+kernel)) (jP (N:=jDD) rfl rfl (by decide+kernel)) (fun cl C fp s H=>kI (i:=0) (show (["number"]:List Str).Nodup by decide+kernel) rfl (yV (by decide+kernel))) (fun cl C fp s H=>yB) (fun cl C fp s H=>(CW.je hr (gl_b (by decide+kernel)) (j3 (jv 0 rfl (kE (by decide+kernel))) j6 j4) j4)) jAF) j6 jK) jK) kN)) (jC (jH (je_bl))) jQ)
   (jC (jH (jD (jA8 rfl) gD T.all (by decide+kernel) (j3 (kW (m:=[none,some 0]) (Nc:=["k","thing"]) rfl (jKI gD T.range (j3 (je_int) (j3 (jD jO gD T.len (by decide+kernel) (j3 (jv 0 rfl vC) j6 j4) j4) j6 jF) jL) jL jF) rfl (by decide+kernel) (by decide+kernel) (kP (psc:=j7 yH) (by decide+kernel)) (jP (N:=jDD) rfl rfl (by decide+kernel)) (fun cl C fp s H=>kI (i:=0) (show (["k","thing"]:List Str).Nodup by decide+kernel) rfl (yV (by decide+kernel))) (fun cl C fp s H=>yB) (fun cl C fp s H=>(yC op_lt (jZ jBS (jv 1 rfl (yL (by decide+kernel))) (kY jCK (jv 0 rfl (kE (by decide+kernel))) (je_int)) jJQ) (jZ jBS (jv 1 rfl (yL (by decide+kernel))) (jv 0 rfl (kE (by decide+kernel))) jD7) (jN _))) y8) j6 jK) jK)))))⟩
theorem jK3 {fd:FuncData}(F:Fun K "is_rising" "is_rising" yH f fd)(T:Txt mg)(CW:Can P w K mg base "is_whole" 1 fW fdW ["thing"] spWh):FnOk P w K mg base CX0 2 f fd ["thing"] (spB risB):=by
 refine F.ok scRising (fun vs H Q E h=>?_) (fun cdv A outer s H vs Q E hr h=>?_)
 ·obtain⟨_,_,rfl,_⟩:=h
  rfl
 ·obtain⟨v,o,rfl,hA,q⟩:=h
  obtain⟨t,ty,kt,_⟩:=hA.ty K
  refine⟨_,(jOB T CW hr).2.h,?_⟩
  refine⟨_,rfl,_,_,_,_,rfl,ty,kt,_,rfl,?_⟩
  cases ht:isTup o with
  | false=>
   refine iteT ?_
   have:risB o=false:=by cases o <;> first | rfl | cases ht
   rw[<- this]
   exact q H (Ext.refl H)
  | true=>
   refine iteF ?_
   obtain⟨os,a,vs,rfl,rfl,ha,h100,hx⟩:=hA.tupOf ht
   have hl:=hx.len
   have hn:vs.length<sizeLine:=by rw[aE]; omega
   ·refine⟨_,rfl,a,rfl,⟨_,SqT.of ha⟩,jL6 (F:=isInt) ha hx hn (fun σ'=>∃ v,σ'=[v]) ⟨_,rfl⟩ ?_ ?_⟩
    ·rintro σ' H' v o R S ⟨u,rfl⟩ e hA k
     dsimp only [yA,yP]
     rw[am rfl]
     exact⟨_,rfl,v,o,rfl,hA,k _ H' ⟨_,rfl⟩ (Ext.refl _)⟩
    ·intro D H1 e1 hD
     refine⟨D,_,rfl,SqL.of hD,_,rfl,?_⟩
     rw[jRW]
     cases hi:os.all isInt with
     | false=>
      refine iteT ?_
      have:risB (.tup os)=false:=by
       show (os.all isInt&&_)=false
       rw[hi]
       rfl
      rw[<- this]
      exact q H1 e1
     | true=>
      refine iteF ?_
      have hv:=hx.allInt hi
      have hN:(os.map val).length=os.length:=ae _
      refine⟨_,rfl,a,_,rfl, .inr (SqT.of (e1 _ _ ha)),1,_,rfl,⟨by decide,by decide,by omega,by rw[aE] at hn; omega⟩,jB1 (n:=((vs.length:Int) - 1).toNat) (by omega) (fun D i σ' H' zs=>(∃ v,σ'=[v,some (.ref a)])/\zs=((adj (os.map val)).take i).map V.bl/\H'=upd H1 D (.lst zs)) ?_ ?_ ?_ ?_⟩
      ·intro D hD
       exact⟨⟨_,rfl⟩,rfl,rfl⟩
      ·rintro D i σ' H' zs hD hi2 ⟨_,rfl,rfl⟩
       refine⟨j5,?_⟩
       rw[ae,aV]
       omega
      ·rintro D i σ' H' zs hD hi2 ⟨⟨v,rfl⟩,rfl,rfl⟩
       have hi3:i<(os.map val).length - 1:=by omega
       have ha':(upd H1 D (.lst (((adj (os.map val)).take i).map V.bl))) a=some (.tup ((os.map val).map V.int)):=by
        rw[j8 (j9 (e1 _ _ ha) hD),e1 _ _ ha,hv]
       dsimp only [yA,yP]
       rw[am rfl]
       have e0:(1+(i:Int)) - 1=(i:Int):=by omega
       have e2:(1+(i:Int))=((i+1:Nat):Int):=by omega
       refine⟨_,rfl,_,rfl,_,_,rfl,rfl,a,_,_,_,rfl,rfl,SqT.of ha',by rw[e0]; exact jBG (getI (by omega)),_,rfl,_,rfl,a,_,_,_,rfl,rfl,SqT.of ha',by rw[e2]; exact jBG (getI (by omega)),_,_,rfl,rfl,j5,⟨_,rfl⟩,?_,jBZ⟩
       rw[jI9 hi3,aN]
       rfl
      ·rintro D2 σ' H' zs hD2 ⟨_,rfl,rfl⟩
       have hlen:((vs.length:Int) - 1).toNat=(adj (os.map val)).length:=by rw[jLN]; omega
       rw[hlen,bR]
       refine⟨D2,_,rfl,SqL.of j5,?_⟩
       have:(adj (os.map val)).all id=risB (.tup os):=by
        show _=(os.all isInt&&(adj (os.map val)).all id)
        rw[hi,ie]
       rw[this]
       exact q _ (e1.new hD2 _)
end
end Eo
end
section
namespace L2
open PySem
theorem px_un {op:UnaryOp}{a:Expr}{pos:Pos} :jAP (.UnaryOp op a pos):=fun _ _=>rfl
theorem jH7 {α:Type}{xs:List α}{v:α}(h:xs[xs.length - 1]?=some v):atI xs (-1)=some v:=by
 have hj:xs.length - 1<xs.length:=(ah.mp h).1
 have e:ixN xs.length (-1)=some (xs.length - 1):=by
  unfold ixN
  rw[ak (by omega),am (by omega)]
  congr 1
  omega
 unfold atI
 rw[e]
 exact h
theorem qb {Q:VK}{H:Hp}{a b:Bool}(q:Q (.bl a) H)(e:a=b):Q (.bl b) H:=e ▸ q
end L2
namespace Eo
open PySem L2
section
variable {P:Program}{w:World}{K:W.Frag}{mg:Str->Option Value}{base:Heap}
variable {f fW fR fL fG fI fPs:Addr}{fdW fdR fdL fdG fdI fdPs:FuncData}{cdv:Value}{A:Around}{outer:List Env}{s:Shared}{H0:Hp}{E:XK}
abbrev jKA:List Str:=["thing","many"]
theorem scIsLot:FnScope jKA ["thing","many"] (j7 jB6):=⟨rfl,rfl,rfl,by decide+kernel,rfl,by decide+kernel,by decide+kernel⟩
def spB2 (F:Int->Ob->Bool):Sp:=fun vs H Q _=>∃ v o w,vs=[v, .int w]/\At H o v/\∀ H',Ext H H'->Q (.bl (F w o)) H'
def jRO (T:Txt mg)(CR:Can P w K mg base "is_rising" 2 fR fdR ["thing"] (spB risB))(hr:Room 2 (XOf jKA "is_lot" jB6 P w K mg base f cdv A outer s H0 E).A): { t:TS // JSs (XOf jKA "is_lot" jB6 P w K mg base f cdv A outer s H0 E) (jB jB6) t} :=
 have nd:=scIsLot.nd
 ⟨_,(jA (kU (yF (y6 (CR.je hr gD (j3 (jv 0 rfl vL) j6 j4) j4) kN)) (jC (jH (je_bl))) jQ)
   (jC (jH ((je_or (yC yQ (jD jO gD T.len (by decide+kernel) (j3 (jv 0 rfl vL) j6 j4) j4) (je_int) (jN _)) (yW ((jBA (yC op_ge (jZ jY (jv 0 rfl vL) (je_int) jJ) (je_int) (jN _)) (yW (yC op_lt (jZ jY (jv 0 rfl vL) (je_un jDW (je_int)) px_un) (jv 1 rfl vL) (jN _)))))))))))⟩
theorem jMA {fd:FuncData}(F:Fun K "is_lot" "is_lot" jB6 f fd)(T:Txt mg)(CR:Can P w K mg base "is_rising" 2 fR fdR ["thing"] (spB risB)):FnOk P w K mg base CX0 3 f fd ["thing","many"] (spB2 lotB):=by
 refine F.ok scIsLot (fun vs H Q E h=>?_) (fun cdv A outer s H vs Q E hr h=>?_)
 ·obtain⟨_,_,_,rfl,_⟩:=h
  rfl
 ·obtain⟨v,o,w,rfl,hA,q⟩:=h
  refine⟨_,(jRO T CR hr).2.h,?_⟩
  refine⟨_,rfl,v,o,rfl,hA,fun H1 e1=>⟨_,rfl,?_⟩⟩
  have eq:=jRC w o
  cases hR:risB o with
  | false=>
   refine iteT (qb (q H1 e1) ?_)
   rw[<- eq]
   unfold lotB'
   rw[hR]
   rfl
  | true=>
   refine iteF ?_
   have ht:isTup o=true:=by cases o <;> first | rfl | cases hR
   obtain⟨os,a,vs,rfl,rfl,ha,h100,hx⟩:=hA.tupOf ht
   have hl:=hx.len
   have hi:os.all isInt=true:=by
    have:(os.all isInt&&(adj (os.map val)).all id)=true:=hR
    rw[bC] at this
    exact this.1
   have hv:=hx.allInt hi
   have ha1:=e1 _ _ ha
   refine⟨_,rfl,a,_,rfl, .inr (SqT.of ha1),rfl,_,rfl,ite2 (fun hy=>?_) (fun hy=>?_)⟩
   ·have h0:=V.int.inj (aL hy)
    have e0:os=[]:=d0.mp (by omega)
    refine qb (q H1 e1) ?_
    rw[<- eq]
    unfold lotB'
    rw[hR]
    simp [e0]
   ·have h0:0<vs.length:=Nat.pos_of_ne_zero fun h=>hy (ax (by rw[h]; rfl))
    have hml:(os.map val).length=vs.length:=by rw[ae,hl]
    refine⟨_,rfl,a,_,0, .int ((os.map val).getD 0 0),rfl,rfl,SqT.of ha1,?_,_,_,rfl,rfl,_,rfl,ite2 (fun hz=>?_) (fun hz=>?_)⟩
    ·rw[hv]
     exact jBG (j:=0) (getI (by omega))
    ·refine⟨_,rfl,_,rfl,a,_,_, .int ((os.map val).getLastD 0),rfl,rfl,SqT.of ha1,?_,_,rfl,_,_,rfl,rfl,qb (q H1 e1) ?_⟩
     ·show atI vs (-1)=_
      refine jH7 ?_
      rw[hv,ae,getI (by omega),dP,cC,aB]
     ·rw[<- eq]
      unfold lotB'
      rw[hR]
      have e0:¬ os=[]:=fun e=>by rw[e] at hl; have:vs.length=0:=hl; omega
      have hz:=aL hz
      simp [e0]
      intro hh
      simpa using hz
    ·refine qb (q H1 e1) ?_
     rw[<- eq]
     unfold lotB'
     rw[hR]
     have e0:¬ os=[]:=fun e=>by rw[e] at hl; have:vs.length=0:=hl; omega
     have hz:¬ (0<=(os.map val).getD 0 0):=fun h=>hz (ax h)
     simp only [e0,decide_false,Bool.false_or,ie,aP hz,dF]
end
end Eo
end
section
namespace L2
open PySem
section
variable {P:Program}{w:World}{K:W.Frag}{mg:Str->Option Value}{base:Heap}{N:List Str}{qual:Str}{sc:Scope}{f:Addr}{cdv:Value}{A:Around}{outer:List Env}{s:Shared}{H:Hp}{E:XK}{x y z:Str}{p1 p2 p3 pos:Pos}{k i j l:Nat}
theorem jBR (hN:N.Nodup)(hi:N[i]?=some x)(hj:N[j]?=some y)(hx:sc.names.lookup x=some .local)(hy:sc.names.lookup y=some .local):
  JG (cxOf CX0 P w K mg base N qual sc f cdv A outer s H E).nox (.Tuple [.Name x p1, .Name y p2] k pos) (gTup K 2 (gCons (yA i) (gCons (yA j) gNil))):=
 jNT (X:=(cxOf CX0 P w K mg base N qual sc f cdv A outer s H E).nox) rfl (jD0 (kI hN hi (loc_l hx)) (jD0 (kI hN hj (loc_l hy)) jKJ jF7) jF7)
end
end L2
namespace L2
open PySem
section
variable {K:W.Frag}{m:List (Option Nat)}{g:TG}{tt:TT}{te:TE}{σ:St}{H1:Hp}{Q:VK}
end
end L2
namespace Eo
open PySem L2
theorem jKV {α:Type}{l:List α}{i:Nat}{d:α}(h:i<l.length):l.getD i d=l[i]:=by
 rw[aB,ar h]
 rfl
theorem jAT (l:List Int):(l.map V.int).all flatV=true:=by
 rw[bj]
 intro x hx
 obtain⟨i,_,rfl⟩:=bF.mp hx
 rfl
theorem jBT (i:Int)(l:List Int):inV (.int i) (l.map V.int)=decide (i∈l):=by
 unfold inV
 rw[bB,eU,bb]
 constructor
 ·rintro ⟨x,hx,e⟩
  obtain⟨j,hj,rfl⟩:=bF.mp hx
  have:j=i:=eq_of_beq e
  rw[<- this]
  exact hj
 ·intro h
  exact⟨.int i,bF.mpr ⟨i,h,rfl⟩,by simp [eqV]⟩
theorem jGL:∀ (ts:List Int) (lo w:Int),ts.Pairwise (· < ·)->(∀ z∈ts,lo<=z/\z<w)->(ts.length:Int)<=max (w - lo) 0
 | [],lo,w,_,_=>by show (0:Int)<=_; omega
 | a::r,lo,w,hp,hb=>by
  have h1:=hb a aJ
  have hp':=cg.mp hp
  have:=jGL r (a+1) w hp'.2 fun z hz=>⟨by have:=hp'.1 z hz; omega,(hb z (aK _ hz)).2⟩
  rw[aW]
  omega
def jE (pcs:List (List Int×Int))(k:Int):List Int:=(pcs.getD k.toNat ([],0)).1
theorem Good.at {mt mp w:Int}{ms:List Int}{pcs:List (List Int×Int)}(g:Good mt mp w ms pcs){k:Nat}(hk:k<pcs.length):GoodPc w (pcs.getD k ([],0)):=by
 have e:pcs.getD k ([],0)=pcs[k]:=by simp [List.getD,hk]
 rw[e]
 exact g.pg _ (cQ hk)
theorem jJ6 {n i:Nat}(h:i<n):(upto n).take (i+1)=(upto n).take i++[(i:Int)]:=by
 unfold upto
 rw[<- ic,<- ic,List.take_range,List.take_range,show min (i+1) n=i+1 by omega,show min i n=i by omega,fm,aN]
 rfl
theorem jCV (n:Nat):(upto n).length=n:=by
 unfold upto
 rw[ae,bE]
theorem jED {n i:Nat}(h:i<n):(upto n)[i]?=some (i:Int):=by
 unfold upto
 rw[aU,dR h]
 rfl
theorem jRV {H:Hp}{a:Addr}{vs:List V}{os:List Ob}(h:H a=some (.tup vs))(n:vs.length<=100)(r:Ats H os vs):At H (.tup os) (.ref a):=⟨a,vs,rfl,h,n,r⟩
theorem iteT' {A B:Prop}{c:Bool}(hc:c=true)(h:A):if c=true then A else B:=by
 rw[am hc]
 exact h
theorem _root_.L2.Ext.tups {H H':Hp}(e:Ext H H'):Tups H H':=fun b xs h=>e b _ h
theorem PcsAt.at {H:Hp} :∀ {vs:List V}{ps:List (List Int×Int)},PcsAt H vs ps->∀ {i:Nat}{v:V},vs[i]?=some v->∃ pc,ps[i]?=some pc/\PcAt H v pc
 | [],[],_,i,v,e=>by cases e
 | x::vs,p::ps,h,0,v,e=>by cases e; exact⟨p,rfl,h.1⟩
 | x::vs,p::ps,h,i+1,v,e=>PcsAt.at h.2 (i:=i) e
 | [],_::_,h,_,_,_=>h.elim
 | _::_,[],h,_,_,_=>h.elim
theorem Good.wide {mt mp w mt' mp':Int}{ms:List Int}{pcs:List (List Int×Int)}(g:Good mt mp w ms pcs)(h1:mt<=mt')(h2:mp<=mp'):Good mt' mp' w ms pcs:=⟨g.w0,cy g.w1 h1,g.mr,cy g.pl h2,g.pg⟩
theorem jK5 (n:Nat):∀ (ds:List Int),ds.Nodup->(∀ t∈ds,0<=t/\t<(n:Int))->ds.length<=n:=by
 intro ds h1 h2
 have h3:(ds.map Int.toNat).Nodup:=by
  rw[List.Nodup,df]
  refine List.Pairwise.imp_of_mem (R:=(· ≠ ·)) (fun {a b} ha hb hne e=>hne ?_) h1
  have:=h2 a ha
  have:=h2 b hb
  omega
 have h4:(ds.map Int.toNat).length<=(List.range n).length:=h3.length_le_of_subset fun x hx=>by
  obtain⟨t,ht,rfl⟩:=bF.mp hx
  have:=h2 t ht
  exact bo.mpr (by omega)
 rw[ae,bE] at h4
 exact h4
theorem iteN {A B:Prop}{c:Bool}(hc:c=false)(h:B):if c=true then A else B:=by
 rw[hc]
 exact iteF h
abbrev leI:Int->Int->Bool:=fun a b=>decide (a<=b)
def srt (l:List Int):List Int:=l.mergeSort leI
theorem jEH (l:List Int):(srt l).Perm l:=List.mergeSort_perm _ _
theorem jND (l:List Int):(srt l).Pairwise (· <= ·):=by
 have:=List.pairwise_mergeSort (le:=leI) (fun a b c h1 h2=>ax (cy (aL h1) (aL h2))) (fun a b=>by
  rw[gO]
  rcases Int.le_total a b with h | h
  ·exact .inl (ax h)
  ·exact .inr (ax h)) l
 exact this.imp fun h=>aL h
theorem jNE {l m:List Int}(h1:m.Pairwise (· <= ·))(h2:m.Perm l):m=srt l:=
 List.Perm.eq_of_pairwise (fun a b _ _ h1 h2=>Int.le_antisymm h1 h2) h1 (jND l) (h2.trans (jEH l).symm)
section
variable {P:Program}{w:World}{K:W.Frag}{mg:Str->Option Value}{base:Heap}
variable {f fM:Addr}{fdM:FuncData}{cdv:Value}{A:Around}{outer:List Env}{s:Shared}{H0:Hp}{E:XK}
noncomputable abbrev nMask:List Str:=["lot"]
theorem scMask:FnScope nMask ["lot"] (j7 sMask):=⟨rfl,rfl,rfl,by decide+kernel,rfl,by decide+kernel,by decide+kernel⟩
def jCF:Sp:=fun vs H Q _=>∃ (q:Addr) (ts:List Int),vs=[.ref q]/\H q=some (.tup (ts.map V.int))/\(∀ t∈ts,0<=t/\t<64)/\ts.length<=64/\∀ H',Ext H H'->Q (.int ((maskN ts:Nat):Int)) H'
def maskA (T:Txt mg): { t:TS // JSs (XOf nMask "mask_of" sMask P w K mg base f cdv A outer s H0 E) (jB sMask) t} :=
 have nd:=scMask.nd
 ⟨_,(jC (jH (jD (jDQ rfl) gD T.sum (by decide+kernel) (j3 (kW (m:=[none]) (Nc:=["thing"]) rfl (jCN (jv 0 rfl vL)) rfl (by decide+kernel) (by decide+kernel) (kP (psc:=j7 sMask) (by decide+kernel)) (jP (N:=nMask) rfl rfl (by decide+kernel)) (fun cl C fp s H=>kI (i:=0) (show (["thing"]:List Str).Nodup by decide+kernel) rfl (yV (by decide+kernel))) (fun cl C fp s H=>yB) (fun cl C fp s H=>(kY jHL (je_int) (jv 0 rfl (kE (by decide+kernel))))) jAF) j6 jK) jK)))⟩
theorem jIQ (ts:List Int)(h:∀ t∈ts,0<=t):(ts.map fun t=>(1:Int)*2 ^ t.toNat).sum=((maskN ts:Nat):Int):=by
 induction ts with
 | nil=>rfl
 | cons t r ih=>
  have e:maskN (t::r)=2 ^ t.toNat+maskN r:=by simp [maskN]
  rw[be,dU,ih fun x hx=>h x (aK _ hx),e]
  push_cast
  omega
theorem jP4 {fd:FuncData}(F:Fun K "mask_of" "mask_of" sMask f fd)(T:Txt mg):FnOk P w K mg base CX0 1 f fd ["lot"] jCF:=by
 refine F.ok scMask (fun vs H Q E h=>?_) (fun cdv A outer s H vs Q E hr h=>?_)
 ·obtain⟨_,_,rfl,_⟩:=h
  rfl
 ·obtain⟨q,ts,rfl,hq,hb,hl,k⟩:=h
  refine⟨_,(maskA T).2.h,?_⟩
  refine⟨_,rfl,q,rfl,⟨_,SqT.of hq⟩,jF3 (xs:=ts.map V.int) (by rw[ae,aE]; omega) (fun D i σ' H' zs=>(∃ v,σ'=[v])/\Ext H H'/\H' D=some (.lst zs)/\H D=none/\zs=((ts.take i).map fun t=>(1:Int)*2 ^ t.toNat).map V.int) ?_ ?_ ?_ ?_⟩
  ·intro D hD
   exact⟨⟨_,rfl⟩,(Ext.refl _).new hD _,j5,hD,rfl⟩
  ·rintro D i σ' H' zs hD ⟨_,e,h2,_,rfl⟩
   refine⟨e _ _ hq,h2,?_⟩
   rw[ae,ae,aV]
   omega
  ·rintro D i σ' H' zs x hD hx ⟨⟨v,rfl⟩,e,h2,hn,rfl⟩
   obtain⟨z,hz,rfl⟩:∃ z:Int,ts[i]?=some z/\V.int z=x:=by
    rw[aU] at hx
    cases hq:ts[i]? with
    | none=>rw[hq] at hx; cases hx
    | some z=>rw[hq] at hx; cases hx; exact⟨z,rfl,rfl⟩
   have hzb:=hb z (ay hz)
   dsimp only [yA,yP]
   rw[am rfl]
   refine⟨_,rfl,_,_,rfl,rfl,⟨?_,?_,?_⟩,h2,⟨_,rfl⟩,e.updNew hn _,j5,hn,?_⟩
   ·first | omega | decide
   ·first | omega | decide
   ·first | omega | decide
   ·have:ts.take (i+1)=ts.take i++[z]:=by
     rw[bh,hz]
     rfl
    rw[this,aN,aN]
    rfl
  ·rintro D σ' H' zs hD ⟨_,e,h2,hn,rfl⟩
   refine⟨D,_,rfl,SqL.of h2,?_⟩
   rw[ae,bR,jIQ ts fun t ht=>(hb t ht).1]
   exact k H' e
end
end Eo
end
section
namespace L2
open PySem
theorem jNV {X:Cx}{a b c:Expr}{pos:Pos}{ta tb:TE}{tc:TT}(hc:JT X c tc)(ha:JE X a ta)(hb:JE X b tb):JE X (.IfExp c a b pos) (tIf tc ta tb):=⟨jM4 hc.h ha.h hb.h⟩
end L2
namespace Eo
open PySem L2
def PrAt (H:Hp)(v:V)(c:Int×Nat):Prop:=∃ q,v= .ref q/\H q=some (.tup [.int c.1, .int ((c.2:Nat):Int)])
theorem PrAt.mono {H H':Hp}(t:Tups H H'){v:V}{c:Int×Nat}(h:PrAt H v c):PrAt H' v c:=let ⟨q,e,z⟩:=h; ⟨q,e,t _ _ z⟩
def RowAt (H:Hp)(l:Addr)(cs:List (Int×Nat)):Prop:=∃ vs,H l=some (.lst vs)/\All2 (PrAt H) vs cs
structure ChAt (H:Hp)(L:Addr)(ch:Ch):Prop where
 ex:∃ ls:List Addr,H L=some (.lst (ls.map V.ref))/\ls.Nodup/\All2 (RowAt H) ls ch
theorem RowAt.keep {H H':Hp}{l:Addr}{cs:List (Int×Nat)}(h:RowAt H l cs)(k:∀ xs,H l=some (.lst xs)->H' l=some (.lst xs))(t:Tups H H'):RowAt H' l cs:=let ⟨vs,a,b⟩:=h; ⟨vs,k _ a,b.imp fun _ _=>PrAt.mono t⟩
theorem ChAt.keep {H H':Hp}{L:Addr}{ch:Ch}(h:ChAt H L ch)(k:∀ b xs,H b=some (.lst xs)->H' b=some (.lst xs))(t:Tups H H'):ChAt H' L ch:=by
 obtain⟨ls,a,b,c⟩:=h.ex
 exact⟨ls,k _ _ a,b,c.imp fun l cs r=>r.keep (k l) t⟩
theorem ChAt.ext {H H':Hp}{L:Addr}{ch:Ch}(h:ChAt H L ch)(e:Ext H H'):ChAt H' L ch:=h.keep (fun b xs z=>e _ _ z) e.tups
theorem ChAt.len {H:Hp}{L:Addr}{ch:Ch}(h:ChAt H L ch):∃ ls:List Addr,H L=some (.lst (ls.map V.ref))/\ls.length=ch.length:=by
 obtain⟨ls,a,b,c⟩:=h.ex
 exact⟨ls,a,c.len⟩
def yY (ms:List Int)(pcs:List (List Int×Int))(n t:Nat):List (Int×Nat):=
 (if (t:Int)∈ms then [(-1,2 ^ t)] else [])++(((upto pcs.length).take n).filter fun k=>decide ((jE pcs k).headD 0=(t:Int))).map fun k=>(k,maskN (jE pcs k))
def chsN (w:Nat)(ms:List Int)(pcs:List (List Int×Int))(n:Nat):Ch:=(List.range w).map (yY ms pcs n)
def chs (w:Nat)(ms:List Int)(pcs:List (List Int×Int)):Ch:=chsN w ms pcs pcs.length
theorem kX (w:Nat)(ms:List Int)(pcs:List (List Int×Int))(n:Nat):(chsN w ms pcs n).length=w:=by
 unfold chsN
 rw[ae,bE]
theorem jAB {w:Nat}{ms:List Int}{pcs:List (List Int×Int)}{n t:Nat}(h:t<w):(chsN w ms pcs n)[t]?=some (yY ms pcs n t):=by
 unfold chsN
 rw[aU,dR h]
 rfl
theorem jFR {ts:List Int}{t:Nat}(hp:ts.Pairwise (· < ·))(h0:∀ x∈ts,0<=x)(h:(t:Int)∈ts):(maskN ts).testBit t=true:=by
 rw[jAH ts t hp h0,ax h]
theorem jGU {ts:List Int}{w:Nat}(hp:ts.Pairwise (· < ·))(h0:∀ x∈ts,0<=x/\x<(w:Int)):maskN ts<2 ^ w:=by
 refine Nat.lt_pow_two_of_testBit _ fun i hi=>?_
 rw[jAH ts i hp fun x hx=>(h0 x hx).1,aP]
 intro z
 have:=(h0 _ z).2
 omega
theorem jHU {l:List Int}(h:l≠ []):l.headD 0∈l:=by
 cases l with
 | nil=>exact absurd rfl h
 | cons a r=>exact aJ ..
theorem jCP {w:Int}{ms:List Int}{pcs:List (List Int×Int)}{n:Nat}(g:Good 16 32 w ms pcs):ChOk (chsN w.toNat ms pcs n):=by
 have w0:=g.w0
 have w1:=g.w1
 have gpl:=g.pl
 refine⟨by rw[kX]; omega,fun t cs h=>?_,fun t cs h c hc=>?_⟩
 ·have ht:t<w.toNat:=by
   have:=(ah.mp h).1
   rwa [kX] at this
  rw[jAB ht] at h
  cases h
  unfold yY
  rw[az,ae]
  have:=bI (fun k=>decide ((jE pcs k).headD 0=(t:Int))) ((upto pcs.length).take n)
  have:=cN n (upto pcs.length)
  have:=jCV pcs.length
  have:((upto pcs.length).take n).length<=(upto pcs.length).length:=by rw[aV]; omega
  split <;> simp only [aW,dB] <;> omega
 ·have ht:t<w.toNat:=by
   have:=(ah.mp h).1
   rwa [kX] at this
  rw[jAB ht] at h
  cases h
  unfold yY at hc
  rw[kX]
  rcases aI.mp hc with hc | hc
  ·split at hc
   ·rw[aH] at hc
    subst hc
    exact⟨by simp [fr],g6 (by decide) ht,by show (-1:Int)<= -1; decide,by show (-1:Int)<32; decide⟩
   ·cases hc
  ·obtain⟨k,hk,rfl⟩:=bF.mp hc
   obtain⟨hk1,hk2⟩:=bP.mp hk
   have kb:=(jCU pcs.length).bnd k (bW hk1)
   have gp:=g.at (k:=k.toNat) (by omega)
   have hk2:=aL hk2
   have hne:jE pcs k≠ []:=gp.lot.ne
   have hm:(t:Int)∈jE pcs k:=by
    rw[<- hk2]
    exact jHU hne
   exact⟨jFR gp.lot.ris (fun x hx=>(gp.lot.bnd x hx).1) hm,jGU gp.lot.ris fun x hx=>⟨(gp.lot.bnd x hx).1,by have:=(gp.lot.bnd x hx).2; omega⟩,by omega,by omega⟩
section
variable {P:Program}{w:World}{K:W.Frag}{mg:Str->Option Value}{base:Heap}
variable {f fM:Addr}{fdM:FuncData}{cdv:Value}{A:Around}{outer:List Env}{s:Shared}{H0:Hp}{E:XK}
abbrev jAX:List Str:=["box","choices","number","piece"]
theorem scChoices:FnScope jAX ["box"] (j7 kT):=⟨rfl,rfl,rfl,by decide+kernel,rfl,by decide+kernel,by decide+kernel⟩
def jA4:Sp:=fun vs H Q _=>∃ (b:Addr) (w:Int) (ms:List Int) (pcs:List (List Int×Int)),vs=[.ref b]/\BoxAt H b w ms pcs/\Good 16 32 w ms pcs/\∀ r H',ChAt H' r (chs w.toNat ms pcs)->Ext H H'->Q (.ref r) H'
def jQ0 (T:Txt mg)(CM:Can P w K mg base "mask_of" 1 fM fdM ["lot"] jCF)(hr:Room 1 (XOf jAX "choices_of" kT P w K mg base f cdv A outer s H0 E).A): { t:TS // JSs (XOf jAX "choices_of" kT P w K mg base f cdv A outer s H0 E) (jB8 ((jB kT).getD 1 (.Pass ⟨0,0,0,0⟩))) t} :=
 have nd:=scChoices.nd
 ⟨_,(jC (jDH (je_bm cr dh di jAQ (jZ jAE (jv 1 rfl vL) (jZ jY (jZ jY (jv 3 rfl vL) (je_int) jJ) (je_int) jJ) jQK) (j3 (yE (j3 (jv 2 rfl vL) (j3 (CM.je hr gD (j3 (jZ jY (jv 3 rfl vL) (je_int) jJ) j6 jX) jX) j6 jF) j4)) j6 jBK) jBK) jV))⟩
def jMX (T:Txt mg)(CM:Can P w K mg base "mask_of" 1 fM fdM ["lot"] jCF)(hr:Room 1 (XOf jAX "choices_of" kT P w K mg base f cdv A outer s H0 E).A): { t:TS // JSs (XOf jAX "choices_of" kT P w K mg base f cdv A outer s H0 E) (jB kT) t} :=
 have nd:=scChoices.nd
 ⟨_,(jA (jPK (i:=1) nd rfl lL ⟨by rfl⟩ (m:=[none,some 0]) (Nc:=["thing","box"]) rfl (jAJ gD T.range (j3 (jZ jY (jv 0 rfl vC) (je_int) jJ) j6 jX) jX) rfl (by decide+kernel) (by decide+kernel) (kP (psc:=j7 kT) (by decide+kernel)) (jP (N:=jAX) rfl rfl (by decide+kernel)) (fun cl C fp s H=>kI (i:=0) (show (["thing","box"]:List Str).Nodup by decide+kernel) rfl (yV (by decide+kernel))) (fun cl C fp s H=>yB) (fun cl C fp s H=>(jNV (jT jJZ (jv 0 rfl (kE (by decide+kernel))) (jZ jBS (jv 1 rfl (yL (by decide+kernel))) (je_int) jJ) jNO) (jBE (j3 (yE (j3 (je_un jDW (je_int)) (j3 (kY jHL (je_int) (jv 0 rfl (kE (by decide+kernel)))) j6 yJ) se_un)) j6 jBK)) (jBE j6))) y8) (jA (jBQ b0 rfl (jPM gD T.enumerate (j3 (jZ jY (jv 0 rfl vC) (je_int) jJ) j6 jX) jX) (jBR (i:=2) (j:=3) nd rfl rfl (by decide+kernel) (by decide+kernel)) (jQ0 T CM hr).2 y8) (jC (jH (jv 1 rfl vL)))))⟩
noncomputable abbrev nFull:List Str:=["choices"]
theorem scFull:FnScope nFull ["choices"] (j7 sFull):=⟨rfl,rfl,rfl,by decide+kernel,rfl,by decide+kernel,by decide+kernel⟩
def jCG:Sp:=fun vs H Q _=>∃ (L:Addr) (ch:Ch),vs=[.ref L]/\ChAt H L ch/\ch.length<=16/\Q (.int ((fullN ch:Nat):Int)) H
def fullA (T:Txt mg): { t:TS // JSs (XOf nFull "full_mask" sFull P w K mg base f cdv A outer s H0 E) (jB sFull) t} :=
 have nd:=scFull.nd
 ⟨_,(jC (jH (kY jCK (kY jHL (je_int) (jD jO gD T.len (by decide+kernel) (j3 (jv 0 rfl vL) j6 j4) j4)) (je_int))))⟩
noncomputable abbrev nAt:List Str:=["choices","mask","least_lacked"]
theorem scAt:FnScope nAt ["choices","mask"] (j7 sAt):=⟨rfl,rfl,rfl,by decide+kernel,rfl,by decide+kernel,by decide+kernel⟩
def spAt:Sp:=fun vs H Q _=>∃ (L:Addr) (ch:Ch) (m:Nat),vs=[.ref L, .int (m:Int)]/\ChAt H L ch/\ChOk ch/\m<2 ^ ch.length/\m≠fullN ch/\∀ r H',RowAt H' r (chAt ch m)->Ext H H'->H r=none->Q (.ref r) H'
def atA (T:Txt mg): { t:TS // JSs (XOf nAt "choices_at" sAt P w K mg base f cdv A outer s H0 E) (jB sAt) t} :=
 have nd:=scAt.nd
 ⟨_,(jA (jS (i:=2) nd rfl lL (kY jCK (jKN gK fH fJ jKC (kY jHN (je_un jQB (jv 1 rfl vC)) (kY yK (jv 1 rfl vC) (je_int)))) (je_int)) jNB)
   (jC (jH (kW (m:=[none,some 1]) (Nc:=["choice","mask"]) rfl (jAR (jZ jAE (jv 0 rfl vL) (jv 2 rfl vL) jD7)) rfl (by decide+kernel) (by decide+kernel) (kP (psc:=j7 sAt) (by decide+kernel)) (jP (N:=nAt) rfl rfl (by decide+kernel)) (fun cl C fp s H=>kI (i:=0) (show (["choice","mask"]:List Str).Nodup by decide+kernel) rfl (yV (by decide+kernel))) (fun cl C fp s H=>jEV (jT yQ (kY jHN (jZ jBS (jv 0 rfl (kE (by decide+kernel))) (je_int) jJ) (jv 1 rfl (yL (by decide+kernel)))) (je_int) (jN _))) (fun cl C fp s H=>(jv 0 rfl (kE (by decide+kernel)))) jNY))))⟩
theorem jE5 (ms:List Int)(pcs:List (List Int×Int))(t:Nat):yY ms pcs 0 t=if (t:Int)∈ms then [(-1,2 ^ t)] else []:=by
 unfold yY
 rw[eG]
 simp
theorem jLB {w n:Nat}{ms:List Int}{pcs:List (List Int×Int)}(hn:n<pcs.length)(t:Nat)(ht:(jE pcs (n:Int)).headD 0=(t:Int)):chsN w ms pcs (n+1)=(chsN w ms pcs n).set t (yY ms pcs n t++[((n:Int),maskN (jE pcs n))]):=by
 have key:∀ u,yY ms pcs (n+1) u=yY ms pcs n u++if u=t then [((n:Int),maskN (jE pcs n))] else []:=fun u=>by
  unfold yY
  rw[jJ6 hn,bV,aN,aM]
  congr 2
  rw[dO,ht]
  by_cases hu:u=t
  ·subst hu
   rw[am (ax rfl),am rfl]
   rfl
  ·rw[ak (by rw[bb]; omega),ak hu]
   rfl
 refine List.ext_getElem? fun i=>?_
 rw[List.getElem?_set,kX]
 by_cases hi:i<w
 ·rw[jAB hi,jAB hi,key]
  by_cases h:t=i
  ·subst h
   rw[am rfl,am rfl,am hi]
  ·rw[ak h,ak (fun z=>h z.symm),aZ]
 ·rw[cE (by rw[kX]; omega),cE (by rw[kX]; omega)]
  split
  ·rw[ak (by omega)]
  ·rfl
theorem ChAt.app {H:Hp}{L:Addr}{ch:Ch}{t:Nat}{l:Addr}{ls:List Addr}{vs:List V}{cs:List (Int×Nat)}{v:V}{c:Int×Nat}(hL:H L=some (.lst (ls.map V.ref)))(nd:ls.Nodup)(al:All2 (RowAt H) ls ch)(hl:ls[t]?=some l)(hc:ch[t]?=some cs)(hv:H l=some (.lst vs))(av:All2 (PrAt H) vs cs)(pv:PrAt H v c)(ne:l≠L):
  (L2.upd H l (.lst (vs++[v]))) L=some (.lst (ls.map V.ref))/\All2 (RowAt (L2.upd H l (.lst (vs++[v])))) ls (ch.set t (cs++[c])):=by
 have tu:Tups H (L2.upd H l (.lst (vs++[v]))):=Tups.upd hv _
 refine⟨by rw[j8 ne.symm]; exact hL,?_⟩
 refine All2.of_get (by rw[List.length_set]; exact al.len) fun i a b h1 h2=>?_
 rw[List.getElem?_set] at h2
 by_cases hi:t=i
 ·subst hi
  rw[am rfl,am (ah.mp hc).1] at h2
  cases h2
  rw[hl] at h1
  cases h1
  exact⟨_,j5,(av.imp fun _ _=>PrAt.mono tu).snoc (pv.mono tu)⟩
 ·rw[ak hi] at h2
  obtain⟨b',hb',r⟩:=al.get' h1
  rw[h2] at hb'
  cases hb'
  refine r.keep (fun xs hx=>?_) tu
  rw[j8 fun z=>hi ?_]
  ·exact hx
  ·exact(List.getElem?_inj (ah.mp hl).1 nd).mp (by rw[hl,h1,z])
theorem jIN {fd:FuncData}(F:Fun K "choices_of" "choices_of" kT f fd)(T:Txt mg)(CM:Can P w K mg base "mask_of" 1 fM fdM ["lot"] jCF):FnOk P w K mg base CX0 2 f fd ["box"] jA4:=by
 refine F.ok scChoices (fun vs H Q E h=>?_) (fun cdv A outer s H vs Q E hr h=>?_)
 ·obtain⟨_,_,_,_,rfl,_⟩:=h
  rfl
 ·obtain⟨b,w,ms,pcs,rfl,hB,g,q⟩:=h
  refine⟨_,(jMX T CM hr).2.h,?_⟩
  obtain⟨qm,qp,ps,b1,b2,b3,b4⟩:=id hB.ex
  have pl:=b4.len
  have w0:=g.w0
  have w1:=g.w1
  have gpl:=g.pl
  refine⟨_,rfl,b,_,0,_,rfl,rfl,SqT.of b1,rfl,w,rfl,by omega,by omega,jB1 (n:=w.toNat) (by rw[aE]; omega) (fun D i σ' H' zs=>(∃ v,σ'=[v,some (.ref b)])/\Ext H H'/\H' D=some (.lst zs)/\H D=none/\∃ ls:List Addr,zs=ls.map V.ref/\ls.Nodup/\D∉ls/\(∀ a∈ls,H a=none)/\All2 (RowAt H') ls ((List.range i).map (yY ms pcs 0))) ?_ ?_ ?_ ?_⟩
  ·intro D hD
   exact⟨⟨_,rfl⟩,(Ext.refl _).new hD _,j5,hD,[],rfl,gU,by simp,by simp,trivial⟩
  ·rintro D i σ' H' zs hD hi ⟨_,e,h2,_,ls,rfl,_,_,_,al⟩
   refine⟨h2,?_⟩
   rw[ae,al.len,ae,bE]
   omega
  ·rintro D i σ' H' zs hD hi ⟨⟨v,rfl⟩,e,h2,hn,ls,rfl,nd,hDl,nol,al⟩
   dsimp only [yA,yP]
   rw[am rfl]
   have e0:(0+(i:Int))=(i:Int):=by omega
   have key:∀ (l:Addr) (H2:Hp),Ext H' H2->H' l=none->RowAt H2 l (yY ms pcs 0 i)->H2 D=some (.lst (ls.map V.ref))/\((∃ v,[some (V.int (i:Int)),some (.ref b)]=[v,some (.ref b)])/\Ext H (L2.upd H2 D (.lst (ls.map V.ref++[.ref l])))/\(L2.upd H2 D (.lst (ls.map V.ref++[.ref l]))) D=some (.lst (ls.map V.ref++[.ref l]))/\H D=none/\∃ ls':List Addr,ls.map V.ref++[.ref l]=ls'.map V.ref/\ls'.Nodup/\D∉ls'/\(∀ a∈ls',H a=none)/\All2 (RowAt (L2.upd H2 D (.lst (ls.map V.ref++[.ref l])))) ls' ((List.range (i+1)).map (yY ms pcs 0))):=fun l H2 e2 nl rl=>by
    have hD2:=e2 _ _ h2
    have lD:l≠D:=fun z=>by rw[z,h2] at nl; cases nl
    have tu:Tups H2 (L2.upd H2 D (.lst (ls.map V.ref++[.ref l]))):=Tups.upd hD2 _
    have kp:∀ a xs,a≠D->H2 a=some (.lst xs)->(L2.upd H2 D (.lst (ls.map V.ref++[.ref l]))) a=some (.lst xs):=fun a xs ha h=>by rw[j8 ha]; exact h
    refine⟨hD2,⟨_,rfl⟩,(e.trans e2).updNew hn _,j5,hn,ls++[l],by rw[aN]; rfl,?_,?_,?_,?_⟩
    ·rw[eD]
     refine⟨nd,by simp,fun a ha b hb z=>?_⟩
     rw[aH] at hb
     subst hb z
     obtain⟨j,hj⟩:=cn ha
     obtain⟨cs,_,vs,r,_⟩:=al.get' hj
     rw[nl] at r
     cases r
    ·rw[aI,aH]
     rintro (z | z)
     ·exact hDl z
     ·exact lD z.symm
    ·intro a ha
     rcases aI.mp ha with z | z
     ·exact nol a z
     ·rw[aH] at z
      subst z
      cases y:H a with
      | none=>rfl
      | some o=>rw[e _ _ y] at nl; cases nl
    ·rw[fm,aN]
     refine(All2.of_get al.len fun j a c h1 h2'=>?_).snoc (rl.keep (fun xs=>kp l xs lD) tu)
     obtain⟨c',hc',r⟩:=al.get' h1
     rw[h2'] at hc'
     cases hc'
     have aD:a≠D:=fun z=>hDl (z ▸ ay h1)
     exact r.keep (fun xs hx=>kp a xs aD (e2 _ _ hx)) (e2.tups.trans tu)
   refine⟨_,rfl,_,rfl,b,_,1,_,rfl,rfl,SqT.of (e _ _ b1),rfl,qm,_,rfl, .inr (SqT.of (e _ _ b2)),rfl,jAT ms,_,rfl,?_⟩
   rw[e0,jBT]
   refine ite2 (fun hz=>?_) (fun hz=>?_)
   ·have hz:=aL hz
    refine⟨_,rfl,_,rfl,_,_,rfl,rfl,⟨by omega,by omega,by decide⟩,by show (2:Nat)<=_; decide,fun r H2 d2 e2=>⟨by show (1:Nat)<=_; decide,fun l H3 d3 e3 n3=>?_⟩⟩
    have nl:H' l=none:=by
     cases z:H' l with
     | none=>rfl
     | some o=>rw[e2 _ _ z] at n3; cases n3
    refine key l H3 (e2.trans e3) nl ⟨_,d3,?_⟩
    rw[jE5,am hz]
    refine⟨⟨r,rfl,?_⟩,trivial⟩
    have:(1:Int)*2 ^ (i:Int).toNat=((2 ^ i:Nat):Int):=by
     rw[bf]
     push_cast
     omega
    rw[e3 _ _ d2]
    show some (HO.tup [V.int (-1),V.int ((1:Int)*2 ^ (i:Int).toNat)])=_
    rw[this]
   ·refine⟨by show (0:Nat)<=_; decide,fun l H3 d3 e3 n3=>?_⟩
    refine key l H3 e3 n3 ⟨_,d3,?_⟩
    rw[jE5,ak (fun z=>hz (ax z))]
    trivial
  ·rintro D σ' H1 zs hD ⟨_,e1,h2,hn,ls,rfl,nd,hDl,nol,al⟩
   refine⟨_,rfl,b,_,2,_,rfl,rfl,SqT.of (e1 _ _ b1),rfl,true,qp,rfl,⟨_,SqT.of (e1 _ _ b3)⟩,jMP (tp:=true) (xs:=ps) (fun i σ H'=>(∃ v2 v3,σ=[some (.ref b),some (.ref D),v2,v3])/\Ext H H'/\H' D=some (.lst (ls.map V.ref))/\All2 (RowAt H') ls (chsN w.toNat ms pcs i)) ⟨⟨_,_,rfl⟩,e1,h2,al⟩ (fun i σ H' ⟨_,e,_⟩=>SqT.of (e _ _ b3)) ?_ ?_⟩
   ·rintro i x t σ H' hx ht ⟨⟨v2,v3,rfl⟩,e,h3,al3⟩
    obtain⟨pc,hpc,hPc⟩:=b4.at hx
    obtain⟨pa,pq,rfl,c1,c2⟩:=id hPc
    have hi:i<pcs.length:=(ah.mp hpc).1
    have gp:=g.pg pc (ay hpc)
    have et:jE pcs (i:Int)=pc.1:=by
     unfold jE
     rw[bf,aB,hpc]
     rfl
    have lt:=jGL _ 0 w gp.lot.ris gp.lot.bnd
    have e':=e.new ht (.tup [.int (i:Int), .ref pa])
    have k':Ext H' (L2.upd H' t (.tup [.int (i:Int), .ref pa])):=(Ext.refl _).new ht _
    refine⟨t,_,rfl,SqT.of j5,rfl,_,_,rfl,_,_,rfl,rfl,?_⟩
    have h5:=k' _ _ h3
    have al5:=al3.imp fun l cs r=>r.keep (fun xs z=>k' _ _ z) k'.tups
    generalize L2.upd H' t (.tup [.int (i:Int), .ref pa])=H5 at e' h5 al5 ⊢
    obtain⟨hd,tl,hp1⟩:∃ hd tl,pc.1=hd::tl:=by
     cases z:pc.1 with
     | nil=>exact absurd z gp.lot.ne
     | cons a r=>exact⟨a,r,rfl⟩
    have hb:=gp.lot.bnd hd (by rw[hp1]; exact aJ ..)
    have hdl:(jE pcs (i:Int)).headD 0=((hd.toNat:Nat):Int):=by
     rw[et,hp1]
     show hd=_
     omega
    have hw:hd.toNat<w.toNat:=by omega
    obtain⟨l,hl,vs,hv,av⟩:=al5.get (jAB hw)
    have lne:l≠D:=fun z=>hDl (z ▸ ay hl)
    have iD:atI (ls.map V.ref) hd=some (.ref l):=by
     have:=jBG (xs:=ls.map V.ref) (j:=hd.toNat) (v:= .ref l) (by rw[aU,hl]; rfl)
     rwa [show ((hd.toNat:Nat):Int)=hd by omega] at this
    have c2':H5 pq=some (.tup (pc.1.map V.int)):=e' _ _ c2
    refine⟨_,rfl,_,rfl,pa,_,0,_,rfl,rfl,SqT.of (e' _ _ c1),rfl,pq,_,0, .int hd,rfl,rfl,SqT.of c2',by rw[hp1]; exact jBG (j:=0) rfl,D,_,_,_,rfl,rfl,SqL.of h5,iD, .inl ⟨rfl,_,SqL.of hv⟩,_,rfl,_,rfl,pa,_,0,_,rfl,rfl,SqT.of (e' _ _ c1),rfl,pq,pc.1,rfl,c2',fun x hx=>?_,by omega,fun H6 e6=>?_⟩
    ·have:=gp.lot.bnd x hx
     omega
    refine⟨by show (2:Nat)<=_; decide,fun r H7 d7 e7=>?_⟩
    have E7:=e6.trans e7
    have hv7:=E7 _ _ hv
    have vl:vs.length<=33:=by
     rw[av.len]
     exact(jCP g).len _ _ (jAB hw)
    have ap:=ChAt.app (v:= .ref r) (c:=((i:Int),maskN (jE pcs (i:Int)))) (E7 _ _ h5) nd (al5.imp fun l cs r=>r.keep (fun xs z=>E7 _ _ z) E7.tups) hl (jAB hw) hv7 (av.imp fun _ _=>PrAt.mono E7.tups) ⟨r,rfl,by rw[et]; exact d7⟩ lne
    have nH:H l=none:=by
     cases z:H l with
     | none=>rfl
     | some o=>
      exfalso
      rw[nol l (ay hl)] at z
      cases z
    refine⟨l,_,_,rfl,rfl,hv7,by rw[aE]; omega,⟨_,_,rfl⟩,?_,ap.1,?_⟩
    ·exact(e'.trans E7).updNew nH _
    ·rw[jLB hi hd.toNat hdl]
     exact ap.2
   ·rintro σ H' ⟨⟨v2,v3,rfl⟩,e,h3,al3⟩
    refine⟨_,rfl,q D H' ⟨ls,h3,nd,?_⟩ e⟩
    rw[pl] at al3
    exact al3
theorem jP8 {fd:FuncData}(F:Fun K "full_mask" "full_mask" sFull f fd)(T:Txt mg):FnOk P w K mg base CX0 1 f fd ["choices"] jCG:=by
 refine F.ok scFull (fun vs H Q E h=>?_) (fun cdv A outer s H vs Q E hr h=>?_)
 ·obtain⟨_,_,rfl,_⟩:=h
  rfl
 ·obtain⟨L,ch,rfl,hL,hw,q⟩:=h
  refine⟨_,(fullA T).2.h,?_⟩
  obtain⟨ls,h1,h2⟩:=hL.len
  refine⟨_,rfl,L,_,rfl, .inl (SqL.of h1),_,_,rfl,rfl,⟨?_,?_,?_⟩,_,_,rfl,rfl,?_⟩
  ·first | omega | decide
  ·rw[ae]; omega
  ·first | omega | decide
  ·have e:(1:Int)*2 ^ (((ls.map V.ref).length:Nat):Int).toNat - 1=((fullN ch:Nat):Int):=by
    rw[ae,h2,bf]
    unfold fullN
    have:=fk ch.length
    have e2:((2 ^ ch.length:Nat):Int)=(2:Int) ^ ch.length:=by push_cast; rfl
    omega
   show Q (V.int ((1:Int)*2 ^ (((ls.map V.ref).length:Nat):Int).toNat - 1)) H
   rw[e]
   exact q
theorem ok_at {fd:FuncData}(F:Fun K "choices_at" "choices_at" sAt f fd)(T:Txt mg):FnOk P w K mg base CX0 1 f fd ["choices","mask"] spAt:=by
 refine F.ok scAt (fun vs H Q E h=>?_) (fun cdv A outer s H vs Q E hr h=>?_)
 ·obtain⟨_,_,_,rfl,_⟩:=h
  rfl
 ·obtain⟨L,ch,m,rfl,hL,ok,hm,hf,q⟩:=h
  refine⟨_,(atA T).2.h,?_⟩
  obtain⟨ls,h1,nd,al⟩:=hL.ex
  have hlow:=jDF hm hf
  have w16:=ok.w
  refine⟨_,rfl,_,rfl,_,rfl,_,_,rfl,rfl,_,_,rfl,rfl,rfl,_,rfl,rfl,_,_,rfl,rfl,?_⟩
  have el:(Builtin.Int.intBits (Builtin.bitAnd (Builtin.bitNot (m:Int)) ((m:Int)+1)):Int) - 1=((lowN m:Nat):Int):=by
   rw[jMF]
   omega
  show yA 2 (V.int ((Builtin.Int.intBits (Builtin.bitAnd (Builtin.bitNot (m:Int)) ((m:Int)+1)):Int) - 1)) _ _ _
  rw[el]
  obtain⟨l,hl,vs,hv,av⟩:=al.get (ar hlow)
  have vl:vs.length<=33:=by
   rw[av.len]
   exact ok.len _ _ (ar hlow)
  have er:ch.getD (lowN m) []=ch[lowN m]:=by
   rw[aB,ar hlow]
   rfl
  refine⟨_,rfl,_,rfl,L,_,_,_,rfl,rfl,SqL.of h1,jBG (by rw[aU,hl]; rfl),l,rfl,⟨_,SqL.of hv⟩,jBW (xs:=vs) (fun σ=>∃ v,σ=[v,some (.int (m:Int))]) (fun H' zs j=>All2 (PrAt H') zs (((ch[lowN m]).take j).filter fun c=>c.2&&&m==0)) ⟨fun H=>trivial,fun H H' zs j t h=>h.imp fun _ _=>PrAt.mono t,fun H zs j h=>?_⟩ hv (by rw[aE]; omega) ⟨_,rfl⟩ ?_ ?_⟩
  ·rw[h.len]
   exact bJ (bI _ _) (cN _ _)
  ·rintro j x σ' H' zs hx ⟨v,rfl⟩ e hz R S yes no
   obtain⟨c,hc,qa,rfl,hq⟩:=av.get' hx
   have hq':=e _ _ hq
   have et:(ch[lowN m]).take (j+1)=(ch[lowN m]).take j++[c]:=by
    rw[bh,hc]
    rfl
   refine⟨_,rfl,qa,_,1,_,rfl,rfl,SqT.of hq',rfl,_,rfl,_,_,rfl,rfl,rfl,_,rfl,?_⟩
   have ez:decide (V.int (Builtin.bitAnd ((c.2:Nat):Int) (m:Int))=V.int 0)=(c.2&&&m==0):=by
    rw[jE7,bB,bb,iq]
    exact⟨fun h=>by have:=V.int.inj h; omega,fun h=>by rw[h]; rfl⟩
   show if decide (V.int (Builtin.bitAnd ((c.2:Nat):Int) (m:Int))=V.int 0)=true then _ else _
   rw[ez]
   refine ite2 (fun h=>?_) (fun h=>?_)
   ·refine⟨_,rfl,yes _ _ _ ⟨_,rfl⟩ (Ext.refl _) ?_⟩
    show All2 _ _ (((ch[lowN m]).take (j+1)).filter _)
    rw[et,bV,dO,am h]
    exact hz.snoc ⟨qa,rfl,hq'⟩
   ·refine no _ _ ⟨_,rfl⟩ (Ext.refl _) ?_
    show All2 _ _ (((ch[lowN m]).take (j+1)).filter _)
    rw[et,bV,dO,ak h,List.filter_nil,aZ]
    exact hz
  ·rintro D H' zs hD e hn hz
   rw[av.len,bR] at hz
   refine q D H' ⟨zs,hD,?_⟩ e hn
   unfold chAt
   rw[er]
   exact hz
end
end Eo
end
section
namespace L2
open PySem
theorem jEE {ks:List (Option Expr)}{vs:List Expr}{pos:Pos}{o:Option Expr} :SwOk (.Dict ks vs pos) o:=⟨fun _ _=>rfl⟩
end L2
namespace Eo
open PySem L2
abbrev natV (n:Nat):V:= .int (n:Int)
structure MetOk (ch:Ch)(ns:List Nat):Prop where
 zero:0∈ns
 bnd:∀ m∈ns,m<2 ^ ch.length
 up:∀ m∈ns,m≠fullN ch->∀ c∈chAt ch m,(m|||c.2)∈ns
def trK (ks:List Nat):List (Key×V):=ks.map fun (k:Nat)=>(Sum.inl (k:Int),V.bl true)
def jO7:Stmt->List Stmt
 | .While _ b _ _=>b
 | _=> []
theorem jGG (n:Nat):∀ ks:List Nat,valV (trK ks) (.inl (n:Int))=if n∈ks then some (.bl true) else none
 | []=>rfl
 | k::ks=>by
  show valV ((Sum.inl (k:Int),V.bl true)::trK ks) _=_
  by_cases h:k=n
  ·subst h
   rw[jAK rfl,am (aJ ..)]
  ·rw[jA9 (by intro z; have:=fc z; omega),jGG n ks]
   by_cases h2:n∈ks
   ·rw[am h2,am (aK _ h2)]
   ·rw[ak h2,ak]
    intro z
    rcases aF.mp z with z | z
    ·exact h z.symm
    ·exact h2 z
theorem jPX {H:Hp}{M:Addr}{ks:List Nat}{m c:Nat}(h:H M=some (.dK (trK ks))):DGet H M (.int (Builtin.bitOr (m:Int) (c:Int))) (if (m|||c)∈ks then some (.bl true) else none):=by
 rw[jAU,<- jGG]
 exact DGet.k (k:=Sum.inl (((m|||c:Nat):Nat):Int)) h
theorem jPW {H:Hp}{M:Addr}{ks:List Nat}{m c:Nat}(h:H M=some (.dK (trK ks)))(hn:¬ (m|||c)∈ks)(hl:(trK ks).length<sizeLine):DPut H M (.int (Builtin.bitOr (m:Int) (c:Int))) (.bl true) (L2.upd H M (.dK (trK (ks++[m|||c])))):=by
 rw[jAU]
 have:=DPut.k (k:=Sum.inl (((m|||c:Nat):Nat):Int)) (v:= .bl true) h hl
 rw[jCX _ (by rw[jGG,ak hn])] at this
 unfold trK
 rw[aN]
 exact this
theorem jA7 {n:Nat}{ks:List Nat}(nd:ks.Nodup)(hb:∀ k∈ks,k<n):ks.length<=n:=by
 have:(ks.map fun k:Nat=>(k:Int)).length<=n:=jK5 n _ (df.mpr (nd.imp fun h=>by omega)) fun t ht=>by
  obtain⟨k,hk,rfl⟩:=bF.mp ht
  have:=hb k hk
  omega
 rwa [ae] at this
section
variable {P:Program}{w:World}{K:W.Frag}{mg:Str->Option Value}{base:Heap}
variable {f fF fA:Addr}{fdF fdA:FuncData}{cdv:Value}{A:Around}{outer:List Env}{s:Shared}{H0:Hp}{E:XK}
noncomputable abbrev nMet:List Str:=["choices","full","met","waiting","mask","number","more"]
theorem scMet:FnScope nMet ["choices"] (j7 sMet):=⟨rfl,rfl,rfl,by decide+kernel,rfl,by decide+kernel,by decide+kernel⟩
def spMet:Sp:=fun vs H Q _=>∃ (L:Addr) (ch:Ch),vs=[.ref L]/\ChAt H L ch/\ChOk ch/\∀ (r:Addr) (ns:List Nat) (H':Hp),H' r=some (.lst (ns.map natV))->ns.Pairwise (· > ·)->MetOk ch ns->Ext H H'->H r=none->Q (.ref r) H'
def jHQ (T:Txt mg)(CA:Can P w K mg base "choices_at" 1 fA fdA ["choices","mask"] spAt)(hr:Room 1 (XOf nMet "masks_met" sMet P w K mg base f cdv A outer s H0 E).A): { t:TS // JSs (XOf nMet "masks_met" sMet P w K mg base f cdv A outer s H0 E) (jO7 ((jB sMet).getD 3 (.Pass ⟨0,0,0,0⟩))) t} :=
 have nd:=scMet.nd
 ⟨_,(jA (jS (i:=4) nd rfl lL (jKN cr PySem.F.slot_list_pop PySem.F.type_list_pop jRA (jv 3 rfl vL)) jV)
   (jC (kU (jT op_ne (jv 4 rfl vL) (jv 1 rfl vL) (jN _)) (jC (jBQ b0 rfl (jAR (CA.je hr gD (j3 (jv 0 rfl vL) (j3 (jv 4 rfl vL) j6 j4) j4) j4)) (jBR (i:=5) (j:=6) nd rfl rfl (by decide+kernel) (by decide+kernel)) (jC (kU (jFV (qB hr) (kY op_or (jv 4 rfl vL) (jv 6 rfl vL)) (jv 2 rfl vL) rfl) (jA (jDI (qB hr) (jv 2 rfl vL) (kY op_or (jv 4 rfl vL) (jv 6 rfl vL)) (je_bl) jEF)
   (jC (jDH (je_bm cr dh di jAQ (jv 3 rfl vL) (j3 (kY op_or (jv 4 rfl vL) (jv 6 rfl vL)) j6 yJ) yJ) jV))) jQ)) y8)) jQ)))⟩
def metA (T:Txt mg)(CF:Can P w K mg base "full_mask" 1 fF fdF ["choices"] jCG)(CA:Can P w K mg base "choices_at" 1 fA fdA ["choices","mask"] spAt)(hr:Room 1 (XOf nMet "masks_met" sMet P w K mg base f cdv A outer s H0 E).A): { t:TS // JSs (XOf nMet "masks_met" sMet P w K mg base f cdv A outer s H0 E) (jB sMet) t} :=
 have nd:=scMet.nd
 ⟨_,(jA (jS (i:=1) nd rfl lL (CF.je (hr.mono (by decide)) gD (j3 (jv 0 rfl vL) j6 j4) j4) jV) (jA (jS (i:=2) nd rfl lL (jMJ) jEE) (jA (jS (i:=3) nd rfl lL (jBE (j3 (je_int) j6 jL)) jHB) (jA (jMH b0 (jT op_gt (jD jO gD T.len (by decide+kernel) (j3 (jv 3 rfl vL) j6 j4) j4) (je_int) (jN _)) (jHQ T CA hr).2) (jC (jH (jKM (jF5 rfl) gD T.sorted (by decide+kernel) (j3 (jv 2 rfl vL) j6 j4) (jPL je_bl jRK) j4)))))))⟩
theorem jMC (T:Txt mg)(CA:Can P w K mg base "choices_at" 1 fA fdA ["choices","mask"] spAt)(hr:Room 1 (XOf nMet "masks_met" sMet P w K mg base f cdv A outer s H0 E).A)
  {D:Ends}{H:Hp}{L M W:Addr}{ch:Ch}{ks ws:List Nat}{m:Nat}{v4 v5 v6:Option V}(hL:ChAt H L ch) (ok:ChOk ch) (hM:H M=some (.dK (trK ks))) (hW:H W=some (.lst ((ws++[m]).map natV))) (nd:ks.Nodup) (hb:∀ k∈ks,k<2 ^ ch.length) (hm:m∈ks) (wln:ws.length<=ks.length)
  (nx:∀ (H':Hp) (new:List Nat) (v4 v5 v6:Option V),(∀ b o,H b=some o->b≠M->b≠W->H' b=some o)->H' M=some (.dK (trK (ks++new)))->H' W=some (.lst ((ws++new).map natV))->(ks++new).Nodup->(∀ k∈ks++new,k<2 ^ ch.length)->(m≠fullN ch->∀ c∈chAt ch m,(m|||c.2)∈ks++new)->D.nx [some (.ref L),some (natV (fullN ch)),some (.ref M),some (.ref W),v4,v5,v6] H'):
  (jHQ T CA hr).1 D [some (.ref L),some (natV (fullN ch)),some (.ref M),some (.ref W),v4,v5,v6] H:=by
 have MW:M≠W:=fun z=>by rw[z,hW] at hM; cases hM
 have LW:∀ ls:List Addr,H L=some (.lst (ls.map V.ref))->L≠W:=fun ls h z=>by
  rw[z,hW] at h
  have h:=HO.lst.inj (bx h)
  have h2:natV m∈ls.map V.ref:=by rw[<- h]; simp
  obtain⟨a,_,ha⟩:=bF.mp h2
  cases ha
 have rw':∀ l cs,RowAt H l cs->l≠W:=fun l cs ⟨vs,h1,h2⟩ z=>by
  rw[z,hW] at h1
  have h1:=HO.lst.inj (bx h1)
  have h3:vs[ws.length]?=some (natV m):=by rw[<- h1]; simp
  obtain⟨_,_,q,e,_⟩:=h2.get' h3
  cases e
 have w16:=ok.w
 have hm2:=hb m hm
 have wl:((ws++[m]).map natV)[((ws++[m]).map natV).length - 1]?=some (natV m):=by
  rw[ae,az,aU,aX (by simp)]
  simp
 have dl:((ws++[m]).map natV).dropLast=ws.map natV:=by
  rw[aN]
  simp
 refine⟨_,rfl, .inl ⟨rfl,_,SqL.of hW⟩,W,_,_,rfl,rfl,hW,wl,?_⟩
 rw[dl]
 have hM1:(L2.upd H W (.lst (ws.map natV))) M=some (.dK (trK ks)):=by rw[j8 MW]; exact hM
 have hW1:(L2.upd H W (.lst (ws.map natV))) W=some (.lst (ws.map natV)):=j5
 have k1:∀ b o,H b=some o->b≠W->(L2.upd H W (.lst (ws.map natV))) b=some o:=fun b o h n=>by rw[j8 n]; exact h
 have hL1:ChAt (L2.upd H W (.lst (ws.map natV))) L ch:=by
  obtain⟨ls,a1,a2,a3⟩:=hL.ex
  exact⟨ls,k1 _ _ a1 (LW _ a1),a2,a3.imp fun l cs r=>r.keep (fun xs z=>k1 _ _ z (rw' _ _ r)) (Tups.upd hW _)⟩
 generalize L2.upd H W (.lst (ws.map natV))=H1 at hM1 hW1 k1 hL1
 refine⟨_,rfl,_,rfl,rfl,_,rfl,?_⟩
 have nf:(!decide (natV m=natV (fullN ch)))=true↔m≠fullN ch:=by
  rw[eE,d9]
  refine not_congr ⟨fun h=>?_,fun h=>by rw[h]⟩
  have:=V.int.inj h
  omega
 refine ite2 (fun h=>?_) (fun h=>?_)
 ·have h:=nf.mp h
  refine⟨_,rfl,_,rfl,L,ch,m,rfl,hL1,ok,hm2,h,fun r H2 ⟨vs,hr2,av⟩ e2 nr=>?_⟩
  have hM2:=e2 _ _ hM1
  have hW2:=e2 _ _ hW1
  have rW:r≠W:=fun z=>by rw[z,hW1] at nr; cases nr
  have rM:r≠M:=fun z=>by rw[z,hM1] at nr; cases nr
  refine⟨r,rfl,⟨_,SqL.of hr2⟩,jF0 (xs:=vs) (fun i σ H'=>(∃ v5 v6,σ=[some (.ref L),some (natV (fullN ch)),some (.ref M),some (.ref W),some (natV m),v5,v6])/\(∀ b o,H2 b=some o->b≠M->b≠W->H' b=some o)/\∃ new:List Nat,H' M=some (.dK (trK (ks++new)))/\H' W=some (.lst ((ws++new).map natV))/\(ks++new).Nodup/\(∀ k∈ks++new,k<2 ^ ch.length)/\∀ c∈(chAt ch m).take i,(m|||c.2)∈ks++new) ⟨⟨_,_,rfl⟩,fun b o h _ _=>h,[],by rw[aZ]; exact hM2,by rw[aZ]; exact hW2,by rw[aZ]; exact nd,by rw[aZ]; exact hb,fun c hc=>by cases hc⟩ (fun i σ H' _ ⟨_,k,_⟩=>SqL.of (k _ _ hr2 rM rW)) ?_ ?_⟩
  ·rintro i x σ H' hx ⟨⟨v5,v6,rfl⟩,k,new,hM',hW',nd',hb',cl⟩
   obtain⟨c,hc,q,rfl,hq⟩:=av.get' hx
   have qM:q≠M:=fun z=>by rw[z,hM2] at hq; cases hq
   have qW:q≠W:=fun z=>by rw[z,hW2] at hq; cases hq
   have hcm:=ay hc
   obtain⟨u1,u2⟩:=ok.up hm2 h hcm
   have tk:(chAt ch m).take (i+1)=(chAt ch m).take i++[c]:=by rw[bh,hc]; rfl
   refine⟨q,_,rfl,SqT.of (k _ _ hq qM qW),rfl,_,_,rfl,_,_,rfl,rfl,?_⟩
   refine⟨_,rfl,_,rfl,_,_,rfl,rfl,_,rfl,M,_,rfl,jPX hM',_,rfl,?_⟩
   by_cases hin:(m|||c.2)∈ks++new
   ·rw[am hin]
    refine iteF ⟨⟨_,_,rfl⟩,k,new,hM',hW',nd',hb',fun c' hc'=>?_⟩
    rw[tk] at hc'
    rcases aI.mp hc' with z | z
    ·exact cl c' z
    ·rw[aH] at z
     rw[z]
     exact hin
   ·rw[ak hin]
    have ndn:(ks++(new++[m|||c.2])).Nodup:=by
     rw[<- aM,eD]
     refine⟨nd',by simp,fun a ha b hb z=>?_⟩
     rw[aH] at hb
     exact hin (hb ▸ z ▸ ha)
    have bdn:∀ k∈ks++(new++[m|||c.2]),k<2 ^ ch.length:=fun k hk=>by
     rw[<- aM] at hk
     rcases aI.mp hk with z | z
     ·exact hb' k z
     ·rw[aH] at z
      rw[z]
      exact u2
    have sz:(ks++(new++[m|||c.2])).length<=2 ^ 16:=bJ (jA7 ndn bdn) (bX (by decide) w16)
    rw[az,az] at sz
    have kl:(trK (ks++new)).length<sizeLine:=by
     unfold trK
     rw[ae,az,aE]
     simp at sz
     omega
    refine iteT ⟨_,rfl,_,rfl,_,rfl,_,_,rfl,rfl,M,_,rfl,jPW hM' hin kl,?_⟩
    have hW3:(L2.upd H' M (.dK (trK (ks++new++[m|||c.2])))) W=some (.lst ((ws++new).map natV)):=by rw[j8 MW.symm]; exact hW'
    have hM3:(L2.upd H' M (.dK (trK (ks++new++[m|||c.2])))) M=some (.dK (trK (ks++(new++[m|||c.2])))):=by rw[j5,aM]
    have k3:∀ b o,H2 b=some o->b≠M->b≠W->(L2.upd H' M (.dK (trK (ks++new++[m|||c.2])))) b=some o:=fun b o hbo n1 n2=>by rw[j8 n1]; exact k b o hbo n1 n2
    generalize L2.upd H' M (.dK (trK (ks++new++[m|||c.2])))=H3 at hW3 hM3 k3
    refine⟨_,rfl, .inl ⟨rfl,_,SqL.of hW3⟩,_,rfl,_,rfl,_,_,rfl,rfl,W,_,_,rfl,rfl,hW3,?_,⟨_,_,rfl⟩,fun b o hbo n1 n2=>by rw[j8 n2]; exact k3 b o hbo n1 n2,new++[m|||c.2],by rw[j8 MW]; exact hM3,?_,ndn,bdn,fun c' hc'=>?_⟩
    ·skip
     rw[ae,az,aE]
     simp at sz
     omega
    ·rw[j5]
     show some (HO.lst ((ws++new).map natV++[V.int (Builtin.bitOr (m:Int) (c.2:Int))]))=_
     rw[jAU,<- aM]
     exact bL (fun z=>some (HO.lst z)) (aN (f:=natV) (l₁:=ws++new) (l₂:=[m|||c.2])).symm
    ·rw[<- aM,aI]
     rw[tk] at hc'
     rcases aI.mp hc' with z | z
     ·exact .inl (cl c' z)
     ·rw[aH] at z
      rw[z]
      exact .inr (aH.mpr rfl)
  ·rintro σ H' ⟨⟨v5,v6,rfl⟩,k,new,hM',hW',nd',hb',cl⟩
   have:(chAt ch m).take vs.length=chAt ch m:=by rw[av.len,bR]
   rw[this] at cl
   exact nx H' new _ _ _ (fun b o hbo n1 n2=>k _ _ (e2 _ _ (k1 _ _ hbo n2)) n1 n2) hM' hW' nd' hb' fun _=>cl
 ·have h:m=fullN ch:=cZ fun z=>h (nf.mpr z)
  exact nx H1 [] _ _ _ (fun b o hbo n1 n2=>k1 _ _ hbo n2) (by rw[aZ]; exact hM1) (by rw[aZ]; exact hW1) (by rw[aZ]; exact nd) (by rw[aZ]; exact hb) fun z=>absurd h z
theorem jR5 {fd:FuncData}(F:Fun K "masks_met" "masks_met" sMet f fd)(T:Txt mg)(CF:Can P w K mg base "full_mask" 1 fF fdF ["choices"] jCG)(CA:Can P w K mg base "choices_at" 1 fA fdA ["choices","mask"] spAt):FnOk P w K mg base CX0 2 f fd ["choices"] spMet:=by
 refine F.ok scMet (fun vs H Q E h=>?_) (fun cdv A outer s H vs Q E hr h=>?_)
 ·obtain⟨_,_,rfl,_⟩:=h
  rfl
 ·obtain⟨L,ch,rfl,hL,ok,q⟩:=h
  refine⟨_,(metA T CF CA hr).2.h,?_⟩
  have w16:=ok.w
  refine⟨_,rfl,L,ch,rfl,hL,w16,?_⟩
  refine fun M H1 hM1 e1 nM=>?_
  refine⟨by show (1:Nat)<=_; decide,fun W H2 hW2 e2 nW=>?_⟩
  have hM2:=e2 _ _ hM1
  have nW0:H W=none:=by
   cases z:H W with
   | none=>rfl
   | some o=>rw[e1 _ _ z] at nW; cases nW
  have E2:=e1.trans e2
  have pz:(0:Nat)<2 ^ ch.length:=fk _
  refine⟨fun n σ H'=>(∃ v4 v5 v6,σ=[some (.ref L),some (natV (fullN ch)),some (.ref M),some (.ref W),v4,v5,v6])/\Ext H H'/\∃ ks ws:List Nat,n=2*(2 ^ ch.length - ks.length)+ws.length/\H' M=some (.dK (trK ks))/\H' W=some (.lst (ws.map natV))/\ks.Nodup/\(∀ k∈ks,k<2 ^ ch.length)/\(∀ k∈ws,k∈ks)/\ws.length<=ks.length/\0∈ks/\∀ k∈ks,k∉ws->k≠fullN ch->∀ c∈chAt ch k,(k|||c.2)∈ks,⟨_,⟨_,_,_,rfl⟩,E2,[0],[0],rfl,hM2,hW2,by simp,fun k hk=>by rw[aH] at hk; omega,fun k hk=>hk,ai _,by simp,fun k h1 h2=>absurd h1 h2⟩,?_⟩
  rintro n σ H' ⟨⟨v4,v5,v6,rfl⟩,e,ks,ws,rfl,hM',hW',nd,hb,sub,wl,z0,cl⟩
  refine⟨_,rfl,W,_,rfl, .inl (SqL.of hW'),_,_,rfl,rfl,_,rfl,?_⟩
  rcases List.eq_nil_or_concat ws with hws | ⟨ws',m,hws⟩
  ·subst hws
   refine iteF ?_
   have ksl:=jA7 nd hb
   have p16:2 ^ ch.length<=2 ^ 16:=bX (by decide) w16
   refine⟨_,rfl,M,trK ks,ks.map fun k:Nat=>(k:Int),true,rfl,rfl,hM',by unfold trK; rw[bK,bK]; rfl,by rw[ae,aE]; omega,fun l ns hl ord pm=>?_⟩
   obtain⟨js,rfl⟩:∃ js:List Nat,ns=js.map fun k:Nat=>(k:Int):=by
    refine⟨ns.map Int.toNat,?_⟩
    rw[bK]
    refine(iC ns).symm.trans (dn fun x hx=>?_)
    obtain⟨k,_,rfl⟩:=bF.mp (pm.mem_iff.mp hx)
    show ((k:Nat):Int)=(((k:Nat):Int).toNat:Int)
    omega
   have pm':js.Perm ks:=by
    have:=pm.map Int.toNat
    rw[bK,bK] at this
    have e:∀ l:List Nat,l.map (Int.toNat ∘ fun k:Nat=>(k:Int))=l:=fun l=>(dn fun x _=>by show ((x:Nat):Int).toNat=x; omega).trans (iC l)
    rwa [e,e] at this
   refine q l js _ ?_ ?_ ⟨pm'.mem_iff.mpr z0,fun m hm=>hb m (pm'.mem_iff.mp hm),fun m hm hf c hc=>pm'.mem_iff.mpr (cl m (pm'.mem_iff.mp hm) (by simp) hf c hc)⟩ ((Ext.refl _).trans (e.new hl _)) ?_
   ·rw[j5,bK]
    rfl
   ·have nj:js.Nodup:=pm'.nodup_iff.mpr nd
    have:js.Pairwise (fun (a b:Nat)=>(b:Int)<=(a:Int)):=df.mp ord
    exact(this.and nj).imp fun {a b} h=>by omega
   ·cases z:H l with
    | none=>rfl
    | some o=>rw[e _ _ z] at hl; cases hl
  ·have hws:ws=ws'++[m]:=by rw[hws,List.concat_eq_append]
   subst hws
   have lp:decide ((0:Int)<(((ws'++[m]).map natV).length:Int))=true:=by
    rw[bb,ae,az]
    show (0:Int)<((ws'.length+1:Nat):Int)
    omega
   show if decide ((0:Int)<(((ws'++[m]).map natV).length:Int))=true then _ else _
   rw[am lp]
   rw[az] at wl
   refine⟨fun σ' H''=>(∃ v4 v5 v6,σ'=[some (.ref L),some (natV (fullN ch)),some (.ref M),some (.ref W),v4,v5,v6])/\Ext H H''/\∃ new:List Nat,H'' M=some (.dK (trK (ks++new)))/\H'' W=some (.lst ((ws'++new).map natV))/\(ks++new).Nodup/\(∀ k∈ks++new,k<2 ^ ch.length)/\(m≠fullN ch->∀ c∈chAt ch m,(m|||c.2)∈ks++new),?_,jMC T CA hr (ks:=ks) (ws:=ws') (m:=m) (hL.ext e) ok hM' hW' nd hb (sub m (by simp)) (by omega) ?_⟩
   ·rintro σ' H'' ⟨hσ,e',new,a1,a2,a3,a4,a5⟩
    have sl:=jA7 a3 a4
    rw[az] at sl
    refine⟨_,?_,hσ,e',ks++new,ws'++new,rfl,a1,a2,a3,a4,fun k hk=>?_,?_,aQ _ z0,fun k hk hkw hf c hc=>?_⟩
    ·rw[az,az,az]
     simp only [aW,dB]
     omega
    ·rcases aI.mp hk with z | z
     ·exact aQ _ (sub k (aQ _ z))
     ·exact aG _ z
    ·rw[az,az]
     omega
    ·by_cases hkm:k=m
     ·subst hkm
      exact a5 hf c hc
     ·rcases aI.mp hk with z | z
      ·refine aQ _ (cl k z (fun y=>?_) hf c hc)
       rcases aI.mp y with y | y
       ·exact hkw (aQ _ y)
       ·exact hkm (aH.mp y)
      ·exact absurd (aG _ z) hkw
   ·intro H'' new v4 v5 v6 kp a1 a2 a3 a4 a5
    refine⟨⟨_,_,_,rfl⟩,fun b o hbo=>?_,new,a1,a2,a3,a4,a5⟩
    refine kp b o (e b o hbo) (fun z=>?_) fun z=>?_
    ·rw[z,nM] at hbo; cases hbo
    ·rw[z,nW0] at hbo; cases hbo
end
end Eo
end
section
namespace L2
open PySem
theorem jGI {x:Str}{pos:Pos}{o:Option Expr} :SwOk (.Name x pos) o:=⟨fun _ _=>rfl⟩
end L2
namespace Eo
open PySem L2
structure HpOk (φ:Hp->Prop):Prop where
 keep:∀ (H H':Hp) (D:Addr) (kvs:List (Key×V)),H D=some (.dK kvs)->(∀ b o,H b=some o->b≠D->H' b=some o)->φ H->φ H'
 ext:∀ H H',Ext H H'->φ H->φ H'
abbrev RepT:=Nat->Hp->V->Prop
def RepOk (R:RepT):Prop:=∀ m v,HpOk fun H=>R m H v
def ItAt (R:RepT)(m:Nat)(H:Hp)(v:V)(c:Int×Nat):Prop:=∃ q u,v= .ref q/\H q=some (.tup [.int c.1,u])/\R (m|||c.2) H u
def jHE (ch:Ch)(R:RepT):Sp:=fun vs H Q _=>∃ (l:Addr) (us:List V) (m:Nat),vs=[.ref l]/\H l=some (.lst us)/\m<2 ^ ch.length/\m≠fullN ch/\All2 (ItAt R m H) us (chAt ch m)/\∀ r H',R m H' r->Ext H H'->Q r H'
def gvs (ns:List Nat)(us:List V):List (Key×V):=(ns.zip us).map fun p:Nat×V=>(Sum.inl (p.1:Int),p.2)
structure GotAt (H:Hp)(r:Addr)(ch:Ch)(R:RepT)(ns:List Nat):Prop where
 ex:∃ us,H r=some (.dK (gvs ns us))/\All2 (fun n u=>R n H u) ns us
theorem jEB {R:Nat->V->Prop} :∀ {ns:List Nat}{us:List V}{n:Nat},All2 R ns us->ns.Nodup->n∈ns->∃ u,valV (gvs ns us) (.inl (n:Int))=some u/\R n u
 | [],_,_,_,_,h=>by cases h
 | k::ns,[],_,h,_,_=>h.elim
 | k::ns,u::us,n,h,nd,hm=>by
  show ∃ x,valV ((Sum.inl (k:Int),u)::gvs ns us) _=_/\_
  by_cases hk:k=n
  ·subst hk
   exact⟨u,jAK rfl,h.1⟩
  ·rw[jA9 (by intro z; have:=fc z; omega)]
   rcases aF.mp hm with z | z
   ·exact absurd z.symm hk
   ·exact jEB h.2 (cM.mp nd).2 z
theorem jBH:∀ {ns:List Nat}{us:List V}{n:Nat},n∉ns->valV (gvs ns us) (.inl (n:Int))=none
 | [],_,_,_=>by
  unfold gvs
  rw[List.zip_nil_left]
  rfl
 | k::ns,[],_,_=>rfl
 | k::ns,u::us,n,h=>by
  show valV ((Sum.inl (k:Int),u)::gvs ns us) _=_
  rw[jA9 (by intro z; have:=fc z; exact h (by rw[show n=k by omega]; exact aJ ..))]
  exact jBH fun z=>h (aK _ z)
theorem jMO {ns:List Nat}{us:List V}{n:Nat}{u:V}(h:ns.length=us.length):gvs (ns++[n]) (us++[u])=gvs ns us++[(Sum.inl (n:Int),u)]:=by
 unfold gvs
 rw[List.zip_append h,aN]
 rfl
section
variable {P:Program}{w:World}{K:W.Frag}{mg:Str->Option Value}{base:Heap}
variable {f fF fA fM j:Addr}{fdF fdA fdM:FuncData}{cdv:Value}{A:Around}{outer:List Env}{s:Shared}{H0:Hp}{E:XK}{Z:Shared->Hp->Prop}{zh:Hp->Prop}{ch:Ch}{R:RepT}
noncomputable abbrev nGath:List Str:=["choices","at_end","join","full","values","mask"]
theorem scGath:FnScope nGath ["choices","at_end","join"] (j7 q0):=⟨rfl,rfl,rfl,by decide+kernel,rfl,by decide+kernel,by decide+kernel⟩
def jNG (j:Addr)(zh:Hp->Prop)(ch:Ch)(R:RepT):Sp:=fun vs H Q _=>∃ (L:Addr) (ve:V),vs=[.ref L,ve, .ref j]/\ChAt H L ch/\R (fullN ch) H ve/\zh H/\∀ (r:Addr) (ns:List Nat) (H':Hp),GotAt H' r ch R ns->ns.Pairwise (· > ·)->MetOk ch ns->Ext H H'->H r=none->Q (.ref r) H'
def jKW (T:Txt mg)(CA:Can P w K mg base "choices_at" 1 fA fdA ["choices","mask"] spAt)(CJ:Callee P w K mg base Z zh 3 j (jHE ch R))(zs:ZSt Z)(hz:Z s H0)(hr:Room 3 (XOf nGath "gathered" q0 P w K mg base f cdv A outer s H0 E).A): { t:TS // JSs (XOf nGath "gathered" q0 P w K mg base f cdv A outer s H0 E) (jB8 ((jB q0).getD 2 (.Pass ⟨0,0,0,0⟩))) t} :=
 have nd:=scGath.nd
 ⟨_,(jC (kU (jT yQ (jv 5 rfl vC) (jv 3 rfl vL) (jN _)) (jC (jDI (qB hr) (jv 4 rfl vC) (jv 5 rfl vC) (jv 1 rfl vL) jGI)) (jC (jDI (qB hr) (jv 4 rfl vC) (jv 5 rfl vC) (jML (j:=2) CJ (hr.mono (by decide)) zs hz rfl rfl vL (j3 (kW (m:=[none,none,some 4,some 5]) (Nc:=["number","more","values","mask"]) rfl (jAR (CA.je (hr.mono (by decide)) gD (j3 (jv 0 rfl vL) (j3 (jv 5 rfl vC) j6 j4) j4) j4)) rfl (by decide+kernel) (by decide+kernel) (kP (psc:=j7 q0) (by decide+kernel)) (jP (N:=nGath) rfl rfl (by decide+kernel)) (fun cl C fp s H=>jAS (i:=0) (j:=1) rfl (show (["number","more","values","mask"]:List Str).Nodup by decide+kernel) rfl rfl (by decide+kernel) (by decide+kernel)) (fun cl C fp s H=>yB) (fun cl C fp s H=>(yE (j3 (jv 0 rfl (kE (by decide+kernel))) (j3 (jEX (qB hr) (jv 2 rfl (yL (by decide+kernel))) (kY op_or (jv 3 rfl (yL (by decide+kernel))) (jv 1 rfl (kE (by decide+kernel)))) jJQ) j6 jX) j4))) y8) j6 jK) jK) jV))))⟩
def gathA (T:Txt mg)(CF:Can P w K mg base "full_mask" 1 fF fdF ["choices"] jCG)(CM:Can P w K mg base "masks_met" 2 fM fdM ["choices"] spMet)(CA:Can P w K mg base "choices_at" 1 fA fdA ["choices","mask"] spAt)(CJ:Callee P w K mg base Z zh 3 j (jHE ch R))(zs:ZSt Z)(hz:Z s H0)(hr:Room 3 (XOf nGath "gathered" q0 P w K mg base f cdv A outer s H0 E).A): { t:TS // JSs (XOf nGath "gathered" q0 P w K mg base f cdv A outer s H0 E) (jB q0) t} :=
 have nd:=scGath.nd
 ⟨_,(jA (jS (i:=3) nd rfl lL (CF.je (hr.mono (by decide)) gD (j3 (jv 0 rfl vL) j6 j4) j4) jV) (jA (jS (i:=4) nd rfl (loc_c (by decide+kernel)) (jHT) jEE) (jA (jBQ b0 rfl (jAR (CM.je (hr.mono (by decide)) gD (j3 (jv 0 rfl vL) j6 j4) j4)) (kI (i:=5) nd rfl (loc_c (by decide+kernel))) (jKW T CA CJ zs hz hr).2 y8) (jC (jH (jv 4 rfl vC))))))⟩
theorem jP7 {fd:FuncData}(F:Fun K "gathered" "gathered" q0 f fd)(T:Txt mg)(CF:Can P w K mg base "full_mask" 1 fF fdF ["choices"] jCG)(CM:Can P w K mg base "masks_met" 2 fM fdM ["choices"] spMet)(CA:Can P w K mg base "choices_at" 1 fA fdA ["choices","mask"] spAt)(CJ:Callee P w K mg base Z zh 3 j (jHE ch R))(zs:ZSt Z)(zo:HpOk zh)(ro:RepOk R)(ok:ChOk ch):FnZ P w K mg base CX0 Z 4 f fd ["choices","at_end","join"] (jNG j zh ch R):=by
 refine F.okZ scGath (fun vs H Q E h=>?_) (fun cdv A outer s H vs Q E hr hz h=>?_)
 ·obtain⟨_,_,rfl,_⟩:=h
  rfl
 ·obtain⟨L,ve,rfl,hL,he,hzh,q⟩:=h
  refine⟨_,(gathA T CF CM CA CJ zs hz hr).2.h,?_⟩
  have w16:=ok.w
  have p16:2 ^ ch.length<=2 ^ 16:=bX (by decide) w16
  refine⟨_,rfl,L,ch,rfl,hL,w16,?_⟩
  refine fun D nD=>?_
  have e1:Ext H (L2.upd H D (.dK [])):=(Ext.refl _).new nD _
  have hD1:(L2.upd H D (.dK [])) D=some (.dK []):=j5
  generalize L2.upd H D (.dK [])=H1 at e1 hD1
  refine⟨_,rfl,L,ch,rfl,hL.ext e1,ok,fun r ns H2 hr2 srt mt e2 nr=>?_⟩
  have hD2:=e2 _ _ hD1
  have rD:r≠D:=fun z=>by rw[z,hD1] at nr; cases nr
  have E2:=e1.trans e2
  have nsn:ns.Nodup:=srt.imp fun {a b} h=>by omega
  have nsl:=jA7 nsn mt.bnd
  refine⟨r,rfl,⟨_,SqL.of hr2⟩,jF0 (xs:=ns.map natV) (fun i σ H'=>(∃ v5,σ=[some (.ref L),some ve,some (.ref j),some (natV (fullN ch)),some (.ref D),v5])/\(∀ b o,H2 b=some o->b≠D->H' b=some o)/\GotAt H' D ch R (ns.take i)) ⟨⟨_,rfl⟩,fun b o h _=>h,[],hD2,trivial⟩ (fun i σ H' _ ⟨_,k,_⟩=>SqL.of (k _ _ hr2 rD)) ?_ ?_⟩
  ·rintro i x σ H' hx ⟨⟨v5,rfl⟩,k,us,hD',au⟩
   obtain⟨m,hm,rfl⟩:∃ m,ns[i]?=some m/\natV m=x:=by
    rw[aU] at hx
    cases hq:ns[i]? with
    | none=>rw[hq] at hx; cases hx
    | some z=>rw[hq] at hx; cases hx; exact⟨z,rfl,rfl⟩
   have hmn:=ay hm
   have hm2:=mt.bnd m hmn
   have il:i<ns.length:=(ah.mp hm).1
   have tk:ns.take (i+1)=ns.take i++[m]:=by rw[bh,hm]; rfl
   have kl:(gvs (ns.take i) us).length<sizeLine:=by
    unfold gvs
    rw[ae,List.length_zip,aV,aE]
    omega
   have kH:∀ b o,H b=some o->H' b=some o:=fun b o h=>k _ _ (E2 _ _ h) fun z=>by rw[z,nD] at h; cases h
   have mi:m∉ns.take i:=fun z=>by
    obtain⟨a,ha⟩:=cn z
    have al:a<i:=by have:=(ah.mp ha).1; rw[aV] at this; omega
    rw[bQ al] at ha
    have:=(List.getElem?_inj (by omega) nsn).mp (ha.trans hm.symm)
    omega
   have fin:∀ (u:V) (H3:Hp),(∀ b o,H' b=some o->H3 b=some o)->R m H3 u->DPut H3 D (natV m) u (L2.upd H3 D (.dK (gvs (ns.take (i+1)) (us++[u]))))/\((∃ v5,[some (V.ref L),some ve,some (.ref j),some (natV (fullN ch)),some (.ref D),some (natV m)]=[some (V.ref L),some ve,some (.ref j),some (natV (fullN ch)),some (.ref D),v5])/\(∀ b o,H2 b=some o->b≠D->(L2.upd H3 D (.dK (gvs (ns.take (i+1)) (us++[u])))) b=some o)/\GotAt (L2.upd H3 D (.dK (gvs (ns.take (i+1)) (us++[u])))) D ch R (ns.take (i+1))):=fun u H3 e3 ru=>by
    have hD3:=e3 _ _ hD'
    have up:∀ b o,H3 b=some o->b≠D->(L2.upd H3 D (.dK (gvs (ns.take (i+1)) (us++[u])))) b=some o:=fun b o h n=>by rw[j8 n]; exact h
    refine⟨?_,⟨_,rfl⟩,fun b o h n=>up b o (e3 _ _ (k b o h n)) n,us++[u],j5,?_⟩
    ·have:=DPut.k (k:=Sum.inl ((m:Nat):Int)) (v:=u) hD3 kl
     rw[jCX _ (jBH mi),<- jMO au.len,<- tk] at this
     exact this
    ·rw[tk]
     refine All2.snoc ?_ ((ro m u).keep _ _ D _ hD3 (by rw[<- tk]; exact up) ru)
     rw[<- tk]
     exact au.imp fun n u h=>(ro n u).keep _ _ D _ hD3 up ((ro n u).ext _ _ e3 h)
   refine⟨_,rfl,_,rfl,rfl,_,rfl,?_⟩
   have ef:decide (natV m=natV (fullN ch))=true↔m=fullN ch:=by
    rw[bb]
    exact⟨fun h=>by have:=V.int.inj h; omega,fun h=>by rw[h]⟩
   refine ite2 (fun h=>?_) (fun h=>?_)
   ·have h:=ef.mp h
    obtain⟨f1,f2⟩:=fin ve H' (fun b o h=>h) (by rw[h]; exact(ro _ _).ext _ _ kH he)
    exact⟨_,rfl,_,rfl,_,rfl,D,_,rfl,f1,f2⟩
   ·have h:m≠fullN ch:=fun z=>h (ef.mpr z)
    refine⟨rfl,_,rfl,_,rfl,L,ch,m,rfl,hL.ext kH,ok,hm2,h,fun r4 H4 ⟨vs4,hr4,av4⟩ e4 n4=>?_⟩
    have hD4:=e4 _ _ hD'
    have vl4:vs4.length<=33:=by
     rw[av4.len]
     have hlow:=jDF hm2 h
     refine bJ (bI _ _) ?_
     rw[aB,ar hlow]
     exact ok.len _ _ (ar hlow)
    refine⟨r4,rfl,⟨_,SqL.of hr4⟩,jBW (xs:=vs4) (fun σ=>∃ v1 v2,σ=[v1,v2,some (.ref D),some (natV m)]) (fun H' zs t=>All2 (fun v c=>∃ q u,v= .ref q/\H' q=some (.tup [.int c.1,u])/\R (m|||c.2) H4 u) zs ((chAt ch m).take t)) ⟨fun H=>trivial,fun H H' zs t tu hz=>hz.imp fun v c ⟨q,u,a1,a2,a3⟩=>⟨q,u,a1,tu _ _ a2,a3⟩,fun H zs t hz=>?_⟩ hr4 (by rw[aE]; omega) ⟨_,_,rfl⟩ ?_ ?_⟩
    ·rw[hz.len]
     exact cN _ _
    ·rintro t x σ' H5 zs hx ⟨v1,v2,rfl⟩ e5 hz5 S1 S2 yes no
     obtain⟨c,hc,qa,rfl,hq⟩:=av4.get' hx
     have hcm:=ay hc
     obtain⟨u1,u2⟩:=ok.up hm2 h hcm
     have ut:=mt.up m hmn h c hcm
     have up:(m|||c.2)∈ns.take i:=by
      obtain⟨a,ha⟩:=cn ut
      have al:a<i:=by
       refine cZ fun z=>?_
       have a1:=(ah.mp ha)
       have m1:=(ah.mp hm)
       rcases iB i a with y | y
       ·have:=bO.mp srt i a il a1.1 y
        rw[a1.2,m1.2] at this
        omega
       ·have:a=i:=by omega
        subst this
        rw[hm] at ha
        have:=bx ha
        omega
      exact ay (i:=a) (by rw[bQ al]; exact ha)
     obtain⟨u,hu,ru⟩:=jEB au (nsn.sublist (dc _ _)) up
     have et:(chAt ch m).take (t+1)=(chAt ch m).take t++[c]:=by rw[bh,hc]; rfl
     have dg:DGet H5 D (.int (Builtin.bitOr (m:Int) (c.2:Int))) (some u):=by
      rw[jAU,<- hu]
      exact DGet.k (k:=Sum.inl (((m|||c.2:Nat):Nat):Int)) (e5 _ _ hD4)
     refine⟨qa,_,rfl,SqT.of (e5 _ _ hq),rfl,_,_,rfl,_,_,rfl,rfl,?_⟩
     dsimp only [yP]
     rw[am rfl]
     refine⟨_,rfl,_,rfl,_,rfl,_,rfl,_,_,rfl,rfl,D,u,rfl,dg,by show (2:Nat)<=_; decide,fun r6 H6 d6 e6=>yes _ _ _ ⟨_,_,rfl⟩ e6 ?_⟩
     show All2 _ _ ((chAt ch m).take (t+1))
     rw[et]
     exact(hz5.imp fun v c ⟨q,u,a1,a2,a3⟩=>⟨q,u,a1,e6 _ _ a2,a3⟩).snoc ⟨r6,u,rfl,d6,(ro _ _).ext _ _ e4 ru⟩
    ·rintro D7 H7 zs hD7 e7 n7 hz7
     rw[av4.len,bR] at hz7
     refine⟨zo.ext _ _ (fun b o h=>e7 _ _ (e4 _ _ (kH b o h))) hzh,D7,zs,m,rfl,hD7,hm2,h,hz7.imp fun v c ⟨q,u,a1,a2,a3⟩=>⟨q,u,a1,a2,(ro _ _).ext _ _ e7 a3⟩,fun rr H8 r8 e8=>?_⟩
     obtain⟨f1,f2⟩:=fin rr H8 (fun b o h=>e8 _ _ (e7 _ _ (e4 _ _ h))) r8
     exact⟨_,rfl,_,rfl,D,_,rfl,f1,f2⟩
  ·rintro σ H' ⟨⟨v5,rfl⟩,k,got⟩
   rw[ae,bR] at got
   exact⟨_,rfl,q D ns H' got srt mt (fun b o h=>k _ _ (E2 _ _ h) fun z=>by rw[z,nD] at h; cases h) nD⟩
end
end Eo
end
section
namespace L2
open PySem
def spEx {α:Type}(p:α->Prop)(sp:α->Sp):Sp:=fun vs H Q E=>∃ a,p a/\sp a vs H Q E
theorem FnOk.ex {α:Type}{p:α->Prop}{sp:α->Sp}{P:Program}{w:World}{K:W.Frag}{mg:Str->Option Value}{base:Heap}{CX:CXT}{k:Nat}{f:Addr}{fd:FuncData}{ps:List Str}(h:∀ a,p a->FnOk P w K mg base CX k f fd ps (sp a)):FnOk P w K mg base CX k f fd ps (spEx p sp):=
 ⟨fun vs H Q E ⟨a,pa,q⟩=>(h a pa).len vs H Q E q,fun A outer s H args us vs Q E hr he hb hv ⟨a,pa,q⟩=>(h a pa).run A outer s H args us vs Q E hr he hb hv q⟩
theorem Callee.mono {P:Program}{w:World}{K:W.Frag}{mg:Str->Option Value}{base:Heap}{Z:Shared->Hp->Prop}{zh:Hp->Prop}{i k:Nat}{a:Addr}{sp:Sp}(C:Callee P w K mg base Z zh i a sp)(h:i<=k):Callee P w K mg base Z zh k a sp:=
 ⟨C.fn,fun A outer s H us vs Q E hr=>C.run A outer s H us vs Q E (hr.mono h)⟩
theorem Callee.imp {P:Program}{w:World}{K:W.Frag}{mg:Str->Option Value}{base:Heap}{Z Z':Shared->Hp->Prop}{zh:Hp->Prop}{k:Nat}{a:Addr}{sp:Sp}(C:Callee P w K mg base Z zh k a sp)(h:∀ s H,Z' s H->Z s H):Callee P w K mg base Z' zh k a sp:=
 ⟨C.fn,fun A outer s H us vs Q E hr he hz=>C.run A outer s H us vs Q E hr he (h _ _ hz)⟩
theorem jQG {a:Arguments}{b:Expr}{sc:Scope}{pos:Pos}{es:List Expr}{env:Env} :starEach (.Lambda a b sc pos::es) env=(false,eval (.Lambda a b sc pos) env)::starEach es env:=rfl
end L2
namespace Eo
open PySem L2
theorem got0 {H:Hp}{r:Addr}{ch:Ch}{R:RepT}{ns:List Nat}(g:GotAt H r ch R ns)(nd:ns.Pairwise (· > ·))(m:MetOk ch ns):∃ u,DGet H r (.int 0) (some u)/\R 0 H u:=by
 obtain⟨us,h1,h2⟩:=g.ex
 obtain⟨u,hu,ru⟩:=jEB h2 (nd.imp fun {a b} h=>by omega) m.zero
 refine⟨u,?_,ru⟩
 have:=DGet.k (k:=Sum.inl (0:Int)) h1
 rw[show valV (gvs ns us) (Sum.inl (0:Int))=some u from hu] at this
 exact this
end Eo
end
section
namespace L2
open PySem PySem.Spec PyProof.Rows
theorem jRJ {X:Cx}{e:Expr}{te:TE}{pos:Pos}{i:Nat}{x:PySem.Str}{op:Operator}{ti:TIp}{pos':Pos}(hN:X.N.Nodup)(hi:X.N[i]?=some x)(hx:Loc1 X x)(he:JE X e te)(ho:PIp X op ti):JS X (.AugAssign (.Name x pos') op e pos) (tAug i te ti):=⟨jQP hN hi hx.a he.h ho hx.b⟩
end L2
end
section
namespace Eo
open PySem L2
def wJ (l:List (Int×List (List Int))):List (List Int):=l.flatMap fun p=>p.2.map fun x=>if p.1<0 then x else p.1::x
def wk (ch:Ch)(m:Nat):List (List Int):=gv ch [[]] wJ m
theorem jEA (ch:Ch):wk ch (fullN ch)=[[]]:=jPR
theorem jGF {ch:Ch}{m:Nat}(o:ChOk ch)(h:m<2 ^ ch.length)(hn:m≠fullN ch):wk ch m=wJ ((chAt ch m).map fun c=>(c.1,wk ch (m|||c.2))):=jPQ o h hn
section
variable {w:Int}{ms:List Int}{pcs:List (List Int×Int)}(g:Good 16 32 w ms pcs)
include g
theorem jC4 {k:Int}(h0:0<=k)(h1:k<pcs.length):Lot w (jE pcs k):=(g.at (k:=k.toNat) (by omega)).lot
theorem jNL {k:Int}(h0:0<=k)(h1:k<pcs.length)(t:Nat):(maskN (jE pcs k)).testBit t=decide ((t:Int)∈jE pcs k):=jAH _ t (jC4 g h0 h1).ris fun x hx=>((jC4 g h0 h1).bnd x hx).1
theorem jNJ {k:Int}(h0:0<=k)(h1:k<pcs.length){m:Nat} :maskN (jE pcs k)&&&m=0↔∀ t∈jE pcs k,m.testBit t.toNat=false:=by
 have l:=jC4 g h0 h1
 constructor
 ·intro h t ht
  have bt:=l.bnd t ht
  have q:=bL (fun z=>z.testBit t.toNat) h
  simp only [fj,eV,jNL g h0 h1] at q
  rw[show ((t.toNat:Nat):Int)=t by omega,ax ht,ie] at q
  exact q
 ·intro h
  apply dI
  intro i
  rw[fj,eV,jNL g h0 h1]
  by_cases hi:(i:Int)∈jE pcs k
  ·have:=h _ hi
   rw[bf] at this
   rw[this,cR]
  ·rw[aP hi]
   rfl
theorem jIV {k:Int}(h0:0<=k)(h1:k<pcs.length):(jE pcs k).headD 0∈jE pcs k/\∀ t∈jE pcs k,(jE pcs k).headD 0<=t:=by
 have l:=jC4 g h0 h1
 refine⟨jHU l.ne,fun t ht=>?_⟩
 have r:=l.ris
 cases z:jE pcs k with
 | nil=>rw[z] at ht; cases ht
 | cons a q=>
  rw[z] at ht r
  show a<=t
  rcases aF.mp ht with y | y
  ·omega
  ·have:=(cg.mp r).1 t y
   omega
end
section
variable {w:Int}{ms:List Int}{pcs:List (List Int×Int)}(g:Good 16 32 w ms pcs)
include g
end
noncomputable def lamOf (s:Stmt):Arguments×Expr×Scope×Pos:=match jB s with
 | [.Return (some (.Call _ [_,_, .Lambda a b sc p] _ _)) _]=>(a,b,sc,p)
 | _=>(jG s, .Constant .none 0 ⟨0,0,0,0⟩,j7 s,⟨0,0,0,0⟩)
abbrev lamA:Arguments:=(lamOf yT).1
abbrev lamB:Expr:=(lamOf yT).2.1
abbrev lamS:Scope:=(lamOf yT).2.2.1
abbrev lamP:Pos:=(lamOf yT).2.2.2
noncomputable abbrev nLam:List Str:=["behind"]
theorem scLam:NScope nLam ["behind"] [] lamS:=⟨rfl,rfl,rfl,by decide+kernel,rfl,by decide+kernel,by decide+kernel,fun x h=>by
  have hl:∀ y∈lamS.names,y.2≠ .free:=by decide+kernel
  exact absurd rfl (hl _ (cA h)),by decide+kernel⟩
def RWay (ch:Ch):RepT:=fun m _ v=>v=natV (wk ch m).length
theorem RWay.ok (ch:Ch):RepOk (RWay ch):=fun _ _=>⟨fun _ _ _ _ _ _ h=>h,fun _ _ _ h=>h⟩
theorem jJ5 (l:List (Int×List (List Int))):(wJ l).length=(l.map fun p=>p.2.length).sum:=by
 unfold wJ
 rw[List.length_flatMap]
 congr 1
 refine dn fun p _=>?_
 rw[ae]
section
variable {P:Program}{w:World}{K:W.Frag}{mg:Str->Option Value}{base:Heap}
variable {f fG fW fC a c c0 tb:Addr}{fdG fdW fdC:FuncData}{cdv:Value}{cl:List (Str×Addr)}{A:Around}{outer:List Env}{s:Shared}{H0:Hp}{E:XK}
abbrev qLam:Str:= "ways_of.<locals>.<lambda>"
def jMG (T:Txt mg): { t:TE // JE (cxN P w K mg base nLam qLam lamS a (.ref c) cl A outer s H0) lamB t} :=⟨_,(jD (jDQ rfl) (gl_n (by decide+kernel)) T.sum (by decide+kernel) (j3 (kW (m:=[none,none]) (Nc:=["number","ways"]) rfl (jAR (jv 0 rfl (vis_n (by decide+kernel)))) rfl (by decide+kernel) (by decide+kernel) (fun y hy hf=>absurd hf (by revert y; decide+kernel)) (jP (N:=nLam) rfl rfl (by decide+kernel)) (fun cl C fp s H=>jAS (i:=0) (j:=1) rfl (show (["number","ways"]:List Str).Nodup by decide+kernel) rfl rfl (by decide+kernel) (by decide+kernel)) (fun cl C fp s H=>yB) (fun cl C fp s H=>(jv 1 rfl (kE (by decide+kernel)))) jAF) j6 jK) jK)⟩
def zhW (a c:Addr):Hp->Prop:=fun H=>H a=some (.ext (nlP qLam lamA lamB lamS [] a c))/\H c=some (.ext (ncP qLam c))
theorem zhW.ok (a c:Addr):HpOk (zhW a c):=⟨fun H H' D kvs hD k h=>⟨k _ _ h.1 fun z=>(by rw[<- z,h.1] at hD; cases hD),k _ _ h.2 fun z=>(by rw[<- z,h.2] at hD; cases hD)⟩,fun H H' e h=>⟨e _ _ h.1,e _ _ h.2⟩⟩
theorem jR8 {ch:Ch}(o:ChOk ch)(T:Txt mg):Callee P w K mg base ZT (zhW a c) 1 a (jHE ch (RWay ch)):=by
 refine Callee.imp (jRS (fv:=[]) scLam (fun vs H Q E h=>?_) (fun pm ctv us hl=>?_) fun A outer s H vs Q E hr h=>?_) fun s H _=>⟨⟨fun x y c h=>(by cases h),fun x c h=>(by cases h)⟩,rfl,fun i x v h=>(by cases h)⟩
 ·obtain⟨_,_,_,rfl,_⟩:=h
  rfl
 ·match us,hl with
  | [_],_=>rfl
 ·obtain⟨l,us,m,rfl,hl,hm,hf,av,q⟩:=h
  refine⟨_,(jMG T).2.h,?_⟩
  have vl:us.length<=33:=by
   rw[av.len]
   have hlow:=jDF hm hf
   refine bJ (bI _ _) ?_
   rw[aB,ar hlow]
   exact o.len _ _ (ar hlow)
  refine⟨_,rfl,l,rfl,⟨_,SqL.of hl⟩,jBW (xs:=us) (fun σ=>∃ v1 v2,σ=[v1,v2]) (mapZ (chAt ch m) fun c=>natV (wk ch (m|||c.2)).length) (mapZ.ok _ _) hl (by rw[aE]; omega) ⟨_,_,rfl⟩ ?_ ?_⟩
  ·rintro j x σ' H' zs hx ⟨v1,v2,rfl⟩ e hz S1 S2 yes no
   obtain⟨c,hc,p,u,rfl,hp,hR⟩:=av.get' hx
   have hR:u=natV (wk ch (m|||c.2)).length:=hR
   subst hR
   refine⟨p,_,rfl,SqT.of (e _ _ hp),rfl,_,_,rfl,_,_,rfl,rfl,?_⟩
   dsimp only [yP]
   rw[am rfl]
   exact⟨_,rfl,yes _ _ _ ⟨_,_,rfl⟩ (Ext.refl _) (hz.yes hc)⟩
  ·rintro D H' zs hD e nD hz
   have hz:=hz.all (by rw[av.len]; exact ai _)
   have hz2:zs=((chAt ch m).map fun c=>((wk ch (m|||c.2)).length:Int)).map V.int:=by rw[hz,bK]; rfl
   rw[hz2] at hD
   refine⟨D,_,rfl,SqL.of hD,q _ _ ?_ e⟩
   show V.int _=natV _
   rw[jGF o hm hf,jJ5,bK]
   congr 1
   generalize chAt ch m=cs
   induction cs with
   | nil=>rfl
   | cons a r ih=>
    rw[be,dU,be,dU,ih]
    push_cast
    rfl
noncomputable abbrev nWays:List Str:=["choices"]
theorem scWays:FnScope nWays ["choices"] (j7 yT):=⟨rfl,rfl,rfl,by decide+kernel,rfl,by decide+kernel,by decide+kernel⟩
abbrev TabW (H:Hp)(tb:Addr):Prop:=TabOk H tb lamP qLam
def jGJ:Sp:=spEx (fun x:Addr×Addr×Ch=>ChOk x.2.2) fun x=>jNG x.1 (zhW x.1 x.2.1) x.2.2 (RWay x.2.2)
def jDY (tb:Addr):Sp:=fun vs H Q _=>∃ (L:Addr) (ch:Ch),vs=[.ref L]/\ChAt H L ch/\ChOk ch/\TabW H tb/\∀ (r:Addr) (ns:List Nat) (H':Hp),GotAt H' r ch (RWay ch) ns->ns.Pairwise (· > ·)->MetOk ch ns->ExtT tb H H'->TabW H' tb->H r=none->Q (.ref r) H'
def waysA (T:Txt mg)(CH:PySem.W.CodeHd base c0 tb)(BM:BltAt base mg)(CG:Can P w K mg base "gathered" 4 fG fdG ["choices","at_end","join"] jGJ)(hr:Room 4 (XOf nWays "ways_of" yT P w K mg base f (.ref c0) A outer s H0 E).A): { t:TS // JSs (XOf nWays "ways_of" yT P w K mg base f (.ref c0) A outer s H0 E) (jB yT) t} :=
 have nd:=scWays.nd
 ⟨_,(jC (jH (CG.je hr gD (j3 (jv 0 rfl vL) (j3 je_int (j3 (jRL rfl CH BM (fun y hy hf=>absurd hf (by revert y; decide+kernel)) rfl) j6 jQG) jL) j4) j4)))⟩
theorem jP0 {fd:FuncData}(F:FunC K "ways_of" "ways_of" yT f fd c0)(T:Txt mg)(CH:PySem.W.CodeHd base c0 tb)(BM:BltAt base mg)(CG:Can P w K mg base "gathered" 4 fG fdG ["choices","at_end","join"] jGJ):FnOk P w K mg base CX0 5 f fd ["choices"] (jDY tb):=by
 refine F.ok scWays (fun vs H Q E h=>?_) (fun A outer s H vs Q E hr h=>?_)
 ·obtain⟨_,_,rfl,_⟩:=h
  rfl
 ·obtain⟨L,ch,rfl,hL,o,tab,q⟩:=h
  refine⟨_,(waysA T CH BM CG hr).2.h,?_⟩
  refine⟨_,rfl,tab,fun a c H1 k1 k2 k3 e1 na=>?_⟩
  have hL1:ChAt H1 L ch:=hL.keep (fun b xs h=>e1.at tab h) fun b xs h=>e1.at tab h
  refine⟨(a,c,ch),o,L,_,rfl,hL1,?_,⟨k1,k2⟩,fun r ns H2 got srt mt e2 n2=>?_⟩
  ·show V.int 1=natV _
   rw[jEA]
   rfl
  ·refine q r ns H2 got srt mt (fun b o hb hn=>e2 _ _ (e1 b o hb hn)) (.inr ⟨c,e2 _ _ k3,e2 _ _ k2⟩) ?_
   cases z:H r with
   | none=>rfl
   | some o=>
    by_cases hr:r=tb
    ·rw[hr,k3] at n2
     cases n2
    ·rw[e1 _ _ z hr] at n2
     cases n2
noncomputable abbrev nMany:List Str:=["box"]
theorem scMany:FnScope nMany ["box"] (j7 sMany):=⟨rfl,rfl,rfl,by decide+kernel,rfl,by decide+kernel,by decide+kernel⟩
def jJG (tb:Addr):Sp:=fun vs H Q _=>∃ (b:Addr) (w:Int) (ms:List Int) (pcs:List (List Int×Int)),vs=[.ref b]/\BoxAt H b w ms pcs/\Good 16 32 w ms pcs/\TabW H tb/\∀ H',ExtT tb H H'->TabW H' tb->Q (natV (wk (chs w.toNat ms pcs) 0).length) H'
def manyA (T:Txt mg)(CC:Can P w K mg base "choices_of" 2 fC fdC ["box"] jA4)(CW:Can P w K mg base "ways_of" 5 fW fdW ["choices"] (jDY tb))(hr:Room 5 (XOf nMany "many" sMany P w K mg base f cdv A outer s H0 E).A): { t:TS // JSs (XOf nMany "many" sMany P w K mg base f cdv A outer s H0 E) (jB sMany) t} :=
 have nd:=scMany.nd
 ⟨_,(jC (jH (jEX (qB hr) (CW.je hr gD (j3 (CC.je (hr.mono (by decide)) gD (j3 (jv 0 rfl vL) j6 j4) j4) j6 jF) jF) je_int jJ)))⟩
theorem jP5 {fd:FuncData}(F:Fun K "many" "many" sMany f fd)(T:Txt mg)(CC:Can P w K mg base "choices_of" 2 fC fdC ["box"] jA4)(CW:Can P w K mg base "ways_of" 5 fW fdW ["choices"] (jDY tb)):FnOk P w K mg base CX0 6 f fd ["box"] (jJG tb):=by
 refine F.ok scMany (fun vs H Q E h=>?_) (fun cdv A outer s H vs Q E hr h=>?_)
 ·obtain⟨_,_,_,_,rfl,_⟩:=h
  rfl
 ·obtain⟨b,wi,ms,pcs,rfl,hB,g,tab,q⟩:=h
  refine⟨_,(manyA T CC CW hr).2.h,?_⟩
  refine⟨_,rfl,b,wi,ms,pcs,rfl,hB,g,fun L H1 hL1 e1=>?_⟩
  refine⟨L,_,rfl,hL1,jCP g,tab.ext e1,fun r ns H2 got srt mt e2 t2 n2=>?_⟩
  obtain⟨u,dg,ru⟩:=got0 got srt mt
  have ru:u=natV _:=ru
  subst ru
  exact⟨r,_,rfl,dg,q H2 ((ExtT.of e1).trans e2) t2⟩
end
def btsN (n m:Nat):List Int:=((List.range n).filter fun t=>m.testBit t).map fun (t:Nat)=>(t:Int)
theorem jC9 (p:Nat->Bool):∀ (d b:Nat),(∀ t,b<=t->p t=false)->(List.range (b+d)).filter p=(List.range b).filter p
 | 0,_,_=>rfl
 | d+1,b,h=>by
  rw[show b+(d+1)=(b+d)+1 by omega,fm,bV,jC9 p d b h,dO,ak (by rw[h _ (by omega)]; exact ag),List.filter_nil,aZ]
theorem jN1 {m a b:Nat}(ha:m<2 ^ a)(hb:m<2 ^ b):btsN a m=btsN b m:=by
 have f:∀ c,m<2 ^ c->∀ t,c<=t->m.testBit t=false:=fun c hc t ht=>dz (aR hc (bX (by decide) ht))
 unfold btsN
 congr 1
 rcases Nat.le_total a b with h | h
 ·obtain⟨d,rfl⟩:∃ d,b=a+d:=⟨b - a,by omega⟩
  exact(jC9 _ d a (f a ha)).symm
 ·obtain⟨d,rfl⟩:∃ d,a=b+d:=⟨a - b,by omega⟩
  exact jC9 _ d b (f b hb)
theorem jQ3 (m:Nat):m<2 ^ Builtin.Int.intBits (m:Int):=by
 unfold Builtin.Int.intBits
 by_cases h:m=0
 ·subst h
  decide
 ·have:(((m:Nat):Int)==0)=false:=bS.mpr (by omega)
  rw[this,iw]
  exact Nat.lt_log2_self
theorem jQ4 {m n:Nat}(h:m<2 ^ n):Builtin.Int.intBits (m:Int)<=n:=by
 unfold Builtin.Int.intBits
 by_cases h0:m=0
 ·subst h0
  exact aY _
 ·have:(((m:Nat):Int)==0)=false:=bS.mpr (by omega)
  rw[this,iw]
  exact(Nat.log2_lt h0).mpr h
theorem jN3 (m t:Nat):decide (V.int (Builtin.bitAnd ((m:Int) / 2 ^ ((t:Nat):Int).toNat) 1)=V.int 1)=m.testBit t:=by
 have e:(m:Int) / 2 ^ ((t:Nat):Int).toNat=((m / 2 ^ t:Nat):Int):=by
  rw[bf]
  push_cast
  rfl
 rw[e,show Builtin.bitAnd ((m / 2 ^ t:Nat):Int) 1=((m / 2 ^ t&&&1:Nat):Int) from jE7 _ 1,iu,eL,bB,bb,bb]
 constructor
 ·intro h
  have:=V.int.inj h
  omega
 ·intro h
  rw[h]
  rfl
theorem jAC (n m:Nat):Ris (n:Int) (btsN n m):=by
 unfold btsN
 refine⟨df.mpr ((eJ.filter _).imp fun h=>by omega),fun z hz=>?_⟩
 obtain⟨t,ht,rfl⟩:=bF.mp hz
 have:=bo.mp (bP.mp ht).1
 omega
section
variable {P:Program}{w:World}{K:W.Frag}{mg:Str->Option Value}{base:Heap}
variable {f:Addr}{cdv:Value}{A:Around}{outer:List Env}{s:Shared}{H0:Hp}{E:XK}
abbrev jK8:List Str:=["mask"]
theorem scLotOf:FnScope jK8 ["mask"] (j7 jB4):=⟨rfl,rfl,rfl,by decide+kernel,rfl,by decide+kernel,by decide+kernel⟩
def jEI:Sp:=fun vs H Q _=>∃ (m n:Nat),vs=[natV m]/\m<2 ^ n/\n<=64/\∀ r H',H' r=some (.tup ((btsN n m).map V.int))->Ext H H'->Q (.ref r) H'
def jRD (T:Txt mg): { t:TS // JSs (XOf jK8 "lot_of" jB4 P w K mg base f cdv A outer s H0 E) (jB jB4) t} :=
 have nd:=scLotOf.nd
 ⟨_,(jC (jH (kR jA0 gD T.tuple (by decide+kernel) (j3 (kW (m:=[none,some 0]) (Nc:=["thing","mask"]) rfl (jAJ gD T.range (j3 (jKN gK fH fJ jKC (jv 0 rfl vC)) j6 jF) jF) rfl (by decide+kernel) (by decide+kernel) (kP (psc:=j7 jB4) (by decide+kernel)) (jP (N:=jK8) rfl rfl (by decide+kernel)) (fun cl C fp s H=>kI (i:=0) (show (["thing","mask"]:List Str).Nodup by decide+kernel) rfl (yV (by decide+kernel))) (fun cl C fp s H=>jEV (jT yQ (kY jHN (kY jNM (jv 1 rfl (yL (by decide+kernel))) (jv 0 rfl (kE (by decide+kernel)))) (je_int)) (je_int) (jN _))) (fun cl C fp s H=>(jv 0 rfl (kE (by decide+kernel)))) y8) j6 jK) jK)))⟩
theorem jM8 {fd:FuncData}(F:Fun K "lot_of" "lot_of" jB4 f fd)(T:Txt mg):FnOk P w K mg base CX0 1 f fd ["mask"] jEI:=by
 refine F.ok scLotOf (fun vs H Q E h=>?_) (fun cdv A outer s H vs Q E hr h=>?_)
 ·obtain⟨_,_,rfl,_⟩:=h
  rfl
 ·obtain⟨m,n,rfl,hm,hn,q⟩:=h
  refine⟨_,(jRD T).2.h,?_⟩
  have bl:=jQ4 hm
  refine⟨_,rfl,rfl,_,rfl,rfl,_,rfl,by omega,by omega,jI2 (n:=(Builtin.Int.intBits (m:Int):Int).toNat) (fun σ=>∃ v,σ=[v,some (natV m)]) (outZ (List.range (Builtin.Int.intBits (m:Int):Int).toNat) (fun t=>m.testBit t) natV) (outZ.ok _ _ _) (by rw[aE]; omega) ⟨_,rfl⟩ ?_ ?_⟩
  ·rintro j σ' H' zs hj ⟨v,rfl⟩ e hz S1 S2 yes no
   have e0:(0+(j:Int))=(j:Int):=by omega
   have hg:(List.range (Builtin.Int.intBits (m:Int):Int).toNat)[j]?=some j:=dR hj
   refine⟨_,rfl,_,rfl,_,_,rfl,rfl,by omega,_,_,rfl,rfl,rfl,_,rfl,?_⟩
   show if decide (V.int (Builtin.bitAnd ((m:Int) / 2 ^ (0+(j:Int)).toNat) 1)=V.int 1)=true then _ else _
   rw[e0,jN3]
   refine ite2 (fun h=>?_) (fun h=>?_)
   ·refine⟨_,rfl,yes _ _ _ ⟨_,rfl⟩ (Ext.refl _) (hz.yes hg h)⟩
   ·exact no _ _ ⟨_,rfl⟩ (Ext.refl _) (hz.no hg (dE.mpr h))
  ·rintro D H' zs hD e nD hz
   have hz:=hz.all (by rw[bE]; exact ai _)
   refine⟨D,_,rfl, .inl ⟨SqL.of hD,fun r hr'=>q r _ ?_ ((e.trans ((Ext.refl _).new hr' _)))⟩⟩
   rw[j5,hz]
   have:=jN1 (a:=n) hm (jQ3 m)
   rw[this]
   unfold btsN
   rw[bK]
   rfl
end
end Eo
end
section
namespace L2
mutual
def wid:Tr->Nat
 | .lst ts=>max ts.length (wids ts)
 | .tup ts=>max ts.length (wids ts)
 | _=>0
def wids:List Tr->Nat
 | []=>0
 | t::ts=>max (wid t) (wids ts)
end
theorem jO5 {ts:List Tr}{t:Tr}(h:t∈ts):wid t<=wids ts:=by
 induction ts with
 | nil=>cases h
 | cons a r ih=>
  rw[wids]
  rcases aF.mp h with q | q
  ·subst q; omega
  ·have:=ih q; omega
end L2
namespace Eo
open PySem L2
abbrev jNP:List Str:=["found"]
noncomputable abbrev nSame:List Str:=["found","due"]
theorem scWhole:FnScope jNP ["found"] (j7 jBL):=⟨rfl,rfl,rfl,by decide+kernel,rfl,by decide+kernel,by decide+kernel⟩
theorem scSame:FnScope nSame ["found","due"] (j7 qD):=⟨rfl,rfl,rfl,by decide+kernel,rfl,by decide+kernel,by decide+kernel⟩
section
variable {P:Program}{w:World}{K:W.Frag}{mg:Str->Option Value}{base:Heap}
def jAM:Sp:=fun vs H Q _=>∃ i:Int,vs=[.int i]/\Q (.bl true) H
def jQA {f:Addr}{cdv:Value}{A:Around}{outer:List Env}{s:Shared}{H:Hp}{E:XK}(T:Txt mg): { t:TS // JSs (XOf jNP "_law_whole" jBL P w K mg base f cdv A outer s H E) (jB jBL) t} :=
 have nd:=scWhole.nd
 ⟨_,(jC (jH ((jBA (jD jI gD T.isinstance (by decide+kernel) (j3 (jv 0 rfl vL) (j3 (kO (v:= .ty "int") gD T.int (by decide+kernel) rfl) j6 j4) j4) j4) (yW (jNU (jD jI gD T.isinstance (by decide+kernel) (j3 (jv 0 rfl vL) (j3 (kO (v:= .ty "bool") gD T.bool (by decide+kernel) rfl) j6 j4) j4) j4)))))))⟩
theorem jM7 {f:Addr}{fd:FuncData}(F:Fun K "_law_whole" "_law_whole" jBL f fd)(T:Txt mg):FnOk P w K mg base CX0 1 f fd ["found"] jAM:=by
 refine F.ok scWhole (fun vs H Q E h=>?_) (fun cdv A outer s H vs Q E hr h=>?_)
 ·obtain⟨_,rfl,_⟩:=h
  rfl
 ·obtain⟨i,rfl,q⟩:=h
  refine⟨_,(jQA T).2.h,?_⟩
  refine⟨_,rfl,_,_,_,true,rfl, .int i,rfl,true,rfl,?_⟩
  rw[am rfl]
  exact⟨_,rfl,_,_,_,false,rfl, .int i,rfl,false,rfl,q⟩
def sameA {k:Nat}{spS:Sp}{f fW fS:Addr}{fdW fdS:FuncData}{cdv:Value}{A:Around}{outer:List Env}{s:Shared}{H:Hp}{E:XK}(T:Txt mg)(CW:Can P w K mg base "_law_whole" 1 fW fdW ["found"] jAM)(CS:Can P w K mg base "_law_same" (k+1) fS fdS ["found","due"] spS)
  (hr:Room (k+1) (XOf nSame "_law_same" qD P w K mg base f cdv A outer s H E).A): { t:TS // JSs (XOf nSame "_law_same" qD P w K mg base f cdv A outer s H E) (jB qD) t} :=
 have nd:=scSame.nd
 ⟨_,(jA (kU (jT jNN (jv 1 rfl vL) (yR) (jN _)) (jC (jH (yC jNN (jv 0 rfl vL) (yR) (jN _)))) jQ)
   (jA (kU (y6 (jD jI gD T.isinstance (by decide+kernel) (j3 (jv 1 rfl vL) (j3 (kO (v:= .ty "bool") gD T.bool (by decide+kernel) rfl) j6 j4) j4) j4) kN) (jC (jH ((jBA (jD jI gD T.isinstance (by decide+kernel) (j3 (jv 0 rfl vL) (j3 (kO (v:= .ty "bool") gD T.bool (by decide+kernel) rfl) j6 j4) j4) j4) (yW (yC yQ (jv 0 rfl vL) (jv 1 rfl vL) (jN _))))))) jQ)
   (jA (kU (y6 (jD jI gD T.isinstance (by decide+kernel) (j3 (jv 1 rfl vL) (j3 (kO (v:= .ty "int") gD T.int (by decide+kernel) rfl) j6 j4) j4) j4) kN) (jC (jH ((jBA (CW.je (hr.mono (by omega)) gD (j3 (jv 0 rfl vL) j6 j4) j4) (yW (yC yQ (jv 0 rfl vL) (jv 1 rfl vL) (jN _))))))) jQ)
   (jA (kU (y6 (jD jI gD T.isinstance (by decide+kernel) (j3 (jv 1 rfl vL) (j3 (kO (v:= .ty "str") gD T.str (by decide+kernel) rfl) j6 j4) j4) j4) kN) (jC (jH ((jBA (jD jI gD T.isinstance (by decide+kernel) (j3 (jv 0 rfl vL) (j3 (kO (v:= .ty "str") gD T.str (by decide+kernel) rfl) j6 j4) j4) j4) (yW (yC yQ (jv 0 rfl vL) (jv 1 rfl vL) (jN _))))))) jQ)
   (jA (kU (jt_w (qJ (jT op_ne (jD jI gD T.isinstance (by decide+kernel) (j3 (jv 1 rfl vL) (j3 (kO (v:= .ty "tuple") gD T.tuple (by decide+kernel) rfl) j6 j4) j4) j4) (jD jI gD T.isinstance (by decide+kernel) (j3 (jv 0 rfl vL) (j3 (kO (v:= .ty "tuple") gD T.tuple (by decide+kernel) rfl) j6 j4) j4) j4) (jN _)) (jB9 (jT op_ne (jD jI gD T.isinstance (by decide+kernel) (j3 (jv 1 rfl vL) (j3 (kO (v:= .ty "list") gD T.list (by decide+kernel) rfl) j6 j4) j4) j4) (jD jI gD T.isinstance (by decide+kernel) (j3 (jv 0 rfl vL) (j3 (kO (v:= .ty "list") gD T.list (by decide+kernel) rfl) j6 j4) j4) j4) (jN _))))) (jC (jH (je_bl))) jQ)
   (jC (jH ((jBA (yC yQ (jD jO gD T.len (by decide+kernel) (j3 (jv 0 rfl vL) j6 j4) j4) (jD jO gD T.len (by decide+kernel) (j3 (jv 1 rfl vL) j6 j4) j4) (jN _)) (yW (jD (jA8 rfl) gD T.all (by decide+kernel) (j3 (kW (m:=[none,none]) (Nc:=["one","other"]) rfl (jNS gD T.zip (j3 (jv 0 rfl vL) (j3 (jv 1 rfl vL) j6 j4) j4) j4) rfl (by decide+kernel) (by decide+kernel) (kP (psc:=j7 qD) (by decide+kernel)) (jP (N:=nSame) rfl rfl (by decide+kernel)) (fun cl C fp s H=>jAS (i:=0) (j:=1) rfl (show (["one","other"]:List Str).Nodup by decide+kernel) rfl rfl (by decide+kernel) (by decide+kernel)) (fun cl C fp s H=>yB) (fun cl C fp s H=>(CS.je hr (gl_b (by decide+kernel)) (j3 (jv 0 rfl (kE (by decide+kernel))) (j3 (jv 1 rfl (kE (by decide+kernel))) j6 j4) j4) j4)) y8) j6 jK) jK)))))))))))⟩
def spNo:Sp:=fun _ _ _ _=>False
theorem ok_no {k:Nat}{f:Addr}{fd:FuncData}{ps:List Str} :FnOk P w K mg base CX0 k f fd ps spNo:=⟨fun _ _ _ _ h=>h.elim,fun _ _ _ _ _ _ _ _ _ _ _ _ _ h=>h.elim⟩
def jD5 (d:Nat):Sp:=fun vs H Q _=>∃ (x y:V) (t:Tr),vs=[x,y]/\TAt H t x/\TAt H t y/\dep t<=d/\wid t<=1000000/\∀ H',Ext H H'->Q (.bl true) H'
def jNF:Nat->Sp
 | 0=>spNo
 | d+1=>jD5 d
theorem jN4 (n:Nat):(replicate n true).all id=true:=by
 induction n with
 | zero=>rfl
 | succ n ih=>rw[hZ,gn,ih]; rfl
theorem jHG (d:Nat)(tp:Bool){H:Hp}{p q:Addr}{ts:List Tr}{vs ws:List V}{Q:VK}
  (hp:Sq tp K H p vs) (hq:Sq tp K H q ws) (ex:∀ H',Ext H H'->Sq tp K H' p vs/\Sq tp K H' q ws) (h1:TsAt H ts vs) (h2:TsAt H ts ws) (hd:deps ts<d) (hw:ts.length<=1000000) (hws:wids ts<=1000000) (k:∀ H',Ext H H'->Q (.bl true) H') {m:List (Option Nat)}{σ:St}
  (hm:m=[none,none]):
  qG m (gTup K 2 (gCons (yA 0) (gCons (yA 1) gNil))) yP (tCall (jNF d) [] E0 (tCons (tVar 0) (tCons (tVar 1) tNil))) σ (fun x H1=>∃ (p:Addr) (bs:List Bool),[x]=[.ref p]/\SqL K H1 p (bs.map V.bl)/\Q (.bl (bs.all id)) H1) (Itz tp tp K p q) H:=by
 subst hm
 have l1:=h1.len
 have l2:=h2.len
 refine jI1 (xs:=vs) (ys:=ws) (by rw[aE]; omega) (fun D i σ' H' zs=>(∃ v1 v2,σ'=[v1,v2])/\zs=(replicate i true).map V.bl/\Ext H H'/\H' D=some (.lst zs)/\H D=none) ?_ ?_ ?_ ?_
 ·intro D hD
  exact⟨⟨_,_,rfl⟩,rfl,(Ext.refl H).new hD _,j5,hD⟩
 ·rintro D i σ' H' zs hD ⟨_,rfl,e,e2,_⟩
  obtain⟨q1,q2⟩:=ex H' e
  refine⟨q1,q2,e2,?_⟩
  rw[ae,eN]
  exact ai _
 ·rintro D i σ' H' zs x y t hD hx hy ht ⟨⟨v1,v2,rfl⟩,rfl,e,e2,hn⟩
  obtain⟨u,hu,hxu⟩:=h1.get hx
  obtain⟨u',hu',hyu⟩:=h2.get hy
  rw[hu] at hu'
  cases hu'
  have tD:D≠t:=j9 e2 ht
  have hmem:=ay hu
  have e3:Ext H (upd H' t (.tup [x,y])):=e.new ht _
  refine⟨t,_,rfl,SqT.of j5,rfl,_,_,rfl,_,_,rfl,rfl,?_⟩
  dsimp only [yA,yP]
  rw[am rfl]
  cases d with
  | zero=>omega
  | succ d=>
   refine⟨_,rfl,_,rfl,x,y,u,rfl,hxu.ext e3,hyu.ext e3,by have:=jPY hmem; omega,by have:=jO5 hmem; omega,fun H4 e4=>⟨e4 _ _ (by rw[j8 tD]; exact e2),⟨_,_,rfl⟩,?_,(e3.trans e4).updNew hn _,j5,hn⟩⟩
   rw[List.replicate_succ',aN]
   rfl
 ·rintro D σ' H' zs hD ⟨_,rfl,e,e2,hn⟩
  refine⟨D,_,rfl,SqL.of e2,?_⟩
  rw[jN4]
  exact k H' e
theorem jFL {f fW:Addr}{fd fdW:FuncData}(d:Nat)(F:Fun K "_law_same" "_law_same" qD f fd)(T:Txt mg)(CW:Can P w K mg base "_law_whole" 1 fW fdW ["found"] jAM)(CS:Can P w K mg base "_law_same" (d+1) f fd ["found","due"] (jNF d)):
  FnOk P w K mg base CX0 (d+2) f fd ["found","due"] (jD5 d):=by
 refine F.ok scSame (fun vs H Q E h=>?_) (fun cdv A outer s H vs Q E hr h=>?_)
 ·obtain⟨_,_,_,rfl,_⟩:=h
  rfl
 ·obtain⟨x,y,t,rfl,hx,hy,hd,hw,k⟩:=h
  refine⟨_,(sameA T CW CS hr).2.h,?_⟩
  have k0:=k H (Ext.refl H)
  cases t with
  | non=>
   cases (show x= .non from hx)
   cases (show y= .non from hy)
   exact⟨_,rfl,rfl,_,rfl,iteT ⟨_,rfl,rfl,k0⟩⟩
  | bl b=>
   cases (show x= .bl b from hx)
   cases (show y= .bl b from hy)
   refine⟨_,rfl,rfl,_,rfl,iteF ?_⟩
   refine⟨_,rfl,_,_,_,true,rfl, .bl b,rfl,true,rfl,iteT ?_⟩
   refine⟨_,rfl,_,_,_,true,rfl, .bl b,rfl,true,rfl,iteT ⟨_,rfl,_,rfl,rfl,?_⟩⟩
   show Q (.bl (decide (V.bl b=V.bl b))) H
   rw[ax rfl]
   exact k0
  | int i=>
   cases (show x= .int i from hx)
   cases (show y= .int i from hy)
   refine⟨_,rfl,rfl,_,rfl,iteF ?_⟩
   refine⟨_,rfl,_,_,_,false,rfl, .int i,rfl,false,rfl,iteF ?_⟩
   refine⟨_,rfl,_,_,_,true,rfl, .int i,rfl,true,rfl,iteT ?_⟩
   refine⟨_,rfl,_,rfl,true,rfl,iteT ⟨_,rfl,_,rfl,rfl,?_⟩⟩
   show Q (.bl (decide (V.int i=V.int i))) H
   rw[ax rfl]
   exact k0
  | str z=>
   cases (show x= .str z from hx)
   cases (show y= .str z from hy)
   refine⟨_,rfl,rfl,_,rfl,iteF ?_⟩
   refine⟨_,rfl,_,_,_,false,rfl, .str z,rfl,false,rfl,iteF ?_⟩
   refine⟨_,rfl,_,_,_,false,rfl, .str z,rfl,false,rfl,iteF ?_⟩
   refine⟨_,rfl,_,_,_,true,rfl, .str z,rfl,true,rfl,iteT ?_⟩
   refine⟨_,rfl,_,_,_,true,rfl, .str z,rfl,true,rfl,iteT ⟨_,rfl,_,rfl,rfl,?_⟩⟩
   show Q (.bl (decide (V.str z=V.str z))) H
   rw[ax rfl]
   exact k0
  | lst ts=>
   obtain⟨p,vs,rfl,hp,h1⟩:=hx
   obtain⟨q,ws,rfl,hq,h2⟩:=hy
   rw[dep] at hd
   rw[wid] at hw
   refine⟨_,rfl,rfl,_,rfl,iteF ?_⟩
   refine⟨_,rfl,_,_,_,false,rfl, .lst hq,rfl,false,rfl,iteF ?_⟩
   refine⟨_,rfl,_,_,_,false,rfl, .lst hq,rfl,false,rfl,iteF ?_⟩
   refine⟨_,rfl,_,_,_,false,rfl, .lst hq,rfl,false,rfl,iteF ?_⟩
   refine⟨_,rfl,_,_,_,false,rfl, .lst hq,rfl,_,rfl,_,_,_,false,rfl, .lst hp,rfl,rfl,_,rfl,iteF ?_⟩
   refine⟨_,rfl,_,_,_,true,rfl, .lst hq,rfl,_,rfl,_,_,_,true,rfl, .lst hp,rfl,rfl,_,rfl,iteF ?_⟩
   refine⟨_,rfl,p,_,rfl, .inl (SqL.of hp),_,rfl,q,_,rfl, .inl (SqL.of hq),rfl,_,rfl,?_⟩
   rw[show (vs.length:Int)=(ws.length:Int) by rw[h1.len,h2.len],ax rfl]
   refine iteT ⟨_,rfl,_,rfl,false,false,p,q,rfl,⟨_,SqL.of hp⟩,⟨_,SqL.of hq⟩,?_⟩
   exact jHG d false (SqL.of hp) (SqL.of hq) (fun H' e=>⟨SqL.of (e _ _ hp),SqL.of (e _ _ hq)⟩) h1 h2 (by omega) (by omega) (by omega) k rfl
  | tup ts=>
   obtain⟨p,vs,rfl,hp,h1⟩:=hx
   obtain⟨q,ws,rfl,hq,h2⟩:=hy
   rw[dep] at hd
   rw[wid] at hw
   refine⟨_,rfl,rfl,_,rfl,iteF ?_⟩
   refine⟨_,rfl,_,_,_,false,rfl, .tup hq,rfl,false,rfl,iteF ?_⟩
   refine⟨_,rfl,_,_,_,false,rfl, .tup hq,rfl,false,rfl,iteF ?_⟩
   refine⟨_,rfl,_,_,_,false,rfl, .tup hq,rfl,false,rfl,iteF ?_⟩
   refine⟨_,rfl,_,_,_,true,rfl, .tup hq,rfl,_,rfl,_,_,_,true,rfl, .tup hp,rfl,rfl,_,rfl,iteF ?_⟩
   refine⟨_,rfl,_,_,_,false,rfl, .tup hq,rfl,_,rfl,_,_,_,false,rfl, .tup hp,rfl,rfl,_,rfl,iteF ?_⟩
   refine⟨_,rfl,p,_,rfl, .inr (SqT.of hp),_,rfl,q,_,rfl, .inr (SqT.of hq),rfl,_,rfl,?_⟩
   rw[show (vs.length:Int)=(ws.length:Int) by rw[h1.len,h2.len],ax rfl]
   refine iteT ⟨_,rfl,_,rfl,true,true,p,q,rfl,⟨_,SqT.of hp⟩,⟨_,SqT.of hq⟩,?_⟩
   exact jHG d true (SqT.of hp) (SqT.of hq) (fun H' e=>⟨SqT.of (e _ _ hp),SqT.of (e _ _ hq)⟩) h1 h2 (by omega) (by omega) (by omega) k rfl
theorem jHO {f fW:Addr}{fd fdW:FuncData}(F:Fun K "_law_same" "_law_same" qD f fd)(T:Txt mg)(CW:Can P w K mg base "_law_whole" 1 fW fdW ["found"] jAM)(hm:mg "_law_same" =some (.ref f))(kp:keepIn K (.ref f)=true)(hb:Binds K fd ["found","due"] []):
  ∀ d:Nat,FnOk P w K mg base CX0 (d+2) f fd ["found","due"] (jD5 d)
 | 0=>jFL 0 F T CW ⟨ok_no,hm,kp,hb⟩
 | d+1=>jFL (d+1) F T CW ⟨jHO F T CW hm kp hb d,hm,kp,hb⟩
end
theorem jGW {n:Int}{ks:List Int}(h:ks.Pairwise (· < ·))(hb:∀ k∈ks,0<=k/\k<n):lotB n (.tup (ks.map Ob.int))=true:=by
 have hv:(ks.map Ob.int).map val=ks:=by rw[bK]; exact iC _
 show ((ks.map Ob.int).all (upB 0 (n - 1))&&(adj ((ks.map Ob.int).map val)).all id)=true
 rw[hv,bC,bj,bj]
 refine⟨fun x hx=>?_,fun x hx=>?_⟩
 ·obtain⟨k,hk,rfl⟩:=bF.mp hx
  have:=hb k hk
  show (decide (0<=k)&&decide (k<=n - 1))=true
  rw[ax (by omega),ax (by omega)]
  rfl
 ·unfold adj at hx
  obtain⟨i,hi,rfl⟩:=bF.mp hx
  have hi:=bo.mp hi
  refine ax ?_
  rw[jKV (by omega),jKV (by omega)]
  exact bO.mp h i (i+1) (by omega) (by omega) (by omega)
theorem mem_bts {n m:Nat}{t:Int} :t∈btsN n m↔(0<=t/\t<n)/\m.testBit t.toNat=true:=by
 unfold btsN
 rw[bF]
 constructor
 ·rintro ⟨i,hi,rfl⟩
  obtain⟨h1,h2⟩:=bP.mp hi
  have:=bo.mp h1
  exact⟨by omega,by rw[bf]; exact h2⟩
 ·rintro ⟨⟨a,b⟩,h⟩
  exact⟨t.toNat,bP.mpr ⟨bo.mpr (by omega),h⟩,by omega⟩
theorem jLX {l k:List Int}(h1:l.Pairwise (· < ·))(h2:k.Pairwise (· < ·))(h:∀ t,t∈l↔t∈k):l=k:=by
 have p:l.Perm k:=(List.perm_ext_iff_of_nodup (h1.imp fun {a b} h=>by omega) (h2.imp fun {a b} h=>by omega)).mpr h
 exact p.eq_of_pairwise (fun a b _ _ x y=>by omega) h1 h2
theorem jES {n m:Nat}(h:m<2 ^ n):maskN (btsN n m)=m:=by
 have r:=jAC n m
 refine dI fun i=>?_
 rw[jAH _ i r.ris fun x hx=>(r.bnd x hx).1]
 by_cases hi:i<n
 ·rw[bB,bb,mem_bts]
  constructor
  ·rintro ⟨_,z⟩; rwa [bf] at z
  ·intro z; exact⟨by omega,by rw[bf]; exact z⟩
 ·have e:m.testBit i=false:=dz (aR h (bX (by decide) (by omega)))
  rw[e]
  exact aP fun z=>by have:=(mem_bts.mp z).1; omega
theorem jQ2 {n m k:Nat}(hm:m<2 ^ n)(hk:k<2 ^ n)(e:btsN n m=btsN n k):m=k:=by rw[<- jES hm,<- jES hk,e]
theorem jNC {n m:Nat}{l:List Int}(h:l.Pairwise (· < ·))(hb:∀ t∈l,0<=t/\t<(n:Int))(dj:∀ t∈l,t∉btsN n m):srt (btsN n m++l)=btsN n (m|||maskN l):=by
 have r:=jAC n m
 have nd:(btsN n m++l).Nodup:=eD.mpr ⟨r.ris.imp fun {a b} h=>by omega,h.imp fun {a b} h=>by omega,fun x hx y hy e=>by rw[e] at hx; exact dj y hy hx⟩
 refine jLX ((List.Pairwise.and (jND _) ((jEH _).nodup_iff.mpr nd)).imp fun {x y} ⟨u,v⟩=>by omega) (jAC n _).ris fun t=>?_
 rw[(jEH _).mem_iff,aI,mem_bts,mem_bts,ga,gO,jAH _ _ h fun x hx=>(hb x hx).1,bb]
 constructor
 ·rintro (⟨a,b⟩ | a)
  ·exact⟨a, .inl b⟩
  ·have:=hb t a
   exact⟨this, .inr (by rw[show ((t.toNat:Nat):Int)=t by omega]; exact a)⟩
 ·rintro ⟨a,b | b⟩
  ·exact .inl ⟨a,b⟩
  ·rw[show ((t.toNat:Nat):Int)=t by omega] at b
   exact .inr b
theorem jI8 {n m:Nat}(h:m<2 ^ n):(btsN n m).length<n↔m≠2 ^ n - 1:=by
 have le:(btsN n m).length<=n:=by
  unfold btsN
  rw[ae]
  have:=bI (fun t=>m.testBit t) (List.range n)
  rwa [bE] at this
 have e:(btsN n m).length=n↔m=2 ^ n - 1:=by
  constructor
  ·intro z
   refine jKX h fun j hj=>?_
   unfold btsN at z
   rw[ae] at z
   have:=(List.length_filter_eq_length_iff (p:=fun t=>m.testBit t) (l:=List.range n)).mp (by rw[z,bE])
   exact this j (bo.mpr hj)
  ·rintro rfl
   unfold btsN
   rw[ae,List.filter_eq_self.mpr,bE]
   intro t ht
   rw[fE]
   exact ax (bo.mp ht)
 omega
theorem jI7 (n:Nat):btsN n 0=[]:=by
 refine List.eq_nil_iff_forall_not_mem.mpr fun t ht=>?_
 have:=(mem_bts.mp ht).2
 rw[eV] at this
 cases this
def okK (w m:Nat)(pcs:List (List Int×Int))(k:Int):Bool:=decide ((lowN m:Int)∈jE pcs k)&&(jE pcs k).all fun t=>decide (t∉btsN w m)
section
variable {w:Int}{ms:List Int}{pcs:List (List Int×Int)}(g:Good 16 32 w ms pcs)
include g
theorem jPC {m:Nat}(hm:m<2 ^ w.toNat){k:Int}(h0:0<=k)(h1:k<pcs.length):okK w.toNat m pcs k=(decide ((jE pcs k).headD 0=(lowN m:Int))&&(maskN (jE pcs k)&&&m==0)):=by
 have hd:=jIV g h0 h1
 have lt:=jC4 g h0 h1
 have w0:=g.w0
 have dj:((jE pcs k).all fun t=>decide (t∉btsN w.toNat m))=(maskN (jE pcs k)&&&m==0):=by
  rw[bB,bj,iq,jNJ g h0 h1]
  constructor
  ·intro z t ht
   have:=aL (z t ht)
   have tb:=lt.bnd t ht
   cases hb:m.testBit t.toNat with
   | false=>rfl
   | true=>exact absurd (mem_bts.mpr ⟨by omega,hb⟩) this
  ·intro z t ht
   refine ax fun y=>?_
   have:=z t ht
   rw[(mem_bts.mp y).2] at this
   cases this
 unfold okK
 rw[dj]
 by_cases h2:maskN (jE pcs k)&&&m=0
 ·rw[show (maskN (jE pcs k)&&&m==0)=true by rw[h2]; rfl,Bool.and_true,Bool.and_true]
  rw[bB,bb,bb]
  constructor
  ·intro z
   have le:=hd.2 _ z
   have fit:=(jNJ g h0 h1).mp h2 _ hd.1
   have hb:=lt.bnd _ hd.1
   rcases Int.lt_or_le ((jE pcs k).headD 0) (lowN m:Int) with y | y
   ·have:=jGV m ((jE pcs k).headD 0).toNat (by omega)
    rw[fit] at this
    cases this
   ·omega
  ·intro z
   rw[<- z]
   exact hd.1
 ·rw[show (maskN (jE pcs k)&&&m==0)=false by simpa using h2,cR,cR]
theorem jQ1 {m:Nat}(hm:m<2 ^ w.toNat)(hn:m≠2 ^ w.toNat - 1):chAt (chs w.toNat ms pcs) m=(if (lowN m:Int)∈ms then [(-1,2 ^ lowN m)] else [])++((upto pcs.length).filter (okK w.toNat m pcs)).map fun k=>(k,maskN (jE pcs k)):=by
 have hl:lowN m<w.toNat:=jDF hm hn
 have z0:2 ^ lowN m&&&m=0:=by
  refine dI fun i=>?_
  rw[fj,eV,fr]
  by_cases hi:lowN m=i
  ·rw[<- hi,jDE,cR]
  ·rw[aP hi,dF]
 unfold chAt chs
 rw[aB,jAB hl]
 show (yY ms pcs pcs.length (lowN m)).filter _=_
 unfold yY
 rw[bV,bz (by rw[jCV]; exact ai _),List.filter_map,List.filter_filter]
 congr 1
 ·by_cases h:(lowN m:Int)∈ms
  ·rw[am h,gC (by show (2 ^ lowN m&&&m==0)=true; rw[z0]; rfl)]
   rfl
  ·rw[ak h]
   rfl
 ·congr 1
  refine List.filter_congr fun k hk=>?_
  have kb:=(jCU pcs.length).bnd k hk
  rw[jPC g hm kb.1 kb.2,Bool.and_comm]
  rfl
theorem jQ9 {m:Nat}(hm:m<2 ^ w.toNat)(hn:m≠2 ^ w.toNat - 1):(wk (chs w.toNat ms pcs) m).length=((chAt (chs w.toNat ms pcs) m).map fun c=>(wk (chs w.toNat ms pcs) (m|||c.2)).length).sum:=by
 have cl:(chs w.toNat ms pcs).length=w.toNat:=kX _ _ _ _
 have o:ChOk (chs w.toNat ms pcs):=jCP g
 rw[jGF o (by rw[cl]; exact hm) (by unfold fullN; rw[cl]; exact hn),jJ5,bK]
 rfl
theorem ch_gt {m:Nat}(hm:m<2 ^ w.toNat)(hn:m≠2 ^ w.toNat - 1){c:Int×Nat}(hc:c∈chAt (chs w.toNat ms pcs) m):m<m|||c.2/\m|||c.2<2 ^ w.toNat:=by
 have o:ChOk (chs w.toNat ms pcs):=jCP g
 have cl:(chs w.toNat ms pcs).length=w.toNat:=kX _ _ _ _
 have hl:lowN m<w.toNat:=jDF hm hn
 unfold chAt at hc
 obtain⟨h1,h2⟩:=bP.mp hc
 rw[aB] at h1
 cases hg:(chs w.toNat ms pcs)[lowN m]? with
 | none=>rw[hg] at h1; cases h1
 | some cs=>
  rw[hg] at h1
  obtain⟨b1,b2,_⟩:=o.it _ _ hg c h1
  rw[cl] at b2
  refine⟨?_,Nat.or_lt_two_pow hm b2⟩
  have ne:m≠m|||c.2:=fun e=>by
   have:=bL (fun x=>Nat.testBit x (lowN m)) e
   simp only [ga,jDE,b1,iA] at this
   cases this
  have:=(Nat.left_le_or:m<=m|||c.2)
  omega
end
theorem jDO:∀ {ns:List Nat}{i m x:Nat},ns.Pairwise (· > ·)->ns[i]?=some m->x∈ns->m<x->x∈ns.take i
 | [],_,_,_,_,_,h,_=>by cases h
 | n::ns,0,m,x,hp,hi,hx,lt=>by
  have e:n=m:=by simpa using hi
  rcases aF.mp hx with y | y
  ·omega
  ·have:=(cg.mp hp).1 x y
   omega
 | n::ns,i+1,m,x,hp,hi,hx,lt=>by
  rw[hG]
  rcases aF.mp hx with y | y
  ·rw[y]; exact aJ ..
  ·exact aK _ (jDO (cg.mp hp).2 (by simpa using hi) y lt)
theorem jI0 {ns:List Nat}{i m:Nat}(hp:ns.Pairwise (· > ·))(hi:ns[i]?=some m):m∉ns.take i:=fun h=>by
 obtain⟨j,hj,e⟩:=List.mem_iff_getElem.mp h
 rw[aV] at hj
 rw[List.getElem_take] at e
 obtain⟨hl,e2⟩:=ah.mp hi
 have:=bO.mp hp j i (by omega) hl (by omega)
 omega
theorem jFZ {ns:List Nat}(hp:ns.Pairwise (· > ·))(h0:0∈ns):ns.getLast?=some 0:=by
 induction ns with
 | nil=>cases h0
 | cons n ns ih=>
  obtain⟨a,b⟩:=cg.mp hp
  cases ns with
  | nil=>
   have:=aH.mp h0
   rw[<- this]
   rfl
  | cons k r=>
   rw[List.getLast?_cons_cons]
   refine ih b ?_
   rcases aF.mp h0 with y | y
   ·have:=a k (aJ ..)
    omega
   ·exact y
def RwAt (w:Nat)(ch:Ch)(H:Hp)(u:V)(n:Nat):Prop:=∃ b a,u=V.ref b/\H b=some (.tup [.ref a,natV (wk ch n).length])/\H a=some (.tup ((btsN w n).map V.int))
theorem RwAt.mono {w:Nat}{ch:Ch}{H H':Hp}{u:V}{n:Nat}(t:Tups H H')(h:RwAt w ch H u n):RwAt w ch H' u n:=let ⟨b,a,e,x,y⟩:=h; ⟨b,a,e,t _ _ x,t _ _ y⟩
structure PapAt (H:Hp)(r:Addr)(w:Nat)(ch:Ch)(ns:List Nat):Prop where
 ex:∃ us,H r=some (.tup us)/\All2 (RwAt w ch H) us ns
 desc:ns.Pairwise (· > ·)
 met:MetOk ch ns
theorem PapAt.mono {H H':Hp}{r:Addr}{w:Nat}{ch:Ch}{ns:List Nat}(p:PapAt H r w ch ns)(t:Tups H H'):PapAt H' r w ch ns:=let ⟨us,a,b⟩:=p.ex; ⟨⟨us,t _ _ a,b.imp fun _ _=>RwAt.mono t⟩,p.desc,p.met⟩
theorem jGT {ch:Ch}{ns:List Nat}(o:ChOk ch)(d:ns.Pairwise (· > ·))(m:MetOk ch ns):ns.length<=65536:=by
 have h:=jA7 (n:=2 ^ ch.length) (d.imp fun {a b} h=>by omega:ns.Nodup) m.bnd
 have:=bX (n:=2) (by decide) o.w
 omega
theorem jKU:∀ {ns:List Nat}{us:List V}{i:Nat}{k:Key}{y:V},(gvs ns us)[i]?=some (k,y)->∃ n,ns[i]?=some n/\us[i]?=some y/\k=Sum.inl (n:Int)
 | [],_,_,_,_,h=>by cases h
 | _::_,[],_,_,_,h=>by cases h
 | n::ns,u::us,0,k,y,h=>by
  have h:some ((Sum.inl (n:Int):Key),u)=some (k,y):=h
  cases h
  exact⟨n,rfl,rfl,rfl⟩
 | n::ns,u::us,i+1,k,y,h=>by
  have h:(gvs ns us)[i]?=some (k,y):=h
  obtain⟨m,a,b,c⟩:=jKU h
  exact⟨m,by simpa using a,by simpa using b,c⟩
theorem jPP {ns:List Nat}{us:List V}(h:ns.length=us.length):(gvs ns us).length=ns.length:=by
 unfold gvs
 rw[ae,List.length_zip]
 omega
section
variable {P:Program}{w:World}{K:W.Frag}{mg:Str->Option Value}{base:Heap}
variable {f fL fC fW fI fR fM fF fA tb:Addr}{fdL fdC fdW fdI fdR fdM fdF fdA:FuncData}{cdv:Value}{A:Around}{outer:List Env}{s:Shared}{H0:Hp}{E:XK}
noncomputable abbrev nCPap:List Str:=["box"]
theorem scCPap:FnScope nCPap ["box"] (j7 qH):=⟨rfl,rfl,rfl,by decide+kernel,rfl,by decide+kernel,by decide+kernel⟩
def jJI (tb:Addr):Sp:=fun vs H Q _=>∃ (b:Addr) (w:Int) (ms:List Int) (pcs:List (List Int×Int)),vs=[.ref b]/\BoxAt H b w ms pcs/\Good 16 32 w ms pcs/\TabW H tb/\∀ r ns H',PapAt H' r w.toNat (chs w.toNat ms pcs) ns->ExtT tb H H'->TabW H' tb->Q (.ref r) H'
def cpapA (T:Txt mg)(CL:Can P w K mg base "lot_of" 1 fL fdL ["mask"] jEI)(CC:Can P w K mg base "choices_of" 2 fC fdC ["box"] jA4)(CW:Can P w K mg base "ways_of" 5 fW fdW ["choices"] (jDY tb))(hr:Room 5 (XOf nCPap "count_paper" qH P w K mg base f cdv A outer s H0 E).A): { t:TS // JSs (XOf nCPap "count_paper" qH P w K mg base f cdv A outer s H0 E) (jB qH) t} :=
 have nd:=scCPap.nd
 ⟨_,(jC (jH (kR jA0 gD T.tuple (by decide+kernel) (j3 (kW (m:=[none,none]) (Nc:=["mask","ways"]) rfl (jMI (CW.je hr gD (j3 (CC.je (hr.mono (by decide)) gD (j3 (jv 0 rfl vL) j6 j4) j4) j6 jF) jF)) rfl (by decide+kernel) (by decide+kernel) (kP (psc:=j7 qH) (by decide+kernel)) (jP (N:=nCPap) rfl rfl (by decide+kernel)) (fun cl C fp s H=>jAS (i:=0) (j:=1) rfl (show (["mask","ways"]:List Str).Nodup by decide+kernel) rfl rfl (by decide+kernel) (by decide+kernel)) (fun cl C fp s H=>yB) (fun cl C fp s H=>(yE (j3 (CL.je (hr.mono (by decide)) (gl_b (by decide+kernel)) (j3 (jv 0 rfl (kE (by decide+kernel))) j6 j4) j4) (j3 (jv 1 rfl (kE (by decide+kernel))) j6 j4) jF))) y8) j6 jK) jK)))⟩
theorem jP9 {fd:FuncData}(F:Fun K "count_paper" "count_paper" qH f fd)(T:Txt mg)(CL:Can P w K mg base "lot_of" 1 fL fdL ["mask"] jEI)(CC:Can P w K mg base "choices_of" 2 fC fdC ["box"] jA4)(CW:Can P w K mg base "ways_of" 5 fW fdW ["choices"] (jDY tb)):FnOk P w K mg base CX0 6 f fd ["box"] (jJI tb):=by
 refine F.ok scCPap (fun vs H Q E h=>?_) (fun cdv A outer s H vs Q E hr h=>?_)
 ·obtain⟨_,_,_,_,rfl,_⟩:=h
  rfl
 ·obtain⟨b,w,ms,pcs,rfl,hB,g,tab,q⟩:=h
  refine⟨_,(cpapA T CL CC CW hr).2.h,?_⟩
  have o:ChOk (chs w.toNat ms pcs):=jCP g
  have cl:(chs w.toNat ms pcs).length=w.toNat:=kX _ _ _ _
  have w0:=g.w0
  have w1:=g.w1
  refine⟨_,rfl,b,w,ms,pcs,rfl,hB,g,fun L H1 c1 e1=>?_⟩
  refine⟨L,_,rfl,c1,o,tab.ext e1,fun r ns H2 got desc met e2 t2 nr=>?_⟩
  obtain⟨us,hr2,hus⟩:=got.ex
  have ul:=All2.len hus
  have nl:=jGT o desc met
  have gl:=jPP ul
  refine⟨r,gvs ns us,rfl, .inl hr2,fun ob=>?_⟩
  have k3:∀ c u,H2 c=some u->c≠r->(L2.upd H2 r (.frz ob (.dK (gvs ns us)))) c=some u:=fun c u h n=>by rw[j8 n]; exact h
  have r3:(L2.upd H2 r (.frz ob (.dK (gvs ns us)))) r=some (.frz ob (.dK (gvs ns us))):=j5
  generalize L2.upd H2 r (.frz ob (.dK (gvs ns us)))=H3 at k3 r3
  have rt:r≠tb:=t2.ne hr2 (by intro _ z; cases z)
  have t3:TabW H3 tb:=by
   rcases t2 with h | ⟨c,h,h2⟩
   ·exact .inl (k3 _ _ h (dv rt))
   ·exact .inr ⟨c,k3 _ _ h (dv rt),k3 _ _ h2 fun z=>by rw[z,hr2] at h2; cases h2⟩
  have X3:ExtT tb H H3:=fun c u h n=>k3 _ _ (e2 _ _ (e1 _ _ h) n) fun z=>by rw[z] at h; rw[e1 _ _ h] at nr; cases nr
  refine jJ0 (by rw[gl,aE]; omega) (fun D i σ' H' zs=>(∃ v v',σ'=[v,v'])/\Ext H3 H'/\H' D=some (.lst zs)/\H3 D=none/\All2 (RwAt w.toNat (chs w.toNat ms pcs) H') zs (ns.take i)) (fun D hD=>⟨⟨_,_,rfl⟩,(Ext.refl _).new hD _,j5,hD,trivial⟩) (fun D i σ' H' zs hD ⟨_,e,d,_,a⟩=>⟨e _ _ r3,d,by rw[All2.len a]; exact cN _ _⟩) ?_ ?_
  ·rintro D i σ' H4 zs k y Tp hD hk hT ⟨⟨v,v',rfl⟩,e4,d4,n4,a4⟩
   obtain⟨n,hn,hu,rfl⟩:=jKU hk
   obtain⟨n',hn',ey⟩:=All2.get hus hu
   have e5:Ext H4 (L2.upd H4 Tp (.tup [kV (Sum.inl (n:Int)),y])):=(Ext.refl _).new hT _
   have d5:(L2.upd H4 Tp (.tup [kV (Sum.inl (n:Int)),y])) Tp=some (.tup [natV n,y]):=j5
   generalize L2.upd H4 Tp (.tup [kV (Sum.inl (n:Int)),y])=H5 at e5 d5
   rw[hn] at hn'
   cases hn'
   have ey:y=natV (wk (chs w.toNat ms pcs) n).length:=ey
   subst ey
   have mb:=met.bnd n (ay hn)
   rw[cl] at mb
   refine⟨Tp,_,rfl,SqT.of d5,rfl,_,_,rfl,_,_,rfl,rfl,?_⟩
   dsimp only [yP]
   rw[am rfl]
   refine⟨_,rfl,n,w.toNat,rfl,mb,by omega,fun a6 H6 d6 e6=>⟨_,rfl,by show (2:Nat)<=_; decide,fun b7 H7 d7 e7=>?_⟩⟩
   have E7:=(e5.trans e6).trans e7
   have d47:=E7 _ _ d4
   have TD:Tups H7 (L2.upd H7 D (.lst (zs++[V.ref b7]))):=fun c xs h=>by rw[j8 (fun z=>by rw[z,d47] at h; cases h)]; exact h
   refine⟨d47,⟨_,_,rfl⟩,(e4.trans E7).updNew n4 _,j5,n4,?_⟩
   rw[bh,hn]
   exact All2.snoc (a4.imp fun _ _ h=>RwAt.mono (fun c xs z=>TD _ _ (E7 _ _ z)) h) ⟨b7,a6,rfl,TD _ _ d7,TD _ _ (e7 _ _ d6)⟩
  ·rintro D σ' H4 zs hD ⟨_,e4,d4,n4,a4⟩
   rw[gl,bR] at a4
   refine⟨D,_,rfl, .inl ⟨SqL.of d4,fun r5 h5=>?_⟩⟩
   have e5:Ext H4 (L2.upd H4 r5 (.tup zs)):=(Ext.refl _).new h5 _
   exact q r5 ns _ ⟨⟨zs,j5,a4.imp fun _ _ h=>RwAt.mono e5.tups h⟩,desc,met⟩ (X3.trans (ExtT.of (e4.trans e5))) (t3.ext (e4.trans e5))
end
def kvW (ch:Ch)(l:List Nat):List (Key×V):=l.map fun n:Nat=>((Sum.inl (n:Int):Key),natV (wk ch n).length)
theorem jCT (ch:Ch)(n:Nat):∀ l:List Nat,valV (kvW ch l) (.inl (n:Int))=if n∈l then some (natV (wk ch n).length) else none
 | []=>rfl
 | k::l=>by
  show valV (((Sum.inl (k:Int):Key),natV (wk ch k).length)::kvW ch l) _=_
  by_cases h:k=n
  ·subst h
   rw[jAK rfl,am (aJ ..)]
  ·rw[jA9 (fun z=>h (by have:(k:Int)=(n:Int):=fc z; omega)),jCT ch n l]
   by_cases h2:n∈l
   ·rw[am h2,am (aK _ h2)]
   ·rw[ak h2,ak fun z=>(aF.mp z).elim (fun z=>h z.symm) h2]
section
variable {P:Program}{w:World}{K:W.Frag}{mg:Str->Option Value}{base:Heap}
variable {f fL fC fW fI fR fM fF fA tb:Addr}{fdL fdC fdW fdI fdR fdM fdF fdA:FuncData}{cdv:Value}{A:Around}{outer:List Env}{s:Shared}{H0:Hp}{E:XK}
abbrev jK9:List Str:=["thing","things"]
theorem scIsRow:FnScope jK9 ["thing","things"] (j7 jB5):=⟨rfl,rfl,rfl,by decide+kernel,rfl,by decide+kernel,by decide+kernel⟩
def jEJ:Sp:=fun vs H Q _=>∃ (b a:Addr) (l:List Int) (n w:Int),vs=[.ref b, .int w]/\H b=some (.tup [.ref a, .int n])/\H a=some (.tup (l.map V.int))/\Ris w l/\l.length<=100/\∀ H',Ext H H'->Q (.bl true) H'
def jRN (T:Txt mg)(CL:Can P w K mg base "is_lot" 3 fL fdL ["thing","many"] (spB2 lotB))(CW:Can P w K mg base "is_whole" 1 fW fdW ["thing"] spWh)(hr:Room 3 (XOf jK9 "is_row" jB5 P w K mg base f cdv A outer s H0 E).A): { t:TS // JSs (XOf jK9 "is_row" jB5 P w K mg base f cdv A outer s H0 E) (jB jB5) t} :=
 have nd:=scIsRow.nd
 ⟨_,(jA (kU (jt_w (qJ (yF (y6 (jD jI gD T.isinstance (by decide+kernel) (j3 (jv 0 rfl vL) (j3 (kO (v:= .ty "tuple") gD T.tuple (by decide+kernel) rfl) j6 j4) j4) j4) kN)) (jB9 (jT op_ne (jD jO gD T.len (by decide+kernel) (j3 (jv 0 rfl vL) j6 j4) j4) (je_int) (jN _))))) (jC (jH (je_bl))) jQ)
   (jC (jH ((jBA (CL.je hr gD (j3 (jZ jY (jv 0 rfl vL) (je_int) jJ) (j3 (jv 1 rfl vL) j6 j4) jX) jX) (yW (CW.je (hr.mono (by decide)) gD (j3 (jZ jY (jv 0 rfl vL) (je_int) jJ) j6 jX) jX)))))))⟩
theorem jM9 {fd:FuncData}(F:Fun K "is_row" "is_row" jB5 f fd)(T:Txt mg)(CL:Can P w K mg base "is_lot" 3 fL fdL ["thing","many"] (spB2 lotB))(CW:Can P w K mg base "is_whole" 1 fW fdW ["thing"] spWh):FnOk P w K mg base CX0 4 f fd ["thing","things"] jEJ:=by
 refine F.ok scIsRow (fun vs H Q E h=>?_) (fun cdv A outer s H vs Q E hr h=>?_)
 ·obtain⟨_,_,_,_,_,rfl,_⟩:=h
  rfl
 ·obtain⟨b,a,l,n,w,rfl,hb,ha,ri,ll,q⟩:=h
  refine⟨_,(jRN T CL CW hr).2.h,?_⟩
  have hA:At H (.tup (l.map Ob.int)) (.ref a):=jRV ha (by rw[ae]; exact ll) (Ats.ints l)
  refine⟨_,rfl,_,_,_,true,rfl, .tup hb,rfl,true,rfl,iteF ?_⟩
  refine⟨_,rfl,b,_,rfl, .inr (SqT.of hb),rfl,_,rfl,iteF ?_⟩
  refine⟨_,rfl,b,_,0,_,rfl,rfl,SqT.of hb,rfl,_,rfl, .ref a,_,_,rfl,hA,fun H1 e1=>?_⟩
  rw[jGW ri.ris ri.bnd]
  refine⟨_,rfl,iteT ?_⟩
  exact⟨_,rfl,b,_,1,_,rfl,rfl,SqT.of (e1 _ _ hb),rfl, .int n, .int n,rfl,rfl,q H1 e1⟩
noncomputable abbrev nRNum:List Str:=["choices","mask","ahead","together","piece","more"]
theorem scRNum:FnScope nRNum ["choices","mask","ahead"] (j7 sRNum):=⟨rfl,rfl,rfl,by decide+kernel,rfl,by decide+kernel,by decide+kernel⟩
def jFF:Sp:=fun vs H Q _=>∃ (L D:Addr) (ch:Ch) (m:Nat) (kvs:List (Key×V)),vs=[.ref L,natV m, .ref D]/\ChAt H L ch/\ChOk ch/\m<2 ^ ch.length/\H D=some (.dK kvs)/\(m≠fullN ch->∀ c∈chAt ch m,valV kvs (.inl ((m|||c.2:Nat):Int))=some (natV (wk ch (m|||c.2)).length))/\∀ H',Ext H H'->Q (natV (wk ch m).length) H'
def rnumA (T:Txt mg)(CF:Can P w K mg base "full_mask" 1 fF fdF ["choices"] jCG)(CA:Can P w K mg base "choices_at" 1 fA fdA ["choices","mask"] spAt)(hr:Room 1 (XOf nRNum "right_number" sRNum P w K mg base f cdv A outer s H0 E).A): { t:TS // JSs (XOf nRNum "right_number" sRNum P w K mg base f cdv A outer s H0 E) (jB sRNum) t} :=
 have nd:=scRNum.nd
 have _h:=T
 ⟨_,(jA (kU (jT yQ (jv 1 rfl vL) (CF.je hr gD (j3 (jv 0 rfl vL) j6 j4) j4) (jN _)) (jC (jH (je_int))) jQ)
   (jA (jS (i:=3) nd rfl lL (je_int) jEF)
   (jA (jBQ b0 rfl (jAR (CA.je hr gD (j3 (jv 0 rfl vL) (j3 (jv 1 rfl vL) j6 j4) j4) j4)) (jBR (i:=4) (j:=5) nd rfl rfl (by decide+kernel) (by decide+kernel)) (jA (kU (jFV (qB hr) (kY op_or (jv 1 rfl vL) (jv 5 rfl vL)) (jv 2 rfl vL) rfl) (jC (jH (yR))) jQ)
   (jC (jRJ (i:=3) nd rfl lL (jEX (qB hr) (jv 2 rfl vL) (kY op_or (jv 1 rfl vL) (jv 5 rfl vL)) jJQ) jRQ))) y8)
   (jC (jH (jv 3 rfl vL))))))⟩
theorem jP3 {fd:FuncData}(F:Fun K "right_number" "right_number" sRNum f fd)(T:Txt mg)(CF:Can P w K mg base "full_mask" 1 fF fdF ["choices"] jCG)(CA:Can P w K mg base "choices_at" 1 fA fdA ["choices","mask"] spAt):FnOk P w K mg base CX0 2 f fd ["choices","mask","ahead"] jFF:=by
 refine F.ok scRNum (fun vs H Q E h=>?_) (fun cdv A outer s H vs Q E hr h=>?_)
 ·obtain⟨_,_,_,_,_,rfl,_⟩:=h
  rfl
 ·obtain⟨L,D,ch,m,kvs,rfl,hL,o,hm,hD,hk,q⟩:=h
  refine⟨_,(rnumA T CF CA hr).2.h,?_⟩
  refine⟨_,rfl,_,rfl,L,ch,rfl,hL,o.w,⟨rfl,_,rfl,ite2 (fun h=>?_) (fun h=>?_)⟩⟩
  ·have e:m=fullN ch:=by
    have:=V.int.inj (aL h)
    omega
   have e1:natV (wk ch m).length= .int 1:=by rw[e,jEA]; rfl
   have:=q H (Ext.refl _)
   rw[e1] at this
   exact this
  ·have hn:m≠fullN ch:=fun z=>h (ax (by rw[z]))
   refine⟨_,rfl,_,rfl,L,ch,m,rfl,hL,o,hm,hn,fun r H1 hr1 e1 nr=>?_⟩
   obtain⟨vs,hv,ha⟩:=hr1
   have vl:=All2.len ha
   refine⟨r,rfl,⟨_,SqL.of hv⟩,jF0 (xs:=vs) (fun i σ H'=>(∃ v4 v5,σ=[some (.ref L),some (natV m),some (.ref D),some (natV (((chAt ch m).take i).map fun c=>(wk ch (m|||c.2)).length).sum),v4,v5])/\Ext H1 H') ⟨⟨_,_,rfl⟩,Ext.refl _⟩ (fun i σ H' _ ⟨_,e⟩=>SqL.of (e _ _ hv)) ?_ ?_⟩
   ·rintro i x σ H2 hx ⟨⟨v4,v5,rfl⟩,e2⟩
    obtain⟨c,hc,pq,rfl,hq⟩:=All2.get' ha hx
    have cm:=ay hc
    refine⟨pq,_,rfl,SqT.of (e2 _ _ hq),rfl,_,_,rfl,_,_,rfl,rfl,?_⟩
    have dg:DGet H2 D (.int (Builtin.bitOr (m:Int) (c.2:Int))) (some (natV (wk ch (m|||c.2)).length)):=by
     rw[jAU,<- hk hn c cm]
     exact DGet.k (k:=Sum.inl ((m|||c.2:Nat):Int)) (e2 _ _ (e1 _ _ hD))
    refine⟨_,rfl,_,rfl,_,_,rfl,rfl,_,rfl,D,_,rfl,dg,_,rfl,iteF ?_⟩
    refine⟨_,rfl,_,rfl,_,rfl,_,rfl,_,_,rfl,rfl,D,_,rfl,dg,?_⟩
    have es:(((chAt ch m).take (i+1)).map fun c=>(wk ch (m|||c.2)).length).sum=(((chAt ch m).take i).map fun c=>(wk ch (m|||c.2)).length).sum+(wk ch (m|||c.2)).length:=by
     rw[bh,hc,aN,List.sum_append]
     show _+((wk ch (m|||c.2)).length+0)=_
     rw[fz]
    refine⟨_,_,rfl,rfl,⟨some (.int c.1),some (.int ((c.2:Nat):Int)),?_⟩,e2⟩
    rw[es]
    unfold natV
    rw[Int.natCast_add]
    rfl
   ·rintro σ H2 ⟨⟨v4,v5,rfl⟩,e2⟩
    have es:(wk ch m).length=(((chAt ch m).take vs.length).map fun c=>(wk ch (m|||c.2)).length).sum:=by
     rw[vl,bR,jGF o hm hn,jJ5,bK]
     rfl
    have:=q H2 (e1.trans e2)
    rw[es] at this
    exact⟨_,rfl,this⟩
abbrev jAW:List Str:=["box","paper","choices","ahead","lot","number","mask"]
theorem scCounted:FnScope jAW ["box","paper"] (j7 kS):=⟨rfl,rfl,rfl,by decide+kernel,rfl,by decide+kernel,by decide+kernel⟩
def jD6:Sp:=fun vs H Q _=>∃ (b r:Addr) (w:Int) (ms:List Int) (pcs:List (List Int×Int)) (ns:List Nat),vs=[.ref b, .ref r]/\BoxAt H b w ms pcs/\Good 16 32 w ms pcs/\PapAt H r w.toNat (chs w.toNat ms pcs) ns/\∀ H',Ext H H'->Q (natV (wk (chs w.toNat ms pcs) 0).length) H'
def jMW (T:Txt mg)(CM:Can P w K mg base "mask_of" 1 fM fdM ["lot"] jCF)(CR:Can P w K mg base "right_number" 2 fR fdR ["choices","mask","ahead"] jFF)(hr:Room 4 (XOf jAW "counted" kS P w K mg base f cdv A outer s H0 E).A): { t:TS // JSs (XOf jAW "counted" kS P w K mg base f cdv A outer s H0 E) (jB8 ((jB kS).getD 3 (.Pass ⟨0,0,0,0⟩))) t} :=
 have nd:=scCounted.nd
 have _h:=T
 ⟨_,(jA (jS (i:=6) nd rfl lL (CM.je (hr.mono (by decide)) gD (j3 (jv 4 rfl vL) j6 j4) j4) jV) (jA (kU (jt_w (qJ (jNW (qB hr) (jv 6 rfl vL) (jv 3 rfl vL) rfl) (jB9 (jT op_ne (jv 5 rfl vL) (CR.je (hr.mono (by decide)) gD (j3 (jv 2 rfl vL) (j3 (jv 6 rfl vL) (j3 (jv 3 rfl vL) j6 j4) j4) j4) j4) (jN _))))) (jC (jH (yR))) jQ) (jC (jDI (qB hr) (jv 3 rfl vL) (jv 6 rfl vL) (jv 5 rfl vL) jGI))))⟩
def cntA (T:Txt mg)(CI:Can P w K mg base "is_row" 4 fI fdI ["thing","things"] jEJ)(CC:Can P w K mg base "choices_of" 2 fC fdC ["box"] jA4)(CM:Can P w K mg base "mask_of" 1 fM fdM ["lot"] jCF)(CR:Can P w K mg base "right_number" 2 fR fdR ["choices","mask","ahead"] jFF)(hr:Room 4 (XOf jAW "counted" kS P w K mg base f cdv A outer s H0 E).A): { t:TS // JSs (XOf jAW "counted" kS P w K mg base f cdv A outer s H0 E) (jB kS) t} :=
 have nd:=scCounted.nd
 ⟨_,(jA (kU (jt_w (qJ (yF (y6 (jD jI gD T.isinstance (by decide+kernel) (j3 (jv 1 rfl vL) (j3 (kO (v:= .ty "tuple") gD T.tuple (by decide+kernel) rfl) j6 j4) j4) j4) kN)) (qJ (jT yQ (jD jO gD T.len (by decide+kernel) (j3 (jv 1 rfl vL) j6 j4) j4) (je_int) (jN _)) (jB9 (yF (y6 (jD (jA8 rfl) gD T.all (by decide+kernel) (j3 (kW (m:=[none,some 0]) (Nc:=["row","box"]) rfl (jCN (jv 1 rfl vL)) rfl (by decide+kernel) (by decide+kernel) (kP (psc:=j7 kS) (by decide+kernel)) (jP (N:=jAW) rfl rfl (by decide+kernel)) (fun cl C fp s H=>kI (i:=0) (show (["row","box"]:List Str).Nodup by decide+kernel) rfl (yV (by decide+kernel))) (fun cl C fp s H=>yB) (fun cl C fp s H=>(CI.je hr (gl_b (by decide+kernel)) (j3 (jv 0 rfl (kE (by decide+kernel))) (j3 (jZ jBS (jv 1 rfl (yL (by decide+kernel))) (je_int) jJ) j6 jX) j4) j4)) jAF) j6 jK) jK) kN)))))) (jC (jH (yR))) jQ) (jA (jS (i:=2) nd rfl lL (CC.je (hr.mono (by decide)) gD (j3 (jv 0 rfl vC) j6 j4) j4) jV) (jA (jS (i:=3) nd rfl lL (jHT) jEE) (jA (jBQ b0 rfl (jCN (jv 1 rfl vL)) (jBR (i:=4) (j:=5) nd rfl rfl (by decide+kernel) (by decide+kernel)) (jMW T CM CR hr).2 jAF) (jC (jH (jNV (jT yQ (jD jO gD T.len (by decide+kernel) (j3 (jZ jY (jZ jY (jv 1 rfl vL) (je_un jDW (je_int)) px_un) (je_int) jJ) j6 jX) jX) (je_int) (jN _)) (jZ jY (jZ jY (jv 1 rfl vL) (je_un jDW (je_int)) px_un) (je_int) jJ) (yR))))))))⟩
theorem jDA {H:Hp}{us:List V}{w:Nat}{ch:Ch}{ns:List Nat}(h:All2 (RwAt w ch H) us ns){i:Nat}{x:V}(hx:us[i]?=some x):∃ n b a,ns[i]?=some n/\x=V.ref b/\H b=some (.tup [.ref a,natV (wk ch n).length])/\H a=some (.tup ((btsN w n).map V.int)):=by
 obtain⟨n,hn,b,a,e,h1,h2⟩:=All2.get' h hx
 exact⟨n,b,a,hn,e,h1,h2⟩
theorem jDS (n m:Nat):(btsN n m).length<=n:=by
 unfold btsN
 rw[ae]
 have:=bI (fun t=>m.testBit t) (List.range n)
 rwa [bE] at this
theorem jIM {fd:FuncData}(F:Fun K "counted" "counted" kS f fd)(T:Txt mg)(CI:Can P w K mg base "is_row" 4 fI fdI ["thing","things"] jEJ)(CC:Can P w K mg base "choices_of" 2 fC fdC ["box"] jA4)(CM:Can P w K mg base "mask_of" 1 fM fdM ["lot"] jCF)(CR:Can P w K mg base "right_number" 2 fR fdR ["choices","mask","ahead"] jFF):FnOk P w K mg base CX0 5 f fd ["box","paper"] jD6:=by
 refine F.ok scCounted (fun vs H Q E h=>?_) (fun cdv A outer s H vs Q E hr h=>?_)
 ·obtain⟨_,_,_,_,_,_,rfl,_⟩:=h
  rfl
 ·obtain⟨b,r,w,ms,pcs,ns,rfl,hB,g,pp,q⟩:=h
  refine⟨_,(cntA T CI CC CM CR hr).2.h,?_⟩
  have o:ChOk (chs w.toNat ms pcs):=jCP g
  have cl:(chs w.toNat ms pcs).length=w.toNat:=kX _ _ _ _
  have w0:=g.w0
  have w1:=g.w1
  obtain⟨us,hus,rws⟩:=pp.ex
  have ul:=All2.len rws
  have nl:=jGT o pp.desc pp.met
  obtain⟨qm,qp,ps,b1,b2,b3,b4⟩:=id hB.ex
  have n0:0<us.length:=by rw[ul]; exact eM pp.met.zero
  refine⟨_,rfl,_,_,_,true,rfl, .tup hus,rfl,true,rfl,iteF ?_⟩
  refine⟨_,rfl,r,_,rfl, .inr (SqT.of hus),⟨rfl,_,rfl,iteN (by show decide (V.int (us.length:Int)=V.int 0)=false; exact aP fun z=>by have:=V.int.inj z; omega) ?_⟩⟩
  refine⟨_,rfl,r,rfl,⟨_,SqT.of hus⟩,jF4 (fun σ=>∃ v,σ=[v,some (.ref b)]) (mapZ us fun _=>V.bl true) (mapZ.ok _ _) hus (by rw[aE]; omega) ⟨_,rfl⟩ ?_ ?_⟩
  ·rintro j x σ' H' zs hx ⟨v,rfl⟩ e hz S1 S2 yes no
   obtain⟨n,rb,ra,hn,rfl,h1,h2⟩:=jDA rws hx
   dsimp only [yA,yP]
   rw[am rfl]
   have bl:=jDS w.toNat n
   refine⟨_,rfl,_,rfl,b,_,0,_,rfl,rfl,SqT.of (e _ _ b1),rfl,rb,ra,btsN w.toNat n,_,w,rfl,e _ _ h1,e _ _ h2,?_,by omega,fun H2 e2=>yes _ _ _ ⟨_,rfl⟩ e2 (mapZ.yes hz hx)⟩
   have:=jAC w.toNat n
   rwa [show ((w.toNat:Nat):Int)=w by omega] at this
  ·intro D H1 zs d1 e1 nD hz
   have hz:=hz.all (by exact ai _)
   have hz2:zs=(replicate us.length true).map V.bl:=by
    rw[hz,ix]
    exact List.map_const' ..
   rw[hz2] at d1
   refine⟨D,replicate us.length true,rfl,SqL.of d1,?_⟩
   rw[show ((replicate us.length true)).all id=true by rw[bj]; intro x hx; rw[(iy.mp hx).2]; rfl]
   refine⟨true,rfl,iteF ?_⟩
   refine⟨_,rfl,b,w,ms,pcs,rfl,hB.mono e1.tups,g,fun L H2 c2 e2=>?_⟩
   intro Ah hAh
   have e3:Ext H2 (L2.upd H2 Ah (.dK [])):=(Ext.refl _).new hAh _
   have d3:(L2.upd H2 Ah (.dK [])) Ah=some (.dK []):=j5
   generalize L2.upd H2 Ah (.dK [])=H3 at e3 d3
   have E2:=e1.trans e2
   have r2:=E2 _ _ hus
   have rws2:All2 (RwAt w.toNat (chs w.toNat ms pcs) H2) us ns:=rws.imp fun _ _ h=>RwAt.mono E2.tups h
   refine⟨_,rfl,r,rfl,⟨_,SqT.of (e3 _ _ r2)⟩,jH1 (xs:=us) (fun i σ H'=>(∃ v4 v5 v6,σ=[some (.ref b),some (.ref r),some (.ref L),some (.ref Ah),v4,v5,v6])/\Ext H2 H'/\H' Ah=some (.dK (kvW (chs w.toNat ms pcs) (ns.take i)))) ⟨⟨_,_,_,rfl⟩,e3,d3⟩ (fun i σ H' _ ⟨_,e,_⟩=>SqT.of (e _ _ r2)) ?_ ?_⟩
   ·rintro i x σ H4 hx ⟨⟨v4,v5,v6,rfl⟩,e4,d4⟩
    obtain⟨n,rb,ra,hn,rfl,h1,h2⟩:=jDA rws2 hx
    have nm:=ay hn
    have nb:=pp.met.bnd n nm
    have nb':=nb
    rw[cl] at nb'
    have ri:=jAC w.toNat n
    have bl:=jDS w.toNat n
    refine⟨rb,_,rfl,SqT.of (e4 _ _ h1),rfl,_,_,rfl,_,_,rfl,rfl,?_⟩
    refine⟨_,rfl,ra,btsN w.toNat n,rfl,e4 _ _ h2,fun x hx=>by have:=ri.bnd x hx; omega,by omega,fun H5 e5=>?_⟩
    rw[jES nb']
    have d5:=e5 _ _ d4
    have nt:=jI0 pp.desc hn
    have dg:DGet H5 Ah (.int ((n:Nat):Int)) none:=by
     have:=jCT (chs w.toNat ms pcs) n (ns.take i)
     rw[ak nt] at this
     rw[<- this]
     exact DGet.k (k:=Sum.inl (n:Int)) d5
    refine⟨_,rfl,_,rfl,Ah,_,rfl,dg,_,rfl,iteF ?_⟩
    have c5:ChAt H5 L (chs w.toNat ms pcs):=c2.keep (fun _ _ h=>e5 _ _ (e4 _ _ h)) (e4.trans e5).tups
    refine⟨_,rfl,_,rfl,_,rfl,_,rfl,L,Ah,_,n,_,rfl,c5,o,nb,d5,fun hf c hc=>?_,fun H6 e6=>?_⟩
    ·have hf':n≠2 ^ w.toNat - 1:=by unfold fullN at hf; rwa [cl] at hf
     have gt:=ch_gt g nb' hf' hc
     rw[jCT,am (jDO pp.desc hn (pp.met.up n nm hf c hc) gt.1)]
    ·refine⟨rfl,_,rfl,iteN (by show (!decide (natV (wk (chs w.toNat ms pcs) n).length=natV (wk (chs w.toNat ms pcs) n).length))=false; simp) ?_⟩
     have d6:=e6 _ _ d5
     have kl:(kvW (chs w.toNat ms pcs) (ns.take i)).length<=65536:=by
      unfold kvW
      rw[ae,aV]
      omega
     refine⟨_,rfl,_,rfl,_,rfl,Ah,_,rfl,DPut.k (k:=Sum.inl (n:Int)) d6 (by rw[aE]; omega),⟨_,_,_,rfl⟩,((e4.trans e5).trans e6).updNew hAh _,?_⟩
     have pk:putK (kvW (chs w.toNat ms pcs) (ns.take i)) (Sum.inl (n:Int)) (natV (wk (chs w.toNat ms pcs) n).length)=kvW (chs w.toNat ms pcs) (ns.take (i+1)):=by
      rw[jCX _ (by rw[jCT,ak nt]),bh,hn]
      unfold kvW
      rw[aN]
      rfl
     show L2.upd H6 Ah (.dK (putK (kvW (chs w.toNat ms pcs) (ns.take i)) (Sum.inl (n:Int)) (natV (wk (chs w.toNat ms pcs) n).length))) Ah=_
     rw[pk]
     exact j5
   ·rintro σ H4 ⟨⟨v4,v5,v6,rfl⟩,e4,d4⟩
    have lst:=jFZ pp.desc pp.met.zero
    rw[cC] at lst
    have hl:us[us.length - 1]?=some us[us.length - 1]:=ar (by omega)
    obtain⟨n,rb,ra,hn,hx,h1,h2⟩:=jDA rws2 hl
    rw[ul,lst] at hn
    cases hn
    have at1:atI us (-1)=some (V.ref rb):=jH7 (by rw[hl,hx])
    have h2:H2 ra=some (.tup []):=by rw[h2,jI7]; rfl
    refine⟨_,rfl,1,rfl,r,_, -1,_,rfl,rfl,SqT.of (e4 _ _ r2),at1,rb,_,0,_,rfl,rfl,SqT.of (e4 _ _ h1),rfl,ra,_,rfl, .inr (SqT.of (e4 _ _ h2)),⟨rfl,_,rfl,iteT ?_⟩⟩
    exact⟨_,rfl,1,rfl,r,_, -1,_,rfl,rfl,SqT.of (e4 _ _ r2),at1,rb,_,1,_,rfl,rfl,SqT.of (e4 _ _ h1),rfl,q H4 (E2.trans e4)⟩
end
end Eo
end
section
namespace L2
open PySem
section
variable {X:Cx}
theorem jPN {i o:Expr}{ty td:TE}{pos:Pos}(hu:X.A.units+1<cLine)(hi:JE X i ty)(ho:JE X o td)(h1:behindInMarks .In o=false):JE X (.Compare i [.In] [o] pos) (tDIn ty td):=⟨jR0 (jNK hu hi.h ho.h) h1⟩
theorem jKL {pos:Pos} :JE X (.Dict [] [] pos) jN7:=⟨jM5⟩
end
end L2
namespace Eo
open PySem L2
def TLs (H:Hp)(us:List V)(ws:List (List Int)):Prop:=All2 (fun u l=>∃ a,u=V.ref a/\H a=some (.tup (l.map V.int))) us ws
theorem TLs.mono {H H':Hp}{us:List V}{ws:List (List Int)}(t:Tups H H')(h:TLs H us ws):TLs H' us ws:=All2.imp (fun _ _ ⟨a,e,q⟩=>⟨a,e,t _ _ q⟩) h
def casL (w m:Nat)(ms:List Int)(pcs:List (List Int×Int))(i:Nat):List (List Int):=(if (lowN m:Int)∈ms then [btsN w (m|||2 ^ lowN m)] else [])++(((upto pcs.length).take i).filter (okK w m pcs)).map fun k=>btsN w (m|||maskN (jE pcs k))
theorem jMZ {w:Int}{ms:List Int}{pcs:List (List Int×Int)}(g:Good 16 32 w ms pcs){m:Nat}(hm:m<2 ^ w.toNat)(hn:m≠2 ^ w.toNat - 1):casL w.toNat m ms pcs pcs.length=(chAt (chs w.toNat ms pcs) m).map fun c=>btsN w.toNat (m|||c.2):=by
 unfold casL
 rw[jQ1 g hm hn,aN,bz (by rw[jCV]; exact ai _),bK]
 congr 1
 by_cases h:(lowN m:Int)∈ms
 ·rw[am h,am h]; rfl
 ·rw[ak h,ak h]; rfl
theorem jG0 {w m:Nat}{ms:List Int}{pcs:List (List Int×Int)}{i:Nat}(hi:i<pcs.length):casL w m ms pcs (i+1)=casL w m ms pcs i++if okK w m pcs (i:Int)=true then [btsN w (m|||maskN (jE pcs (i:Int)))] else []:=by
 unfold casL
 rw[bh,jED hi,bV,aN,aM]
 congr 2
 show ((([(i:Int)]).filter _).map _)=_
 by_cases h:okK w m pcs (i:Int)=true
 ·rw[am h,gC h]; rfl
 ·rw[ak h,List.filter_cons_of_neg h]; rfl
section
variable {P:Program}{w:World}{K:W.Frag}{mg:Str->Option Value}{base:Heap}
variable {f:Addr}{cdv:Value}{A:Around}{outer:List Env}{s:Shared}{H0:Hp}{E:XK}
abbrev jB7:List Str:=["box","lot","thing","found","held","weight"]
theorem scCases:FnScope jB7 ["box","lot"] (j7 y0):=⟨rfl,rfl,rfl,by decide+kernel,rfl,by decide+kernel,by decide+kernel⟩
def jEK:Sp:=fun vs H Q _=>∃ (b a:Addr) (w:Int) (ms:List Int) (pcs:List (List Int×Int)) (m:Nat),vs=[.ref b, .ref a]/\BoxAt H b w ms pcs/\Good 16 32 w ms pcs/\H a=some (.tup ((btsN w.toNat m).map V.int))/\m<2 ^ w.toNat/\m≠2 ^ w.toNat - 1/\∀ r us H',H' r=some (.lst us)->TLs H' us ((chAt (chs w.toNat ms pcs) m).map fun c=>btsN w.toNat (m|||c.2))->Ext H H'->Q (.ref r) H'
def jMY (T:Txt mg)(hr:Room 0 (XOf jB7 "_law_cases" y0 P w K mg base f cdv A outer s H0 E).A): { t:TS // JSs (XOf jB7 "_law_cases" y0 P w K mg base f cdv A outer s H0 E) (jB8 ((jB y0).getD 3 (.Pass ⟨0,0,0,0⟩))) t} :=
 have nd:=scCases.nd
 have _h:=hr
 ⟨_,(jC (kU (jt_w (jRI (jT jDB (jv 2 rfl vL) (jv 4 rfl vL) jGQ) (jPJ (yF (y6 (jD (jLH rfl) gD T.any (by decide+kernel) (j3 (kW (m:=[none,some 1]) (Nc:=["one","lot"]) rfl (jCN (jv 4 rfl vL)) rfl (by decide+kernel) (by decide+kernel) (kP (psc:=j7 y0) (by decide+kernel)) (jP (N:=jB7) rfl rfl (by decide+kernel)) (fun cl C fp s H=>kI (i:=0) (show (["one","lot"]:List Str).Nodup by decide+kernel) rfl (yV (by decide+kernel))) (fun cl C fp s H=>yB) (fun cl C fp s H=>(yC jJZ (jv 0 rfl (kE (by decide+kernel))) (jv 1 rfl (yL (by decide+kernel))) jGQ)) jAF) j6 jK) jK) kN))))) (jC (jDH (je_bm cr dh di jAQ (jv 3 rfl vL) (j3 (kR jA0 gD T.tuple (by decide+kernel) (j3 (jD jCQ gD T.sorted (by decide+kernel) (j3 (kY jK1 (jv 1 rfl vC) (jv 4 rfl vL)) j6 yJ) yJ) j6 jF) jF) j6 jF) jF) jV)) jQ))⟩
def jI6 (T:Txt mg)(hr:Room 0 (XOf jB7 "_law_cases" y0 P w K mg base f cdv A outer s H0 E).A): { t:TS // JSs (XOf jB7 "_law_cases" y0 P w K mg base f cdv A outer s H0 E) ((jB y0).drop 3) t} :=
 have nd:=scCases.nd
 ⟨_,(jA (jBQ b0 rfl (jCN (jZ jY (jv 0 rfl vL) (je_int) jJ)) (jBR (i:=4) (j:=5) nd rfl rfl (by decide+kernel) (by decide+kernel)) (jMY T hr).2 jNY) (jC (jH (jv 3 rfl vL))))⟩
def jRU (T:Txt mg)(hr:Room 0 (XOf jB7 "_law_cases" y0 P w K mg base f cdv A outer s H0 E).A): { t:TS // JSs (XOf jB7 "_law_cases" y0 P w K mg base f cdv A outer s H0 E) (jB y0) t} :=
 have nd:=scCases.nd
 ⟨_,(jA (jS (i:=2) nd rfl lL (jD (jLE rfl) gD T.min (by decide+kernel) (j3 (kW (m:=[none,some 1]) (Nc:=["one","lot"]) rfl (jAJ gD T.range (j3 (jZ jY (jv 0 rfl vL) (je_int) jJ) j6 jX) jX) rfl (by decide+kernel) (by decide+kernel) (kP (psc:=j7 y0) (by decide+kernel)) (jP (N:=jB7) rfl rfl (by decide+kernel)) (fun cl C fp s H=>kI (i:=0) (show (["one","lot"]:List Str).Nodup by decide+kernel) rfl (yV (by decide+kernel))) (fun cl C fp s H=>jEV (jT jIL (jv 0 rfl (kE (by decide+kernel))) (jv 1 rfl (yL (by decide+kernel))) jGQ)) (fun cl C fp s H=>(jv 0 rfl (kE (by decide+kernel)))) y8) j6 jK) jK) jV) (jA (jS (i:=3) nd rfl lL (jBE j6) jHB) (jA (kU (jT jDB (jv 2 rfl vL) (jZ jY (jv 0 rfl vL) (je_int) jJ) jNO) (jC (jDH (je_bm cr dh di jAQ (jv 3 rfl vL) (j3 (kR jA0 gD T.tuple (by decide+kernel) (j3 (jD jCQ gD T.sorted (by decide+kernel) (j3 (kY jK1 (jv 1 rfl vC) (yE (j3 (jv 2 rfl vL) j6 j4))) j6 yJ) yJ) j6 jF) jF) j6 jF) jF) jV)) jQ) (jI6 T hr).2)))⟩
theorem jPG (t:Nat):maskN [(t:Int)]=2 ^ t:=by
 unfold maskN
 rw[be,gF,dU,List.sum_nil,fz]
 rfl
theorem jI5 (T:Txt mg)(hr:Room 0 (XOf jB7 "_law_cases" y0 P w K mg base f cdv A outer s H0 E).A){D:Ends}{H H3:Hp}{b a Fd:Addr}{wi:Int}{ms:List Int}{pcs:List (List Int×Int)}{m:Nat}{us:List V}{v4 v5:Option V}(hB:BoxAt H b wi ms pcs)(g:Good 16 32 wi ms pcs)(ha:H a=some (.tup ((btsN wi.toNat m).map V.int)))(hm:m<2 ^ wi.toNat)(hn:m≠2 ^ wi.toNat - 1)(e3:Ext H H3)(nF:H Fd=none)(d3:H3 Fd=some (.lst us))(t3:TLs H3 us (casL wi.toNat m ms pcs 0))
  (q:∀ r us H',H' r=some (.lst us)->TLs H' us ((chAt (chs wi.toNat ms pcs) m).map fun c=>btsN wi.toNat (m|||c.2))->Ext H H'->D.rt (.ref r) H'):
  (jI6 T hr).1 D [some (.ref b),some (.ref a),some (.int (lowN m:Int)),some (.ref Fd),v4,v5] H3:=by
 have w0:=g.w0
 have w1:=g.w1
 have gpl:=g.pl
 obtain⟨qm,qp,ps,b1,b2,b3,b4⟩:=id hB.ex
 have pl:=PcsAt.len b4
 have ri:=jAC wi.toNat m
 have bl:=jDS wi.toNat m
 have ul:=All2.len t3
 have c0:(casL wi.toNat m ms pcs 0).length<=1:=by
  unfold casL
  rw[eG]
  show (_++([]:List (List Int))).length<=1
  rw[aZ]
  split <;> simp
 refine⟨_,rfl,b,_,2,_,rfl,rfl,SqT.of (e3 _ _ b1),rfl,qp,rfl,⟨_,SqT.of (e3 _ _ b3)⟩,jH1 (xs:=ps) (fun i σ H'=>(∃ v4 v5,σ=[some (.ref b),some (.ref a),some (.int (lowN m:Int)),some (.ref Fd),v4,v5])/\Ext H H'/\∃ us,H' Fd=some (.lst us)/\us.length<=1+i/\TLs H' us (casL wi.toNat m ms pcs i)) ⟨⟨_,_,rfl⟩,e3,us,d3,by omega,t3⟩ (fun i σ H' _ ⟨_,e,_⟩=>SqT.of (e _ _ b3)) ?_ ?_⟩
 ·rintro i x σ H4 hx ⟨⟨v4,v5,rfl⟩,e4,us4,d4,l4,t4⟩
  have il:i<ps.length:=(ah.mp hx).1
  obtain⟨pc,hpc,pb,pq,rfl,hb,hq⟩:=PcsAt.at b4 hx
  have ti:jE pcs (i:Int)=pc.1:=by
   unfold jE
   rw[bf,aB,hpc]
   rfl
  have lt:=jC4 g (k:=(i:Int)) (by omega) (by omega)
  rw[ti] at lt
  have tl:=jGL pc.1 0 wi lt.ris lt.bnd
  have sc:=jG0 (w:=wi.toNat) (m:=m) (ms:=ms) (pcs:=pcs) (i:=i) (by omega)
  unfold okK at sc
  rw[ti] at sc
  have no:okK wi.toNat m pcs (i:Int)=false->∀ {H':Hp}{us':List V},TLs H' us' (casL wi.toNat m ms pcs i)->TLs H' us' (casL wi.toNat m ms pcs (i+1)):=fun h H' us' t=>by
   rw[jG0 (by omega),h,ak ag,aZ]
   exact t
  refine⟨pb,_,rfl,SqT.of (e4 _ _ hb),rfl,_,_,rfl,_,_,rfl,rfl,?_⟩
  refine⟨_,rfl,_,rfl,pq,_,rfl, .inr (SqT.of (e4 _ _ hq)),rfl,jAT _,_,rfl,?_⟩
  rw[jBT,ak ag]
  refine ite2 (fun h=>?_) (fun h=>?_)
  ·refine⟨_,rfl,pq,rfl,⟨_,SqT.of (e4 _ _ hq)⟩,jF4 (fun σ=>∃ v,σ=[v,some (.ref a)]) (mapZ pc.1 fun y=>V.bl (decide (y∈btsN wi.toNat m))) (mapZ.ok _ _) (e4 _ _ hq) (by rw[aE,ae]; omega) ⟨_,rfl⟩ ?_ ?_⟩
   ·rintro j y σ2 H5 zs5 hy ⟨v5,rfl⟩ e5 hz5 R1 R2 yes5 no5
    obtain⟨gg,hg,rfl⟩:∃ g,pc.1[j]?=some g/\V.int g=y:=by simpa using hy
    dsimp only [yA,yP]
    rw[am rfl]
    refine⟨_,rfl,_,rfl,a,_,rfl, .inr (SqT.of (e5 _ _ (e4 _ _ ha))),rfl,jAT _,?_⟩
    rw[jBT,ak ag]
    exact yes5 _ _ _ ⟨_,rfl⟩ (Ext.refl _) (mapZ.yes hz5 hg)
   ·intro D5 H5 zs5 d5 e5 nD5 hz5
    have hz5:=hz5.all (by rw[ae]; exact ai _)
    subst hz5
    have d5:H5 D5=some (.lst ((pc.1.map fun y=>decide (y∈btsN wi.toNat m)).map V.bl)):=by rw[bK]; exact d5
    refine⟨D5,_,rfl,SqL.of d5,_,rfl,?_⟩
    have E5:=e4.trans e5
    have f5:=e5 _ _ d4
    have hall:(pc.1.all fun t=>decide (t∉btsN wi.toNat m))=!((pc.1.map fun y=>decide (y∈btsN wi.toNat m)).any id):=by
     rw[List.any_map,bB,bj,eE,dE,Ne,eU]
     constructor
     ·rintro z ⟨x,hx,hy⟩
      exact aL (z x hx) (aL hy)
     ·intro z x hx
      exact ax fun y=>z ⟨x,hx,ax y⟩
    refine ite2 (fun h2=>?_) (fun h2=>?_)
    ·rw[<- hall] at h2
     have dj:∀ t∈pc.1,t∉btsN wi.toNat m:=fun t ht=>aL (bj.mp h2 t ht)
     refine⟨_,rfl, .inl ⟨rfl,_,SqL.of f5⟩,_,rfl,_,rfl,a,pq,_,_,rfl,rfl,E5 _ _ ha,E5 _ _ hq,by rw[ae,ae,aE]; omega,fun r6 H6 d6 e6=>?_⟩
     have d6:H6 r6=some (.tup ((btsN wi.toNat m++pc.1).map V.int)):=by rw[aN]; exact d6
     refine⟨r6,btsN wi.toNat m++pc.1,rfl,d6,by rw[az]; omega,fun l7 ns h7 ple pm=>?_⟩
     have en:ns=srt (btsN wi.toNat m++pc.1):=jNE ple pm
     subst en
     rw[jNC lt.ris (fun t ht=>by have:=lt.bnd t ht; omega) dj]
     refine⟨l7,_,rfl, .inl ⟨SqL.of j5,fun r8 h8=>?_⟩⟩
     have e8:Ext H6 (L2.upd (L2.upd H6 l7 (.lst ((btsN wi.toNat (m|||maskN pc.1)).map V.int))) r8 (.tup ((btsN wi.toNat (m|||maskN pc.1)).map V.int))):=((Ext.refl _).new h7 _).new h8 _
     have d8:(L2.upd (L2.upd H6 l7 (.lst ((btsN wi.toNat (m|||maskN pc.1)).map V.int))) r8 (.tup ((btsN wi.toNat (m|||maskN pc.1)).map V.int))) r8=some (.tup ((btsN wi.toNat (m|||maskN pc.1)).map V.int)):=j5
     generalize L2.upd (L2.upd H6 l7 (.lst ((btsN wi.toNat (m|||maskN pc.1)).map V.int))) r8 (.tup ((btsN wi.toNat (m|||maskN pc.1)).map V.int))=H8 at e8 d8
     have E8:=(e5.trans e6).trans e8
     have f8:=E8 _ _ d4
     refine⟨Fd,_,_,rfl,rfl,f8,by rw[aE]; omega,⟨_,_,rfl⟩,(e4.trans E8).updNew nF _,_,j5,by rw[az]; show _+1<=_; omega,?_⟩
     have TD:Tups H8 (L2.upd H8 Fd (.lst (us4++[V.ref r8]))):=fun c xs h=>by rw[j8 (fun z=>by rw[z,f8] at h; cases h)]; exact h
     rw[sc,am (by rw[h2,h]; rfl)]
     exact All2.snoc (TLs.mono (fun c xs z=>TD _ _ (E8 _ _ z)) t4) ⟨r8,rfl,TD _ _ d8⟩
    ·rw[<- hall] at h2
     refine⟨⟨_,_,rfl⟩,e4.trans e5,us4,f5,by omega,no ?_ (TLs.mono e5.tups t4)⟩
     unfold okK
     rw[ti,dE.mpr h2,cR]
  ·refine⟨⟨_,_,rfl⟩,e4,us4,d4,by omega,no ?_ t4⟩
   unfold okK
   rw[ti,dE.mpr h]
   rfl
 ·rintro σ H4 ⟨⟨v4,v5,rfl⟩,e4,us4,d4,l4,t4⟩
  rw[pl,jMZ g hm hn] at t4
  exact⟨_,rfl,q Fd us4 H4 d4 t4 e4⟩
theorem jMB {fd:FuncData}(F:Fun K "_law_cases" "_law_cases" y0 f fd)(T:Txt mg):FnOk P w K mg base CX0 1 f fd ["box","lot"] jEK:=by
 refine F.ok scCases (fun vs H Q E h=>?_) (fun cdv A outer s H vs Q E hr h=>?_)
 ·obtain⟨_,_,_,_,_,_,rfl,_⟩:=h
  rfl
 ·obtain⟨b,a,w,ms,pcs,m,rfl,hB,g,ha,hm,hn,q⟩:=h
  refine⟨_,(jRU T hr).2.h,?_⟩
  have w0:=g.w0
  have w1:=g.w1
  have gpl:=g.pl
  obtain⟨qm,qp,ps,b1,b2,b3,b4⟩:=id hB.ex
  have pl:=PcsAt.len b4
  have ri:=jAC w.toNat m
  have bl:=jDS w.toNat m
  have hl:lowN m<w.toNat:=jDF hm hn
  refine⟨_,rfl,b,_,0,_,rfl,rfl,SqT.of b1,rfl,w,rfl,by omega,by omega,jI2 (n:=w.toNat) (fun σ=>∃ v,σ=[v,some (.ref a)]) (outZ (upto w.toNat) (fun t=>!decide (t∈btsN w.toNat m)) V.int) (outZ.ok _ _ _) (by rw[aE]; omega) ⟨_,rfl⟩ ?_ ?_⟩
  ·rintro j σ' H' zs hj ⟨v,rfl⟩ e hz S1 S2 yes no
   have e0:(0+(j:Int))=(j:Int):=by omega
   have hg:(upto w.toNat)[j]?=some (j:Int):=jED hj
   refine⟨_,rfl,_,rfl,a,_,rfl, .inr (SqT.of (e _ _ ha)),rfl,jAT _,_,rfl,?_⟩
   rw[e0,jBT]
   refine ite2 (fun h=>?_) (fun h=>?_)
   ·rw[am rfl] at h
    exact⟨_,rfl,yes _ _ _ ⟨_,rfl⟩ (Ext.refl _) (hz.yes hg h)⟩
   ·rw[am rfl] at h
    exact no _ _ ⟨_,rfl⟩ (Ext.refl _) (hz.no hg (dE.mpr h))
  ·rintro D H1 zs hD e1 nD hz
   have hz:=hz.all (by rw[jCV]; exact ai _)
   subst hz
   have lowin:(lowN m:Int)∈(upto w.toNat).filter fun t=>!decide (t∈btsN w.toNat m):=by
    refine bP.mpr ⟨ay (jED hl),?_⟩
    rw[aP fun z=>by have:=(mem_bts.mp z).2; rw[bf,jDE] at this; cases this]
    rfl
   refine⟨D,_,rfl,SqL.of hD,eM lowin,fun mn mm ml=>?_⟩
   have em:mn=(lowN m:Int):=by
    have h1:=ml _ lowin
    obtain⟨h2,h3⟩:=bP.mp mm
    have nb:=(jCU w.toNat).bnd mn h2
    have h4:mn∉btsN w.toNat m:=by simpa using h3
    rcases Int.lt_or_le mn (lowN m:Int) with y | y
    ·exact absurd (mem_bts.mpr ⟨by omega,jGV m mn.toNat (by omega)⟩) h4
    ·omega
   subst em
   refine⟨by show (0:Nat)<=_; decide,fun Fd H2 d2 e2 n2=>?_⟩
   have E2:=e1.trans e2
   have nF:H Fd=none:=by
    cases z:H Fd with
    | none=>rfl
    | some u=>rw[e1 _ _ z] at n2; cases n2
   refine⟨_,rfl,_,rfl,b,_,1,_,rfl,rfl,SqT.of (E2 _ _ b1),rfl,qm,_,rfl, .inr (SqT.of (E2 _ _ b2)),rfl,jAT _,_,rfl,?_⟩
   rw[jBT,ak ag]
   have c0:casL w.toNat m ms pcs 0=if (lowN m:Int)∈ms then [btsN w.toNat (m|||2 ^ lowN m)] else []:=by
    unfold casL
    rw[eG]
    exact aZ _
   refine ite2 (fun h=>?_) (fun h=>?_)
   ·have h:=aL h
    rw[am h] at c0
    refine⟨_,rfl, .inl ⟨rfl,_,SqL.of d2⟩,_,rfl,_,rfl,by show (1:Nat)<=_; decide,fun t3 H3 d3 e3=>?_⟩
    refine⟨a,t3,_,_,rfl,rfl,e3 _ _ (E2 _ _ ha),d3,by rw[ae,aE]; show _+1<=_; omega,fun r4 H4 d4 e4=>?_⟩
    have d4:H4 r4=some (.tup ((btsN w.toNat m++[(lowN m:Int)]).map V.int)):=by rw[aN]; exact d4
    refine⟨r4,btsN w.toNat m++[(lowN m:Int)],rfl,d4,by rw[az]; show _+1<64; omega,fun l5 ns h5 ple pm=>?_⟩
    have en:ns=srt (btsN w.toNat m++[(lowN m:Int)]):=jNE ple pm
    subst en
    have so:=jNC (n:=w.toNat) (m:=m) (l:=[(lowN m:Int)]) (ed _ _) (fun t ht=>by rw[aH.mp ht]; omega) (fun t ht z=>by
     rw[aH.mp ht] at z
     have:=(mem_bts.mp z).2
     rw[bf,jDE] at this
     cases this)
    rw[jPG] at so
    rw[so]
    refine⟨l5,_,rfl, .inl ⟨SqL.of j5,fun r6 h6=>?_⟩⟩
    have e6:Ext H4 (L2.upd (L2.upd H4 l5 (.lst ((btsN w.toNat (m|||2 ^ lowN m)).map V.int))) r6 (.tup ((btsN w.toNat (m|||2 ^ lowN m)).map V.int))):=((Ext.refl _).new h5 _).new h6 _
    have d6:(L2.upd (L2.upd H4 l5 (.lst ((btsN w.toNat (m|||2 ^ lowN m)).map V.int))) r6 (.tup ((btsN w.toNat (m|||2 ^ lowN m)).map V.int))) r6=some (.tup ((btsN w.toNat (m|||2 ^ lowN m)).map V.int)):=j5
    generalize L2.upd (L2.upd H4 l5 (.lst ((btsN w.toNat (m|||2 ^ lowN m)).map V.int))) r6 (.tup ((btsN w.toNat (m|||2 ^ lowN m)).map V.int))=H6 at e6 d6
    have E6:=((e3.trans e4).trans e6)
    have f6:=E6 _ _ d2
    refine⟨Fd,_,_,rfl,rfl,f6,by show (0:Nat)<_; rw[aE]; decide,?_⟩
    have TD:Tups H6 (L2.upd H6 Fd (.lst ([]++[V.ref r6]))):=fun c xs h=>by rw[j8 (fun z=>by rw[z,f6] at h; cases h)]; exact h
    refine jI5 T hr hB g ha hm hn ((E2.trans E6).updNew nF _) nF j5 ?_ q
    rw[c0]
    exact⟨⟨r6,rfl,TD _ _ d6⟩,trivial⟩
   ·have h:¬ (lowN m:Int)∈ms:=fun z=>h (ax z)
    rw[ak h] at c0
    exact jI5 T hr hB g ha hm hn E2 nF d2 (by rw[c0]; trivial) q
end
theorem jQ8 {c:List Int}(h:c.Pairwise (· < ·)):(adj c).all id=true:=by
 rw[bj]
 intro x hx
 obtain⟨k,hk,rfl⟩:=bF.mp hx
 have hk:=bo.mp hk
 have:=bO.mp h k (k+1) (by omega) (by omega) (by omega)
 show decide _=true
 rw[bb]
 rw[aB,aB,ar (by omega),ar (by omega)]
 exact this
theorem cut1 (vs:List V):cutV vs (some 1) none=vs.drop 1:=by
 unfold cutV
 have s1:HT.sIx vs.length 0 (some 1)=min 1 vs.length:=HT.sIx_nat _ _ 1
 rw[s1,HT.sIx_none]
 by_cases h1:vs.length=0
 ·have:vs=[]:=d0.mp h1
  subst this
  rfl
 ·rw[show min 1 vs.length=1 by omega]
  exact bz (by rw[cP]; omega)
theorem jJN:∀ c:List Int,(replicate c.length true).map V.bl=c.map fun _=>V.bl true
 | []=>rfl
 | a::r=>by rw[aW,hZ,be,be,jJN r]
theorem jJO (n:Nat):((replicate n true)).all id=true:=by
 rw[bj]
 intro x hx
 rw[(iy.mp hx).2]
 rfl
section
variable {P:Program}{w:World}{K:W.Frag}{mg:Str->Option Value}{base:Heap}
variable {f fW fU fV:Addr}{fdW fdU fdV:FuncData}{cdv:Value}{A:Around}{outer:List Env}{s:Shared}{H0:Hp}{E:XK}
noncomputable abbrev nUpto:List Str:=["thing","least","most"]
theorem scUpto:FnScope nUpto ["thing","least","most"] (j7 sUpto):=⟨rfl,rfl,rfl,by decide+kernel,rfl,by decide+kernel,by decide+kernel⟩
def spUpI:Sp:=fun vs H Q _=>∃ i lo hi:Int,vs=[.int i, .int lo, .int hi]/\lo<=i/\i<=hi/\Q (.bl true) H
def uptoA (T:Txt mg)(CW:Can P w K mg base "_law_whole" 1 fW fdW ["found"] jAM)(hr:Room 1 (XOf nUpto "_law_upto" sUpto P w K mg base f cdv A outer s H0 E).A): { t:TS // JSs (XOf nUpto "_law_upto" sUpto P w K mg base f cdv A outer s H0 E) (jB sUpto) t} :=
 have nd:=scUpto.nd
 ⟨_,(jC (jH ((jBA (CW.je hr gD (j3 (jv 0 rfl vL) j6 j4) j4) (yW (jMK op_le op_le (jv 1 rfl vL) (jv 0 rfl vL) (jv 2 rfl vL)))))))⟩
theorem jP1 {fd:FuncData}(F:Fun K "_law_upto" "_law_upto" sUpto f fd)(T:Txt mg)(CW:Can P w K mg base "_law_whole" 1 fW fdW ["found"] jAM):FnOk P w K mg base CX0 2 f fd ["thing","least","most"] spUpI:=by
 refine F.ok scUpto (fun vs H Q E h=>?_) (fun cdv A outer s H vs Q E hr h=>?_)
 ·obtain⟨_,_,_,rfl,_⟩:=h
  rfl
 ·obtain⟨i,lo,hi,rfl,h1,h2,q⟩:=h
  refine⟨_,(uptoA T CW hr).2.h,?_⟩
  refine⟨_,rfl,i,rfl,_,rfl,iteT ⟨_,rfl,_,rfl,_,_,rfl,rfl,_,rfl,iteT' (ax h1) ?_⟩⟩
  exact⟨_,rfl,_,_,rfl,rfl,qb q (ax h2).symm⟩
theorem jFB {w:Nat}{ch:Ch}{n:Nat}(hn:n<2 ^ w):∀ {l:List Nat},(∀ k∈l,k<2 ^ w)->valV (l.map fun k:Nat=>(((btsN w k).map Sum.inl:List Key),natV (wk ch k).length)) ((btsN w n).map Sum.inl)=if n∈l then some (natV (wk ch n).length) else none
 | [],_=>rfl
 | k::l,hl=>by
  rw[be]
  have ih:=jFB (ch:=ch) hn fun x hx=>hl x (aK k hx)
  by_cases h:k=n
  ·subst h
   rw[jAK rfl,am (aJ ..)]
  ·have ne:¬ ((btsN w k).map Sum.inl:List Key)=(btsN w n).map Sum.inl:=fun z=>h (jQ2 (hl k (aJ ..)) hn (List.map_inj_right (fun a b e=>fc e) |>.mp z))
   rw[jA9 ne,ih]
   by_cases h2:n∈l
   ·rw[am h2,am (aK _ h2)]
   ·rw[ak h2,ak fun z=>(aF.mp z).elim (fun z=>h z.symm) h2]
def kvT (w:Nat)(ch:Ch)(l:List Nat):List (List Key×V):=l.map fun k:Nat=>(((btsN w k).map Sum.inl:List Key),natV (wk ch k).length)
theorem jH8 {w:Nat}{ch:Ch}{n:Nat}{l:List Nat}(hn:n<2 ^ w)(hl:∀ k∈l,k<2 ^ w):valV (kvT w ch l) ((btsN w n).map Sum.inl)=if n∈l then some (natV (wk ch n).length) else none:=jFB hn hl
theorem jKF (l:List Int):(l.map (Sum.inl:Int->Key)).map kV=l.map V.int:=by
 rw[bK]
 rfl
theorem jHC {α:Type}(f:α->Nat):∀ l:List α,(l.map fun c=>((f c:Nat):Int)).sum=(((l.map f).sum:Nat):Int)
 | []=>rfl
 | a::l=>by
  rw[be,dU,be,dU,jHC f l,Int.natCast_add]
noncomputable abbrev nLotR:List Str:=["thing","wide"]
theorem scLotR:FnScope nLotR ["thing","wide"] (j7 qE):=⟨rfl,rfl,rfl,by decide+kernel,rfl,by decide+kernel,by decide+kernel⟩
def jHD:Sp:=fun vs H Q _=>∃ (a:Addr) (c:List Int) (w:Int),vs=[.ref a, .int w]/\H a=some (.tup (c.map V.int))/\Ris w c/\c.length<=100/\∀ H',Ext H H'->Q (.bl true) H'
def lotRA (T:Txt mg)(CU:Can P w K mg base "_law_upto" 2 fU fdU ["thing","least","most"] spUpI)(hr:Room 2 (XOf nLotR "_law_lot_right" qE P w K mg base f cdv A outer s H0 E).A): { t:TS // JSs (XOf nLotR "_law_lot_right" qE P w K mg base f cdv A outer s H0 E) (jB qE) t} :=
 have nd:=scLotR.nd
 ⟨_,(jA (kU (jt_w (qJ (yF (y6 (jD jI gD T.isinstance (by decide+kernel) (j3 (jv 0 rfl vL) (j3 (kO (v:= .ty "tuple") gD T.tuple (by decide+kernel) rfl) j6 j4) j4) j4) kN)) (jB9 (yF (y6 (jD (jA8 rfl) gD T.all (by decide+kernel) (j3 (kW (m:=[none,some 1]) (Nc:=["one","wide"]) rfl (jCN (jv 0 rfl vL)) rfl (by decide+kernel) (by decide+kernel) (kP (psc:=j7 qE) (by decide+kernel)) (jP (N:=nLotR) rfl rfl (by decide+kernel)) (fun cl C fp s H=>kI (i:=0) (show (["one","wide"]:List Str).Nodup by decide+kernel) rfl (yV (by decide+kernel))) (fun cl C fp s H=>yB) (fun cl C fp s H=>(CU.je hr (gl_b (by decide+kernel)) (j3 (jv 0 rfl (kE (by decide+kernel))) (j3 (je_int) (j3 (kY jCK (jv 1 rfl (yL (by decide+kernel))) (je_int)) j6 yJ) jL) j4) j4)) jAF) j6 jK) jK) kN))))) (jC (jH (je_bl))) jQ)
   (jC (jH (jD (jA8 rfl) gD T.all (by decide+kernel) (j3 (kW (m:=[none,none]) (Nc:=["one","other"]) rfl (jNS gD T.zip (j3 (jv 0 rfl vL) (j3 (jEW jO9 (jv 0 rfl vL) (jGX (je_int)) jGY) j6 jX) j4) j4) rfl (by decide+kernel) (by decide+kernel) (kP (psc:=j7 qE) (by decide+kernel)) (jP (N:=nLotR) rfl rfl (by decide+kernel)) (fun cl C fp s H=>jAS (i:=0) (j:=1) rfl (show (["one","other"]:List Str).Nodup by decide+kernel) rfl rfl (by decide+kernel) (by decide+kernel)) (fun cl C fp s H=>yB) (fun cl C fp s H=>(yC op_lt (jv 0 rfl (kE (by decide+kernel))) (jv 1 rfl (kE (by decide+kernel))) (jN _))) y8) j6 jK) jK))))⟩
theorem jP6 {fd:FuncData}(F:Fun K "_law_lot_right" "_law_lot_right" qE f fd)(T:Txt mg)(CU:Can P w K mg base "_law_upto" 2 fU fdU ["thing","least","most"] spUpI):FnOk P w K mg base CX0 3 f fd ["thing","wide"] jHD:=by
 refine F.ok scLotR (fun vs H Q E h=>?_) (fun cdv A outer s H vs Q E hr h=>?_)
 ·obtain⟨_,_,_,rfl,_⟩:=h
  rfl
 ·obtain⟨a,c,w,rfl,ha,ri,cl,q⟩:=h
  have hn:(c.map V.int).length<sizeLine:=by rw[aE,ae]; omega
  refine⟨_,(lotRA T CU hr).2.h,?_⟩
  refine⟨_,rfl,_,_,_,true,rfl, .tup ha,rfl,true,rfl,iteF ?_⟩
  refine⟨_,rfl,a,rfl,⟨_,SqT.of ha⟩,jF4 (fun σ=>∃ v,σ=[v,some (.int w)]) (mapZ c fun _=>V.bl true) (mapZ.ok _ _) ha hn ⟨_,rfl⟩ ?_ ?_⟩
  ·rintro j x σ' H1 zs hx ⟨v,rfl⟩ e1 hz S1 S2 yes no
   obtain⟨z,hz1,rfl⟩:=aU .. ▸ hx |> fun h=>by simpa using h
   have zb:=ri.bnd z (ay hz1)
   dsimp only [yA,yP]
   rw[am rfl]
   exact⟨_,rfl,_,rfl,_,_,rfl,rfl,z,0,_,rfl,zb.1,by omega,yes _ _ _ ⟨_,rfl⟩ (Ext.refl _) (mapZ.yes hz hz1)⟩
  ·intro D H1 zs hD e1 nD hz
   have hz:=hz.all (by rw[ae]; exact ai _)
   subst hz
   refine⟨D,replicate c.length true,rfl,?_,_,rfl,?_⟩
   ·have:(replicate c.length true).map V.bl=c.map fun _=>V.bl true:=jJN c
    rw[this]
    exact SqL.of hD
   rw[jJO]
   refine iteF ?_
   have ha1:=e1 _ _ ha
   refine⟨_,rfl,_,rfl,1,rfl,a,_,rfl,ha1,fun r H2 hr2 e2=>?_⟩
   rw[cut1] at hr2
   refine⟨true,true,a,r,rfl,⟨_,SqT.of (e2 _ _ ha1)⟩,⟨_,SqT.of hr2⟩,jI1 (xs:=c.map V.int) (ys:=(c.map V.int).drop 1) hn (fun D i σ' H' zs=>(∃ v1 v2,σ'=[v1,v2])/\zs=((adj c).take i).map V.bl/\Ext H2 H'/\H' D=some (.lst zs)/\H2 D=none) ?_ ?_ ?_ ?_⟩
   ·intro D hD
    exact⟨⟨_,_,rfl⟩,rfl,(Ext.refl _).new hD _,j5,hD⟩
   ·rintro D i σ' H' zs hD ⟨_,rfl,ex,h2,_⟩
    refine⟨SqT.of (ex _ _ (e2 _ _ ha1)),SqT.of (ex _ _ hr2),h2,?_⟩
    rw[ae,aV]
    omega
   ·rintro D i σ' H' zs x y t hD hx1 hy1 ht1 ⟨⟨v1,v2,rfl⟩,rfl,ex,h2,hn2⟩
    rw[dY,gG] at hy1
    have hlt:i+1<(c.map V.int).length:=(ah.mp hy1).1
    rw[ae] at hlt
    rw[getI (by omega)] at hx1 hy1
    cases hx1
    cases hy1
    have tD:D≠t:=j9 h2 ht1
    refine⟨t,_,rfl,SqT.of j5,rfl,_,_,rfl,_,_,rfl,rfl,?_⟩
    dsimp only [yA,yP]
    rw[am rfl]
    refine⟨_,rfl,_,rfl,_,_,rfl,rfl,by rw[j8 tD]; exact h2,⟨_,_,rfl⟩,?_,(ex.new ht1 _).updNew hn2 _,j5,hn2⟩
    rw[jI9 (by omega),aN]
    rfl
   ·rintro D2 σ' H' zs hD2 ⟨_,rfl,ex,h2,_⟩
    have hlen:min (c.map V.int).length ((c.map V.int).drop 1).length=(adj c).length:=by
     rw[jLN,cP,ae]
     omega
    rw[hlen,bR] at h2
    have EE:=(e1.trans e2).trans ex
    refine⟨D2,_,rfl,SqL.of h2,?_⟩
    rw[jQ8 ri.ris]
    exact q _ EE
end
def ifOf:Stmt->List Stmt
 | .If _ b _ _=>b
 | _=> []
section
variable {P:Program}{w:World}{K:W.Frag}{mg:Str->Option Value}{base:Heap}
variable {f fL fW fC:Addr}{fdL fdW fdC:FuncData}{cdv:Value}{A:Around}{outer:List Env}{s:Shared}{H0:Hp}{E:XK}
noncomputable abbrev nCDue:List Str:=["box","paper","known","row","due","some"]
theorem scCDue:FnScope nCDue ["box","paper"] (j7 qA):=⟨rfl,rfl,rfl,by decide+kernel,rfl,by decide+kernel,by decide+kernel⟩
abbrev XDue (P:Program)(w:World)(K:W.Frag)(mg:Str->Option Value)(base:Heap)(f:Addr)(cdv:Value)(A:Around)(outer:List Env)(s:Shared)(H:Hp)(E:XK):Cx:=XOf nCDue "_law_counted_due" qA P w K mg base f cdv A outer s H E
section
variable (T:Txt mg)(CL:Can P w K mg base "_law_lot_right" 3 fL fdL ["thing","wide"] jHD)(CW:Can P w K mg base "_law_whole" 1 fW fdW ["found"] jAM)(CC:Can P w K mg base "_law_cases" 1 fC fdC ["box","lot"] jEK)(hr:Room 3 (XDue P w K mg base f cdv A outer s H0 E).A)
def jO0: { t:TS // JSs (XDue P w K mg base f cdv A outer s H0 E) (ifOf ((jB8 ((jB qA).getD 2 (.Pass ⟨0,0,0,0⟩))).getD 3 (.Pass ⟨0,0,0,0⟩))) t} :=
 have nd:=scCDue.nd
 have _h:=CL
 have _h:=CW
 ⟨_,(jA (jS (i:=5) nd rfl lL (CC.je (hr.mono (by decide)) gD (j3 (jv 0 rfl vL) (j3 (jZ jY (jv 3 rfl vL) (je_int) jJ) j6 jX) j4) j4) jV)
   (jA (kU (yF (y6 (jD (jA8 rfl) gD T.all (by decide+kernel) (j3 (kW (m:=[none,some 2]) (Nc:=["lot","known"]) rfl (jAR (jv 5 rfl vL)) rfl (by decide+kernel) (by decide+kernel) (kP (psc:=j7 qA) (by decide+kernel)) (jP (N:=nCDue) rfl rfl (by decide+kernel)) (fun cl C fp s H=>kI (i:=0) (show (["lot","known"]:List Str).Nodup by decide+kernel) rfl (yV (by decide+kernel))) (fun cl C fp s H=>yB) (fun cl C fp s H=>(jPN (qB hr) (jv 0 rfl (kE (by decide+kernel))) (jv 1 rfl (yL (by decide+kernel))) rfl)) jAF) j6 jK) jK) kN)) (jC (jH (yR))) jQ)
   (jC (jS (i:=4) nd rfl lL (jD (jDQ rfl) gD T.sum (by decide+kernel) (j3 (kW (m:=[none,some 2]) (Nc:=["lot","known"]) rfl (jAR (jv 5 rfl vL)) rfl (by decide+kernel) (by decide+kernel) (kP (psc:=j7 qA) (by decide+kernel)) (jP (N:=nCDue) rfl rfl (by decide+kernel)) (fun cl C fp s H=>kI (i:=0) (show (["lot","known"]:List Str).Nodup by decide+kernel) rfl (yV (by decide+kernel))) (fun cl C fp s H=>yB) (fun cl C fp s H=>(jEX (qB hr) (jv 1 rfl (yL (by decide+kernel))) (jv 0 rfl (kE (by decide+kernel))) jD7)) jAF) j6 jK) jK) jV))))⟩
def jHY: { t:TS // JSs (XDue P w K mg base f cdv A outer s H0 E) ((jB8 ((jB qA).getD 2 (.Pass ⟨0,0,0,0⟩))).drop 4) t} :=
 have nd:=scCDue.nd
 have _h:=CL
 have _h:=CW
 have _h:=CC
 have _h:=T
 ⟨_,(jA (kU (jt_w (qJ (jNW (qB hr) (jZ jY (jv 3 rfl vL) (je_int) jJ) (jv 2 rfl vC) rfl) (jB9 (jT op_ne (jZ jY (jv 3 rfl vL) (je_int) jJ) (jv 4 rfl vL) (jN _))))) (jC (jH (yR))) jQ) (jC (jDI (qB hr) (jv 2 rfl vC) (jZ jY (jv 3 rfl vL) (je_int) jJ) (jv 4 rfl vL) jGI)))⟩
def jHZ: { t:TS // JSs (XDue P w K mg base f cdv A outer s H0 E) (jB8 ((jB qA).getD 2 (.Pass ⟨0,0,0,0⟩))) t} :=
 have nd:=scCDue.nd
 ⟨_,(jA (kU (jt_w (qJ (yF (y6 (jD jI gD T.isinstance (by decide+kernel) (j3 (jv 3 rfl vL) (j3 (kO (v:= .ty "tuple") gD T.tuple (by decide+kernel) rfl) j6 j4) j4) j4) kN)) (jB9 (jT op_ne (jD jO gD T.len (by decide+kernel) (j3 (jv 3 rfl vL) j6 j4) j4) (je_int) (jN _))))) (jC (jH (yR))) jQ) (jA (kU (jt_w (qJ (yF (y6 (CL.je hr gD (j3 (jZ jY (jv 3 rfl vL) (je_int) jJ) (j3 (jZ jY (jv 0 rfl vL) (je_int) jJ) j6 jX) jX) jX) kN)) (jB9 (yF (y6 (CW.je (hr.mono (by decide)) gD (j3 (jZ jY (jv 3 rfl vL) (je_int) jJ) j6 jX) jX) kN))))) (jC (jH (yR))) jQ) (jA (jS (i:=4) nd rfl lL (je_int) jEF) (jA (kU (jT op_lt (jD jO gD T.len (by decide+kernel) (j3 (jZ jY (jv 3 rfl vL) (je_int) jJ) j6 jX) jX) (jZ jY (jv 0 rfl vL) (je_int) jJ) (jN _)) (jO0 T CL CW CC hr).2 jQ) (jHY T CL CW CC hr).2))))⟩
def dueA: { t:TS // JSs (XDue P w K mg base f cdv A outer s H0 E) (jB qA) t} :=
 have nd:=scCDue.nd
 ⟨_,(jA (jS (i:=2) nd rfl (loc_c (by decide+kernel)) (jKL) jEE) (jA (kU (jt_w (qJ (yF (y6 (jD jI gD T.isinstance (by decide+kernel) (j3 (jv 1 rfl vL) (j3 (kO (v:= .ty "tuple") gD T.tuple (by decide+kernel) rfl) j6 j4) j4) j4) kN)) (jB9 (jT (jK0 hr.units0) (jv 1 rfl vL) (yE j6) (jN _))))) (jC (jH (yR))) jQ) (jA (jBQ b0 rfl (jCN (jv 1 rfl vL)) (kI (i:=3) nd rfl lL) (jHZ T CL CW CC hr).2 jAF) (jC (jH (jZ jAE (jBE (j3 (yR) (j3 (jZ jY (jZ jY (jv 1 rfl vL) (je_un jDW (je_int)) px_un) (je_int) jJ) j6 jX) jL)) (kR jDR gD T.int (by decide+kernel) (j3 (yC (jK0 hr.units0) (jZ jY (jZ jY (jv 1 rfl vL) (je_un jDW (je_int)) px_un) (je_int) jJ) (yE j6) (jN _)) j6 jE0) jE0) jJP))))))⟩
theorem jIY {D:Ends}{H:Hp}{b rb ra kn:Addr}{wi:Int}{ms:List Int}{pcs:List (List Int×Int)}{m:Nat}{l:List Nat}{v1 v4 v5:Option V}{y:V}(hB:BoxAt H b wi ms pcs)(g:Good 16 32 wi ms pcs)(hrb:H rb=some (.tup [.ref ra,y]))(ha:H ra=some (.tup ((btsN wi.toNat m).map V.int)))(hm:m<2 ^ wi.toNat)(hn:m≠2 ^ wi.toNat - 1)(hk:H kn=some (.dT (kvT wi.toNat (chs wi.toNat ms pcs) l)))(hl:∀ k∈l,k<2 ^ wi.toNat)(hin:∀ c∈chAt (chs wi.toNat ms pcs) m,(m|||c.2)∈l)
  (nx:∀ H' v5,Ext H H'->D.nx [some (.ref b),v1,some (.ref kn),some (.ref rb),some (natV (wk (chs wi.toNat ms pcs) m).length),v5] H'):
  (jO0 T CL CW CC hr).1 D [some (.ref b),v1,some (.ref kn),some (.ref rb),v4,v5] H:=by
 have o:ChOk (chs wi.toNat ms pcs):=jCP g
 have cl:(chs wi.toNat ms pcs).length=wi.toNat:=kX _ _ _ _
 refine⟨_,rfl,_,rfl,rb,_,0,_,rfl,rfl,SqT.of hrb,rfl,b,ra,wi,ms,pcs,m,rfl,hB,g,ha,hm,hn,fun r us H1 d1 t1 e1=>?_⟩
 have ul:=All2.len t1
 rw[ae] at ul
 have cl33:(chAt (chs wi.toNat ms pcs) m).length<=33:=by
  unfold chAt
  refine bJ (bI _ _) ?_
  rw[aB]
  cases hg:(chs wi.toNat ms pcs)[lowN m]? with
  | none=>exact aY _
  | some cs=>exact o.len _ _ hg
 have get:∀ {j:Nat}{x:V}{H':Hp},us[j]?=some x->Ext H1 H'->∃ c a',(chAt (chs wi.toNat ms pcs) m)[j]?=some c/\x= .ref a'/\DGet H' kn (.ref a') (some (natV (wk (chs wi.toNat ms pcs) (m|||c.2)).length)):=fun {j x H'} hx e=>by
  obtain⟨ws,hws,a',rfl,ha'⟩:=All2.get' t1 hx
  rw[aU] at hws
  cases hc:(chAt (chs wi.toNat ms pcs) m)[j]? with
  | none=>rw[hc] at hws; cases hws
  | some c=>
   rw[hc] at hws
   cases hws
   have cm:=ay hc
   have gt:=ch_gt g hm hn cm
   have vv:=jH8 (ch:=chs wi.toNat ms pcs) (l:=l) gt.2 hl
   rw[am (hin c cm)] at vv
   refine⟨c,a',rfl,rfl,?_⟩
   rw[<- vv]
   exact DGet.t (e _ _ (e1 _ _ hk)) (by rw[jKF]; exact e _ _ ha')
 refine⟨_,rfl,r,rfl,⟨_,SqL.of d1⟩,jBW (fun σ=>∃ v,σ=[v,some (.ref kn)]) (mapZ us fun _=>V.bl true) (mapZ.ok _ _) d1 (by rw[aE]; omega) ⟨_,rfl⟩ ?_ ?_⟩
 ·rintro j x σ' H' zs hx ⟨v,rfl⟩ e hz S1 S2 yes no
  obtain⟨c,a',hc,rfl,dg⟩:=get hx e
  dsimp only [yA,yP]
  rw[am rfl]
  exact⟨_,rfl,_,rfl,kn,_,rfl,dg,yes _ _ _ ⟨_,rfl⟩ (Ext.refl _) (mapZ.yes hz hx)⟩
 ·intro M H2 zs d2 e2 nM hz
  have hz:=hz.all (ai _)
  have hz2:zs=(replicate us.length true).map V.bl:=by
   rw[hz,ix]
   exact List.map_const' ..
  rw[hz2] at d2
  refine⟨M,replicate us.length true,rfl,SqL.of d2,?_⟩
  rw[jJO]
  refine⟨true,rfl,iteF ?_⟩
  refine⟨_,rfl,r,rfl,⟨_,SqL.of (e2 _ _ d1)⟩,jBW (fun σ=>∃ v,σ=[v,some (.ref kn)]) (mapZ (chAt (chs wi.toNat ms pcs) m) fun c=>natV (wk (chs wi.toNat ms pcs) (m|||c.2)).length) (mapZ.ok _ _) (e2 _ _ d1) (by rw[aE]; omega) ⟨_,rfl⟩ ?_ ?_⟩
  ·rintro j x σ' H' zs hx ⟨v,rfl⟩ e hz S1 S2 yes no
   obtain⟨c,a',hc,rfl,dg⟩:=get hx (e2.trans e)
   dsimp only [yA,yP]
   rw[am rfl]
   exact⟨_,rfl,_,rfl,kn,_,rfl,dg,yes _ _ _ ⟨_,rfl⟩ (Ext.refl _) (mapZ.yes hz hc)⟩
  ·intro S H3 zs d3 e3 nS hz
   have hz:=hz.all (by rw[ul]; exact ai _)
   have hz2:zs=((chAt (chs wi.toNat ms pcs) m).map fun c=>(((wk (chs wi.toNat ms pcs) (m|||c.2)).length:Nat):Int)).map V.int:=by rw[hz,bK]; rfl
   rw[hz2] at d3
   refine⟨S,_,rfl,SqL.of d3,?_⟩
   rw[jHC,<- jQ9 g hm hn]
   exact nx H3 _ ((e1.trans e2).trans e3)
theorem jCO {D:Ends}{H:Hp}{b rb ra kn:Addr}{w0 m:Nat}{ch:Ch}{l:List Nat}{v1 v5:Option V}(hrb:H rb=some (.tup [.ref ra,natV (wk ch m).length]))(ha:H ra=some (.tup ((btsN w0 m).map V.int)))(hm:m<2 ^ w0)(hk:H kn=some (.dT (kvT w0 ch l)))(hl:∀ k∈l,k<2 ^ w0)(hnot:m∉l)(ll:l.length<=65536)
  (nx:∀ H',H' kn=some (.dT (kvT w0 ch (l++[m])))->(∀ c u,H c=some u->c≠kn->H' c=some u)->D.nx [some (.ref b),v1,some (.ref kn),some (.ref rb),some (natV (wk ch m).length),v5] H'):
  (jHY T CL CW CC hr).1 D [some (.ref b),v1,some (.ref kn),some (.ref rb),some (natV (wk ch m).length),v5] H:=by
 have vv:=jH8 (ch:=ch) (l:=l) hm hl
 rw[ak hnot] at vv
 have eb:H ra=some (.tup (((btsN w0 m).map (Sum.inl:Int->Key)).map kV)):=by rw[jKF]; exact ha
 have dg:DGet H kn (.ref ra) none:=by
  rw[<- vv]
  exact DGet.t hk eb
 refine⟨_,rfl,rb,_,0,_,rfl,rfl,SqT.of hrb,rfl,_,rfl,kn,_,rfl,dg,_,rfl,iteF ?_⟩
 refine⟨_,rfl,rb,_,1,_,rfl,rfl,SqT.of hrb,rfl,_,rfl,rfl,_,rfl,iteN (by show (!decide (natV (wk ch m).length=natV (wk ch m).length))=false; simp) ?_⟩
 have kl:(kvT w0 ch l).length<=65536:=by
  unfold kvT
  rw[ae]
  exact ll
 refine⟨_,rfl,_,rfl,_,rfl,rb,_,0,_,rfl,rfl,SqT.of hrb,rfl,kn,_,rfl,DPut.t hk eb (by rw[aE]; omega),?_⟩
 have pk:putK (kvT w0 ch l) ((btsN w0 m).map Sum.inl) (natV (wk ch m).length)=kvT w0 ch (l++[m]):=by
  rw[jCX _ vv]
  unfold kvT
  rw[aN]
  rfl
 rw[pk]
 exact nx _ j5 fun c u h n=>by rw[j8 n]; exact h
theorem jFY {D:Ends}{H:Hp}{b rb ra kn:Addr}{wi:Int}{ms:List Int}{pcs:List (List Int×Int)}{m:Nat}{l:List Nat}{v1 v4 v5:Option V}(hB:BoxAt H b wi ms pcs)(g:Good 16 32 wi ms pcs)(hrb:H rb=some (.tup [.ref ra,natV (wk (chs wi.toNat ms pcs) m).length]))(ha:H ra=some (.tup ((btsN wi.toNat m).map V.int)))(hm:m<2 ^ wi.toNat)(hk:H kn=some (.dT (kvT wi.toNat (chs wi.toNat ms pcs) l)))(hl:∀ k∈l,k<2 ^ wi.toNat)(hin:m≠2 ^ wi.toNat - 1->∀ c∈chAt (chs wi.toNat ms pcs) m,(m|||c.2)∈l)(hnot:m∉l)(ll:l.length<=65536)
  (nx:∀ H' v4 v5,H' kn=some (.dT (kvT wi.toNat (chs wi.toNat ms pcs) (l++[m])))->(∀ c u,H c=some u->c≠kn->H' c=some u)->D.nx [some (.ref b),v1,some (.ref kn),some (.ref rb),v4,v5] H'):
  (jHZ T CL CW CC hr).1 D [some (.ref b),v1,some (.ref kn),some (.ref rb),v4,v5] H:=by
 have w0:=g.w0
 have w1:=g.w1
 obtain⟨qm,qp,ps,b1,b2,b3,b4⟩:=id hB.ex
 have ri:=jAC wi.toNat m
 rw[show ((wi.toNat:Nat):Int)=wi by omega] at ri
 have bl:=jDS wi.toNat m
 refine⟨_,rfl,_,_,_,true,rfl, .tup hrb,rfl,true,rfl,iteF ?_⟩
 refine⟨_,rfl,rb,_,rfl, .inr (SqT.of hrb),rfl,_,rfl,iteF ?_⟩
 refine⟨_,rfl,rb,_,0,_,rfl,rfl,SqT.of hrb,rfl,_,rfl,b,_,0,_,rfl,rfl,SqT.of b1,rfl,ra,btsN wi.toNat m,wi,rfl,ha,ri,by omega,fun H1 e1=>⟨true,rfl,iteF ?_⟩⟩
 refine⟨_,rfl,rb,_,1,_,rfl,rfl,SqT.of (e1 _ _ hrb),rfl,_,rfl,true,rfl,iteF ?_⟩
 refine⟨_,rfl,rb,_,0,_,rfl,rfl,SqT.of (e1 _ _ hrb),rfl,ra,_,rfl, .inr (SqT.of (e1 _ _ ha)),_,rfl,b,_,0,_,rfl,rfl,SqT.of (e1 _ _ b1),rfl,_,_,rfl,rfl,_,rfl,ite2 (fun h=>?_) (fun h=>?_)⟩
 ·have h:=aL h
  rw[ae] at h
  have hn:m≠2 ^ wi.toNat - 1:=(jI8 hm).mp (by omega)
  refine jIY T CL CW CC hr (hB.mono e1.tups) g (e1 _ _ hrb) (e1 _ _ ha) hm hn (e1 _ _ hk) hl (hin hn) fun H2 v5 e2=>?_
  have E2:=e1.trans e2
  exact jCO T CL CW CC hr (E2 _ _ hrb) (E2 _ _ ha) hm (E2 _ _ hk) hl hnot ll fun H3 k3 e3=>nx H3 _ _ k3 fun c u z n=>e3 _ _ (E2 _ _ z) n
 ·have e:m=2 ^ wi.toNat - 1:=cZ fun z=>h (ax (by
   have:=(jI8 hm).mpr z
   rw[ae]
   omega))
  have e1':wk (chs wi.toNat ms pcs) m=[[]]:=by
   have:=jEA (chs wi.toNat ms pcs)
   unfold fullN at this
   have cl:(chs wi.toNat ms pcs).length=wi.toNat:=kX _ _ _ _
   rwa [cl,<- e] at this
  have ev:natV (wk (chs wi.toNat ms pcs) m).length= .int 1:=by rw[e1']; rfl
  have tail:=jCO T CL CW CC hr (D:=D) (b:=b) (v1:=v1) (v5:=v5) (e1 _ _ hrb) (e1 _ _ ha) hm (e1 _ _ hk) hl hnot ll fun H3 k3 e3=>nx H3 _ _ k3 fun c u z n=>e3 _ _ (e1 _ _ z) n
  rw[ev] at tail
  exact tail
end
def jJJ:Sp:=fun vs H Q _=>∃ (b r:Addr) (w:Int) (ms:List Int) (pcs:List (List Int×Int)) (ns:List Nat),vs=[.ref b, .ref r]/\BoxAt H b w ms pcs/\Good 16 32 w ms pcs/\PapAt H r w.toNat (chs w.toNat ms pcs) ns/\∀ H',Ext H H'->Q (natV (wk (chs w.toNat ms pcs) 0).length) H'
theorem jPB {fd:FuncData}(F:Fun K "_law_counted_due" "_law_counted_due" qA f fd)(T:Txt mg)(CL:Can P w K mg base "_law_lot_right" 3 fL fdL ["thing","wide"] jHD)(CW:Can P w K mg base "_law_whole" 1 fW fdW ["found"] jAM)(CC:Can P w K mg base "_law_cases" 1 fC fdC ["box","lot"] jEK):FnOk P w K mg base CX0 4 f fd ["box","paper"] jJJ:=by
 refine F.ok scCDue (fun vs H Q E h=>?_) (fun cdv A outer s H vs Q E hr h=>?_)
 ·obtain⟨_,_,_,_,_,_,rfl,_⟩:=h
  rfl
 ·obtain⟨b,r,w,ms,pcs,ns,rfl,hB,g,pp,q⟩:=h
  refine⟨_,(dueA T CL CW CC hr).2.h,?_⟩
  have o:ChOk (chs w.toNat ms pcs):=jCP g
  have cl:(chs w.toNat ms pcs).length=w.toNat:=kX _ _ _ _
  obtain⟨us,hus,rws⟩:=pp.ex
  have ul:=All2.len rws
  have nl:=jGT o pp.desc pp.met
  have n0:0<us.length:=by rw[ul]; exact eM pp.met.zero
  intro kn hkn
  have e1:Ext H (L2.upd H kn (.dT [])):=(Ext.refl _).new hkn _
  have d1:(L2.upd H kn (.dT [])) kn=some (.dT []):=j5
  generalize L2.upd H kn (.dT [])=H1 at e1 d1
  refine⟨_,rfl,_,_,_,true,rfl, .tup (e1 _ _ hus),rfl,true,rfl,iteF ?_⟩
  refine⟨_,rfl,by show (0:Nat)<=_; decide,fun t2 H2 d2 e2=>⟨r,t2,us,rfl,rfl,SqT.of (e2 _ _ (e1 _ _ hus)),SqT.of d2,_,rfl,iteN (by show decide (us=[])=false; exact aP fun z=>by rw[z] at n0; cases n0) ?_⟩⟩
  have E2:=e1.trans e2
  have bnd:∀ k∈ns,k<2 ^ w.toNat:=fun k hk=>by have:=pp.met.bnd k hk; rwa [cl] at this
  refine⟨_,rfl,r,rfl,⟨_,SqT.of (E2 _ _ hus)⟩,jH1 (xs:=us) (fun i σ H'=>(∃ v3 v4 v5,σ=[some (.ref b),some (.ref r),some (.ref kn),v3,v4,v5])/\Ext H H'/\H' kn=some (.dT (kvT w.toNat (chs w.toNat ms pcs) (ns.take i)))) ⟨⟨_,_,_,rfl⟩,E2,e2 _ _ d1⟩ (fun i σ H' _ ⟨_,e,_⟩=>SqT.of (e _ _ hus)) ?_ ?_⟩
  ·rintro i x σ H3 hx ⟨⟨v3,v4,v5,rfl⟩,e3,k3⟩
   obtain⟨n,rb,ra,hn,rfl,h1,h2⟩:=jDA rws hx
   have nm:=ay hn
   refine jFY T CL CW CC hr (hB.mono e3.tups) g (e3 _ _ h1) (e3 _ _ h2) (bnd n nm) k3 (fun k hk=>bnd k (bW hk)) (fun hf c hc=>jDO pp.desc hn (pp.met.up n nm (by unfold fullN; rw[cl]; exact hf) c hc) (ch_gt g (bnd n nm) hf hc).1) (jI0 pp.desc hn) (by rw[aV]; omega) fun H4 v4 v5 k4 e4=>⟨⟨_,_,_,rfl⟩,(fun c u h=>e4 _ _ (e3 _ _ h) fun z=>by rw[z,hkn] at h; cases h),?_⟩
   rw[bh,hn]
   exact k4
  ·rintro σ H3 ⟨⟨v3,v4,v5,rfl⟩,e3,k3⟩
   have lst:=jFZ pp.desc pp.met.zero
   rw[cC] at lst
   have hl:us[us.length - 1]?=some us[us.length - 1]:=ar (by omega)
   obtain⟨n,rb,ra,hn,hx,h1,h2⟩:=jDA rws hl
   rw[ul,lst] at hn
   cases hn
   have at1:atI us (-1)=some (V.ref rb):=jH7 (by rw[hl,hx])
   have h2:H ra=some (.tup []):=by rw[h2,jI7]; rfl
   refine⟨_,rfl,1,rfl,r,_, -1,_,rfl,rfl,SqT.of (e3 _ _ hus),at1,rb,_,1,_,rfl,rfl,SqT.of (e3 _ _ h1),rfl,by show (2:Nat)<=_; decide,fun l4 H4 d4 e4 n4=>?_⟩
   refine⟨_,rfl,1,rfl,r,_, -1,_,rfl,rfl,SqT.of (e4 _ _ (e3 _ _ hus)),at1,rb,_,0,_,rfl,rfl,SqT.of (e4 _ _ (e3 _ _ h1)),rfl,by show (0:Nat)<=_; decide,fun t5 H5 d5 e5=>⟨ra,t5,[],rfl,rfl,SqT.of (e5 _ _ (e4 _ _ (e3 _ _ h2))),SqT.of d5, .inr ⟨_,rfl,?_⟩⟩⟩
   exact⟨l4,_,1,_,rfl,rfl,SqL.of (e5 _ _ d4),rfl,q H5 ((e3.trans e4).trans e5)⟩
end
section
variable {P:Program}{w:World}{K:W.Frag}{mg:Str->Option Value}{base:Heap}
variable {f fC fP fT fX fM fQ fD fS fK tb:Addr}{fdC fdP fdT fdX fdM fdQ fdD fdS fdK:FuncData}{cdv:Value}{A:Around}{outer:List Env}{s:Shared}{H0:Hp}{E:XK}
noncomputable abbrev nLaw:List Str:=["script","k","pot","great","box","amount","paper","none"]
theorem scLaw:FnScope nLaw ["script"] (j7 sLaw):=⟨rfl,rfl,rfl,by decide+kernel,rfl,by decide+kernel,by decide+kernel⟩
abbrev XLaw (P:Program)(w:World)(K:W.Frag)(mg:Str->Option Value)(base:Heap)(f:Addr)(cdv:Value)(A:Around)(outer:List Env)(s:Shared)(H:Hp)(E:XK):Cx:=XOf nLaw "law" sLaw P w K mg base f cdv A outer s H E
structure LW (P:Program)(w:World)(K:W.Frag)(mg:Str->Option Value)(base:Heap)(fC fP fT fX fM fQ fD fS fK tb:Addr)(fdC fdP fdT fdX fdM fdQ fdD fdS fdK:FuncData):Prop where
 T:Txt mg
 CC:Can P w K mg base "_law_cell_at" 1 fC fdC ["script","k"] (jJH K)
 CP:Can P w K mg base "_law_pot" 1 fP fdP ["cell"] spPot
 CT:Can P w K mg base "_law_take" 1 fT fdT ["pot","wide"] yI
 CX:Can P w K mg base "_law_box" 3 fX fdX ["pot","most_things","most_pieces"] spBox
 CM:Can P w K mg base "many" 6 fM fdM ["box"] (jJG tb)
 CQ:Can P w K mg base "count_paper" 6 fQ fdQ ["box"] (jJI tb)
 CD:Can P w K mg base "_law_counted_due" 4 fD fdD ["box","paper"] jJJ
 CS:Can P w K mg base "_law_same" 6 fS fdS ["found","due"] (jD5 4)
 CK:Can P w K mg base "counted" 5 fK fdK ["box","paper"] jD6
section
variable (G:LW P w K mg base fC fP fT fX fM fQ fD fS fK tb fdC fdP fdT fdX fdM fdQ fdD fdS fdK)(hr:Room 6 (XLaw P w K mg base f cdv A outer s H0 E).A)
def jNQ: { t:TS // JSs (XLaw P w K mg base f cdv A outer s H0 E) (jB8 ((jB sLaw).getD 0 (.Pass ⟨0,0,0,0⟩))) t} :=
 have nd:=scLaw.nd
 ⟨_,(jA (jS (i:=2) nd rfl lL (G.CP.je (hr.mono (by decide)) gD (j3 (G.CC.je (hr.mono (by decide)) gD (j3 (jv 0 rfl vL) (j3 (jv 1 rfl vL) j6 j4) j4) j4) j6 jF) jF) jV)
   (jA (jS (i:=3) nd rfl lL (kR jDR gD G.T.int (by decide+kernel) (j3 (yC yQ (G.CT.je (hr.mono (by decide)) gD (j3 (jv 2 rfl vL) (j3 (je_int) j6 jL) j4) j4) (je_int) (jN _)) j6 jE0) jE0) jV)
   (jA (jS (i:=4) nd rfl lL (G.CX.je (hr.mono (by decide)) gD (j3 (jv 2 rfl vL) (j3 (jZ jAE (jBE (j3 (je_int) (j3 (je_int) j6 jL) jL)) (jv 3 rfl vL) jD7) (j3 (jZ jAE (jBE (j3 (je_int) (j3 (je_int) j6 jL) jL)) (jv 3 rfl vL) jD7) j6 jX) jX) j4) j4) jV)
   (jA (jS (i:=5) nd rfl lL (G.CM.je hr gD (j3 (jv 4 rfl vL) j6 j4) j4) jV)
   (jA (jS (i:=6) nd rfl lL (G.CQ.je hr gD (j3 (jv 4 rfl vL) j6 j4) j4) jV)
   (jC (kU (jt_w (qJ (yF (y6 (G.CS.je hr gD (j3 (G.CD.je (hr.mono (by decide)) gD (j3 (jv 4 rfl vL) (j3 (jv 6 rfl vL) j6 j4) j4) j4) (j3 (jv 5 rfl vL) j6 j4) jF) jF) kN)) (jB9 (yF (y6 (G.CS.je hr gD (j3 (G.CK.je (hr.mono (by decide)) gD (j3 (jv 4 rfl vL) (j3 (jv 6 rfl vL) j6 j4) j4) j4) (j3 (jv 5 rfl vL) j6 j4) jF) jF) kN))))) (jC (jH (je_bl))) jQ)))))))⟩
def lendA: { t:TS // JSs (XLaw P w K mg base f cdv A outer s H0 E) ((jB sLaw).drop 1) t} :=
 have nd:=scLaw.nd
 ⟨_,(jA (jS (i:=7) nd rfl lL (yE (j3 (je_int) (j3 (yE j6) (j3 (yE j6) j6 jBK) jBK) jL)) jN9)
   (jC (jH ((jBA (G.CS.je hr gD (j3 (G.CK.je (hr.mono (by decide)) gD (j3 (jv 7 rfl vL) (j3 (yE (j3 (yE (j3 (yE j6) (j3 (je_int) j6 jL) jBK)) j6 jBK)) j6 jBK) j4) j4) (j3 (je_int) j6 jL) jF) jF) (yW (G.CS.je hr gD (j3 (G.CK.je (hr.mono (by decide)) gD (j3 (jv 7 rfl vL) (j3 (G.CQ.je hr gD (j3 (jv 7 rfl vL) j6 j4) j4) j6 jF) j4) j4) (j3 (je_int) j6 jL) jF) jF)))))))⟩
def lawA: { t:TS // JSs (XLaw P w K mg base f cdv A outer s H0 E) (jB sLaw) t} :=
 have nd:=scLaw.nd
 ⟨_,(jA (jBQ b0 rfl (jAJ gD G.T.range (j3 (jD (jLG rfl) gD G.T.max (by decide+kernel) (j3 (je_int) (j3 (jD (jLF rfl) gD G.T.min (by decide+kernel) (j3 (jD jO gD G.T.len (by decide+kernel) (j3 (jv 0 rfl vL) j6 j4) j4) (j3 (je_int) j6 jL) jF) jF) j6 jF) jL) jL) j6 jF) jF) (kI (i:=1) nd rfl lL) (jNQ G hr).2 y8) (lendA G hr).2)⟩
theorem jJ7 {D:Ends}{H:Hp}{a:Addr}{ns:List Int}{k:Int}{v2 v3 v4 v5 v6 v7:Option V}(hS:SqL K H a (ns.map V.int))(k0:0<=k)(tab:TabW H tb)
  (nx:∀ H' v2 v3 v4 v5 v6,TabW H' tb->ExtT tb H H'->D.nx [some (.ref a),some (.int k),v2,v3,v4,v5,v6,v7] H'):
  (jNQ G hr).1 D [some (.ref a),some (.int k),v2,v3,v4,v5,v6,v7] H:=by
 refine⟨_,rfl,_,rfl,a,ns,k,rfl,hS,k0,fun c=>⟨c,rfl,fun p N hp hN=>?_⟩⟩
 refine⟨_,rfl,p,N,6,rfl,j5,hN,by decide,by decide,fun N2 r a1 a2 a3=>⟨rfl, .inr ⟨_,rfl,?_⟩⟩⟩
 have e2:Ext H (L2.upd (L2.upd H p (.lst [.int N])) p (.lst [.int N2])):=((Ext.refl _).new hp _).updNew hp _
 have p2:(L2.upd (L2.upd H p (.lst [.int N])) p (.lst [.int N2])) p=some (.lst [.int N2]):=j5
 generalize L2.upd (L2.upd H p (.lst [.int N])) p (.lst [.int N2])=H2 at e2 p2
 obtain⟨gr,hgr,g0⟩:∃ gr:Int,(if decide (V.int r=V.int 1)=true then (1:Int) else 0)=gr/\(gr=0\/gr=1):=⟨_,rfl,by split <;> omega⟩
 rw[hgr]
 refine⟨_,rfl,by show (2:Nat)<=_; decide,fun l1 H3 d3 e3 n3=>?_⟩
 obtain⟨mt,hmt,mt0,mt1⟩:∃ mt:Int,atI [V.int 9,V.int 12] gr=some (.int mt)/\0<=mt/\mt<=16:=by
  rcases g0 with rfl | rfl
  ·exact⟨9,rfl,by decide,by decide⟩
  ·exact⟨12,rfl,by decide,by decide⟩
 refine⟨_,rfl,l1,_,gr,_,rfl,rfl,SqL.of d3,hmt,?_⟩
 refine⟨by show (2:Nat)<=_; decide,fun l2 H4 d4 e4 n4=>?_⟩
 obtain⟨mp,hmp,mp0,mp1⟩:∃ mp:Int,atI [V.int 12,V.int 14] gr=some (.int mp)/\0<=mp/\mp<=32:=by
  rcases g0 with rfl | rfl
  ·exact⟨12,rfl,by decide,by decide⟩
  ·exact⟨14,rfl,by decide,by decide⟩
 refine⟨_,rfl,l2,_,gr,_,rfl,rfl,SqL.of d4,hmp,?_⟩
 have E4:=e3.trans e4
 refine⟨p,N2,mt,mp,rfl,E4 _ _ p2,a1,mt0,mt1,mp0,mp1,fun b N5 wi ms pcs H5 c1 c2 hB5 g5 c5=>?_⟩
 have g:=g5.wide mt1 mp1
 have e5:Ext H H5:=fun c o h=>c5 c o ((e2.trans E4) c o h) fun z=>by rw[z,hp] at h; cases h
 have tab5:=tab.ext e5
 refine⟨_,rfl,b,wi,ms,pcs,rfl,hB5,g,tab5,fun H6 e6 t6=>?_⟩
 have hB6:=hB5.mono fun c xs h=>e6.at tab5 h
 refine⟨_,rfl,b,wi,ms,pcs,rfl,hB6,g,t6,fun r7 ns7 H7 pp7 e7 t7=>?_⟩
 have hB7:=hB6.mono fun c xs h=>e7.at t6 h
 refine⟨_,rfl,_,rfl,b,r7,wi,ms,pcs,ns7,rfl,hB7,g,pp7,fun H8 e8=>?_⟩
 refine⟨_,rfl,_,_, .int ((wk (chs wi.toNat ms pcs) 0).length:Int),rfl,rfl,rfl,by simp [dep],by simp [wid],fun H9 e9=>⟨true,rfl,iteF ?_⟩⟩
 have E9:=e8.trans e9
 refine⟨_,rfl,_,rfl,b,r7,wi,ms,pcs,ns7,rfl,hB7.mono E9.tups,g,pp7.mono E9.tups,fun HA eA=>?_⟩
 refine⟨_,rfl,_,_, .int ((wk (chs wi.toNat ms pcs) 0).length:Int),rfl,rfl,rfl,by simp [dep],by simp [wid],fun HB eB=>⟨true,rfl,iteF ?_⟩⟩
 have EB:=(E9.trans eA).trans eB
 exact nx HB _ _ _ _ _ (t7.ext EB) ((((ExtT.of e5).trans e6).trans e7).trans (ExtT.of EB))
theorem jMR {D:Ends}{H:Hp}{v0 v1 v2 v3 v4 v5 v6 v7:Option V}(tab:TabW H tb)(q:∀ H',D.rt (.bl true) H'):
  (lendA G hr).1 D [v0,v1,v2,v3,v4,v5,v6,v7] H:=by
 have g:Good 16 32 0 [] []:=⟨by decide,by decide,⟨List.Pairwise.nil,fun _ h=>by cases h⟩,by decide,fun _ h=>by cases h⟩
 have w1:(wk (chs (0:Int).toNat [] []) 0).length=1:=by
  have:=jEA (chs (0:Int).toNat [] [])
  rw[show fullN (chs (0:Int).toNat [] [])=0 from rfl] at this
  rw[this]
  rfl
 have mo:MetOk (chs (0:Int).toNat [] []) [0]:=⟨List.mem_singleton_self _,fun m h=>by rw[aH.mp h]; exact fk _,fun m h hn=>absurd (aH.mp h) (fun z=>hn (by rw[z]; rfl))⟩
 refine⟨by show (0:Nat)<=_; decide,fun t1 H1 d1 e1=>⟨by show (0:Nat)<=_; decide,fun t2 H2 d2 e2=>⟨by show (3:Nat)<=_; decide,fun b H3 d3 e3=>?_⟩⟩⟩
 have hB:BoxAt H3 b 0 [] []:=⟨t1,t2,[],d3,e3 _ _ (e2 _ _ d1),e3 _ _ d2,trivial⟩
 have tab3:=((tab.ext e1).ext e2).ext e3
 refine⟨_,rfl,by show (0:Nat)<=_; decide,fun a4 H4 d4 e4=>⟨by show (2:Nat)<=_; decide,fun b5 H5 d5 e5=>⟨by show (1:Nat)<=_; decide,fun r6 H6 d6 e6=>?_⟩⟩⟩
 have E6:=(e4.trans e5).trans e6
 have pp:PapAt H6 r6 (0:Int).toNat (chs (0:Int).toNat [] []) [0]:=by
  refine⟨⟨[V.ref b5],d6,⟨b5,a4,rfl,?_,?_⟩,trivial⟩,ed _ _,mo⟩
  ·rw[w1]
   exact e6 _ _ d5
  ·exact e6 _ _ (e5 _ _ d4)
 refine⟨b,r6,0,[],[],[0],rfl,hB.mono E6.tups,g,pp,fun H7 e7=>?_⟩
 rw[w1]
 refine⟨_,_, .int 1,rfl,rfl,rfl,by simp [dep],by simp [wid],fun H8 e8=>⟨_,rfl,iteT ?_⟩⟩
 have E8:=(E6.trans e7).trans e8
 have t8:=tab3.ext E8
 refine⟨_,rfl,_,rfl,b,0,[],[],rfl,hB.mono E8.tups,g,t8,fun r9 ns9 H9 pp9 e9 t9=>?_⟩
 refine⟨b,r9,0,[],[],ns9,rfl,(hB.mono E8.tups).mono fun c xs h=>e9.at t8 h,g,pp9,fun HA eA=>?_⟩
 rw[w1]
 exact⟨_,_, .int 1,rfl,rfl,rfl,by simp [dep],by simp [wid],fun HB eB=>q HB⟩
end
def spLaw (K:W.Frag)(tb:Addr):Sp:=fun vs H Q _=>∃ (a:Addr) (ns:List Int),vs=[.ref a]/\SqL K H a (ns.map V.int)/\ns.length<=63/\TabW H tb/\∀ H',Q (.bl true) H'
theorem jR7 {fd:FuncData}(F:Fun K "law" "law" sLaw f fd)(G:LW P w K mg base fC fP fT fX fM fQ fD fS fK tb fdC fdP fdT fdX fdM fdQ fdD fdS fdK):FnOk P w K mg base CX0 7 f fd ["script"] (spLaw K tb):=by
 refine F.ok scLaw (fun vs H Q E h=>?_) (fun cdv A outer s H vs Q E hr h=>?_)
 ·obtain⟨_,_,rfl,_⟩:=h
  rfl
 ·obtain⟨a,ns,rfl,hS,hlen,tab,q⟩:=h
  refine⟨_,(lawA G hr).2.h,?_⟩
  have hl:∃ m:Int,(if (if (8:Int)<((ns.map V.int).length:Int) then (8:Int) else ((ns.map V.int).length:Int))>1 then (if (8:Int)<((ns.map V.int).length:Int) then (8:Int) else ((ns.map V.int).length:Int)) else 1)=m/\0<=m/\m<=8:=⟨_,rfl,by split <;> omega,by split <;> (try split) <;> omega⟩
  obtain⟨m,hm,m0,m6⟩:=hl
  refine⟨_,rfl,a,_,rfl, .inl hS,_,_,rfl,_,_,rfl,m,by rw[<- hm],by omega,by omega,jDL (lo:=0) (n:=m.toNat) (fun i σ H'=>TabW H' tb/\ExtT tb H H'/\∃ v1 v2 v3 v4 v5 v6 v7,σ=[some (.ref a),v1,v2,v3,v4,v5,v6,v7]) ⟨tab,ExtT.refl _,_,_,_,_,_,_,_,rfl⟩ ?_ ?_⟩
  ·rintro i σ H1 hi ⟨T1,X1,v1,v2,v3,v4,v5,v6,v7,rfl⟩
   have hS1:SqL K H1 a (ns.map V.int):=by
    rcases hS with (h | ⟨o,h⟩) | h
    ·exact .inl (.inl (X1.at tab h))
    ·exact .inl (.inr ⟨o,X1.at tab h⟩)
    ·exact .inr h
   exact jJ7 G hr hS1 (by omega) T1 fun H2 v2 v3 v4 v5 v6 T2 X2=>⟨T2,X1.trans X2,_,_,_,_,_,_,_,rfl⟩
  ·rintro σ H1 ⟨T1,X1,v1,v2,v3,v4,v5,v6,v7,rfl⟩
   exact jMR (outer:=outer) (H0:=H) (E:=E) G hr T1 q
end
theorem qF {P:List Value->Prop} :∀ {us:List Value},us.length=1->(∀ a,P [a])->P us
 | [a],_,h=>h a
theorem qI {P:List Value->Prop} :∀ {us:List Value},us.length=2->(∀ a b,P [a,b])->P us
 | [a,b],_,h=>h a b
theorem lenU3 {P:List Value->Prop} :∀ {us:List Value},us.length=3->(∀ a b c,P [a,b,c])->P us
 | [a,b,c],_,h=>h a b c
set_option maxHeartbeats 8000000 in
theorem all_mk {l:PySem.W.OpenLaw}{w:World}{K:W.Frag}{h:Heap}{mg:Str->Option Value}{fa f1 f2 f3 f4 f5 f6 f7 f8 f9 f10 f11 f12 f13 f14 f15 f16 f17 f18 f19 f20 f21 f22 f23 f24 f25 f26 f27 f28:Addr}(X:K.In h)(G:h.Ns mainGlobals mg)(hfa:mg "law" =some (.ref fa))
  {od1 an1 od2 an2 od3 an3 od4 an4 od5 an5 od6 an6 od7 an7 od8 an8 od9 an9 od10 an10 od11 an11 od12 an12 od13 an13 od14 an14 od15 an15 od16 an16 od17 an17 od18 an18 od19 an19 od20 an20 od21 an21 od22 an22 od23 an23 od24 an24 od25 an25 od26 an26 od27 an27 od28 an28:Option Addr}{sl1 sl2 sl3 sl4 sl5 sl6 sl7 sl8 sl9 sl10 sl11 sl12 sl13 sl14 sl15 sl16 sl17 sl18 sl19 sl20 sl21 sl22 sl23 sl24 sl25 sl26 sl27 sl28:Array (Option Value)}{oc1 kV1 dc1 pm1 cd1 ct1 oc2 kV2 dc2 pm2 cd2 ct2 oc3 kV3 dc3 pm3 cd3 ct3 oc4 kV4 dc4 pm4 cd4 ct4 oc5 kV5 dc5 pm5 cd5 ct5 oc6 kV6 dc6 pm6 cd6 ct6 oc7 kV7 dc7 pm7 cd7 ct7 oc8 kV8 dc8 pm8 cd8 ct8 oc9 kV9 dc9 pm9 cd9 ct9 oc10 kV10 dc10 pm10 cd10 ct10 oc11 kV11 dc11 pm11 cd11 ct11 oc12 kV12 dc12 pm12 cd12 ct12 oc13 kV13 dc13 pm13 cd13 ct13 oc14 kV14 dc14 pm14 cd14 ct14 oc15 kV15 dc15 pm15 cd15 ct15 oc16 kV16 dc16 pm16 cd16 ct16 oc17 kV17 dc17 pm17 cd17 ct17 oc18 kV18 dc18 pm18 cd18 ct18 oc19 kV19 dc19 pm19 cd19 ct19 oc20 kV20 dc20 pm20 cd20 ct20 oc21 kV21 dc21 pm21 cd21 ct21 oc22 kV22 dc22 pm22 cd22 ct22 oc23 kV23 dc23 pm23 cd23 ct23 oc24 kV24 dc24 pm24 cd24 ct24 oc25 kV25 dc25 pm25 cd25 ct25 oc26 kV26 dc26 pm26 cd26 ct26 oc27 kV27 dc27 pm27 cd27 ct27 oc28 kV28 dc28 pm28 cd28 ct28:Value}
  (a1:PySem.W.nsIn K mainGlobals "is_whole" =some (some (.ref f1))) (l1:K.lookup f1=some ⟨oc1,od1, .func (PySem.W.fnOf "is_whole" "is_whole" (jG jAN) (jB jAN) (j7 jAN) .none kV1 dc1 pm1 an1 cd1 ct1),sl1⟩) (c1:PySem.W.codeIn K cd1 "is_whole" =true) (k1:keepIn K (.ref f1)=true)
  (a2:PySem.W.nsIn K mainGlobals "is_rising" =some (some (.ref f2))) (l2:K.lookup f2=some ⟨oc2,od2, .func (PySem.W.fnOf "is_rising" "is_rising" (jG yH) (jB yH) (j7 yH) .none kV2 dc2 pm2 an2 cd2 ct2),sl2⟩) (c2:PySem.W.codeIn K cd2 "is_rising" =true) (k2:keepIn K (.ref f2)=true)
  (a3:PySem.W.nsIn K mainGlobals "is_lot" =some (some (.ref f3))) (l3:K.lookup f3=some ⟨oc3,od3, .func (PySem.W.fnOf "is_lot" "is_lot" (jG jB6) (jB jB6) (j7 jB6) .none kV3 dc3 pm3 an3 cd3 ct3),sl3⟩) (c3:PySem.W.codeIn K cd3 "is_lot" =true) (k3:keepIn K (.ref f3)=true)
  (a4:PySem.W.nsIn K mainGlobals "mask_of" =some (some (.ref f4))) (l4:K.lookup f4=some ⟨oc4,od4, .func (PySem.W.fnOf "mask_of" "mask_of" (jG sMask) (jB sMask) (j7 sMask) .none kV4 dc4 pm4 an4 cd4 ct4),sl4⟩) (c4:PySem.W.codeIn K cd4 "mask_of" =true) (k4:keepIn K (.ref f4)=true)
  (a5:PySem.W.nsIn K mainGlobals "lot_of" =some (some (.ref f5))) (l5:K.lookup f5=some ⟨oc5,od5, .func (PySem.W.fnOf "lot_of" "lot_of" (jG jB4) (jB jB4) (j7 jB4) .none kV5 dc5 pm5 an5 cd5 ct5),sl5⟩) (c5:PySem.W.codeIn K cd5 "lot_of" =true) (k5:keepIn K (.ref f5)=true)
  (a6:PySem.W.nsIn K mainGlobals "choices_of" =some (some (.ref f6))) (l6:K.lookup f6=some ⟨oc6,od6, .func (PySem.W.fnOf "choices_of" "choices_of" (jG kT) (jB kT) (j7 kT) .none kV6 dc6 pm6 an6 cd6 ct6),sl6⟩) (c6:PySem.W.codeIn K cd6 "choices_of" =true) (k6:keepIn K (.ref f6)=true)
  (a7:PySem.W.nsIn K mainGlobals "full_mask" =some (some (.ref f7))) (l7:K.lookup f7=some ⟨oc7,od7, .func (PySem.W.fnOf "full_mask" "full_mask" (jG sFull) (jB sFull) (j7 sFull) .none kV7 dc7 pm7 an7 cd7 ct7),sl7⟩) (c7:PySem.W.codeIn K cd7 "full_mask" =true) (k7:keepIn K (.ref f7)=true)
  (a8:PySem.W.nsIn K mainGlobals "choices_at" =some (some (.ref f8))) (l8:K.lookup f8=some ⟨oc8,od8, .func (PySem.W.fnOf "choices_at" "choices_at" (jG sAt) (jB sAt) (j7 sAt) .none kV8 dc8 pm8 an8 cd8 ct8),sl8⟩) (c8:PySem.W.codeIn K cd8 "choices_at" =true) (k8:keepIn K (.ref f8)=true)
  (a9:PySem.W.nsIn K mainGlobals "masks_met" =some (some (.ref f9))) (l9:K.lookup f9=some ⟨oc9,od9, .func (PySem.W.fnOf "masks_met" "masks_met" (jG sMet) (jB sMet) (j7 sMet) .none kV9 dc9 pm9 an9 cd9 ct9),sl9⟩) (c9:PySem.W.codeIn K cd9 "masks_met" =true) (k9:keepIn K (.ref f9)=true)
  (a10:PySem.W.nsIn K mainGlobals "gathered" =some (some (.ref f10))) (l10:K.lookup f10=some ⟨oc10,od10, .func (PySem.W.fnOf "gathered" "gathered" (jG q0) (jB q0) (j7 q0) .none kV10 dc10 pm10 an10 cd10 ct10),sl10⟩) (c10:PySem.W.codeIn K cd10 "gathered" =true) (k10:keepIn K (.ref f10)=true)
  (a11:PySem.W.nsIn K mainGlobals "ways_of" =some (some (.ref f11))) (l11:K.lookup f11=some ⟨oc11,od11, .func (PySem.W.fnOf "ways_of" "ways_of" (jG yT) (jB yT) (j7 yT) .none kV11 dc11 pm11 an11 cd11 ct11),sl11⟩) (c11:PySem.W.codeIn K cd11 "ways_of" =true) (k11:keepIn K (.ref f11)=true)
  (a12:PySem.W.nsIn K mainGlobals "many" =some (some (.ref f12))) (l12:K.lookup f12=some ⟨oc12,od12, .func (PySem.W.fnOf "many" "many" (jG sMany) (jB sMany) (j7 sMany) .none kV12 dc12 pm12 an12 cd12 ct12),sl12⟩) (c12:PySem.W.codeIn K cd12 "many" =true) (k12:keepIn K (.ref f12)=true)
  (a13:PySem.W.nsIn K mainGlobals "is_row" =some (some (.ref f13))) (l13:K.lookup f13=some ⟨oc13,od13, .func (PySem.W.fnOf "is_row" "is_row" (jG jB5) (jB jB5) (j7 jB5) .none kV13 dc13 pm13 an13 cd13 ct13),sl13⟩) (c13:PySem.W.codeIn K cd13 "is_row" =true) (k13:keepIn K (.ref f13)=true)
  (a14:PySem.W.nsIn K mainGlobals "right_number" =some (some (.ref f14))) (l14:K.lookup f14=some ⟨oc14,od14, .func (PySem.W.fnOf "right_number" "right_number" (jG sRNum) (jB sRNum) (j7 sRNum) .none kV14 dc14 pm14 an14 cd14 ct14),sl14⟩) (c14:PySem.W.codeIn K cd14 "right_number" =true) (k14:keepIn K (.ref f14)=true)
  (a15:PySem.W.nsIn K mainGlobals "counted" =some (some (.ref f15))) (l15:K.lookup f15=some ⟨oc15,od15, .func (PySem.W.fnOf "counted" "counted" (jG kS) (jB kS) (j7 kS) .none kV15 dc15 pm15 an15 cd15 ct15),sl15⟩) (c15:PySem.W.codeIn K cd15 "counted" =true) (k15:keepIn K (.ref f15)=true)
  (a16:PySem.W.nsIn K mainGlobals "count_paper" =some (some (.ref f16))) (l16:K.lookup f16=some ⟨oc16,od16, .func (PySem.W.fnOf "count_paper" "count_paper" (jG qH) (jB qH) (j7 qH) .none kV16 dc16 pm16 an16 cd16 ct16),sl16⟩) (c16:PySem.W.codeIn K cd16 "count_paper" =true) (k16:keepIn K (.ref f16)=true)
  (a17:PySem.W.nsIn K mainGlobals "_law_cell_at" =some (some (.ref f17))) (l17:K.lookup f17=some ⟨oc17,od17, .func (PySem.W.fnOf "_law_cell_at" "_law_cell_at" (jG sCell) (jB sCell) (j7 sCell) .none kV17 dc17 pm17 an17 cd17 ct17),sl17⟩) (c17:PySem.W.codeIn K cd17 "_law_cell_at" =true) (k17:keepIn K (.ref f17)=true)
  (a18:PySem.W.nsIn K mainGlobals "_law_pot" =some (some (.ref f18))) (l18:K.lookup f18=some ⟨oc18,od18, .func (PySem.W.fnOf "_law_pot" "_law_pot" (jG sPot) (jB sPot) (j7 sPot) .none kV18 dc18 pm18 an18 cd18 ct18),sl18⟩) (c18:PySem.W.codeIn K cd18 "_law_pot" =true) (k18:keepIn K (.ref f18)=true)
  (a19:PySem.W.nsIn K mainGlobals "_law_take" =some (some (.ref f19))) (l19:K.lookup f19=some ⟨oc19,od19, .func (PySem.W.fnOf "_law_take" "_law_take" (jG sTake) (jB sTake) (j7 sTake) .none kV19 dc19 pm19 an19 cd19 ct19),sl19⟩) (c19:PySem.W.codeIn K cd19 "_law_take" =true) (k19:keepIn K (.ref f19)=true)
  (a20:PySem.W.nsIn K mainGlobals "_law_lot" =some (some (.ref f20))) (l20:K.lookup f20=some ⟨oc20,od20, .func (PySem.W.fnOf "_law_lot" "_law_lot" (jG sLot) (jB sLot) (j7 sLot) .none kV20 dc20 pm20 an20 cd20 ct20),sl20⟩) (c20:PySem.W.codeIn K cd20 "_law_lot" =true) (k20:keepIn K (.ref f20)=true)
  (a21:PySem.W.nsIn K mainGlobals "_law_box" =some (some (.ref f21))) (l21:K.lookup f21=some ⟨oc21,od21, .func (PySem.W.fnOf "_law_box" "_law_box" (jG sBox) (jB sBox) (j7 sBox) .none kV21 dc21 pm21 an21 cd21 ct21),sl21⟩) (c21:PySem.W.codeIn K cd21 "_law_box" =true) (k21:keepIn K (.ref f21)=true)
  (a22:PySem.W.nsIn K mainGlobals "_law_whole" =some (some (.ref f22))) (l22:K.lookup f22=some ⟨oc22,od22, .func (PySem.W.fnOf "_law_whole" "_law_whole" (jG jBL) (jB jBL) (j7 jBL) .none kV22 dc22 pm22 an22 cd22 ct22),sl22⟩) (c22:PySem.W.codeIn K cd22 "_law_whole" =true) (k22:keepIn K (.ref f22)=true)
  (a23:PySem.W.nsIn K mainGlobals "_law_same" =some (some (.ref f23))) (l23:K.lookup f23=some ⟨oc23,od23, .func (PySem.W.fnOf "_law_same" "_law_same" (jG qD) (jB qD) (j7 qD) .none kV23 dc23 pm23 an23 cd23 ct23),sl23⟩) (c23:PySem.W.codeIn K cd23 "_law_same" =true) (k23:keepIn K (.ref f23)=true)
  (a24:PySem.W.nsIn K mainGlobals "_law_cases" =some (some (.ref f24))) (l24:K.lookup f24=some ⟨oc24,od24, .func (PySem.W.fnOf "_law_cases" "_law_cases" (jG y0) (jB y0) (j7 y0) .none kV24 dc24 pm24 an24 cd24 ct24),sl24⟩) (c24:PySem.W.codeIn K cd24 "_law_cases" =true) (k24:keepIn K (.ref f24)=true)
  (a25:PySem.W.nsIn K mainGlobals "_law_upto" =some (some (.ref f25))) (l25:K.lookup f25=some ⟨oc25,od25, .func (PySem.W.fnOf "_law_upto" "_law_upto" (jG sUpto) (jB sUpto) (j7 sUpto) .none kV25 dc25 pm25 an25 cd25 ct25),sl25⟩) (c25:PySem.W.codeIn K cd25 "_law_upto" =true) (k25:keepIn K (.ref f25)=true)
  (a26:PySem.W.nsIn K mainGlobals "_law_lot_right" =some (some (.ref f26))) (l26:K.lookup f26=some ⟨oc26,od26, .func (PySem.W.fnOf "_law_lot_right" "_law_lot_right" (jG qE) (jB qE) (j7 qE) .none kV26 dc26 pm26 an26 cd26 ct26),sl26⟩) (c26:PySem.W.codeIn K cd26 "_law_lot_right" =true) (k26:keepIn K (.ref f26)=true)
  (a27:PySem.W.nsIn K mainGlobals "_law_counted_due" =some (some (.ref f27))) (l27:K.lookup f27=some ⟨oc27,od27, .func (PySem.W.fnOf "_law_counted_due" "_law_counted_due" (jG qA) (jB qA) (j7 qA) .none kV27 dc27 pm27 an27 cd27 ct27),sl27⟩) (c27:PySem.W.codeIn K cd27 "_law_counted_due" =true) (k27:keepIn K (.ref f27)=true)
  (a28:PySem.W.nsIn K mainGlobals "law" =some (some (.ref f28))) (l28:K.lookup f28=some ⟨oc28,od28, .func (PySem.W.fnOf "law" "law" (jG sLaw) (jB sLaw) (j7 sLaw) .none kV28 dc28 pm28 an28 cd28 ct28),sl28⟩) (c28:PySem.W.codeIn K cd28 "law" =true) (k28:keepIn K (.ref f28)=true)
   (z1:PySem.W.nsIn K mainGlobals "len" =some none) (z2:PySem.W.nsIn K mainGlobals "range" =some none) (z3:PySem.W.nsIn K mainGlobals "tuple" =some none) (z4:PySem.W.nsIn K mainGlobals "sorted" =some none) (z5:PySem.W.nsIn K mainGlobals "set" =some none) (z6:PySem.W.nsIn K mainGlobals "list" =some none) (z7:PySem.W.nsIn K mainGlobals "int" =some none) (z8:PySem.W.nsIn K mainGlobals "isinstance" =some none) (z9:PySem.W.nsIn K mainGlobals "bool" =some none) (z10:PySem.W.nsIn K mainGlobals "str" =some none) (z11:PySem.W.nsIn K mainGlobals "all" =some none) (z12:PySem.W.nsIn K mainGlobals "zip" =some none) (z13:PySem.W.nsIn K mainGlobals "max" =some none) (z14:PySem.W.nsIn K mainGlobals "min" =some none) (z15:PySem.W.nsIn K mainGlobals "any" =some none) (z16:PySem.W.nsIn K mainGlobals "abs" =some none) (z17:PySem.W.nsIn K mainGlobals "sum" =some none) (z18:PySem.W.nsIn K mainGlobals "enumerate" =some none) (z19:PySem.W.nsIn K mainGlobals "dict" =some none) {tb1 cc1:Addr}(cde1:cd11= .ref cc1) (hcd1:codeHdIn K cc1 tb1=true) {bmA:Addr}(xb1:PySem.W.nsIn K mainGlobals "__builtins__" =some (some (.ref bmA))) (xb2:K.lookup bmA=some ⟨.type "module",some builtinsNs, .plain,#[]⟩) (xb3:bmA≠builtinsNs) (xb4:bmA≠mainGlobals):
  ∃ fd:FuncData,(∀ (s:Shared) (v:Value),BindsTo s fd ⟨[v],[]⟩ [("script",v)])/\∀ base:Heap,K.In base->base.Ns mainGlobals mg->FnOk l.prog w K mg base CX0 7 fa fd ["script"] (spLaw K tb1):=by
 have e:=hfa.symm.trans (eY X G a28)
 cases e
 have T:Txt mg:=⟨aS X G z1,aS X G z2,aS X G z3,aS X G z4,aS X G z5,aS X G z6,aS X G z7,aS X G z8,aS X G z9,aS X G z10,aS X G z11,aS X G z12,aS X G z13,aS X G z14,aS X G z15,aS X G z16,aS X G z17,aS X G z18,aS X G z19⟩
 have F1:=kB (st:=jAN) l1 c1 k1
 have b1:=F1.binds (ps:=["thing"]) fun _ _ _ _ _ _ us hl=>qF (P:=fun us=>bindArgs _ ⟨us,[]⟩=pure (List.zip _ us)) hl fun _=>rfl
 have F2:=kB (st:=yH) l2 c2 k2
 have b2:=F2.binds (ps:=["thing"]) fun _ _ _ _ _ _ us hl=>qF (P:=fun us=>bindArgs _ ⟨us,[]⟩=pure (List.zip _ us)) hl fun _=>rfl
 have F3:=kB (st:=jB6) l3 c3 k3
 have b3:=F3.binds (ps:=["thing","many"]) fun _ _ _ _ _ _ us hl=>qI (P:=fun us=>bindArgs _ ⟨us,[]⟩=pure (List.zip _ us)) hl fun _ _=>rfl
 have F4:=kB (st:=sMask) l4 c4 k4
 have b4:=F4.binds (ps:=["lot"]) fun _ _ _ _ _ _ us hl=>qF (P:=fun us=>bindArgs _ ⟨us,[]⟩=pure (List.zip _ us)) hl fun _=>rfl
 have F5:=kB (st:=jB4) l5 c5 k5
 have b5:=F5.binds (ps:=["mask"]) fun _ _ _ _ _ _ us hl=>qF (P:=fun us=>bindArgs _ ⟨us,[]⟩=pure (List.zip _ us)) hl fun _=>rfl
 have F6:=kB (st:=kT) l6 c6 k6
 have b6:=F6.binds (ps:=["box"]) fun _ _ _ _ _ _ us hl=>qF (P:=fun us=>bindArgs _ ⟨us,[]⟩=pure (List.zip _ us)) hl fun _=>rfl
 have F7:=kB (st:=sFull) l7 c7 k7
 have b7:=F7.binds (ps:=["choices"]) fun _ _ _ _ _ _ us hl=>qF (P:=fun us=>bindArgs _ ⟨us,[]⟩=pure (List.zip _ us)) hl fun _=>rfl
 have F8:=kB (st:=sAt) l8 c8 k8
 have b8:=F8.binds (ps:=["choices","mask"]) fun _ _ _ _ _ _ us hl=>qI (P:=fun us=>bindArgs _ ⟨us,[]⟩=pure (List.zip _ us)) hl fun _ _=>rfl
 have F9:=kB (st:=sMet) l9 c9 k9
 have b9:=F9.binds (ps:=["choices"]) fun _ _ _ _ _ _ us hl=>qF (P:=fun us=>bindArgs _ ⟨us,[]⟩=pure (List.zip _ us)) hl fun _=>rfl
 have F10:=kB (st:=q0) l10 c10 k10
 have b10:=F10.binds (ps:=["choices","at_end","join"]) fun _ _ _ _ _ _ us hl=>lenU3 (P:=fun us=>bindArgs _ ⟨us,[]⟩=pure (List.zip _ us)) hl fun _ _ _=>rfl
 have F11:=kB (st:=yT) l11 c11 k11
 have b11:=F11.binds (ps:=["choices"]) fun _ _ _ _ _ _ us hl=>qF (P:=fun us=>bindArgs _ ⟨us,[]⟩=pure (List.zip _ us)) hl fun _=>rfl
 have F12:=kB (st:=sMany) l12 c12 k12
 have b12:=F12.binds (ps:=["box"]) fun _ _ _ _ _ _ us hl=>qF (P:=fun us=>bindArgs _ ⟨us,[]⟩=pure (List.zip _ us)) hl fun _=>rfl
 have F13:=kB (st:=jB5) l13 c13 k13
 have b13:=F13.binds (ps:=["thing","things"]) fun _ _ _ _ _ _ us hl=>qI (P:=fun us=>bindArgs _ ⟨us,[]⟩=pure (List.zip _ us)) hl fun _ _=>rfl
 have F14:=kB (st:=sRNum) l14 c14 k14
 have b14:=F14.binds (ps:=["choices","mask","ahead"]) fun _ _ _ _ _ _ us hl=>lenU3 (P:=fun us=>bindArgs _ ⟨us,[]⟩=pure (List.zip _ us)) hl fun _ _ _=>rfl
 have F15:=kB (st:=kS) l15 c15 k15
 have b15:=F15.binds (ps:=["box","paper"]) fun _ _ _ _ _ _ us hl=>qI (P:=fun us=>bindArgs _ ⟨us,[]⟩=pure (List.zip _ us)) hl fun _ _=>rfl
 have F16:=kB (st:=qH) l16 c16 k16
 have b16:=F16.binds (ps:=["box"]) fun _ _ _ _ _ _ us hl=>qF (P:=fun us=>bindArgs _ ⟨us,[]⟩=pure (List.zip _ us)) hl fun _=>rfl
 have F17:=kB (st:=sCell) l17 c17 k17
 have b17:=F17.binds (ps:=["script","k"]) fun _ _ _ _ _ _ us hl=>qI (P:=fun us=>bindArgs _ ⟨us,[]⟩=pure (List.zip _ us)) hl fun _ _=>rfl
 have F18:=kB (st:=sPot) l18 c18 k18
 have b18:=F18.binds (ps:=["cell"]) fun _ _ _ _ _ _ us hl=>qF (P:=fun us=>bindArgs _ ⟨us,[]⟩=pure (List.zip _ us)) hl fun _=>rfl
 have F19:=kB (st:=sTake) l19 c19 k19
 have b19:=F19.binds (ps:=["pot","wide"]) fun _ _ _ _ _ _ us hl=>qI (P:=fun us=>bindArgs _ ⟨us,[]⟩=pure (List.zip _ us)) hl fun _ _=>rfl
 have F20:=kB (st:=sLot) l20 c20 k20
 have b20:=F20.binds (ps:=["pot","wide"]) fun _ _ _ _ _ _ us hl=>qI (P:=fun us=>bindArgs _ ⟨us,[]⟩=pure (List.zip _ us)) hl fun _ _=>rfl
 have F21:=kB (st:=sBox) l21 c21 k21
 have b21:=F21.binds (ps:=["pot","most_things","most_pieces"]) fun _ _ _ _ _ _ us hl=>lenU3 (P:=fun us=>bindArgs _ ⟨us,[]⟩=pure (List.zip _ us)) hl fun _ _ _=>rfl
 have F22:=kB (st:=jBL) l22 c22 k22
 have b22:=F22.binds (ps:=["found"]) fun _ _ _ _ _ _ us hl=>qF (P:=fun us=>bindArgs _ ⟨us,[]⟩=pure (List.zip _ us)) hl fun _=>rfl
 have F23:=kB (st:=qD) l23 c23 k23
 have b23:=F23.binds (ps:=["found","due"]) fun _ _ _ _ _ _ us hl=>qI (P:=fun us=>bindArgs _ ⟨us,[]⟩=pure (List.zip _ us)) hl fun _ _=>rfl
 have F24:=kB (st:=y0) l24 c24 k24
 have b24:=F24.binds (ps:=["box","lot"]) fun _ _ _ _ _ _ us hl=>qI (P:=fun us=>bindArgs _ ⟨us,[]⟩=pure (List.zip _ us)) hl fun _ _=>rfl
 have F25:=kB (st:=sUpto) l25 c25 k25
 have b25:=F25.binds (ps:=["thing","least","most"]) fun _ _ _ _ _ _ us hl=>lenU3 (P:=fun us=>bindArgs _ ⟨us,[]⟩=pure (List.zip _ us)) hl fun _ _ _=>rfl
 have F26:=kB (st:=qE) l26 c26 k26
 have b26:=F26.binds (ps:=["thing","wide"]) fun _ _ _ _ _ _ us hl=>qI (P:=fun us=>bindArgs _ ⟨us,[]⟩=pure (List.zip _ us)) hl fun _ _=>rfl
 have F27:=kB (st:=qA) l27 c27 k27
 have b27:=F27.binds (ps:=["box","paper"]) fun _ _ _ _ _ _ us hl=>qI (P:=fun us=>bindArgs _ ⟨us,[]⟩=pure (List.zip _ us)) hl fun _ _=>rfl
 have F28:=kB (st:=sLaw) l28 c28 k28
 refine⟨PySem.W.fnOf "law" "law" (jG sLaw) (jB sLaw) (j7 sLaw) .none kV28 dc28 pm28 an28 cd28 ct28,fun s v=> .of_eq rfl,fun base KB _=>?_⟩
 have M:=fun {x:Str}{f:Addr}(a:PySem.W.nsIn K mainGlobals x=some (some (.ref f)))=>eY X G a
 have M':=fun {x:Str}{v:Value}(a:PySem.W.nsIn K mainGlobals x=some (some v))=>eY X G a
 have CD1:PySem.W.CodeHd base cc1 tb1:=hV KB hcd1
 have FC1:FunC K "ways_of" "ways_of" yT f11 _ cc1:=⟨_,_,_,_,_,_,_,_,rfl,cde1 ▸ l11,cde1 ▸ c11⟩
 have BM:BltAt base mg:=⟨bmA,_,eY X G xb1,xb3,xb4,KB _ _ xb2,rfl,rfl,rfl⟩
 have C1:Can l.prog w K mg base "is_whole" 1 f1 _ ["thing"] spWh:=⟨jK2 F1 T,M a1,k1,b1⟩
 have C2:Can l.prog w K mg base "is_rising" 2 f2 _ ["thing"] (spB risB):=⟨jK3 F2 T C1,M a2,k2,b2⟩
 have C3:Can l.prog w K mg base "is_lot" 3 f3 _ ["thing","many"] (spB2 lotB):=⟨jMA F3 T C2,M a3,k3,b3⟩
 have C4:Can l.prog w K mg base "mask_of" 1 f4 _ ["lot"] jCF:=⟨jP4 F4 T,M a4,k4,b4⟩
 have C5:Can l.prog w K mg base "lot_of" 1 f5 _ ["mask"] jEI:=⟨jM8 F5 T,M a5,k5,b5⟩
 have C6:Can l.prog w K mg base "choices_of" 2 f6 _ ["box"] jA4:=⟨jIN F6 T C4,M a6,k6,b6⟩
 have C7:Can l.prog w K mg base "full_mask" 1 f7 _ ["choices"] jCG:=⟨jP8 F7 T,M a7,k7,b7⟩
 have C8:Can l.prog w K mg base "choices_at" 1 f8 _ ["choices","mask"] spAt:=⟨ok_at F8 T,M a8,k8,b8⟩
 have C9:Can l.prog w K mg base "masks_met" 2 f9 _ ["choices"] spMet:=⟨jR5 F9 T C7 C8,M a9,k9,b9⟩
 have C10:Can l.prog w K mg base "gathered" 4 f10 _ ["choices","at_end","join"] jGJ:=⟨FnOk.ex fun x o=>(jP7 F10 T C7 C9 C8 ((jR8 o T).mono (by decide)) ZT.st (zhW.ok _ _) (RWay.ok _) o).ok,M a10,k10,b10⟩
 have C11:Can l.prog w K mg base "ways_of" 5 f11 _ ["choices"] (jDY tb1):=⟨jP0 FC1 T CD1 BM C10,M a11,k11,b11⟩
 have C12:Can l.prog w K mg base "many" 6 f12 _ ["box"] (jJG tb1):=⟨jP5 F12 T C6 C11,M a12,k12,b12⟩
 have C13:Can l.prog w K mg base "is_row" 4 f13 _ ["thing","things"] jEJ:=⟨jM9 F13 T C3 C1,M a13,k13,b13⟩
 have C14:Can l.prog w K mg base "right_number" 2 f14 _ ["choices","mask","ahead"] jFF:=⟨jP3 F14 T C7 C8,M a14,k14,b14⟩
 have C15:Can l.prog w K mg base "counted" 5 f15 _ ["box","paper"] jD6:=⟨jIM F15 T C13 C6 C4 C14,M a15,k15,b15⟩
 have C16:Can l.prog w K mg base "count_paper" 6 f16 _ ["box"] (jJI tb1):=⟨jP9 F16 T C5 C6 C11,M a16,k16,b16⟩
 have C17:Can l.prog w K mg base "_law_cell_at" 1 f17 _ ["script","k"] (jJH K):=⟨jPA F17 T,M a17,k17,b17⟩
 have C18:Can l.prog w K mg base "_law_pot" 1 f18 _ ["cell"] spPot:=⟨jR4 F18 T,M a18,k18,b18⟩
 have C19:Can l.prog w K mg base "_law_take" 1 f19 _ ["pot","wide"] yI:=⟨jP2 F19,M a19,k19,b19⟩
 have C20:Can l.prog w K mg base "_law_lot" 2 f20 _ ["pot","wide"] qC:=⟨jR6 F20 T C19,M a20,k20,b20⟩
 have C21:Can l.prog w K mg base "_law_box" 3 f21 _ ["pot","most_things","most_pieces"] spBox:=⟨jR9 F21 T C19 C20,M a21,k21,b21⟩
 have C22:Can l.prog w K mg base "_law_whole" 1 f22 _ ["found"] jAM:=⟨jM7 F22 T,M a22,k22,b22⟩
 have C23:Can l.prog w K mg base "_law_same" 6 f23 _ ["found","due"] (jD5 4):=⟨jHO F23 T C22 (M a23) k23 b23 4,M a23,k23,b23⟩
 have C24:Can l.prog w K mg base "_law_cases" 1 f24 _ ["box","lot"] jEK:=⟨jMB F24 T,M a24,k24,b24⟩
 have C25:Can l.prog w K mg base "_law_upto" 2 f25 _ ["thing","least","most"] spUpI:=⟨jP1 F25 T C22,M a25,k25,b25⟩
 have C26:Can l.prog w K mg base "_law_lot_right" 3 f26 _ ["thing","wide"] jHD:=⟨jP6 F26 T C25,M a26,k26,b26⟩
 have C27:Can l.prog w K mg base "_law_counted_due" 4 f27 _ ["box","paper"] jJJ:=⟨jPB F27 T C26 C22 C24,M a27,k27,b27⟩
 exact jR7 F28 ⟨T,C17,C18,C19,C21,C12,C16,C27,C23,C15⟩
theorem walk {l:PySem.W.OpenLaw}{q:Program}{loose:List Str}{XP:(Str->Option Value)->Heap->Prop}{YP:World->Heap->Prop}{d:DefRec}{K:Params->W.Frag}(hn:l.most=some 63)(hdf:d.params.defaults=[]){tb1:Addr}{cc1:Addr}
  (hY:∀ (w:World) (h:Heap),YP w h->(K w.params).In h/\∀ T∈[tb1],h.get? T=some (tabObj #[])) (hcd:∀ w:World,codeHdIn (K w.params) cc1 tb1=true) (hKT:∀ w:World,∀ T∈[tb1],(K w.params).lookup T=none) (hnd:([tb1]:List Addr).Nodup)
  (F:∀ (w:World) (mg:Str->Option Value) (fa:Addr) (h:Heap),(K w.params).In h->h.Ns mainGlobals mg->mg d.name=some (.ref fa)->
   ∃ fd:FuncData,(∀ (s:Shared) (u:Value),BindsTo s fd ⟨[u],[]⟩ [("script",u)])/\∀ base:Heap,(K w.params).In base->base.Ns mainGlobals mg->FnOk l.prog w (K w.params) mg base CX0 7 fa fd ["script"] (spLaw (K w.params) tb1)):
  PySem.W.WalkO q loose XP YP l.row.toRowW d [] (fun f vs=>PySem.call f vs):=
 L2.walk_ofTs (cts:=[(cc1,tb1)]) (n:=63) (k:=7) (x:= "script") (CX:=fun _=>CX0) (sp:=fun w=>spLaw (K w.params) tb1) hn (by decide) hdf ⟨rfl,by decide,by decide⟩ hY (fun w p hp=>by
  obtain _h0:=hcd w
  simp only [aF,bq,cS] at hp
  rcases hp with rfl <;> assumption) hKT F (fun _ H a ns hl hT hS=>⟨a,ns,rfl,hS,hl, .inl (hT _ aJ),fun _=>rfl⟩) fun _ _ _ _ _ z=>z
end Eo
open PySem PySem.W PyProof.Rows
set_option maxRecDepth 100000 in
set_option maxHeartbeats 0 in
theorem PySem.Challenge.cw_eachonce_k25_count_papers_told_holds : PySem.Challenge.rw_eachonce_k25_count_papers_told.Holds := by
 w_on
 refine holds_law (by decide+kernel) fun said=>?_
 refine holds_open (q:=Eo.vw) (loose:=[]) (Xt:=fun s=>xlAt Eo.vw [] s&&recOk (RowW.records (OpenRow.toRowW PySem.Challenge.rw_eachonce_k25_count_papers_told.row)) s) (XP:=XL Eo.vw []) (Yf:=Hook.obs Eo.kH) (Ya:=Hook.val Eo.kH) (YP:=Hook.says Eo.kH) (N:=6900) Eo.left (Hook.of Eo.kH) (Hook.keeps Eo.kH) (fun s e=>xl_of s (fg.mp e).1) XL.keeps (by rfl) (by rfl) (by rfl) (fun s e=>recFacts_of (fg.mp e).2) rfl said (by decide+kernel) ⟨rfl,rfl,rfl,rfl,rfl,by decide+kernel⟩ ?hw ?hc
 case hw=>w_witness2
 refine Eo.walk (l:=PySem.Challenge.rw_eachonce_k25_count_papers_told) (K:=Eo.kK) rfl rfl (tb1:=74) (cc1:=78) (fun w h Y=>⟨PySem.W.km_in_of Y,PySem.W.km_tabs_of Y⟩) (fun w=>by kernel_rfl) (fun w T hm=>by
   simp only [aF,bq,cS] at hm
   rcases hm with rfl <;> kernel_rfl) (by decide) ?F
 case F=>
  intro w mg fa h KX G hmg
  k_fill
  refine' Eo.all_mk KX G hmg _ _ _ _ _ _ _ _ _ _ _ _ _ _ _ _ _ _ _ _ _ _ _ _ _ _ _ _ _ _ _ _ _ _ _ _ _ _ _ _ _ _ _ _ _ _ _ _ _ _ _ _ _ _ _ _ _ _ _ _ _ _ _ _ _ _ _ _ _ _ _ _ _ _ _ _ _ _ _ _ _ _ _ _ _ _ _ _ _ _ _ _ _ _ _ _ _ _ _ _ _ _ _ _ _ _ _ _ _ _ _ _ _ _ _ _ _ _ _ _ _ _ _ _ _ _ _ _ _ _ _ (tb1:=74) rfl (by kernel_rfl) (bmA:=4) (by kernel_rfl) (by kernel_rfl) (by decide) (by decide)
  all_goals try k_is
end
