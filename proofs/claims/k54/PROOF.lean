import PyProof.Rows.All
import KE.KDictList
import KE.KDictOf
import KE.KFromBytes
import KE.KIsAll
import KE.KLam
import KE.KNestM
import KE.KRevIter
import KE.KSortTup
import PySem.Challenge.RW_eachonce_k54_whole_coverings_are_wholes
noncomputable section
set_option Elab.async false
set_option linter.all false
set_option maxRecDepth 100000
def aa:=@PySem.wpAny_bind
def ab:=@List.length_map
def ae:=@PySem.Heap.get?_push_of_some
def af:=@List.getD_eq_getElem?_getD
def ag:=@List.getElem?_eq_getElem
def ah:=@PySem.wpAny_pure
def ai:=@Nat.le_refl
def aj:=@if_neg
def ak:=@if_pos
def am:=@List.getElem?_eq_some_iff
def ao:=@Bool.false_ne_true
def aq:=@List.mem_append_right
def ar:=@List.mem_cons_self
def aw:=@decide_eq_true
def ax:=@List.mem_append_left
def ay:=@List.mem_append
def az:=@List.mem_cons_of_mem
def aC:=@List.mem_of_getElem?
def aE:=@PySem.Heap.lt_size
def aF:=@PySem.sizeLine_eq
def aG:=@List.length_append
def aH:=@decide_eq_false
def aJ:=@PySem.Heap.get?_push_size
def aK:=@List.size_toArray
def aL:=@PyProof.Rows.wpS_bind
def aM:=@List.mem_cons
def aN:=@PyProof.Rows.wpS_pure
def aO:=@List.mem_singleton
def aP:=@of_decide_eq_true
def aQ:=@List.map_append
def aR:=@Array.length_toList
def aS:=@Nat.lt_of_lt_of_le
def aU:=@List.append_assoc
def aV:=@Nat.ne_of_lt
def aW:=@List.length_cons
def aX:=@Nat.le_trans
def aY:=@List.getElem?_map
def aZ:=@List.mem_map
def ba:=@Nat.zero_le
def bb:=@PySem.W.mg_none_of
def be:=@List.take_add_one
def bf:=@List.mem_filter
def bg:=@List.append_nil
def bh:=@List.getElem?_append_right
def bi:=@List.map_cons
def bo:=@List.take_append_drop
def bq:=@List.length_take
def br:=@Option.some.inj
def bu:=@Array.toList_append
def bv:=@List.length_range
def bw:=@PySem.Heap.get?_update_other
def bx:=@PySem.PassesOwn.never
def bA:=@congrArg
def bB:=@Int.toNat_natCast
def bC:=@List.take_of_length_le
def bD:=@Bool.and_eq_true
def bE:=@List.lookup_cons
def bF:=@List.not_mem_nil
def bG:=@Nat.mul_le_mul_left
def bH:=@PySem.wpAny_setField_rec
def bI:=@List.getElem?_of_mem
def bJ:=@Nat.lt_succ_of_lt
def bK:=@Array.getElem?_toList
def bL:=@List.length_filter_le
def bM:=@List.mem_range
def bN:=@List.map_map
def bO:=@List.pairwise_append
def bP:=@List.take_length
def bQ:=@List.getElem?_append_left
def bS:=@List.getElem_mem
def bU:=@PyProof.Rows.wpS_forRange
def bV:=@Nat.pow_le_pow_right
def bW:=@decide_eq_true_iff
def bX:=@PySem.wpAny_mono
def bY:=@List.all_eq_true
def bZ:=@PySem.wpAny_callSpecial?_slot
def b0:=@Nat.add_sub_cancel_left
def b8:=@List.filter_cons
def b9:=@PySem.F.plainAttrs_list
def ce:=@PySem.wpAny_field
def cf:=@List.filter_append
def cg:=@Nat.mul_le_mul
def ci:=@List.getElem?_take_of_lt
def cj:=@PySem.wpAny_call_entry
def ck:=@PySem.AutoSeq1.wpAny_loadPart'
def cm:=@List.replicate_succ
def cn:=@List.getElem?_eq_none
def cq:=@PySem.Heap.size_push
def cr:=@List.mem_of_mem_drop
def cx:=@Array.perm_iff_toList_perm
def cy:=@PySem.W.kia_one
def cz:=@Int.le_of_lt
def cB:=@List.pairwise_iff_getElem
def cC:=@Classical.byContradiction
def cD:=@PySem.mem_of_lookup
def cE:=@List.getElem_of_mem
def cG:=@List.map_congr_left
def cH:=@List.mem_map_of_mem
def cI:=@PySem.wpAny_holding
def cJ:=@Nat.testBit_or
def cK:=@Nat.ne_of_gt
def cL:=@List.nodup_cons
def cM:=@PySem.Around.under_plainId
def cO:=@List.mem_of_mem_take
def cP:=@PyProof.Rows.callWith_type1
def cQ:=@Nat.testBit_two_pow_sub_one
def cR:=@PySem.wpAny_newObj_type
def cS:=@PySem.wpAny_rule
def cU:=@Nat.mod_two_eq_zero_or_one
def cV:=@List.getElem?_range
def cW:=@PySem.wpAny_loadPart'
def cX:=@List.length_replicate
def cY:=@List.Perm.append_left
def cZ:=@List.countP_cons
def da:=@Nat.lt_irrefl
def db:=@PySem.F.slot_list_append
def de:=@PySem.F.type_list_append
def df:=@PyProof.Rows.wpS_mono
def dh:=@Array.toList_reverse
def di:=@Int.natAbs_mul
def dj:=@PySem.wpAny_setState_of
def dq:=@decide_eq_false_iff_not
def dv:=@List.pairwise_map
def dw:=@List.of_mem_zip
def dy:=@PySem.codeAny_builtin
def dB:=@beq_eq_false_iff_ne
def dE:=@or_false
def dF:=@Nat.le_of_lt
def dG:=@Int.le_trans
def dH:=@PySem.wpAny_attempt
def dI:=@List.length_drop
def dJ:=@Nat.lt_succ_self
def dL:=@Nat.le_add_right
def dM:=@PySem.wpAny_Call_Name_kw
def dO:=@List.pairwise_cons
def dP:=@PySem.wpAny_seqItems
def dQ:=@PySem.Heap.get?_update_self
def dR:=@List.perm_append_comm
def dS:=@List.getElem?_zipWith
def dU:=@List.extract_eq_take_drop
def dW:=@PySem.wpAny_passesOwn
def dX:=@Bool.eq_iff_iff
def dY:=@List.length_nil
def dZ:=@Ne.symm
def d0:=@List.take_sublist
def ed:=@List.flatten_cons
def eg:=@Array.toList_push
def eh:=@Array.toArray_toList
def ev:=@Int.le_refl
def eE:=@Nat.testBit_two_pow
def eF:=@List.length_take_le
def eG:=@List.length_zipWith
def eJ:=@List.getElem?_replicate
def eL:=@PySem.F.plain_list_iadd
def eQ:=@PySem.codeAny_mono
def eR:=@PySem.call_meets
def eS:=@of_decide_eq_false
def eU:=@PyProof.Rows.wpS_modify
def eV:=@List.sum_append
def eW:=@List.find?_cons
def eX:=@Nat.two_pow_pos
def eY:=@PyProof.Rows.listUpdate_at
def eZ:=@List.sum_cons
def fb:=@Bool.true_and
def fc:=@PySem.wpAny_truthy_bool
def fe:=@PySem.wpAny_pyIter_list
def ff:=@Bool.false_and
def fg:=@Bool.and_false
def fh:=@Array.toList_extract
def fi:=@Nat.pow_add
def fj:=@PySem.wpAny_askSetting
def fm:=@Nat.testBit_zero
def fo:=@Nat.zero_testBit
def fq:=@List.drop_eq_getElem_cons
def ft:=@List.reverse_append
def fu:=@Int.fdiv_mul_cancel
def fw:=@PySem.F.args_tuple_add_2
def fE:=@PySem.W.mg_of
def fJ:=@Nat.not_lt_zero
def fO:=@Bool.or_eq_true
def fQ:=@List.range_succ
def fS:=@Int.natCast_nonneg
def fU:=@List.zip_cons_cons
def fX:=@List.getElem?_drop
def fY:=@PySem.sizeLine_eq
def fZ:=@PySem.F.entry_tuple_add
def ga:=@Int.dvd_of_emod_eq_zero
def gb:=@Int.emod_eq_zero_of_dvd
def gc:=@PySem.W.cellsFrom_some
def gd:=@PySem.F.slot_tuple_add
def gf:=@Nat.mul_comm
def gh:=@Bool.not_eq_true'
def gj:=@List.Perm.append_right
def gm:=@List.getElem?_set
def gn:=@List.length_singleton
def gq:=@PySem.builtinLookup_eq_fast
def gt:=@PySem.wpAny_isInstance
def gu:=@PySem.Paired.length
def gw:=@List.any_cons
def gx:=@PySem.plainId_quiet
def gy:=@PySem.wpAny_newList
def gz:=@PyProof.Rows.wpS_get
def gA:=@PySem.wpAny_updateSeq_pair
def gB:=@Nat.pow_lt_pow_right
def gC:=@List.eq_nil_of_length_eq_zero
def gE:=@Bool.and_eq_true_iff
def gF:=@Nat.eq_of_testBit_eq
def gG:=@Bool.or_eq_false_iff
def gH:=@Int.one_mul
def gI:=@PySem.wpAny_execs_nil
def gJ:=@List.length_set
def gL:=@List.nil_append
def gM:=@List.forIn_cons
def gN:=@PySem.wpAny_ite_false
def gO:=@PyProof.Rows.get?_update_seq
def gP:=@Nat.testBit_and
def gQ:=@List.length_zip
def gR:=@List.filter_nil
def gS:=@List.filterMap_cons
def gU:=@PySem.Heap.SameBut.update
def gW:=@PySem.W.codeHd_of_K
def gX:=@Nat.lt_trans
def gY:=@PySem.F.plain_proto_collect
def gZ:=@Nat.sub_self
def g4:=@PySem.Calls.Name_function_global
def g5:=@PySem.wpAny_load
def g6:=@Int.fdiv_eq_ediv_of_nonneg
def g7:=@PySem.wpAny_newFunctionEnv_cells
def g8:=@Nat.lt_of_le_of_lt
def g9:=@PySem.wpAny_newTuple
def hG:=@PySem.tupleKind_room_in1
def hV:=@List.drop_drop
def h8:=@PyProof.Rows.wpS_lift
def h9:=@Array.toList_setIfInBounds
def ic:=@Bool.false_eq_true
def ie:=@Int.emod_lt_of_pos
def ig:=@List.perm_ext_iff_of_nodup
def ij:=@Int.ofNat_dvd_left
def ik:=@PySem.wpAny_binaryOp_repeat_ref
def im:=@List.getElem?_zip_eq_some
def io:=@if_true
def iq:=@List.drop_sublist
def ir:=@Option.some.injEq
def iu:=@Nat.le_succ
def iw:=@PySem.wpAny_letGo
def ix:=@decide_eq_true_eq
def iy:=@List.nodup_append
def iA:=@PyProof.Rows.seqEpoch_at
def iB:=@bne_self_eq_false
def iC:=@List.map_id
def iE:=@Nat.mul_left_comm
def iF:=@PySem.wpAny_standAt
def iG:=@List.all_cons
def iH:=@PySem.wpAny_onRaise
def iI:=@Int.dvd_mul_of_dvd_right
def iJ:=@Nat.mul_assoc
def iK:=@PySem.noFill_tuple_add
def iM:=@List.nodup_range
def iN:=@List.zipIdx_cons
def iP:=@PySem.F.slot_tuple_rmul
def iQ:=@PySem.AutoSeq1.idx_int
def iR:=@List.pairwise_singleton
def iS:=@List.getElem?_set_self
def iT:=@PySem.typeIs_int
def iU:=@Nat.add_comm
def iV:=@PyProof.Rows.size_push'
def iW:=@PySem.F.slot_tuple_mul
def iX:=@List.drop_eq_nil_of_le
def iY:=@Nat.pow_succ
def iZ:=@Nat.testBit_lt_two_pow
def i4:=@List.pairwise_lt_range
def i5:=@Int.zero_add
def i6:=@Int.fmod_nonneg_of_pos
def i7:=@Int.dvd_zero
def i8:=@PySem.typeLookup_type
def i9:=@List.Perm.of_eq
def ja:=@Array.Perm.refl
def jc:=@Int.emod_nonneg
def jd:=@and_congr_right
def jf:=@PySem.F.slot_set_iter
def jg:=@List.set_append_right
def jh:=@Int.mul_fdiv_add_fmod
def ji:=@Sum.inl.inj
def jk:=@List.getElem?_set_ne
def jl:=@Int.mul_one
def jm:=@PySem.wpAny_runValue
def jn:=@List.nodup_nil
def jo:=@PySem.isSubtype_type
def jp:=@PySem.isSubtype_stop
def jq:=@List.forIn_nil
def jr:=@List.drop_zero
def jt:=@List.reverse_reverse
def ju:=@List.take_zero
def jw:=@Array.getElem_toList
def jx:=@Nat.mul_le_mul_right
def jy:=@Int.natAbs_dvd
def jz:=@Bool.not_true
def ka:=@Bool.false_or
def ke:=@List.map_take
def kf:=@Array.append_assoc
def kg:=@List.mem_filterMap
def kh:=@PySem.wpAny_call
def ki:=@PySem.W.codeRec_of
def kj:=@beq_iff_eq
def km:=@Nat.one_le_two_pow
def kn:=@Int.fmod_lt_of_pos
def ko:=@Int.sub_add_cancel
def kq:=@if_false
def ku:=@Nat.succ_mul
def kx:=@List.map_nil
def kz:=@Nat.add_zero
def lg:=@Nat.sub_zero
def lh:=@getElem?_pos
def lj:=@Bool.or_true
def ln:=@Nat.lt_or_ge
def lu:=@exists_congr
def lv:=@Int.zero_dvd
def lw:=@not_or
def lA:=@Int.dvd_add
open PySem.W (codeHdIn envX findIn instObj keepIn kitOne kitx_dict kitx_list kla_obj lookIn methodObj mg_of mroIn plainGet tabObj)
open List (map_set replicate zipWith)
open Nat (strongRecOn)
open Array (size_map)
open Option (getD_none isSome_map)
namespace L2
open PySem PySem.Spec PyProof.Rows
def yC (s:Stmt):Arguments:=match s with
 | .FunctionDef _ a _ _ _ _ _ _ _ _=>a
 | _=> { posonlyargs:=[],args:=[],vararg:=none,kwonlyargs:=[],kw_defaults:=[],kwarg:=none,defaults:=[]}
def jC (s:Stmt):List Stmt:=match s with
 | .FunctionDef _ _ b _ _ _ _ _ _ _=>b
 | _=> []
def j8 (s:Stmt):Scope:=match s with
 | .FunctionDef _ _ _ _ _ _ sc _ _ _=>sc
 | _=> { kind:= .function,names:=[],isGenerator:=false,isCoroutine:=false}
end L2
namespace Eo
open PySem L2
noncomputable def top (i:Nat):Stmt:=PySem.Challenge.pw_eachonce_k54_whole_coverings_are_wholes.main.body.getD i (.Pass ⟨0,0,0,0⟩)
abbrev jBE:Stmt:=top 1
abbrev sMask:Stmt:=top 2
abbrev sGcd:Stmt:=top 3
abbrev jCT:Stmt:=top 5
abbrev sAre:Stmt:=top 7
abbrev jAD:Stmt:=top 8
abbrev jCS:Stmt:=top 9
abbrev sNear:Stmt:=top 10
abbrev sGoes:Stmt:=top 11
abbrev sLed:Stmt:=top 12
abbrev qF:Stmt:=top 13
abbrev sLnd:Stmt:=top 14
abbrev jBO:Stmt:=top 15
abbrev yD:Stmt:=top 16
abbrev y8:Stmt:=top 21
abbrev sFull:Stmt:=top 22
abbrev sAt:Stmt:=top 23
abbrev sMet:Stmt:=top 24
abbrev qG:Stmt:=top 25
abbrev qE:Stmt:=top 26
abbrev sMany:Stmt:=top 27
abbrev jBP:Stmt:=top 28
abbrev jCU:Stmt:=top 29
abbrev sCell:Stmt:=top 31
abbrev sPot:Stmt:=top 32
abbrev sTake:Stmt:=top 33
abbrev sLot:Stmt:=top 34
abbrev sBox:Stmt:=top 35
abbrev sLaw:Stmt:=top 36
noncomputable def kC (x:Str)(t:Nat)(l n:Int)(a:Nat)(X Y:Value)(z:Nat)(u:Int)(v:Nat):Obj:=⟨.type "code",none, .fields #[.str x t, .str x (t+1), .str "/claim/cut.py" (t+2), .int l 0, .int n 0, .int 0 0, .int 0 0, .int 3 0, .ref a, .bool true, .int 181 0, .ref (a+1), .none,X,Y, .ref z, .int u 0, .int l 0, .str "/claim/cut.py" v],#[]⟩
noncomputable def kF (x:Str)(s:Stmt)(m:Str)(t c:Nat):Obj:=⟨.type "function",none, .func (PySem.W.fnOf x x (yC s) (jC s) (j8 s) .none .none .none (.str m t) none (.ref c) .none),#[]⟩
noncomputable def kM (P:Params):Obj:=
 let e (x:Str) (t:Nat) (v:Value):DictEntry:=⟨PyData.keyHash P x, .str x t,v⟩
 ⟨.type "dict",none, .dict #[e "__name__" 165 (.str "law_eachonce_k54_whole_coverings_are_wholes" 403),e "__doc__" 166 (.none),e "__package__" 167 (.none),e "__loader__" 168 (.builtin "__main__.__loader__#opaque"),e "__spec__" 169 (.none),e "__annotations__" 170 (.ref 6),e "__builtins__" 171 (.ref 4),e "__file__" 173 (.str "/claim/cut.py" 172),e "__cached__" 174 (.none),e "is_whole" 195 (.ref 21),e "mask_of" 201 (.ref 26),e "common_divisor" 210 (.ref 33),e "musts_of" 218 (.ref 38),e "are_wholes" 226 (.ref 43),e "first_columns" 232 (.ref 48),e "taken_off" 238 (.ref 53),e "nearest_times" 246 (.ref 60),e "goes_in" 254 (.ref 67),e "led_by_one" 260 (.ref 72),e "numbers_of_row" 266 (.ref 77),e "least_not_dividing" 274 (.ref 84),e "hues_of_row" 290 (.ref 91),e "wholes" 296 (.ref 96),e "OnceError" 316 (.ref 106),e "NoCovering" 332 (.ref 119),e "choices_of" 340 (.ref 126),e "full_mask" 347 (.ref 133),e "choices_at" 353 (.ref 138),e "masks_met" 366 (.ref 145),e "gathered" 372 (.ref 150),e "ways_of" 379 (.ref 157),e "many" 386 (.ref 164),e "covering_along" 392 (.ref 169),e "covering_at" 402 (.ref 176),e "_law_cell_at" 412 (.ref 183),e "_law_pot" 422 (.ref 190),e "_law_take" 431 (.ref 197),e "_law_lot" 437 (.ref 202),e "_law_box" 443 (.ref 207),e "law" 449 (.ref 212)] 40,#[]⟩
def kS (P:Params):Array DictEntry:=#[⟨PyData.keyHash P "builtins", .str "builtins" 162,(.ref 4)⟩,⟨PyData.keyHash P "__main__", .str "__main__" 163,(.ref 5)⟩]
noncomputable def kK (P:Params):W.Frag:=(nat_lit 1,⟨.type "dict",none, .dict (kS P) 2,#[]⟩)::(nat_lit 2, { cls:= .none,data:= .dict #[]})::(nat_lit 3,kM P)::(nat_lit 4,⟨.type "module",some 0, .plain,#[]⟩)::(nat_lit 20,kC "is_whole" 189 2 1 15 (.ref 17) (.ref 18) 19 193 194)::(nat_lit 21,kF "is_whole" jBE "eachonce.kinds" 187 20)::(nat_lit 25,kC "mask_of" 196 4 1 22 (.none) (.none) 24 199 200)::(nat_lit 26,kF "mask_of" sMask "eachonce.kinds" 187 25)::(nat_lit 32,kC "common_divisor" 202 6 2 27 (.ref 29) (.ref 30) 31 208 209)::(nat_lit 33,kF "common_divisor" sGcd "eachonce.kinds" 187 32)::(nat_lit 37,kC "musts_of" 213 13 1 34 (.none) (.none) 36 216 217)::(nat_lit 38,kF "musts_of" jCT "eachonce.boxes" 211 37)::(nat_lit 42,kC "are_wholes" 221 17 2 39 (.none) (.none) 41 224 225)::(nat_lit 43,kF "are_wholes" sAre "eachonce.wholes" 219 42)::(nat_lit 47,kC "first_columns" 227 24 2 44 (.none) (.none) 46 230 231)::(nat_lit 48,kF "first_columns" jAD "eachonce.wholes" 219 47)::(nat_lit 52,kC "taken_off" 233 30 3 49 (.none) (.none) 51 236 237)::(nat_lit 53,kF "taken_off" jCS "eachonce.wholes" 219 52)::(nat_lit 59,kC "nearest_times" 239 32 2 54 (.ref 56) (.ref 57) 58 244 245)::(nat_lit 60,kF "nearest_times" sNear "eachonce.wholes" 219 59)::(nat_lit 66,kC "goes_in" 247 34 2 61 (.ref 63) (.ref 64) 65 252 253)::(nat_lit 67,kF "goes_in" sGoes "eachonce.wholes" 219 66)::(nat_lit 71,kC "led_by_one" 255 36 2 68 (.none) (.none) 70 258 259)::(nat_lit 72,kF "led_by_one" sLed "eachonce.wholes" 219 71)::(nat_lit 76,kC "numbers_of_row" 261 46 3 73 (.none) (.none) 75 264 265)::(nat_lit 77,kF "numbers_of_row" qF "eachonce.wholes" 219 76)::(nat_lit 83,kC "least_not_dividing" 267 54 1 78 (.ref 80) (.ref 81) 82 272 273)::(nat_lit 84,kF "least_not_dividing" sLnd "eachonce.wholes" 219 83)::(nat_lit 90,kC "hues_of_row" 275 59 5 85 (.ref 87) (.ref 88) 89 288 289)::(nat_lit 91,kF "hues_of_row" jBO "eachonce.wholes" 219 90)::(nat_lit 95,kC "wholes" 291 66 1 92 (.none) (.none) 94 294 295)::(nat_lit 96,kF "wholes" yD "eachonce.wholes" 219 95)::(nat_lit 125,kC "choices_of" 335 87 1 122 (.none) (.none) 124 338 339)::(nat_lit 126,kF "choices_of" y8 "eachonce.coverings" 333 125)::(nat_lit 132,kC "full_mask" 341 92 1 127 (.ref 129) (.ref 130) 131 345 346)::(nat_lit 133,kF "full_mask" sFull "eachonce.coverings" 333 132)::(nat_lit 137,kC "choices_at" 348 94 2 134 (.none) (.none) 136 351 352)::(nat_lit 138,kF "choices_at" sAt "eachonce.coverings" 333 137)::(nat_lit 144,kC "masks_met" 354 97 1 139 (.ref 141) (.ref 142) 143 364 365)::(nat_lit 145,kF "masks_met" sMet "eachonce.coverings" 333 144)::(nat_lit 149,kC "gathered" 367 109 3 146 (.none) (.none) 148 370 371)::(nat_lit 150,kF "gathered" qG "eachonce.coverings" 333 149)::(nat_lit 156,kC "ways_of" 373 118 1 151 (.ref 153) (.ref 154) 155 377 378)::(nat_lit 157,kF "ways_of" qE "eachonce.coverings" 333 156)::(nat_lit 163,kC "many" 380 120 1 158 (.ref 160) (.ref 161) 162 384 385)::(nat_lit 164,kF "many" sMany "eachonce.coverings" 333 163)::(nat_lit 168,kC "covering_along" 387 122 3 165 (.none) (.none) 167 390 391)::(nat_lit 169,kF "covering_along" jBP "eachonce.coverings" 333 168)::(nat_lit 175,kC "covering_at" 393 133 2 170 (.ref 172) (.ref 173) 174 400 401)::(nat_lit 176,kF "covering_at" jCU "eachonce.coverings" 333 175)::(nat_lit 182,kC "_law_cell_at" 405 140 2 177 (.ref 179) (.ref 180) 181 410 411)::(nat_lit 183,kF "_law_cell_at" sCell "law_eachonce_k54_whole_coverings_are_wholes" 403 182)::(nat_lit 189,kC "_law_pot" 413 144 1 184 (.ref 186) (.ref 187) 188 420 421)::(nat_lit 190,kF "_law_pot" sPot "law_eachonce_k54_whole_coverings_are_wholes" 403 189)::(nat_lit 196,kC "_law_take" 423 153 2 191 (.ref 193) (.ref 194) 195 429 430)::(nat_lit 197,kF "_law_take" sTake "law_eachonce_k54_whole_coverings_are_wholes" 403 196)::(nat_lit 201,kC "_law_lot" 432 157 2 198 (.none) (.none) 200 435 436)::(nat_lit 202,kF "_law_lot" sLot "law_eachonce_k54_whole_coverings_are_wholes" 403 201)::(nat_lit 206,kC "_law_box" 438 166 3 203 (.none) (.none) 205 441 442)::(nat_lit 207,kF "_law_box" sBox "law_eachonce_k54_whole_coverings_are_wholes" 403 206)::(nat_lit 211,kC "law" 444 184 1 208 (.none) (.none) 210 447 448)::(nat_lit 212,kF "law" sLaw "law_eachonce_k54_whole_coverings_are_wholes" 403 211)::[]
noncomputable def kA:List Addr:=[1,2,3,4,20,21,25,26,32,33,37,38,42,43,47,48,52,53,59,60,66,67,71,72,76,77,83,84,90,91,95,96,125,126,132,133,137,138,144,145,149,150,156,157,163,164,168,169,175,176,182,183,189,190,196,197,201,202,206,207,211,212]
noncomputable def vw:Program:= { PySem.Challenge.pw_eachonce_k54_whole_coverings_are_wholes with main:= { PySem.Challenge.pw_eachonce_k54_whole_coverings_are_wholes.main with body:=[top 1,top 2,top 3,top 5,top 7,top 8,top 9,top 10,top 11,top 12,top 13,top 14,top 15,top 16,top 18,top 19,top 21,top 22,top 23,top 24,top 25,top 26,top 27,top 28,top 29,top 31,top 32,top 33,top 34,top 35,top 36]}}
theorem kA_eq:∀ P,kA=(kK P).map (·.1):=fun _=>by kernel_rfl
noncomputable abbrev kH:PySem.W.Hook:=PySem.W.kmHook kK kA kA_eq [152,69]
set_option maxHeartbeats 0 in
theorem left:PySem.W.LeftO PySem.Challenge.rw_eachonce_k54_whole_coverings_are_wholes.prog vw [] (fun s=>PySem.W.xlAt vw [] s&&PySem.W.recOk (PySem.W.RowW.records (PySem.W.OpenRow.toRowW PySem.Challenge.rw_eachonce_k54_whole_coverings_are_wholes.row)) s) (PySem.W.Hook.obs kH) (PySem.W.Hook.val kH) 2900:=fun w=>by kernel_rfl
end Eo
section
namespace L2
open PySem PySem.Spec PyProof.Rows
abbrev Key:=Sum Int Str
def keyIs:Key->Value->Bool
 | .inl k,v=>Value.isInt k v
 | .inr x,v=>Value.isStrOf x v
def keyH (w:World):Key->Int
 | .inl k=>hashInt k
 | .inr x=>hashStr w x
theorem jA0:∀ {k:Key}{v:Value},keyIs k v=true->(∃ i t,k=Sum.inl i/\v=Value.int i t)\/(∃ x t,k=Sum.inr x/\v=Value.str x t)
 | .inl i,v,h=>by
  obtain⟨t,e⟩:=Value.isInt_shape (k:=i) (v:=v) h
  exact .inl ⟨i,t,rfl,e⟩
 | .inr x,v,h=>by
  obtain⟨t,e⟩:=Value.isStrOf_shape (x:=x) (v:=v) h
  exact .inr ⟨x,t,rfl,e⟩
theorem jLX (i:Int)(t:Tok):keyIs (.inl i) (.int i t)=true:=by simp [keyIs,Value.isInt]
theorem jLW (x:Str)(t:Tok):keyIs (.inr x) (.str x t)=true:=by simp [keyIs,Value.isStrOf]
theorem jTI (a b:Int):decide ((Sum.inl a:Key)=Sum.inl b)=(a==b):=by
 by_cases e:a=b
 ·subst e; simp
 ·have h:¬ (Sum.inl a:Key)=Sum.inl b:=fun q=>e (ji q)
  rw[aH h]
  exact(dB.mpr e).symm
theorem jTF (a b:Str):decide ((Sum.inr a:Key)=Sum.inr b)=decide (a=b):=by
 by_cases e:a=b
 ·subst e; simp
 ·have h:¬ (Sum.inr a:Key)=Sum.inr b:=fun q=>e (Sum.inr.inj q)
  rw[aH h,aH e]
theorem jTH (a:Int)(b:Str):decide ((Sum.inl a:Key)=Sum.inr b)=false:=aH (fun q=>nomatch q)
theorem jTG (a:Str)(b:Int):decide ((Sum.inr a:Key)=Sum.inl b)=false:=aH (fun q=>nomatch q)
def kW (prog:Program)(w:World):PySem.KeyKind prog w Key where
 is:=keyIs
 hash:=keyH w
 inj:=fun v a b ha hb=>by
  rcases jA0 ha with ⟨i,t,rfl,rfl⟩ | ⟨x,t,rfl,rfl⟩
  ·rcases jA0 hb with ⟨j,u,rfl,e⟩ | ⟨y,u,rfl,e⟩
   ·injection e with e1 _; rw[e1]
   ·exact nomatch e
  ·rcases jA0 hb with ⟨j,u,rfl,e⟩ | ⟨y,u,rfl,e⟩
   ·exact nomatch e
   ·injection e with e1 _; rw[e1]
 byValue:=fun k v h=>by
  rcases jA0 h with ⟨i,t,rfl,rfl⟩ | ⟨x,t,rfl,rfl⟩ <;> rfl
 pyHash:=fun hv h=>by
  rcases jA0 hv with ⟨i,t,rfl,rfl⟩ | ⟨x,t,rfl,rfl⟩
  ·exact wpAny_pyHash_int h
  ·exact wpAny_pyHash_str h
 eqBool:=fun hu hv h=>by
  rcases jA0 hu with ⟨i,t,rfl,rfl⟩ | ⟨x,t,rfl,rfl⟩
  ·rcases jA0 hv with ⟨j,u,rfl,rfl⟩ | ⟨y,u,rfl,rfl⟩
   ·rw[jTI] at h; exact wpAny_eqBool_int h
   ·rw[jTH] at h; exact SeqAt.EqAt.int_str i t y u _ _ _ _ h
  ·rcases jA0 hv with ⟨j,u,rfl,rfl⟩ | ⟨y,u,rfl,rfl⟩
   ·rw[jTG] at h; exact SeqAt.EqAt.str_int x t j u _ _ _ _ h
   ·rw[jTF] at h; exact wpAny_eqBool_str h
 «strs»:=fun k x t v h=>by
  rcases jA0 h with ⟨i,u,rfl,e⟩ | ⟨y,u,rfl,e⟩
  ·exact nomatch e
  ·injection e with e1 _
   subst e1
   cases v <;> rfl
theorem jHR (prog:Program)(w:World)(i:Int)(t:Tok):(kW prog w).is (.inl i) (.int i t)=true:=jLX i t
theorem jHQ (prog:Program)(w:World)(x:Str)(t:Tok):(kW prog w).is (.inr x) (.str x t)=true:=jLW x t
inductive V where
 | non | bl (b:Bool) | int (i:Int) | str (x:Str) | byt (b:Array UInt8) | flt (b:UInt64) | ref (a:Addr) | ty (n:String)
 deriving DecidableEq
def RelV:V->Value->Prop
 | .non,u=>u=Value.none
 | .bl b,u=>u=Value.bool b
 | .int i,u=>∃ t,u=Value.int i t
 | .str x,u=>∃ t,u=Value.str x t
 | .byt b,u=>∃ t,u=Value.bytes b t
 | .flt b,u=>∃ t,u=Value.float b t
 | .ref a,u=>u=Value.ref a
 | .ty n,u=>u=Value.type n
abbrev Vals:List V->List Value->Prop:=Paired RelV
theorem Vals.length {xs:List V}{us:List Value}(r:Vals xs us):xs.length=us.length:=gu r
theorem Vals.get:∀ {xs:List V}{us:List Value}{i:Nat}{x:V},Vals xs us->xs[i]?=some x->∃ u,us[i]?=some u/\RelV x u
 | _,_,_,_, .nil,e=>by simp at e
 | _,_,0,_, .cons r _,e=>by simp at e; subst e; exact⟨_,rfl,r⟩
 | _,_,i+1,x, .cons _ t,e=>by
  obtain⟨u,h1,h2⟩:=Vals.get (i:=i) (x:=x) t (by simpa using e)
  exact⟨u,by simpa using h1,h2⟩
theorem Vals.set {x:V}{u:Value}(r:RelV x u):∀ {xs:List V}{us:List Value}(i:Nat),Vals xs us->Vals (xs.set i x) (us.set i u)
 | _,_,_, .nil=> .nil
 | _,_,0, .cons _ t=> .cons r t
 | _,_,i+1, .cons q t=> .cons q (Vals.set r i t)
theorem Vals.append:∀ {xs ys:List V}{us ws:List Value},Vals xs us->Vals ys ws->Vals (xs++ys) (us++ws)
 | _,_,_,_, .nil,s=>s
 | _,_,_,_, .cons r t,s=> .cons r (Vals.append t s)
theorem Vals.take:∀ {xs:List V}{us:List Value}(n:Nat),Vals xs us->Vals (xs.take n) (us.take n)
 | _,_,0,_=> .nil
 | _,_,_+1, .nil=> .nil
 | _,_,n+1, .cons r t=> .cons r (Vals.take n t)
theorem Vals.drop:∀ {xs:List V}{us:List Value}(n:Nat),Vals xs us->Vals (xs.drop n) (us.drop n)
 | _,_,0,r=>r
 | _,_,_+1, .nil=> .nil
 | _,_,n+1, .cons _ t=>Vals.drop n t
def RelO:Option V->Option Value->Prop
 | some v,some u=>RelV v u
 | none,none=>True
 | _,_=>False
def KV {κ:Type} :List (κ×V)->List (κ×Value)->Prop:=Paired fun (p:κ×V) (q:κ×Value)=>p.1=q.1/\RelV p.2 q.2
noncomputable def kV:Key->V
 | .inl i=> .int i
 | .inr x=> .str x
def TupO (h:Heap)(a:Addr)(items:Array Value):Prop:=∃ n,h.get? a=some { cls:= .type "tuple",data:= .seq items n}
theorem TupO.isTup {h:Heap}{a:Addr}{items:Array Value}(x:TupO h a items):IsTup h a items:=let ⟨n,e⟩:=x; ⟨_,e,rfl,n,rfl⟩
theorem TupO.new (h:Heap)(items:Array Value):TupO (h.push { cls:= .type "tuple",data:= .seq items}) h.objs.size items:=⟨0,aJ _ rfl⟩
inductive HO where
  | lst (xs:List V)
  | tup (xs:List V)
  | dK (kvs:List (Key×V)) | dT (kvs:List (List Key×V))
  | set (S:Int->Bool) (n:Nat)
  | ins (C dx:Addr) (fs:List (Str×V))
  | own (x:Addr)
  | xd (fs:List (Str×V))
  | met (f x:Addr)
  | rng (lo hi:Int)
  | frz (o:Obj) (u:HO)
  | tbl (ps:Array Value)
  | ext (φ:Heap->Prop)
abbrev Hp:=Addr->Option HO
def upd (H:Hp)(a:Addr)(o:HO):Hp:=fun b=>if b=a then some o else H b
theorem j5 {H:Hp}{a:Addr}{o:HO} :upd H a o a=some o:=by unfold upd; rw[ak rfl]
theorem j7 {H:Hp}{a b:Addr}{o:HO}(h:b≠a):upd H a o b=H b:=by unfold upd; rw[aj h]
theorem ne_of {H:Hp}{a b:Addr}{o u:HO}(h:H a=some o)(h':H b=some u)(d:o≠u):a≠b:=by
 intro e; subst e; rw[h] at h'; exact d (br h')
theorem jA {H:Hp}{a b:Addr}{o:HO}(h:H a=some o)(h':H b=none):a≠b:=by
 intro e; subst e; rw[h] at h'; cases h'
section
variable (P:Program)(w:World)
def ObjOk (H:Hp)(h:Heap)(a:Addr):HO->Prop
 | .lst xs=>xs.length<=sizeLine/\∃ (its:List Value) (n:Nat),Vals xs its/\h.get? a=some { cls:= .type "list",data:= .seq its.toArray n}
 | .tup xs=>xs.length<=sizeLine/\∃ its:List Value,Vals xs its/\TupO h a its.toArray
 | .dK kvs=>kvs.length<=sizeLine/\(a==sysModules)=false/\∃ vs,KV kvs vs/\h.DictOf (kW P w) a vs
 | .dT kvs=>kvs.length<=sizeLine/\(a==sysModules)=false/\∃ xs:List (List Key×Addr×Value),
   Paired (fun (p:List Key×V) (q:List Key×Addr×Value)=>p.1=q.1/\H q.2.1=some (.tup (p.1.map kV))/\RelV p.2 q.2.2) kvs xs/\
   ∃ o es ep,h.get? a=some o/\o.ExactDict/\o.data= .dict es ep/\es.toList=xs.map (entryOfKey (tupleKind (kW P w)))/\(xs.map (·.1)).Nodup
 | .set S n=>h.SetOf (intKind P w) a S n
 | .ins C dx fs=>H dx=some (.own a)/\fs.length<=1000/\dx≠a/\h.get? a=some (instObj C dx)/\
   ∃ mA,h.Ns1 dx mA/\(∀ f,RelO (fs.lookup f) (mA f))/\PySem.Within mA (fs.map (·.1))
 | .own _=>∃ o,h.get? a=some o
 | .xd fs=>∃ mA,h.Ns1 a mA/\∀ f,RelO (fs.lookup f) (mA f)
 | .rng lo hi=>∃ t u v,h.get? a=some { cls:= .type "range",data:= .fields #[.int lo t, .int hi u, .int 1 v]}
 | .frz o u=>h.get? a=some o/\ObjOk H h a u
 | .tbl ps=>h.get? a=some { cls:= .none,data:= .fields ps}
 | .met f x=>h.get? a=some (methodObj (.ref f) (.ref x))
 | .ext φ=>φ h/\(∃ o,h.get? a=some o)/\∀ h1 h2:Heap,φ h1->(∀ o,h1.get? a=some o->h2.get? a=some o)->φ h2
def HOk (H:Hp)(h:Heap):Prop:=∀ a o,H a=some o->ObjOk P w H h a o
end
variable {P:Program}{w:World}{H H':Hp}{h h':Heap}{a:Addr}
section
variable {o:HO}
theorem ObjOk.lt (x:ObjOk P w H h a o):a<h.objs.size:=by
 cases o with
 | lst xs=>obtain⟨_,_,_,_,e⟩:=x; exact aE e
 | tup xs=>obtain⟨_,_,_,_,e⟩:=x; exact aE e
 | dK kvs=>obtain⟨_,_,_,_,o,_,_,e,_⟩:=x; exact aE e
 | dT kvs=>obtain⟨_,_,_,_,o,_,_,e,_⟩:=x; exact aE e
 | set S n=>obtain⟨o,_,_,_,e,_⟩:=x; exact aE e
 | ins C dx fs=>obtain⟨_,_,_,e,_⟩:=x; exact aE e
 | own y=>obtain⟨_,e⟩:=x; exact aE e
 | xd fs=>obtain⟨_,⟨_,_,_,e,_⟩,_⟩:=x; exact aE e
 | rng lo hi=>obtain⟨_,_,_,e⟩:=x; exact aE e
 | frz ob u=>obtain⟨e,_⟩:=x; exact aE e
 | tbl ps=>exact aE (show h.get? a=some _ from x)
 | met f y=>exact aE (show h.get? a=some _ from x)
 | ext φ=>obtain⟨_,⟨_,e⟩,_⟩:=x; exact aE e
theorem Paired.mapP {α β:Type}{F G:α->β->Prop} :∀ {l₁:List α}{l₂:List β},Paired F l₁ l₂->(∀ a b,F a b->G a b)->Paired G l₁ l₂
 | _,_, .nil,_=> .nil
 | _,_, .cons r t,f=> .cons (f _ _ r) (Paired.mapP t f)
theorem ObjOk.stay (x:ObjOk P w H h a o)(k:∀ b u,(b=a\/H b=some (.own a))->h.get? b=some u->h'.get? b=some u)
  (ho:∀ b,H b=some (.own a)->H' b=some (.own a)) (ht:∀ b xs,H b=some (.tup xs)->H' b=some (.tup xs)):ObjOk P w H' h' a o:=by
 induction o with
 | lst xs=>obtain⟨z,its,n,r,e⟩:=x; exact⟨z,its,n,r,k _ _ (.inl rfl) e⟩
 | tup xs=>obtain⟨z,its,r,n,e⟩:=x; exact⟨z,its,r,n,k _ _ (.inl rfl) e⟩
 | dK kvs=>obtain⟨z,y,vs,r,ob,es,ep,e,c⟩:=x; exact⟨z,y,vs,r,ob,es,ep,k _ _ (.inl rfl) e,c⟩
 | dT kvs=>
  obtain⟨z,y,xs,r,ob,es,ep,e,c⟩:=x
  exact⟨z,y,xs,Paired.mapP r fun p q z=>⟨z.1,ht _ _ z.2.1,z.2.2⟩,ob,es,ep,k _ _ (.inl rfl) e,c⟩
 | set S n=>obtain⟨ob,es,ep,t,e,c⟩:=x; exact⟨ob,es,ep,t,k _ _ (.inl rfl) e,c⟩
 | ins C dx fs=>
  obtain⟨d,z,ne,e,mA,⟨od,es,ep,e2,c⟩,r⟩:=x
  exact⟨ho _ d,z,ne,k _ _ (.inl rfl) e,mA,⟨od,es,ep,k _ _ (.inr d) e2,c⟩,r⟩
 | own y=>obtain⟨ob,e⟩:=x; exact⟨ob,k _ _ (.inl rfl) e⟩
 | xd fs=>obtain⟨mA,⟨od,es,ep,e,c⟩,r⟩:=x; exact⟨mA,⟨od,es,ep,k _ _ (.inl rfl) e,c⟩,r⟩
 | rng lo hi=>obtain⟨t,u,v,e⟩:=x; exact⟨t,u,v,k _ _ (.inl rfl) e⟩
 | frz ob u ih=>obtain⟨e,q⟩:=x; exact⟨k _ _ (.inl rfl) e,ih q⟩
 | tbl ps=>
  have e:h.get? a=some { cls:= .none,data:= .fields ps} :=x
  show h'.get? a=some { cls:= .none,data:= .fields ps}
  exact k a _ (.inl rfl) e
 | met f y=>
  have e:h.get? a=some (methodObj (.ref f) (.ref y)):=x
  show h'.get? a=some (methodObj (.ref f) (.ref y))
  exact k a _ (.inl rfl) e
 | ext φ=>obtain⟨p,⟨o,e⟩,st⟩:=x; exact⟨st _ _ p fun o q=>k _ _ (.inl rfl) q,⟨o,k _ _ (.inl rfl) e⟩,st⟩
theorem HOk.lt (x:HOk P w H h)(e:H a=some o):a<h.objs.size:=(x a o e).lt
theorem HOk.fresh (x:HOk P w H h)(e:h.objs.size<=a):H a=none:=by
 cases q:H a with
 | none=>rfl
 | some u=>exact absurd (aS (x.lt q) e) (da _)
theorem HOk.kept (x:HOk P w H h)(k:∀ b u,h.get? b=some u->h'.get? b=some u):HOk P w H h':=fun a o e=>
 (x a o e).stay (fun b u _ q=>k b u q) (fun _ q=>q) fun _ _ q=>q
theorem HOk.laid (x:HOk P w H h)(k:∀ b u,h.get? b=some u->h'.get? b=some u)(hp:h.objs.size<=a)(new:ObjOk P w (upd H a o) h' a o):HOk P w (upd H a o) h':=fun b u e=>by
 have hn:=x.fresh hp
 by_cases hb:b=a
 ·subst hb; rw[j5] at e; cases e; exact new
 ·rw[j7 hb] at e
  exact(x b u e).stay (fun c v _ q=>k c v q) (fun c q=>by rw[j7 (jA q hn)]; exact q) fun c xs q=>by rw[j7 (jA q hn)]; exact q
end
def Rd (H:Hp)(a:Addr)(u:HO):Prop:=H a=some u\/∃ o,H a=some (.frz o u)
theorem Rd.ok {P:Program}{w:World}{H:Hp}{h:Heap}{a:Addr}{u:HO}(r:Rd H a u)(x:HOk P w H h):ObjOk P w H h a u:=by
 rcases r with r | ⟨o,r⟩
 ·exact x a u r
 ·obtain⟨_,q⟩:=x a _ r
  exact q
def Mut:Option HO->Prop
 | some (.lst _)=>True
 | some (.dK _)=>True
 | some (.dT _)=>True
 | some (.set _ _)=>True
 | some (.ins _ _ _)=>True
 | some (.ext _)=>True
 | _=>False
variable {x:Addr}
section
variable {e:Addr}{o':HO}
theorem HOk.write (ok:HOk P w H h)(mu:Mut (H x))(he:e=x\/H e=some (.own x))(k:∀ b u,b≠e->h.get? b=some u->h'.get? b=some u)(heo:∃ u,h'.get? e=some u)
  (new:ObjOk P w (upd H x o') h' x o'):HOk P w (upd H x o') h':=fun b u q=>by
 have nown:∀ c y,H c=some (.own y)->c≠x:=fun c y r z=>by subst z; rw[r] at mu; exact mu
 have ntup:∀ c xs,H c=some (.tup xs)->c≠x:=fun c xs r z=>by subst z; rw[r] at mu; exact mu
 by_cases hb:b=x
 ·subst hb; rw[j5] at q; cases q; exact new
 ·rw[j7 hb] at q
  by_cases hbe:b=e
  ·have q':H b=some (.own x):=by
    rcases he with z | z
    ·exact absurd (hbe.trans z) hb
    ·rw[hbe]; exact z
   rw[q] at q'; cases q'
   obtain⟨v,hv⟩:=heo
   exact⟨v,by rw[hbe]; exact hv⟩
  ·refine(ok b u q).stay (fun c v hc r=>k c v ?_ r) (fun c r=>by rw[j7 (nown c b r)]; exact r) fun c xs r=>by rw[j7 (ntup c xs r)]; exact r
   rcases hc with rfl | hc
   ·exact hbe
   ·rintro rfl
    rcases he with z | z
    ·exact nown c b hc z
    ·rw[hc] at z; cases z; exact hb rfl
end
structure Un (fs ex:List Addr)(H H':Hp)(h h':Heap):Prop where
 keep:∀ b o,h.get? b=some o->H b=none->b∉fs->b∉ex->h'.get? b=some o
 slot:∀ b o,h.get? b=some o->H b=none->b∈fs->b∉ex->∃ sl,h'.get? b=some { o with slots:=sl}
 free:∀ b o,h.get? b=some o->H b=none->b∉ex->H' b=none
 there:∀ b o,h.get? b=some o->b∉ex->∃ o',h'.get? b=some o'
 tups:∀ b xs,H b=some (.tup xs)->H' b=some (.tup xs)
 frzs:∀ b o u,H b=some (.frz o u)->H' b=some (.frz o u)
 tbls:∀ b ps,H b=some (.tbl ps)->∃ more,H' b=some (.tbl (ps++more))
section
variable {fs fs' ex ex':List Addr}{H1 H2:Hp}{h1 h2:Heap}{e:Addr}{o:HO}
theorem Un.any (u:Un fs ex H H1 h h1){b:Addr}{ob:Obj}(q:h.get? b=some ob)(n:H b=none)(hx:b∉ex):∃ sl,h1.get? b=some { ob with slots:=sl} :=by
 by_cases hb:b∈fs
 ·exact u.slot b ob q n hb hx
 ·exact⟨ob.slots,u.keep b ob q n hb hx⟩
theorem Un.trans (a:Un fs ex H H1 h h1)(b:Un fs ex H1 H2 h1 h2):Un fs ex H H2 h h2 where
 keep:=fun c ob q n hc hx=>b.keep c ob (a.keep c ob q n hc hx) (a.free c ob q n hx) hc hx
 slot:=fun c ob q n hc hx=>by
  obtain⟨sl,e1⟩:=a.slot c ob q n hc hx
  obtain⟨sl',e2⟩:=b.slot c _ e1 (a.free c ob q n hx) hc hx
  exact⟨sl',e2⟩
 free:=fun c ob q n hx=>by
  obtain⟨o',e1⟩:=a.there c ob q hx
  exact b.free c o' e1 (a.free c ob q n hx) hx
 there:=fun c ob q hx=>by
  obtain⟨o',e1⟩:=a.there c ob q hx
  exact b.there c o' e1 hx
 tups:=fun c xs q=>b.tups c xs (a.tups c xs q)
 frzs:=fun c ob xs q=>b.frzs c ob xs (a.frzs c ob xs q)
 tbls:=fun c ps q=>by
  obtain⟨m1,e1⟩:=a.tbls c ps q
  obtain⟨m2,e2⟩:=b.tbls c _ e1
  exact⟨m1++m2,by rw[e2,kf]⟩
theorem Un.kept (k:∀ b u,h.get? b=some u->h'.get? b=some u):Un fs ex H H h h':=
 ⟨fun b ob q _ _ _=>k b ob q,fun b ob q _ _ _=>⟨ob.slots,k b ob q⟩,fun _ _ _ n _=>n,fun b ob q _=>⟨ob,k b ob q⟩,fun _ _ q=>q,fun _ _ _ q=>q,fun _ ps q=>⟨#[],by rw[q]; simp⟩⟩
theorem Un.refl:Un fs ex H H h h:=Un.kept fun _ _ q=>q
theorem Un.laid (k:∀ b u,h.get? b=some u->h'.get? b=some u)(hp:h.objs.size<=a)(hn:H a=none):Un fs ex H (upd H a o) h h' where
 keep:=fun b u q _ _ _=>k b u q
 slot:=fun b u q _ _ _=>⟨u.slots,k b u q⟩
 free:=fun b u q n _=>by rw[j7 (aV (aS (aE q) hp))]; exact n
 there:=fun b u q _=>⟨u,k b u q⟩
 tups:=fun b xs q=>by rw[j7 (jA q hn)]; exact q
 frzs:=fun b u xs q=>by rw[j7 (jA q hn)]; exact q
 tbls:=fun b ps q=>⟨#[],by rw[j7 (jA q hn),q]; simp⟩
theorem Un.write (mu:Mut (H x))(he:e=x\/H e=some (.own x))(k:∀ b u,b≠e->h.get? b=some u->h'.get? b=some u)(heo:∃ u,h'.get? e=some u):Un fs ex H (upd H x o) h h':=by
 have hx:∀ b,H b=none->b≠x:=fun b n z=>by subst z; rw[n] at mu; exact mu
 have hb:∀ b,H b=none->b≠e:=fun b n z=>by
  subst z
  rcases he with r | r
  ·exact hx b n r
  ·rw[n] at r; cases r
 have hm:∀ b u,H b=some u->¬ Mut (some u)->b≠x:=fun b u q nm z=>by subst z; rw[q] at mu; exact nm mu
 refine⟨fun b u q n _ _=>k b u (hb b n) q,fun b u q n _ _=>⟨u.slots,k b u (hb b n) q⟩,fun b u q n _=>by rw[j7 (hx b n)]; exact n,fun b u q _=>?_,
  fun b xs q=>by rw[j7 (hm b _ q fun z=>z)]; exact q,fun b u xs q=>by rw[j7 (hm b _ q fun z=>z)]; exact q,fun b ps q=>⟨#[],by rw[j7 (hm b _ q fun z=>z),q]; simp⟩⟩
 by_cases hbe:b=e
 ·subst hbe; exact heo
 ·exact⟨u,k b u hbe q⟩
end
def trk (h:Heap)(H:Hp):List Addr:=(List.range h.objs.size).filter fun a=>(H a).isSome
def hidT (h:Heap)(H:Hp):Heap:=PySem.W.hideAll h (trk h H)
theorem jMB (h:Heap)(H:Hp):(hidT h H).objs.size=h.objs.size:=PySem.W.hideAll_size _ _
theorem jOE {h:Heap}{H:Hp}{b:Addr}{o:Obj}(e:h.get? b=some o)(n:H b=none):(hidT h H).get? b=some o:=
 PySem.W.hideAll_get _ e fun hm=>by
  have q:(H b).isSome=true:=(bf.mp hm).2
  rw[n] at q; simp at q
theorem jR0 {h:Heap}{H:Hp}{b:Addr}{o:Obj}(e:(hidT h H).get? b=some o):h.get? b=some o/\H b=none:=by
 have e':h.get? b=some o:=PySem.W.of_hideAll (trk h H) e
 refine⟨e',?_⟩
 cases q:H b with
 | none=>rfl
 | some x=>
  have hm:b∈trk h H:=bf.mpr ⟨bM.mpr (aE e'),by simp [q]⟩
  have z:(hidT h H).get? b=none:=PySem.W.hideAll_none (trk h H) hm
  rw[z] at e; cases e
structure Mod (K:W.Frag)(mg:Str->Option Value)(base:Heap):Prop where
 kin:K.In base
 glob:base.Ns mainGlobals mg
 blt:∃ mb,base.Ns builtinsNs mb/\∀ x:Str,x≠ "__name__" ->mb x=bootBuiltins x
 nolimit:base.NoLimit
structure Cx where
 prog:Program
 w:World
 K:W.Frag
 mg:Str->Option Value
 base:Heap
 A:Around
 N:List Str
 s₀:Shared
 H₀:Hp
 env:Env
 outer:List Env
 stack:List Env
 ex:List Addr
 fn:Str->Bool
 calm:Bool
 pn:List (Addr×Obj)
 xe:Value->Shared->Prop
def frs (l:List Env):List Addr:=l.filterMap (·.frame)
abbrev Cx.fs (X:Cx):List Addr:=frs X.outer
def Vis (sc:Scope)(x:Str):Prop:=sc.names.lookup x=some .local\/sc.names.lookup x=some .cell\/sc.names.lookup x=some .free
def Loc (sc:Scope)(x:Str):Prop:=sc.names.lookup x=some .local\/sc.names.lookup x=some .cell
def Look (env:Env)(h:Heap)(m:Str->Option Value)(x:Str)(u:Value):Prop:=
 (env.kindOf x=some .local/\m x=some u)\/((env.kindOf x=some .cell\/env.kindOf x=some .free)/\∃ c,env.cells.lookup x=some c/\h.IsCell c (some u))
structure Cx.Ok (X:Cx):Prop where
 mod:Mod X.K X.mg X.base
 kind:X.env.scope.kind= .function
 glob:X.env.globals=mainGlobals
 blt:X.env.builtins=builtinsNs
 above:X.s₀.heap.objs.size<=X.env.locals
 inj:∀ x y c,X.env.cells.lookup x=some c->X.env.cells.lookup y=some c->x=y
 has:∀ x,(X.env.kindOf x=some .cell\/X.env.kindOf x=some .free)->∃ c,X.env.cells.lookup x=some c
 cab:∀ x c,X.fn x=true->X.env.cells.lookup x=some c->X.s₀.heap.objs.size<=c
 hd:X.calm=true->X.A.handled=none
 frames:X.A.frames=some X.stack
 stk:X.stack=X.outer\/(X.stack=X.env::X.outer/\X.env.frame=some X.env.locals)
 exf:∀ b∈X.ex,b≠X.env.locals/\∀ x c,X.env.cells.lookup x=some c->c≠b
 bs:∀ b o,X.base.get? b=some o->X.s₀.heap.get? b=some o/\X.H₀ b=none
 bsz:X.base.objs.size<=X.s₀.heap.objs.size
 noex:∀ b o,X.base.get? b=some o->b∉X.ex
 exfs:∀ b∈X.ex,b∉X.fs
 funs:X.s₀.heap.FunFrames X.base X.outer
 frf:∀ b∈X.fs,X.H₀ b=none
structure Inv (X:Cx)(ad:List (Addr×Obj))(σ:List (Option V))(H:Hp)(s:Shared):Prop where
 ok:X.Ok
 os:s.os=X.s₀.os
 bare:AllBare s.gens
 base:Un X.fs X.ex X.H₀ H X.s₀.heap s.heap
 loc:∃ m,s.heap.Ns X.env.locals m/\∀ (i:Nat) (x:Str) (v:V),X.N[i]?=some x->σ[i]?=some (some v)->Vis X.env.scope x->∃ u,RelV v u/\Look X.env s.heap m x u
 cell:∀ x c,X.env.cells.lookup x=some c->∃ v,s.heap.IsCell c v
 free:H X.env.locals=none
 freeC:∀ x c,X.env.cells.lookup x=some c->H c=none
 pin:∀ p∈X.pn++ad,s.heap.get? p.1=some p.2/\H p.1=none/\p.1≠X.env.locals/\p.1∉X.fs/\∀ v,p.2.data≠ .cell v
 hok:HOk X.prog X.w H s.heap
 len:σ.length=X.N.length
variable {X:Cx}{ad:List (Addr×Obj)}{s:Shared}
section
variable {σ:List (Option V)}
theorem Cx.Ok.nofr (ok:X.Ok){b:Addr}{o:Obj}(e:X.base.get? b=some o):b∉X.fs:=fun hb=>by
 have:=(ok.funs.mem hb).1
 rw[e] at this; cases this
theorem Inv.bs (I:Inv X ad σ H s):∀ b o,X.base.get? b=some o->s.heap.get? b=some o/\H b=none:=fun b o e=>
 ⟨I.base.keep b o (I.ok.bs b o e).1 (I.ok.bs b o e).2 (I.ok.nofr e) (I.ok.noex b o e),I.base.free b o (I.ok.bs b o e).1 (I.ok.bs b o e).2 (I.ok.noex b o e)⟩
theorem Inv.bk (I:Inv X ad σ H s):∀ b o,X.base.get? b=some o->s.heap.get? b=some o:=fun b o e=>(I.bs b o e).1
theorem Inv.mod (I:Inv X ad σ H s):Mod X.K X.mg X.base:=I.ok.mod
theorem Inv.kIn (I:Inv X ad σ H s):X.K.In s.heap:=I.ok.mod.kin.keeps I.bk
theorem Inv.nolimit (I:Inv X ad σ H s):s.heap.NoLimit:=I.ok.mod.nolimit.keeps I.bk
theorem Inv.lt (I:Inv X ad σ H s):X.env.locals<s.heap.objs.size:=let ⟨_,hn,_⟩:=I.loc; hn.lt
theorem Inv.sz (I:Inv X ad σ H s):X.s₀.heap.objs.size<=s.heap.objs.size:=aX I.ok.above (dF I.lt)
theorem Inv.nofs (I:Inv X ad σ H s){a:Addr}(h:s.heap.objs.size<=a):a∉X.fs:=fun hb=>by
 obtain⟨_,o,ho,_⟩:=I.ok.funs.mem hb
 exact absurd (aS (aE ho) (aX I.sz h)) (da _)
theorem Inv.cne (I:Inv X ad σ H s):∀ x c,X.env.cells.lookup x=some c->c≠X.env.locals:=fun x c e z=>by
 obtain⟨v,o,ho,hd⟩:=I.cell x c e
 obtain⟨m,⟨o',es,ep,ho',hd',_⟩,_⟩:=I.loc
 rw[z,ho'] at ho; cases ho; rw[hd'] at hd; cases hd
theorem Inv.funs (I:Inv X ad σ H s):s.heap.FunFrames X.base X.outer:=by
 have all:∀ (l:List Env),(∀ b∈frs l,b∈X.fs)->X.s₀.heap.FunFrames X.base l->s.heap.FunFrames X.base l:=by
  intro l
  induction l with
  | nil=>intro _ _; trivial
  | cons env r ih=>
   intro hs hl
   obtain⟨hk,⟨L,o,hf,hn,ho,hd⟩,hr⟩:=hl
   have hL:L∈X.fs:=hs L (by unfold frs; rw[gS,hf]; exact ar)
   obtain⟨sl,e⟩:=I.base.slot L o ho (I.ok.frf L hL) hL fun z=>I.ok.exfs L z hL
   exact⟨hk,⟨L,_,hf,hn,e,hd⟩,ih (fun b hb=>hs b (by unfold frs; rw[gS,hf]; exact az _ hb)) hr⟩
 exact all X.outer (fun _ hb=>hb) I.ok.funs
theorem Inv.stack (I:Inv X ad σ H s):s.heap.FunFrames X.base X.stack:=by
 rcases I.ok.stk with e | ⟨e,hf⟩
 ·rw[e]; exact I.funs
 ·rw[e]
  obtain⟨m,hn,_⟩:=I.loc
  refine .cons (by rw[I.ok.kind]; decide) hf hn ?_ I.funs
  exact Heap.get?_none_of_le (aX I.ok.bsz I.ok.above)
theorem Inv.stkSub (I:Inv X ad σ H s):∀ b∈frs X.stack,b∈X.env.locals::X.fs:=fun b hb=>by
 rcases I.ok.stk with e | ⟨e,hf⟩
 ·rw[e] at hb; exact az _ hb
 ·rw[e] at hb
  unfold frs at hb
  rw[gS,hf] at hb
  exact hb
theorem Inv.stkFree (I:Inv X ad σ H s):∀ b∈frs X.stack,H b=none:=fun b hb=>by
 rcases aM.mp (I.stkSub b hb) with e | hb
 ·rw[e]; exact I.free
 ·obtain⟨_,o,ho,_⟩:=I.ok.funs.mem hb
  exact I.base.free b o ho (I.ok.frf b hb) fun z=>I.ok.exfs b z hb
theorem Inv.step {g':Array GenState}{t':Nat}{d':Drawn}{ch:List Addr}(I:Inv X ad σ H s)
  (hch:∀ b∈ch,(b∈X.ex\/X.s₀.heap.objs.size<=b)/\b≠X.env.locals/\(∀ x c,X.env.cells.lookup x=some c->c≠b)/\∀ p∈X.pn++ad,p.1≠b)
  (keep:∀ b o,b≠X.env.locals->b∉X.fs->b∉ch->s.heap.get? b=some o->H b=none->h'.get? b=some o)
  (slot:∀ b o,b≠X.env.locals->b∈X.fs->b∉ch->s.heap.get? b=some o->H b=none->∃ sl,h'.get? b=some { o with slots:=sl}) (free:∀ b o,b∉ch->s.heap.get? b=some o->H b=none->H' b=none)
  (there:∀ b o,b∉ch->s.heap.get? b=some o->∃ o',h'.get? b=some o')
  (tups:∀ b xs,H b=some (.tup xs)->H' b=some (.tup xs)) (frzs:∀ b o u,H b=some (.frz o u)->H' b=some (.frz o u)) (tbls:∀ b ps,H b=some (.tbl ps)->∃ more,H' b=some (.tbl (ps++more)))
  (ns:∀ m,s.heap.Ns X.env.locals m->h'.Ns X.env.locals m) (hok:HOk X.prog X.w H' h') (hg:AllBare g'):
  Inv X ad σ H' { s with heap:=h',gens:=g',drawn:=d',toks:=t'} :=by
 have neL:∀ b o,X.s₀.heap.get? b=some o->b≠X.env.locals:=fun b o e=>aV (aS (aE e) I.ok.above)
 have neC:∀ b o,X.s₀.heap.get? b=some o->b∉X.ex->b∉ch:=fun b o e hx hb=>by
  rcases (hch b hb).1 with z | z
  ·exact hx z
  ·exact absurd (aS (aE e) z) (da _)
 have cellK:∀ x c,X.env.cells.lookup x=some c->∀ v,s.heap.IsCell c v->h'.IsCell c v:=fun x c e v ⟨o,ho,hd⟩=>by
  have nch:c∉ch:=fun z=>(hch c z).2.2.1 x c e rfl
  by_cases hc:c∈X.fs
  ·obtain⟨sl,q⟩:=slot c o (I.cne x c e) hc nch ho (I.freeC x c e)
   exact⟨_,q,hd⟩
  ·exact⟨o,keep c o (I.cne x c e) hc nch ho (I.freeC x c e),hd⟩
 refine⟨I.ok,I.os,hg,⟨fun b o e n hb hx=>?_,fun b o e n hb hx=>?_,fun b o e n hx=>?_,fun b o e hx=>?_,fun b xs e=>tups b xs (I.base.tups b xs e),fun b o xs e=>frzs b o xs (I.base.frzs b o xs e),fun b ps e=>?_⟩,?_,fun x c e=>?_,?_,fun x c e=>?_,fun p hp=>?_,hok,I.len⟩
 ·exact keep b o (neL b o e) hb (neC b o e hx) (I.base.keep b o e n hb hx) (I.base.free b o e n hx)
 ·obtain⟨sl,e1⟩:=I.base.slot b o e n hb hx
  obtain⟨sl',e2⟩:=slot b _ (neL b o e) hb (neC b o e hx) e1 (I.base.free b o e n hx)
  exact⟨sl',e2⟩
 ·obtain⟨o',e1⟩:=I.base.there b o e hx
  exact free b o' (neC b o e hx) e1 (I.base.free b o e n hx)
 ·obtain⟨o',e1⟩:=I.base.there b o e hx
  exact there b o' (neC b o e hx) e1
 ·obtain⟨m1,e1⟩:=I.base.tbls b ps e
  obtain⟨m2,e2⟩:=tbls b _ e1
  exact⟨m1++m2,by rw[e2,kf]⟩
 ·obtain⟨m,hn,hl⟩:=I.loc
  refine⟨m,ns m hn,fun i x v e1 e2 e3=>?_⟩
  obtain⟨u,r,l⟩:=hl i x v e1 e2 e3
  refine⟨u,r,?_⟩
  rcases l with l | ⟨k,c,e,z⟩
  ·exact .inl l
  ·exact .inr ⟨k,c,e,cellK x c e _ z⟩
 ·obtain⟨v,z⟩:=I.cell x c e
  exact⟨v,cellK x c e v z⟩
 ·obtain⟨m,⟨o,_,_,ho,_⟩,_⟩:=I.loc
  exact free _ o (fun z=>(hch _ z).2.1 rfl) ho I.free
 ·obtain⟨v,o,ho,hd⟩:=I.cell x c e
  exact free c o (fun z=>(hch c z).2.2.1 x c e rfl) ho (I.freeC x c e)
 ·obtain⟨e,n,ne,nf,d⟩:=I.pin p hp
  have nch:p.1∉ch:=fun z=>(hch p.1 z).2.2.2 p hp rfl
  exact⟨keep p.1 p.2 ne nf nch e n,free p.1 p.2 nch e n,ne,nf,d⟩
theorem Inv.un {t':Nat}(I:Inv X ad σ H s)(u:Un X.fs [] H H' s.heap h')(hok:HOk X.prog X.w H' h'):Inv X ad σ H' { s with heap:=h',toks:=t'} :=by
 obtain⟨m,⟨o,es,ep,ho,r⟩,_⟩:=id I.loc
 obtain⟨sl,hL⟩:=u.any ho I.free (by simp)
 exact I.step (g':=s.gens) (d':=s.drawn) (ch:=[]) (fun _ z=>nomatch z) (fun b o _ hb _ e n=>u.keep b o e n hb (by simp)) (fun b o _ hb _ e n=>u.slot b o e n hb (by simp)) (fun b o _ e n=>u.free b o e n (by simp)) (fun b o _ e=>u.there b o e (by simp)) u.tups u.frzs u.tbls (fun m' hm=>by
  obtain⟨o',es',ep',ho',r'⟩:=hm
  rw[ho] at ho'; cases ho'
  exact⟨_,es',ep',hL,r'⟩) hok I.bare
theorem Inv.call {g':Array GenState}{t':Nat}{d':Drawn}{ch:List Addr}(I:Inv X ad σ H s)(u:Un (frs X.stack) ch H H' s.heap h')(hok:HOk X.prog X.w H' h')(hg:AllBare g')
  (hch:∀ b∈ch,(b∈X.ex\/X.s₀.heap.objs.size<=b)/\b≠X.env.locals/\(∀ x c,X.env.cells.lookup x=some c->c≠b)/\∀ p∈X.pn++ad,p.1≠b):
  Inv X ad σ H' { s with heap:=h',gens:=g',drawn:=d',toks:=t'} :=by
 obtain⟨m,⟨o,es,ep,ho,r⟩,_⟩:=id I.loc
 obtain⟨sl,hL⟩:=u.any ho I.free fun z=>(hch _ z).2.1 rfl
 exact I.step (ch:=ch) hch (fun b o hL hb hc e n=>u.keep b o e n (fun z=>(aM.mp (I.stkSub b z)).elim hL hb) hc) (fun b o _ _ hc e n=>u.any e n hc) (fun b o hc e n=>u.free b o e n hc) (fun b o hc e=>u.there b o e hc) u.tups u.frzs u.tbls (fun m' hm=>by
  obtain⟨o',es',ep',ho',r'⟩:=hm
  rw[ho] at ho'; cases ho'
  exact⟨_,es',ep',hL,r'⟩) hok hg
theorem Inv.turned {t':Nat}{it:Addr}(I:Inv X ad σ H s)(k:∀ b o,b≠it->s.heap.get? b=some o->h'.get? b=some o)(hn:H it=none)(hL:it≠X.env.locals)
  (h1:it∈X.ex\/X.s₀.heap.objs.size<=it) (h2:∀ x c,X.env.cells.lookup x=some c->c≠it) (h3:∀ p∈X.pn++ad,p.1≠it):Inv X ad σ H { s with heap:=h',toks:=t'} :=by
 have nit:∀ b u,H b=some u->b≠it:=fun b u e z=>by rw[z,hn] at e; cases e
 refine I.step (g':=s.gens) (d':=s.drawn) (ch:=[it]) (fun b hb=>?_) (fun b o _ _ hc e _=>k b o (fun z=>hc (by simp [z])) e) (fun b o _ _ hc e _=>⟨o.slots,k b o (fun z=>hc (by simp [z])) e⟩) (fun _ _ _ _ n=>n)
  (fun b o hc e=>⟨o,k b o (fun z=>hc (by simp [z])) e⟩) (fun _ _ e=>e) (fun _ _ _ e=>e) (fun b ps e=>⟨#[],by rw[e]; simp⟩) (fun m hm=>?_) (fun b u e=>?_) I.bare
 ·have e:b=it:=by simpa using hb
  subst e
  exact⟨h1,hL,h2,h3⟩
 ·obtain⟨o,es,ep,ho,r⟩:=hm
  exact⟨o,es,ep,k _ o (dZ hL) ho,r⟩
 ·refine(I.hok b u e).stay (fun c v hc q=>k c v ?_ q) (fun _ q=>q) fun _ _ q=>q
  rcases hc with z | z
  ·rw[z]; exact nit b u e
  ·exact nit c _ z
theorem Inv.tok (I:Inv X ad σ H s)(t:Nat):Inv X ad σ H { s with toks:=t} :=I.un (h':=s.heap) (t':=t) Un.refl I.hok
theorem Inv.kept {t':Nat}(I:Inv X ad σ H s)(k:∀ b u,s.heap.get? b=some u->h'.get? b=some u):Inv X ad σ H { s with heap:=h',toks:=t'} :=I.un (Un.kept k) (I.hok.kept k)
theorem Inv.laid {a:Addr}{o:HO}{t':Nat}(I:Inv X ad σ H s)(k:∀ b u,s.heap.get? b=some u->h'.get? b=some u)(hp:s.heap.objs.size<=a)(new:ObjOk X.prog X.w (upd H a o) h' a o):
  Inv X ad σ (upd H a o) { s with heap:=h',toks:=t'} :=I.un (Un.laid k hp (I.hok.fresh hp)) (I.hok.laid k hp new)
theorem Inv.write {x e:Addr}{o:HO}{t':Nat}(I:Inv X ad σ H s)(mu:Mut (H x))(he:e=x\/H e=some (.own x))(k:∀ b u,b≠e->s.heap.get? b=some u->h'.get? b=some u)(heo:∃ u,h'.get? e=some u)
  (new:ObjOk X.prog X.w (upd H x o) h' x o):Inv X ad σ (upd H x o) { s with heap:=h',toks:=t'} :=I.un (Un.write mu he k heo) (I.hok.write mu he k heo new)
theorem Inv.pins_of {ad':List (Addr×Obj)}(I:Inv X ad σ H s)(h:∀ p∈ad',s.heap.get? p.1=some p.2/\H p.1=none/\p.1≠X.env.locals/\p.1∉X.fs/\∀ v,p.2.data≠ .cell v):Inv X ad' σ H s:=
 ⟨I.ok,I.os,I.bare,I.base,I.loc,I.cell,I.free,I.freeC,fun p hp=>(ay.mp hp).elim (fun z=>I.pin p (ax _ z)) (h p),I.hok,I.len⟩
theorem jIR {N:List Str}(hN:N.Nodup){i j:Nat}{x:Str}(a:N[i]?=some x)(b:N[j]?=some x):i=j:=by
 obtain⟨h1,e1⟩:=am.mp a
 obtain⟨h2,e2⟩:=am.mp b
 exact(List.getElem_inj hN).mp (e1.trans e2.symm)
theorem jFY {M:Model}{A:Around}{E:Value->Shared->Prop}{i:Nat}{x:Str}{v:V}{u:Value}{Q:Unit->Shared->Prop}(I:Inv X ad σ H s)(hN:X.N.Nodup)(hi:X.N[i]?=some x)(hx:Loc X.env.scope x)(r:RelV v u)
  (h:∀ s',Inv X ad (σ.set i (some v)) H s'->(∃ a,Heap.SameBut a s.heap s'.heap/\(a=X.env.locals\/X.env.cells.lookup x=some a))->Q () s') (hf:X.fn x=true\/X.env.scope.names.lookup x=some .local:=by first | exact .inl rfl | exact .inr rfl | assumption):wpAny M A (storeName X.env x u) Q E s:=by
 obtain⟨m,hn,hl⟩:=id I.loc
 have hcls:(X.env.scope.kind== .class || (X.env.scope.kind== .module&&X.env.locals != X.env.globals))=false:=by rw[I.ok.kind]; rfl
 have hiσ:i<σ.length:=by rw[I.len]; exact(am.mp hi).1
 have cne:=I.cne
 have tracked:∀ {a:Addr}{h':Heap},(∃ o,s.heap.get? a=some o/\H a=none)->Heap.SameBut a s.heap h'->HOk X.prog X.w H h':=fun {a h'} ha hs b ob e=>by
  obtain⟨_,_,hfree⟩:=ha
  refine(I.hok b ob e).stay (fun c w' hc q=>(hs.2 c ?_).trans q) (fun _ q=>q) fun _ _ q=>q
  rintro rfl
  rcases hc with rfl | hc
  ·rw[hfree] at e; cases e
  ·rw[hfree] at hc; cases hc
 rcases hx with hk | hk
 ·refine wpAny_storeName_local hk hn (fun h' hn' hs=>?_) hcls
  obtain⟨oL,_,_,hoL,_⟩:=id hn
  refine h _ ⟨I.ok,I.os,I.bare,⟨fun b o e n hb hx=>?_,fun b o e n hb hx=>?_,I.base.free,fun b o e hx=>?_,I.base.tups,I.base.frzs,I.base.tbls⟩,⟨_,hn',fun j y v' e1 e2 e3=>?_⟩,fun y c e=>?_,I.free,I.freeC,fun p hp=>?_,tracked ⟨oL,hoL,I.free⟩ hs,by simpa using I.len⟩ ⟨_,hs, .inl rfl⟩
  ·exact(hs.2 b (aV (aS (aE e) I.ok.above))).trans (I.base.keep b o e n hb hx)
  ·obtain⟨sl,e1⟩:=I.base.slot b o e n hb hx
   exact⟨sl,(hs.2 b (aV (aS (aE e) I.ok.above))).trans e1⟩
  ·obtain⟨o',e1⟩:=I.base.there b o e hx
   exact⟨o',(hs.2 b (aV (aS (aE e) I.ok.above))).trans e1⟩
  ·by_cases hj:j=i
   ·subst hj
    rw[hi] at e1; cases e1
    rw[iS hiσ] at e2
    cases e2
    exact⟨u,r, .inl ⟨hk,by simp⟩⟩
   ·rw[jk (dZ hj)] at e2
    obtain⟨u',r',q⟩:=hl j y v' e1 e2 e3
    refine⟨u',r',?_⟩
    rcases q with ⟨k,e⟩ | ⟨k,c,e,z⟩
    ·refine .inl ⟨k,?_⟩
     have:y≠x:=fun e=>hj (jIR hN e1 (e ▸ hi))
     simp [this,e]
    ·exact .inr ⟨k,c,e,z.sameBut hs (cne y c e)⟩
  ·obtain⟨w',z⟩:=I.cell y c e
   exact⟨w',z.sameBut hs (cne y c e)⟩
  ·obtain⟨e,n,ne,nf,d⟩:=I.pin p hp
   exact⟨(hs.2 p.1 ne).trans e,n,ne,nf,d⟩
 ·have hfn:X.fn x=true:=by
   rcases hf with z | z
   ·exact z
   ·rw[z] at hk; cases hk
  obtain⟨c,hc⟩:=I.ok.has x (.inl hk)
  obtain⟨w',z⟩:=I.cell x c hc
  refine wpAny_storeName_cell I.ok.kind hk hc z (fun h' hc' hs=>?_)
  obtain⟨oc,hoc,hocd⟩:=id z
  refine h { s with heap:=h'} ⟨I.ok,I.os,I.bare,⟨fun b o e n hb hx=>?_,fun b o e n hb hx=>?_,I.base.free,fun b o e hx=>?_,I.base.tups,I.base.frzs,I.base.tbls⟩,⟨m,hn.sameBut hs (dZ (cne x c hc)),fun j y v' e1 e2 e3=>?_⟩,fun y c' e=>?_,I.free,I.freeC,fun p hp=>?_,tracked ⟨oc,hoc,I.freeC x c hc⟩ hs,by simpa using I.len⟩ ⟨c,hs, .inr hc⟩
  ·exact(hs.2 b (aV (aS (aE e) (I.ok.cab x c hfn hc)))).trans (I.base.keep b o e n hb hx)
  ·obtain⟨sl,e1⟩:=I.base.slot b o e n hb hx
   exact⟨sl,(hs.2 b (aV (aS (aE e) (I.ok.cab x c hfn hc)))).trans e1⟩
  ·obtain⟨o',e1⟩:=I.base.there b o e hx
   exact⟨o',(hs.2 b (aV (aS (aE e) (I.ok.cab x c hfn hc)))).trans e1⟩
  ·by_cases hj:j=i
   ·subst hj
    rw[hi] at e1; cases e1
    rw[iS hiσ] at e2
    cases e2
    exact⟨u,r, .inr ⟨.inl hk,c,hc,hc'⟩⟩
   ·rw[jk (dZ hj)] at e2
    obtain⟨u',r',q⟩:=hl j y v' e1 e2 e3
    refine⟨u',r',?_⟩
    rcases q with q | ⟨k,c',e,z'⟩
    ·exact .inl q
    ·refine .inr ⟨k,c',e,z'.sameBut hs ?_⟩
     rintro rfl
     exact hj (jIR hN e1 (I.ok.inj _ _ _ e hc ▸ hi))
  ·by_cases hcc:c'=c
   ·subst hcc; exact⟨_,hc'⟩
   ·obtain⟨w2,z2⟩:=I.cell y c' e
    exact⟨w2,z2.sameBut hs hcc⟩
  ·obtain⟨e,n,ne,nf,d⟩:=I.pin p hp
   refine⟨(hs.2 p.1 ?_).trans e,n,ne,nf,d⟩
   intro q
   rw[q,hoc] at e
   have q':oc=p.2:=br e
   exact d w' (by rw[<- q']; exact hocd)
theorem jEP {M:Model}{A:Around}{E:Value->Shared->Prop}{i:Nat}{x:Str}{v:V}{u:Value}{Q:Unit->Shared->Prop}(I:Inv X ad σ H s)(hN:X.N.Nodup)(hi:X.N[i]?=some x)(hx:Loc X.env.scope x)(r:RelV v u)
  (h:∀ s',Inv X ad (σ.set i (some v)) H s'->Q () s') (hf:X.fn x=true\/X.env.scope.names.lookup x=some .local:=by first | exact .inl rfl | exact .inr rfl | assumption):wpAny M A (storeName X.env x u) Q E s:=
 jFY I hN hi hx r (fun s' I' _=>h s' I') hf
theorem Inv.call' {s':Shared}{ch:List Addr}(I:Inv X ad σ H s)(ho:s'.os=s.os)(u:Un (frs X.stack) ch H H' s.heap s'.heap)(hok:HOk X.prog X.w H' s'.heap)(hg:AllBare s'.gens)
  (hch:∀ b∈ch,(b∈X.ex\/X.s₀.heap.objs.size<=b)/\b≠X.env.locals/\(∀ x c,X.env.cells.lookup x=some c->c≠b)/\∀ p∈X.pn++ad,p.1≠b):Inv X ad σ H' s':=by
 obtain⟨h',g',d',t',o'⟩:=s'
 have e:o'=s.os:=ho
 subst e
 exact I.call (g':=g') (t':=t') (d':=d') u hok hg hch
end
abbrev XK:=Value->Option Addr->Hp->Prop
abbrev St:=List (Option V)
abbrev VK:=V->Hp->Prop
abbrev TE:=St->Hp->VK->Prop
abbrev TT:=St->Hp->(Bool->Hp->Prop)->Prop
abbrev TA:=St->Hp->(List V->Hp->Prop)->Prop
structure Ends where
 nx:St->Hp->Prop
 rt:VK
 bk:St->Hp->Prop:=fun _ _=>False
 ct:St->Hp->Prop:=fun _ _=>False
abbrev TS:=Ends->St->Hp->Prop
def EP (X:Cx)(ad:List (Addr×Obj))(σ:St)(Q:VK)(u:Value)(s':Shared):Prop:=∃ v H',Inv X ad σ H' s'/\RelV v u/\Q v H'
def TP (X:Cx)(ad:List (Addr×Obj))(σ:St)(Q:Bool->Hp->Prop)(b:Bool)(s':Shared):Prop:=∃ H',Inv X ad σ H' s'/\Q b H'
def AP (X:Cx)(ad:List (Addr×Obj))(σ:St)(Q:List V->Hp->Prop)(us:List Value)(s':Shared):Prop:=∃ vs H',Inv X ad σ H' s'/\Vals vs us/\Q vs H'
def SP (X:Cx)(ad:List (Addr×Obj))(D:Ends)(f:Flow)(s':Shared):Prop:=
 match f with
 | .next=>∃ σ' H',Inv X ad σ' H' s'/\D.nx σ' H'
 | .brk=>∃ σ' H',Inv X ad σ' H' s'/\D.bk σ' H'
 | .cont=>∃ σ' H',Inv X ad σ' H' s'/\D.ct σ' H'
 | .ret u=>∃ v σ' H',Inv X ad σ' H' s'/\RelV v u/\D.rt v H'
def PE (X:Cx)(e:Expr)(t:TE):Prop:=
 ∀ (ad:List (Addr×Obj)) (s:Shared) (σ:St) (H:Hp) (Q:VK),Inv X ad σ H s->t σ H Q->wpAny (model X.prog X.w) X.A (eval e X.env) (EP X ad σ Q) X.xe s
def PT (X:Cx)(e:Expr)(t:TT):Prop:=
 ∀ (ad:List (Addr×Obj)) (s:Shared) (σ:St) (H:Hp) (Q:Bool->Hp->Prop),Inv X ad σ H s->t σ H Q->wpAny (model X.prog X.w) X.A (isTrue e X.env (eval e X.env)) (TP X ad σ Q) X.xe s
def PW (X:Cx)(e:Expr)(t:TT):Prop:=
 ∀ (whole:Sem Value) (ad:List (Addr×Obj)) (s:Shared) (σ:St) (H:Hp) (Q:Bool->Hp->Prop),Inv X ad σ H s->t σ H Q->wpAny (model X.prog X.w) X.A (isTrue e X.env whole) (TP X ad σ Q) X.xe s
theorem PW.pt {X:Cx}{e:Expr}{t:TT}(h:PW X e t):PT X e t:=h _
def PA (X:Cx)(es:List Expr)(t:TA):Prop:=
 ∀ (pos:Pos) (ad:List (Addr×Obj)) (s:Shared) (σ:St) (H:Hp) (Q:List V->Hp->Prop),Inv X ad σ H s->t σ H Q->wpAny (model X.prog X.w) X.A (spliced (backTo pos (starEach es X.env))) (AP X ad σ Q) X.xe s
def PS (X:Cx)(st:Stmt)(t:TS):Prop:=
 ∀ (ad:List (Addr×Obj)) (s:Shared) (σ:St) (H:Hp) (D:Ends),Inv X ad σ H s->t D σ H->wpAny (model X.prog X.w) X.A (exec st X.env) (SP X ad D) X.xe s
def PSs (X:Cx)(st:List Stmt)(t:TS):Prop:=
 ∀ (ad:List (Addr×Obj)) (s:Shared) (σ:St) (H:Hp) (D:Ends),Inv X ad σ H s->t D σ H->wpAny (model X.prog X.w) X.A (execs st X.env) (SP X ad D) X.xe s
theorem lC {α:Type}{t:Sem α}{Q Q':α->Shared->Prop}{M:Model}{A:Around}{E:Value->Shared->Prop}{s:Shared}(h:wpAny M A t Q E s)(hQ:∀ a s,Q a s->Q' a s):wpAny M A t Q' E s:=bX h hQ fun _ _ x=>x
variable {b:Expr}{ta tb:TE}{pos:Pos}
section
def tVar (i:Nat):TE:=fun σ H Q=>∃ v,σ[i]?=some (some v)/\Q v H
def tC (v:V):TE:=fun _ H Q=>Q v H
theorem jL3 {i:Nat}{x:Str}{pos:Pos}(hN:X.N[i]?=some x)(hv:Vis X.env.scope x)(hd:(x==("__debug__" :Str))=false:=by decide)(hcd:(x==("__classdict__" :Str))=false:=by decide):PE X (.Name x pos) (tVar i):=by
 intro ad s σ H Q I h
 obtain⟨v,e,h⟩:=h
 obtain⟨m,hn,hl⟩:=I.loc
 obtain⟨u,r,l⟩:=hl i x v hN e hv
 have fin:EP X ad σ Q u s:=⟨v,H,I,r,h⟩
 rcases l with ⟨hk,hm⟩ | ⟨hk,c,hc,hcell⟩
 ·exact wpAny_Name (wpAny_loadName_local I.ok.kind hk hn hm fin) hd
 ·rcases hk with hk | hk
  ·exact wpAny_Name (wpAny_loadName_cell I.ok.kind hk hc hcell fin) hd
  ·exact wpAny_Name (wpAny_loadName_free I.ok.kind hk hc hcell fin hcd) hd
theorem jP {i j pos} :PE X (.Constant (.int i) j pos) (tC (.int i)):=fun _ _ _ H _ I h=>wpAny_Constant_int ⟨.int i,H,I.tok _,⟨_,rfl⟩,h⟩
theorem pe_bl {b j pos} :PE X (.Constant (.bool b) j pos) (tC (.bl b)):=fun _ _ _ H _ I h=>Constant_bool ⟨.bl b,H,I,rfl,h⟩
theorem jSP {x j pos} :PE X (.Constant (.str x) j pos) (tC (.str x)):=fun _ _ _ H _ I h=>Calls.Constant_str ⟨.str x,H,I.tok _,⟨_,rfl⟩,h⟩
def Gl (X:Cx)(x:Str):Prop:=X.env.kindOf x=some .globalImplicit
theorem jR6 {E:Value->Shared->Prop}{ad:List (Addr×Obj)}{s:Shared}{σ:St}{H:Hp}{x:Str}{u:Value}{pos:Pos}{Q:Value->Shared->Prop}(I:Inv X ad σ H s)(hg:Gl X x)(hm:X.mg x=some u)(h:Q u s)
  (hd:(x==("__debug__" :Str))=false:=by decide):wpAny (model X.prog X.w) X.A (eval (.Name x pos) X.env) Q E s:=
 g4 I.ok.kind hg (Calls.loadGlobal_global (by rw[I.ok.glob]; exact I.mod.glob.keeps I.bk) hm h) hd
theorem jBV {E:Value->Shared->Prop}{ad:List (Addr×Obj)}{s:Shared}{σ:St}{H:Hp}{x:Str}{u:Value}{pos:Pos}{Q:Value->Shared->Prop}(I:Inv X ad σ H s)(hg:Gl X x)(hm:X.mg x=none)(hv:bootBuiltins x=some u)(h:Q u s)
  (hn:x≠ "__name__" :=by decide) (hd:(x==("__debug__" :Str))=false:=by decide):wpAny (model X.prog X.w) X.A (eval (.Name x pos) X.env) Q E s:=by
 obtain⟨mb,h1,h2⟩:=I.mod.blt
 exact g4 I.ok.kind hg (Calls.loadGlobal_builtin (by rw[I.ok.glob]; exact I.mod.glob.keeps I.bk) hm (by rw[I.ok.blt]; exact h1.keeps I.bk) ((h2 x hn).trans hv) h) hd
theorem jQM {x:Str}{v:V}{u:Value}{pos:Pos}(hg:Gl X x)(hm:X.mg x=none)(hv:bootBuiltins x=some u)(r:RelV v u)(hn:x≠ "__name__" :=by decide)(hd:(x==("__debug__" :Str))=false:=by decide):PE X (.Name x pos) (tC v):=
 fun _ _ _ H _ I h=>jBV I hg hm hv ⟨v,H,I,r,h⟩ hn hd
variable {a:Expr}
def PC (X:Cx)(op:CmpOp)(a b:Expr)(t:TE):Prop:=
 ∀ (ad:List (Addr×Obj)) (s:Shared) (σ:St) (H:Hp) (Q:VK),Inv X ad σ H s->t σ H Q->
  wpAny (model X.prog X.w) X.A (eval a X.env) (fun v s₁=>wpAny (model X.prog X.w) X.A (eval b X.env) (fun u s₂=>wpAny (model X.prog X.w) X.A (compareOp op v u) (EP X ad σ Q) X.xe s₂) X.xe s₁) X.xe s
def tB (t:TE):TT:=fun σ H Q=>t σ H fun x H1=>∃ c,x= .bl c/\Q c H1
theorem jSH {op:CmpOp}{t:TE}(h:PC X op a b t)(h1:behindInMarks op b=false:=by first | exact nobehind _ (by decide) (by decide) | rfl):PT X (.Compare a [op] [b] pos) (tB t):=by
 intro ad s σ H Q I hw
 refine wpAny_isTrue_Compare1 (lC (h ad s σ H _ I hw) fun v s1 h1=>lC h1 fun u s2 h2=>lC h2 fun c s3 ⟨x,H1,I1,r1,q1⟩=>?_) h1
 obtain⟨d,rfl,q⟩:=q1
 cases r1
 exact fc ⟨H1,I1,q⟩
theorem jSF {e:Expr}{t:TE}(h:PE X e t)(he:∀ whole,isTrue e X.env whole=(do let v <- whole; standAt e.pos; holding [v] (truthy v)):=by intro _; rfl):PT X e (tB t):=by
 intro ad s σ H Q I hw
 refine isTrue_plain (lC (h ad s σ H _ I hw) fun v s1 ⟨x,H1,I1,r1,q1⟩=>?_) (he _)
 obtain⟨d,rfl,q⟩:=q1
 cases r1
 exact fc ⟨H1,I1,q⟩
variable {tA tB':TT}{rest:List Expr}
def tAnd (t u:TT):TT:=fun σ H Q=>t σ H fun c H1=>if c=true then u σ H1 Q else Q false H1
def tOr (t u:TT):TT:=fun σ H Q=>t σ H fun c H1=>if c=true then Q true H1 else u σ H1 Q
def tNot (t:TT):TT:=fun σ H Q=>t σ H fun c H1=>Q (!c) H1
theorem jQ2 (ha:PT X a tA):PW X (.BoolOp .And [a] pos) tA:=by
 intro wh ad s σ H Q I h
 refine isTrue_and (lC (ha ad s σ H Q I h) fun c s1 e=>?_)
 cases c with
 | true=>exact isTrue_and_nil e
 | false=>exact e
theorem jSC (ha:PT X a tA):PW X (.BoolOp .Or [a] pos) tA:=by
 intro wh ad s σ H Q I h
 refine isTrue_or (lC (ha ad s σ H Q I h) fun c s1 e=>?_)
 cases c with
 | false=>exact isTrue_or_nil e
 | true=>exact e
theorem jSE (ha:PT X a tA)(hb:PW X (.BoolOp .And (b::rest) pos) tB'):PW X (.BoolOp .And (a::b::rest) pos) (tAnd tA tB'):=by
 intro wh ad s σ H Q I h
 refine isTrue_and (lC (ha ad s σ H _ I h) fun c s1 ⟨H1,I1,q1⟩=>?_)
 cases c with
 | true=>exact hb wh ad s1 σ H1 Q I1 q1
 | false=>exact⟨H1,I1,q1⟩
theorem pw_or (ha:PT X a tA)(hb:PW X (.BoolOp .Or (b::rest) pos) tB'):PW X (.BoolOp .Or (a::b::rest) pos) (tOr tA tB'):=by
 intro wh ad s σ H Q I h
 refine isTrue_or (lC (ha ad s σ H _ I h) fun c s1 ⟨H1,I1,q1⟩=>?_)
 cases c with
 | true=>exact⟨H1,I1,q1⟩
 | false=>exact hb wh ad s1 σ H1 Q I1 q1
theorem jSG (ha:PT X a tA):PT X (.UnaryOp .Not a pos) (tNot tA):=by
 intro ad s σ H Q I h
 exact isTrue_not (ha ad s σ H (fun c H1=>Q (!c) H1) I h)
def tAndV (ta tb:TE):TE:=fun σ H Q=>ta σ H fun x H1=>∃ c,x= .bl c/\if c=true then tb σ H1 Q else Q (.bl false) H1
def tNotV (ta:TE):TE:=fun σ H Q=>ta σ H fun x H1=>∃ c,x= .bl c/\Q (.bl (!c)) H1
theorem jSQ {op}{t:TE}(h:PE X a t):PE X (.BoolOp op [a] pos) t:=fun ad s σ H Q I hw=>BoolOp_one (h ad s σ H Q I hw)
theorem jSU (ha:PE X a ta)(hb:PE X (.BoolOp .And (b::rest) pos) tb):PE X (.BoolOp .And (a::b::rest) pos) (tAndV ta tb):=by
 intro ad s σ H Q I h
 refine BoolOp_and (lC (ha ad s σ H _ I h) fun v s1 ⟨x,H1,I1,r1,q1⟩=>?_)
 obtain⟨c,rfl,q1⟩:=q1
 cases r1
 refine fc ?_
 cases c with
 | true=>exact hb ad s1 σ H1 Q I1 q1
 | false=>exact⟨.bl false,H1,I1,rfl,q1⟩
theorem jSR (ha:PE X a ta):PE X (.UnaryOp .Not a pos) (tNotV ta):=by
 intro ad s σ H Q I h
 refine UnaryOp_ (lC (ha ad s σ H _ I h) fun v s1 ⟨x,H1,I1,r1,q1⟩=>?_)
 obtain⟨c,rfl,q1⟩:=q1
 cases r1
 exact not_of (fc ⟨.bl (!c),H1,I1,rfl,q1⟩)
def tIf (t:TT)(ta tb:TE):TE:=fun σ H Q=>t σ H fun c H1=>if c=true then ta σ H1 Q else tb σ H1 Q
theorem jNR {c:Expr}(hc:PT X c tA)(ha:PE X a ta)(hb:PE X b tb):PE X (.IfExp c a b pos) (tIf tA ta tb):=by
 intro ad s σ H Q I h
 refine wpAny_IfExp (lC (hc ad s σ H _ I h) fun d s1 ⟨H1,I1,q1⟩=>?_)
 cases d with
 | true=>exact ha ad s1 σ H1 Q I1 q1
 | false=>exact hb ad s1 σ H1 Q I1 q1
end
def SqL (K:W.Frag)(H:Hp)(a:Addr)(xs:List V):Prop:=
 Rd H a (.lst xs)\/
  ∃ (o:Obj) (its:Array Value) (n:Nat),K.lookup a=some o/\o.cls= .type "list" /\o.dict=none/\o.data= .seq its n/\its.size<=sizeLine/\Vals xs its.toList
def SqT (K:W.Frag)(H:Hp)(a:Addr)(xs:List V):Prop:=
 Rd H a (.tup xs)\/
  ∃ (o:Obj) (its:Array Value) (n:Nat),K.lookup a=some o/\o.cls= .type "tuple" /\o.data= .seq its n/\its.size<=sizeLine/\Vals xs its.toList
noncomputable def absV:Value->Option V
 | .none=>some .non
 | .bool b=>some (.bl b)
 | .int i _=>some (.int i)
 | .str x _=>some (.str x)
 | .bytes b _=>some (.byt b)
 | .float b _=>some (.flt b)
 | .ref a=>some (.ref a)
 | .type n=>some (.ty n)
 | _=>none
theorem RelV.abs {x:V}{u:Value}(r:RelV x u):absV u=some x:=by
 cases x with
 | non=>cases r; rfl
 | bl _=>cases r; rfl
 | int _=>obtain⟨t,rfl⟩:=r; rfl
 | str _=>obtain⟨t,rfl⟩:=r; rfl
 | byt _=>obtain⟨t,rfl⟩:=r; rfl
 | flt _=>obtain⟨t,rfl⟩:=r; rfl
 | ref _=>cases r; rfl
 | ty _=>cases r; rfl
theorem RelV.inj {x y:V}{u:Value}(r:RelV x u)(q:RelV y u):x=y:=br (r.abs.symm.trans q.abs)
theorem Vals.inj:∀ {xs ys:List V}{us:List Value},Vals xs us->Vals ys us->xs=ys
 | _,_,_, .nil, .nil=>rfl
 | _,_,_, .cons r t, .cons r' t'=>by rw[r.inj r',Vals.inj t t']
section
variable {σ:St}{xs ys:List V}
theorem SqL.of {K:W.Frag}(h:H a=some (.lst xs)):SqL K H a xs:= .inl (.inl h)
theorem SqT.of {K:W.Frag}(h:H a=some (.tup xs)):SqT K H a xs:= .inl (.inl h)
theorem Inv.list (I:Inv X ad σ H s)(h:SqL X.K H a xs):∃ its:List Value,Vals xs its/\PlainL s.heap a its.toArray/\xs.length<=sizeLine:=by
 rcases h with h | ⟨o,its,n,hk,hc,hd,hs,hz,r⟩
 ·obtain⟨z,its,n,r,e⟩:=h.ok I.hok
  exact⟨its,r,⟨_,n,e,rfl,rfl,rfl⟩,z⟩
 ·refine⟨its.toList,r,⟨o,n,I.kIn a o hk,hc,hd,by simpa using hs⟩,?_⟩
  have e:=r.length
  simp only [aR] at e
  lia
theorem Inv.tuple (I:Inv X ad σ H s)(h:SqT X.K H a xs):∃ its:List Value,Vals xs its/\IsTup s.heap a its.toArray/\xs.length<=sizeLine:=by
 rcases h with h | ⟨o,its,n,hk,hc,hs,hz,r⟩
 ·obtain⟨z,its,r,p⟩:=h.ok I.hok
  exact⟨its,r,p.isTup,z⟩
 ·refine⟨its.toList,r,⟨o,I.kIn a o hk,hc,n,by simpa using hs⟩,?_⟩
  have e:=r.length
  simp only [aR] at e
  lia
theorem Inv.list_inj (I:Inv X ad σ H s)(h:SqL X.K H a xs)(h':SqL X.K H a ys):xs=ys:=by
 obtain⟨its,r,⟨o,n,e,_,_,d⟩,_⟩:=I.list h
 obtain⟨its',r',⟨o',n',e',_,_,d'⟩,_⟩:=I.list h'
 rw[e] at e'; cases e'
 rw[d] at d'
 injection d' with d1 _
 have:its=its':=by simpa using bA Array.toList d1
 subst this
 exact r.inj r'
theorem Inv.tuple_inj (I:Inv X ad σ H s)(h:SqT X.K H a xs)(h':SqT X.K H a ys):xs=ys:=by
 obtain⟨its,r,⟨o,e,_,n,d⟩,_⟩:=I.tuple h
 obtain⟨its',r',⟨o',e',_,n',d'⟩,_⟩:=I.tuple h'
 rw[e] at e'; cases e'
 rw[d] at d'
 injection d' with d1 _
 have:its=its':=by simpa using bA Array.toList d1
 subst this
 exact r.inj r'
end
abbrev Cx.wish (X:Cx)(E:Value->Shared->Prop):Cx:= { X with xe:=E}
abbrev Cx.nox (X:Cx):Cx:=X.wish fun _ _=>False
theorem Cx.Ok.wish {X:Cx}(ok:X.Ok)(E:Value->Shared->Prop):(X.wish E).Ok:=
 ⟨ok.mod,ok.kind,ok.glob,ok.blt,ok.above,ok.inj,ok.has,ok.cab,ok.hd,ok.frames,ok.stk,ok.exf,ok.bs,ok.bsz,ok.noex,ok.exfs,ok.funs,ok.frf⟩
theorem Cx.Ok.unwish {X:Cx}{E:Value->Shared->Prop}(ok:(X.wish E).Ok):X.Ok:=
 ⟨ok.mod,ok.kind,ok.glob,ok.blt,ok.above,ok.inj,ok.has,ok.cab,ok.hd,ok.frames,ok.stk,ok.exf,ok.bs,ok.bsz,ok.noex,ok.exfs,ok.funs,ok.frf⟩
variable {E:Value->Shared->Prop}
section
variable {σ:St}
theorem Inv.wish (I:Inv X ad σ H s)(E:Value->Shared->Prop):Inv (X.wish E) ad σ H s:=⟨I.ok.wish E,I.os,I.bare,I.base,I.loc,I.cell,I.free,I.freeC,I.pin,I.hok,I.len⟩
theorem Inv.unwish (I:Inv (X.wish E) ad σ H s):Inv X ad σ H s:=⟨I.ok.unwish,I.os,I.bare,I.base,I.loc,I.cell,I.free,I.freeC,I.pin,I.hok,I.len⟩
theorem SP.unwish {D:Ends}{f:Flow}{s':Shared}(h:SP (X.wish E) ad D f s'):SP X ad D f s':=by
 cases f with
 | next=>obtain⟨σ',H',I,q⟩:=h; exact⟨σ',H',I.unwish,q⟩
 | brk=>obtain⟨σ',H',I,q⟩:=h; exact⟨σ',H',I.unwish,q⟩
 | cont=>obtain⟨σ',H',I,q⟩:=h; exact⟨σ',H',I.unwish,q⟩
 | ret u=>obtain⟨v,σ',H',I,r,q⟩:=h; exact⟨v,σ',H',I.unwish,r,q⟩
theorem PSs.nox {st:List Stmt}{t:TS}(h:PSs X.nox st t):PSs X st t:=fun ad s σ H D I hw=>
 bX (h ad s σ H D (I.wish _) hw) (fun _ _ q=>q.unwish) fun _ _ z=>False.elim z
end
variable {e:Expr}{te:TE}
section
variable {st:Stmt}{rest:List Stmt}{t u:TS}
def tNext:TS:=fun D σ H=>D.nx σ H
def tSeq (t u:TS):TS:=fun D σ H=>t { D with nx:=u D} σ H
theorem jEY:PSs X [] tNext:=fun _ _ σ H _ I h=>gI ⟨σ,H,I,h⟩
theorem kR (h1:PS X st t)(h2:PSs X rest u):PSs X (st::rest) (tSeq t u):=by
 intro ad s σ H D I h
 refine wpAny_execs_cons (lC (h1 ad s σ H { D with nx:=u D} I h) fun f s1 q=>?_)
 cases f with
 | next=>
  obtain⟨σ',H',I',q⟩:=q
  exact h2 ad s1 σ' H' D I' q
 | ret v=>exact q
 | brk=>exact q
 | cont=>exact q
theorem jAT (h1:PS X st t):PSs X [st] t:=by
 intro ad s σ H D I h
 refine wpAny_execs_cons (lC (h1 ad s σ H D I h) fun f s1 q=>?_)
 cases f with
 | next=>exact gI q
 | ret v=>exact q
 | brk=>exact q
 | cont=>exact q
def jS5:TS:=fun D σ H=>D.bk σ H
theorem jNN:PS X (.Break pos) jS5:=fun _ _ σ H _ I h=>wpAny_Break ⟨σ,H,I,h⟩
theorem Inv.quiet {ad:List (Addr×Obj)}{σ:St}{H:Hp}{s:Shared}(I:Inv X ad σ H s):interactive X.env=false:=by simp [interactive,I.ok.kind]
def tDrop (te:TE):TS:=fun D σ H=>te σ H fun _ H1=>D.nx σ H1
theorem jQ5 (he:PE X e te)(hs:swapsWith e none pos.line X.env=pure false:=by rfl):PS X (.Expr e pos) (tDrop te):=by
 intro ad s σ H D I h
 exact wpAny_Expr_any (lC (he ad s σ H _ I h) fun v s1 ⟨x,H1,I1,r1,q1⟩=>⟨σ,H1,I1,q1⟩) I.quiet hs
def tRet (te:TE):TS:=fun D σ H=>te σ H D.rt
theorem jCV (he:PE X e te):PS X (.Return (some e) pos) (tRet te):=by
 intro ad s σ H D I h
 exact wpAny_Return_some (lC (he ad s σ H _ I h) fun v s1 ⟨x,H1,I1,r1,q1⟩=>⟨x,σ,H1,I1,r1,q1⟩)
def tIfS (c:TT)(t u:TS):TS:=fun D σ H=>c σ H fun b H1=>if b=true then t D σ H1 else u D σ H1
theorem ps_if {c:Expr}{a b:List Stmt}{tc:TT}(hc:PT X c tc)(ha:PSs X a t)(hb:PSs X b u):PS X (.If c a b pos) (tIfS tc t u):=by
 intro ad s σ H D I h
 refine wpAny_If (lC (hc ad s σ H _ I h) fun d s1 ⟨H1,I1,q1⟩=>?_)
 cases d with
 | true=>exact ha ad s1 σ H1 D I1 q1
 | false=>exact hb ad s1 σ H1 D I1 q1
end
abbrev TG:=V->St->Hp->(St->Hp->Prop)->Prop
abbrev TGs:=List V->St->Hp->(St->Hp->Prop)->Prop
def PG (X:Cx)(target:Expr)(t:TG):Prop:=
 ∀ (ad:List (Addr×Obj)) (s:Shared) (σ:St) (H:Hp) (v:V) (u:Value) (Q:St->Hp->Prop),Inv X ad σ H s->RelV v u->t v σ H Q->
  wpAny (model X.prog X.w) X.A (assign target X.env u) (fun _ s'=>∃ σ' H',Inv X ad σ' H' s'/\Q σ' H') X.xe s
def PGs (X:Cx)(ts:List Expr)(t:TGs):Prop:=
 ∀ (ad:List (Addr×Obj)) (s:Shared) (σ:St) (H:Hp) (vs:List V) (us:List Value) (Q:St->Hp->Prop),Inv X ad σ H s->Vals vs us->t vs σ H Q->
  wpAny (model X.prog X.w) X.A (assignInOrder ((assignEach ts X.env).map (·.2)) us) (fun _ s'=>∃ σ' H',Inv X ad σ' H' s'/\Q σ' H') X.xe s
abbrev TSet:=V->V->V->Hp->(Hp->Prop)->Prop
def PSet (X:Cx)(t:TSet):Prop:=
 ∀ (ad:List (Addr×Obj)) (s:Shared) (σ:St) (H:Hp) (o i v:V) (ov iv u:Value) (Q:Hp->Prop),Inv X ad σ H s->RelV o ov->RelV i iv->RelV v u->t o i v H Q->
  wpAny (model X.prog X.w) X.A (setItem ov iv u) (fun _ s'=>∃ H',Inv X ad σ H' s'/\Q H') X.xe s
abbrev TIp:=V->V->Hp->VK->Prop
def PIp (X:Cx)(op:Operator)(t:TIp):Prop:=
 ∀ (ad:List (Addr×Obj)) (s:Shared) (σ:St) (H:Hp) (x y:V) (v u:Value) (Q:VK),Inv X ad σ H s->RelV x v->RelV y u->t x y H Q->
  wpAny (model X.prog X.w) X.A (inplaceOp op v u) (EP X ad σ Q) X.xe s
def kQ (i:Nat):TG:=fun v σ H Q=>Q (σ.set i (some v)) H
theorem jEZ {i:Nat}{x:Str}(hN:X.N.Nodup)(hi:X.N[i]?=some x)(hx:Loc X.env.scope x)(hf:X.fn x=true\/X.env.scope.names.lookup x=some .local:=by first | exact .inl rfl | exact .inr rfl | assumption):PG X (.Name x pos) (kQ i):=by
 intro ad s σ H v u Q I r h
 exact wpAny_assign_Name (jEP I hN hi hx r (fun s' I'=>⟨_,H,I',h⟩) hf)
def gNil:TGs:=fun vs σ H Q=>vs=[]/\Q σ H
def qH (t:TG)(u:TGs):TGs:=fun vs σ H Q=>∃ v r,vs=v::r/\t v σ H fun σ' H'=>u r σ' H' Q
theorem jQE:PGs X [] gNil:=by
 intro ad s σ H vs us Q I r h
 obtain⟨e,h⟩:=h
 subst e
 cases r
 exact assignInOrder_nil ⟨σ,H,I,h⟩
theorem jNP {e:Expr}{es:List Expr}{t:TG}{u:TGs}(h1:PG X e t)(h2:PGs X es u)
  (hs:(assignEach (e::es) X.env).map (·.2)=assign e X.env::(assignEach es X.env).map (·.2):=by rfl):PGs X (e::es) (qH t u):=by
 intro ad s σ H vs us Q I r h
 obtain⟨v,vr,e1,h⟩:=h
 subst e1
 cases r with
 | cons r rr=>
  rw[hs]
  refine assignInOrder_cons (lC (h1 ad s σ H _ _ _ I r h) fun _ s1 ⟨σ1,H1,I1,q1⟩=>?_)
  exact h2 ad s1 σ1 H1 _ _ Q I1 rr q1
def gTup (K:W.Frag)(n:Nat)(t:TGs):TG:=fun v σ H Q=>∃ a xs,v= .ref a/\SqT K H a xs/\xs.length=n/\t xs σ H Q
theorem jSN {es:List Expr}{k:Nat}{t:TGs}{n:Nat}(hc:X.calm=true)(h:PGs X es t)
  (hn:(assignEach es X.env).length=n:=by rfl) (hst:(assignEach es X.env).findIdx? (·.1)=none:=by rfl):PG X (.Tuple es k pos) (gTup X.K n t):=by
 intro ad s σ H v u Q I r hw
 obtain⟨a,xs,e1,hq,hl,hw⟩:=hw
 subst e1
 cases r
 obtain⟨its,rv,ht,hz⟩:=I.tuple hq
 refine assign_Tuple_tuple (I.ok.hd hc) ht (by simp [hn,<- hl,rv.length]) hst fun h' hx=>?_
 have I1:Inv X ad σ H { s with heap:=h'} :=I.kept (t':=s.toks) fun b o e=>hx b o (aV (aE e)) e
 exact h ad _ σ H xs _ Q I1 (by simpa using rv) hw
def gSub (to ti:TE)(t:TSet):TG:=fun v σ H Q=>to σ H fun o H1=>ti σ H1 fun i H2=>t o i v H2 fun H3=>Q σ H3
theorem jP2 {o i:Expr}{to ti:TE}{t:TSet}(ho:PE X o to)(hi:PE X i ti)(hs:PSet X t)
  (ha:∀ v,assign (.Subscript o i pos) X.env v=(do
   let ov <- holding [v] (eval o X.env)
   let iv <- holding [v,ov] (eval i X.env)
   standAt pos
   holding [v,ov,iv] (setItem ov iv v)
   release [v,ov,iv] []):=by intro _; rfl):PG X (.Subscript o i pos) (gSub to ti t):=by
 intro ad s σ H v u Q I r h
 rw[ha]
 refine aa (cI (lC (ho ad s σ H _ I h) fun ov s1 ⟨x,H1,I1,r1,q1⟩=>?_))
 refine aa (cI (lC (hi ad s1 σ H1 _ I1 q1) fun iv s2 ⟨y,H2,I2,r2,q2⟩=>?_))
 refine aa (iF (aa (cI (lC (hs ad s2 σ H2 x y v ov iv u _ I2 r1 r2 r q2) fun _ s3 ⟨H3,I3,q3⟩=>?_))))
 exact wpAny_release ⟨σ,H3,I3,q3⟩
def tAsg (te:TE)(g:TG):TS:=fun D σ H=>te σ H fun x H1=>g x σ H1 D.nx
theorem jP1 {tg e:Expr}{te:TE}{g:TG}(he:PE X e te)(hg:PG X tg g)(hs:swapsWithSole [tg] e pos.line X.env=pure false:=by rfl)(hw:swappedStores [tg] e X.env=pure none:=by rfl)
  (h1:(assignEach [tg] X.env).map (·.2)=[assign tg X.env]:=by rfl):PS X (.Assign [tg] e pos) (tAsg te g):=by
 intro ad s σ H D I h
 refine wpAny_Assign_stores (lC (he ad s σ H _ I h) fun v s1 ⟨x,H1,I1,r1,q1⟩=>?_) hs hw
 rw[h1]
 exact lC (hg ad s1 σ H1 x v _ I1 r1 q1) fun _ s2 q=>q
theorem yV {i:Nat}{x:Str}{e:Expr}{te:TE}{pos':Pos}(hN:X.N.Nodup)(hi:X.N[i]?=some x)(hx:Loc X.env.scope x)(he:PE X e te)(hs:swapsWith e (some (.Name x pos')) pos.line X.env=pure false:=by rfl)(hf:X.fn x=true\/X.env.scope.names.lookup x=some .local:=by first | exact .inl rfl | exact .inr rfl | assumption):
  PS X (.Assign [.Name x pos'] e pos) (tAsg te (kQ i)):=by
 intro ad s σ H D I h
 refine wpAny_Assign_Name (lC (he ad s σ H _ I h) fun v s1 ⟨y,H1,I1,r1,q1⟩=>?_) hs
 exact jEP I1 hN hi hx r1 (fun s2 I2=>⟨_,H1,I2,q1⟩) hf
def tAug (i:Nat)(te:TE)(ti:TIp):TS:=fun D σ H=>∃ x,σ[i]?=some (some x)/\te σ H fun y H1=>ti x y H1 fun z H2=>D.nx (σ.set i (some z)) H2
theorem jSI {i:Nat}{x:Str}{e:Expr}{te:TE}{op:Operator}{ti:TIp}{pos':Pos}(hN:X.N.Nodup)(hi:X.N[i]?=some x)(hx:Loc X.env.scope x)(he:PE X e te)(ho:PIp X op ti)(hf:X.fn x=true\/X.env.scope.names.lookup x=some .local:=by first | exact .inl rfl | exact .inr rfl | assumption):
  PS X (.AugAssign (.Name x pos') op e pos) (tAug i te ti):=by
 intro ad s σ H D I h
 obtain⟨v,e1,h⟩:=h
 obtain⟨m,hn,hl⟩:=I.loc
 have vis:Vis X.env.scope x:=by rcases hx with k | k; exact .inl k; exact .inr (.inl k)
 obtain⟨u,r,l⟩:=hl i x v hi e1 vis
 refine wpAny_AugAssign_Name ?_
 have go:wpAny (model X.prog X.w) X.A (eval e X.env) (fun w s₂=>wpAny (model X.prog X.w) X.A (inplaceOp op u w) (fun r s₃=>wpAny (model X.prog X.w) X.A (storeName X.env x r) (fun _=>SP X ad D .next) X.xe s₃) X.xe s₂) X.xe s:=by
  refine lC (he ad s σ H _ I h) fun w s1 ⟨y,H1,I1,r1,q1⟩=>?_
  refine lC (ho ad s1 σ H1 v y u w _ I1 r r1 q1) fun z s2 ⟨zv,H2,I2,r2,q2⟩=>?_
  exact jEP I2 hN hi hx r2 (fun s3 I3=>⟨_,H2,I3,q2⟩) hf
 rcases l with ⟨hk,hm⟩ | ⟨hk,c,hc,hcell⟩
 ·exact wpAny_loadName_local I.ok.kind hk hn hm go
 ·rcases hk with hk | hk
  ·exact wpAny_loadName_cell I.ok.kind hk hc hcell go
  ·rcases hx with k | k
   ·have:X.env.scope.names.lookup x=some .free:=hk
    rw[k] at this; cases this
   ·have:X.env.scope.names.lookup x=some .free:=hk
    rw[k] at this; cases this
def ipI (f:Int->Int->Int):TIp:=fun x y H Q=>∃ i j,x= .int i/\y= .int j/\Q (.int (f i j)) H
theorem jTR:PIp X .Add (ipI fun i j=>i+j):=by
 intro ad s σ H x y v u Q I r1 r2 h
 obtain⟨i,j,e1,e2,q⟩:=h
 subst e1; subst e2
 obtain⟨t,rfl⟩:=r1
 obtain⟨t',rfl⟩:=r2
 exact iadd_int ⟨.int _,H,I.tok _,⟨_,rfl⟩,q⟩
theorem jTQ:PIp X .Sub (ipI fun i j=>i - j):=by
 intro ad s σ H x y v u Q I r1 r2 h
 obtain⟨i,j,e1,e2,q⟩:=h
 subst e1; subst e2
 obtain⟨t,rfl⟩:=r1
 obtain⟨t',rfl⟩:=r2
 exact isub_int ⟨.int _,H,I.tok _,⟨_,rfl⟩,q⟩
def jOV (c:TT)(tb:TS):TS:=fun D σ H=>∃ W:Nat->St->Hp->Prop,(∃ m,W m σ H)/\∀ m σ H,W m σ H->
 c σ H fun b H1=>if b=true then ∃ N:St->Hp->Prop,(∀ σ' H',N σ' H'->∃ m',m'<m/\W m' σ' H')/\tb { D with nx:=N,ct:=N,bk:=D.nx} σ H1 else D.nx σ H1
theorem jNM {c:Expr}{body:List Stmt}{tc:TT}{tb:TS}(hp:PassesOwn (model X.prog X.w) X.A X.env X.xe)(hc:PT X c tc)(hb:PSs X body tb):PS X (.While c body [] pos) (jOV tc tb):=by
 intro ad s σ H D I h
 obtain⟨W,⟨m0,w0⟩,turn⟩:=h
 refine wpAny_While (codeAny_whileLoop (fun n s'=>∃ σ' H',Inv X ad σ' H' s'/\W n σ' H') ?_ m0 ⟨σ,H,I,w0⟩)
 rintro n s1 ⟨σ1,H1,I1,w1⟩
 refine dW hp (lC (hc ad s1 σ1 H1 _ I1 (turn n σ1 H1 w1)) fun b s2 ⟨H2,I2,q2⟩=>?_)
 cases b with
 | true=>
  obtain⟨N,hN,q2⟩:=q2
  rw[ak rfl]
  refine dW hp (lC (hb ad s2 σ1 H2 _ I2 q2) fun f s3 q3=>?_)
  cases f with
  | next=>
   obtain⟨σ3,H3,I3,n3⟩:=q3
   obtain⟨m',hm,w3⟩:=hN σ3 H3 n3
   exact⟨m',hm,σ3,H3,I3,w3⟩
  | cont=>
   obtain⟨σ3,H3,I3,n3⟩:=q3
   obtain⟨m',hm,w3⟩:=hN σ3 H3 n3
   exact⟨m',hm,σ3,H3,I3,w3⟩
  | brk=>exact q3
  | ret v=>exact q3
 | false=>
  rw[aj ao]
  exact gI ⟨σ1,H2,I2,q2⟩
structure It where
 go:Nat->Hp->Prop
 yld:Nat->Hp->V->Hp->Prop
 stop:Nat->Hp->Prop
def FpOk (X:Cx)(ad:List (Addr×Obj))(H:Hp)(b:Addr):Prop:=
 H b=none/\b≠X.env.locals/\b∉X.fs/\(b∈X.ex\/X.s₀.heap.objs.size<=b)/\(∀ x c,X.env.cells.lookup x=some c->c≠b)/\∀ p∈X.pn++ad,p.1≠b
theorem Inv.fpOk {X:Cx}{ad:List (Addr×Obj)}{σ:St}{H H':Hp}{s:Shared}{b:Addr}(I:Inv X ad σ H s)(hb:s.heap.objs.size<=b)(hn:H' b=none):FpOk X ad H' b:=by
 refine⟨hn,cK (aS I.lt hb),I.nofs hb, .inr (aX I.sz hb),fun x c e z=>?_,fun p hp z=>?_⟩
 ·obtain⟨v,q⟩:=I.cell x c e
  exact absurd (aS q.lt (by rw[z]; exact hb)) (da _)
 ·exact absurd (aS (aE (I.pin p hp).1) (by rw[z]; exact hb)) (da _)
structure Turn (P:Program)(w:World)(K:W.Frag)(tg:Expr)(J:It)(fp:List Addr)(it:Addr)(tn:Nat->Heap->Prop):Prop where
 mem:it∈fp
 obj:∀ i h,tn i h->∀ b∈fp,∃ o,h.get? b=some o/\∀ v,o.data≠ .cell v
 keep:∀ i h h',tn i h->(∀ b∈fp,∀ o,h.get? b=some o->h'.get? b=some o)->tn i h'
 item:∀ (X:Cx),X.prog=P->X.w=w->X.K=K->X.calm=true->∀ (i:Nat) (ad:List (Addr×Obj)) (s:Shared) (σ:St) (H:Hp) (E:Value->Shared->Prop),Inv X ad σ H s->(∀ b∈fp,FpOk X ad H b)->tn i s.heap->J.go i H->
  wpAny (model P w) X.A (pyNext (.ref it)) (fun r s1=>∃ u,r=some u/\
   wpAny (model P w) X.A (letOwnedTupleGo tg (.ref it) u) (fun _ s2=>∃ x H',Inv X ad σ H' s2/\RelV x u/\J.yld i H x H'/\tn (i+1) s2.heap/\∀ b∈fp,H' b=none) E s1) E s
 done:∀ (X:Cx),X.prog=P->X.w=w->X.K=K->X.calm=true->∀ (i:Nat) (ad:List (Addr×Obj)) (s:Shared) (σ:St) (H:Hp) (E:Value->Shared->Prop),Inv X ad σ H s->(∀ b∈fp,FpOk X ad H b)->tn i s.heap->J.stop i H->
  wpAny (model P w) X.A (pyNext (.ref it)) (fun r s1=>r=none/\Inv X ad σ H s1) E s
 self:∀ (A:Around) (i:Nat) (s:Shared) (Q:Value->Shared->Prop) (E:Value->Shared->Prop),tn i s.heap->Q (.ref it) s->wpAny (model P w) A (pyIter (.ref it)) Q E s
abbrev TI:=St->Hp->(It->Hp->Prop)->Prop
def PIE (X:Cx)(ad:List (Addr×Obj))(σ:St)(tg:Expr)(R:It->Hp->Prop)(itv:Value)(s2:Shared):Prop:=
 ∃ (it:Addr) (fp:List Addr) (tn:Nat->Heap->Prop) (J:It) (H':Hp),itv= .ref it/\Inv X ad σ H' s2/\Turn X.prog X.w X.K tg J fp it tn/\tn 0 s2.heap/\(∀ b∈fp,FpOk X ad H' b)/\R J H'
def PI (X:Cx)(tg iter:Expr)(wi:TI):Prop:=
 ∀ (ad:List (Addr×Obj)) (s:Shared) (σ:St) (H:Hp) (R:It->Hp->Prop),Inv X ad σ H s->wi σ H R->
  wpAny (model X.prog X.w) X.A (eval iter X.env) (fun v s1=>wpAny (model X.prog X.w) X.A (pyIter v) (PIE X ad σ tg R) X.xe s1) X.xe s
theorem go_of {M:Model}{A:Around}{E:Value->Shared->Prop}{s:Shared}{tg:Expr}{it:Addr}{u:Value}{o:Obj}{n:String}{vs:Array Value}{Q:Unit->Shared->Prop}(ho:s.heap.get? it=some o)(hc:o.cls= .type n)(hd:o.data= .fields vs)
  (hn: ["enumerate","zip","dict_itemiterator","dict_reverseitemiterator","odict_iterator","itertools.zip_longest","itertools.pairwise"].contains n=false) (hQ:Q () s):wpAny M A (letOwnedTupleGo tg (.ref it) u) Q E s:=by
 unfold letOwnedTupleGo
 cases tg <;> first
  | exact ah hQ
  | (cases u <;> first
    | exact ah hQ
    | (refine aa (g5 ho ?_)
       rw [hc, hd]
       show wpAny M A (if (["enumerate", "zip", "dict_itemiterator", "dict_reverseitemiterator", "odict_iterator", "itertools.zip_longest", "itertools.pairwise"].contains n && vs[0]? == some (rawInt _)) = true then _ else _) Q E s
       rw [aj (by intro h; rw [hn, ff] at h; cases h)]
       exact ah hQ))
def Itl (K:W.Frag)(a:Addr):It:=
 ⟨fun i H=>∃ xs x,SqL K H a xs/\xs[i]?=some x,fun i H x H'=>H'=H/\∀ xs,SqL K H a xs->xs[i]?=some x,fun i H=>∃ xs,SqL K H a xs/\xs.length<=i⟩
def Itt (K:W.Frag)(a:Addr):It:=
 ⟨fun i H=>∃ xs x,SqT K H a xs/\xs[i]?=some x,fun i H x H'=>H'=H/\∀ xs,SqT K H a xs->xs[i]?=some x,fun i H=>∃ xs,SqT K H a xs/\xs.length<=i⟩
def Itr (lo:Int)(n:Nat):It:=⟨fun i _=>i<n,fun i H x H'=>H'=H/\x= .int (lo+i),fun i _=>n<=i⟩
theorem jKI {P:Program}{w:World}{K:W.Frag}{tg:Expr}(a it:Addr):Turn P w K tg (Itl K a) [it] it (fun i h=>h.IsListIter it a i) where
 mem:=by simp
 obj:=fun i h st b hb=>by
  have e:b=it:=by simpa using hb
  subst e
  obtain⟨o,e,c,d⟩:=st
  exact⟨o,e,fun v z=>by rw[d] at z; cases z⟩
 keep:=fun i h h' st k=>st.at fun o e=>k it (by simp) o e
 item:=by
  intro X hP hw hK hc i ad s σ H E I hf st hg
  subst hP hw hK
  obtain⟨xs,x,hq,hx⟩:=hg
  obtain⟨its,rv,p,hz⟩:=I.list hq
  obtain⟨u,hu,ru⟩:=rv.get hx
  obtain⟨f0,f1,f2,f3,f4,f5⟩:=hf it (by simp)
  refine wpAny_pyNext_list_item st p.isList (x:=u) (by simpa using hu) fun h' st' sb=>?_
  have I1:Inv X ad σ H { s with heap:=h'} :=I.turned (t':=s.toks) (fun b o hb e=>(sb.2 b hb).trans e) f0 f1 f3 f4 f5
  obtain⟨o,e,c,d⟩:=id st'
  exact⟨u,rfl,go_of (s:= { s with heap:=h'}) e c d (by decide) ⟨x,H,I1,ru,⟨rfl,fun ys hy=>by rw[I.list_inj hy hq]; exact hx⟩,st',fun b hb=>(hf b hb).1⟩⟩
 done:=by
  intro X hP hw hK hc i ad s σ H E I hf st hg
  subst hP hw hK
  obtain⟨xs,hq,hx⟩:=hg
  obtain⟨its,rv,p,hz⟩:=I.list hq
  obtain⟨f0,f1,f2,f3,f4,f5⟩:=hf it (by simp)
  have hl:=rv.length
  exact wpAny_pyNext_list_end (I.ok.hd hc) st p.isList (by simp; lia) fun h' eb=>⟨rfl,I.turned (t':=s.toks) (fun b o hb e=>eb b o hb e) f0 f1 f3 f4 f5⟩
 self:=fun _ _ _ _ _ st h=>wpAny_pyIter_listiter st h
theorem jJG {P:Program}{w:World}{K:W.Frag}{tg:Expr}(a it:Addr):Turn P w K tg (Itt K a) [it] it (fun i h=>h.IsTupleIter it a i) where
 mem:=by simp
 obj:=fun i h st b hb=>by
  have e:b=it:=by simpa using hb
  subst e
  obtain⟨o,e,c,d⟩:=st
  exact⟨o,e,fun v z=>by rw[d] at z; cases z⟩
 keep:=fun i h h' st k=>st.at fun o e=>k it (by simp) o e
 item:=by
  intro X hP hw hK hc i ad s σ H E I hf st hg
  subst hP hw hK
  obtain⟨xs,x,hq,hx⟩:=hg
  obtain⟨its,rv,p,hz⟩:=I.tuple hq
  obtain⟨u,hu,ru⟩:=rv.get hx
  obtain⟨f0,f1,f2,f3,f4,f5⟩:=hf it (by simp)
  refine wpAny_pyNext_tuple_item st (show s.heap.IsTuple a its.toArray from p) (x:=u) (by simpa using hu) fun h' st' sb=>?_
  have I1:Inv X ad σ H { s with heap:=h'} :=I.turned (t':=s.toks) (fun b o hb e=>(sb.2 b hb).trans e) f0 f1 f3 f4 f5
  obtain⟨o,e,c,d⟩:=id st'
  exact⟨u,rfl,go_of (s:= { s with heap:=h'}) e c d (by decide) ⟨x,H,I1,ru,⟨rfl,fun ys hy=>by rw[I.tuple_inj hy hq]; exact hx⟩,st',fun b hb=>(hf b hb).1⟩⟩
 done:=by
  intro X hP hw hK hc i ad s σ H E I hf st hg
  subst hP hw hK
  obtain⟨xs,hq,hx⟩:=hg
  obtain⟨its,rv,p,hz⟩:=I.tuple hq
  obtain⟨f0,f1,f2,f3,f4,f5⟩:=hf it (by simp)
  have hl:=rv.length
  exact wpAny_pyNext_tuple_end (I.ok.hd hc) st (show s.heap.IsTuple a its.toArray from p) (by simp; lia) fun h' eb=>⟨rfl,I.turned (t':=s.toks) (fun b o hb e=>eb b o hb e) f0 f1 f3 f4 f5⟩
 self:=fun _ _ _ _ _ st h=>wpAny_pyIter_tupleiter st h
theorem jJH {P:Program}{w:World}{K:W.Frag}{tg:Expr}(it:Addr)(lo:Int)(n:Nat):Turn P w K tg (Itr lo n) [it] it (fun i h=>IsRangeIter h it (lo+(i:Nat)*1) ((n:Int) - (i:Nat)) 1) where
 mem:=by simp
 obj:=fun i h st b hb=>by
  have e:b=it:=by simpa using hb
  subst e
  exact⟨_,st,fun v z=>by
   have z':Data.fields _=Data.cell v:=z
   cases z'⟩
 keep:=fun i h h' st k=>k it (by simp) _ st
 item:=by
  intro X hP hw hK hc i ad s σ H E I hf st hg
  subst hP hw hK
  obtain⟨f0,f1,f2,f3,f4,f5⟩:=hf it (by simp)
  have W:=Walks.range (prog:=X.prog) (w:=X.w) (I.ok.hd hc) it lo 1 n
  refine W.item i s _ _ hg st fun v h' tk hv st' kk=>?_
  obtain⟨t,rfl⟩:=hv
  have I1:Inv X ad σ H { s with heap:=h',toks:=tk} :=I.turned (fun b o hb e=>kk b o (by simpa using hb) e) f0 f1 f3 f4 f5
  refine⟨_,rfl,go_of (s:= { s with heap:=h',toks:=tk}) (n:= "range_iterator") st' rfl rfl (by decide) ⟨.int (lo+i),H,I1,⟨t,?_⟩,⟨rfl,rfl⟩,st',fun b hb=>(hf b hb).1⟩⟩
  rw[jl]
 done:=by
  intro X hP hw hK hc i ad s σ H E I hf st hg
  subst hP hw hK
  obtain⟨f0,f1,f2,f3,f4,f5⟩:=hf it (by simp)
  exact wpAny_pyNext_range_end (I.ok.hd hc) st (by have:n<=i:=hg; lia) fun h' eb=>⟨rfl,I.turned (t':=s.toks) (fun b o hb e=>eb b o hb e) f0 f1 f3 f4 f5⟩
 self:=fun _ _ _ _ _ st h=>wpAny_pyIter_rangeiter st h
section
variable {tg:Expr}
def iList (K:W.Frag)(tl:TE):TI:=fun σ H R=>tl σ H fun x H1=>∃ a,x= .ref a/\(∃ xs,SqL K H1 a xs)/\R (Itl K a) H1
def iTup (K:W.Frag)(tl:TE):TI:=fun σ H R=>tl σ H fun x H1=>∃ a,x= .ref a/\(∃ xs,SqT K H1 a xs)/\R (Itt K a) H1
theorem jQC {l:Expr}{tl:TE}(hl:PE X l tl):PI X tg l (iList X.K tl):=by
 intro ad s σ H R I h
 refine lC (hl ad s σ H _ I h) fun v s1 ⟨x,H1,I1,r1,q1⟩=>?_
 obtain⟨a,e,⟨xs,hq⟩,q⟩:=q1
 subst e
 cases r1
 obtain⟨its,rv,p,hz⟩:=I1.list hq
 refine fe p.isList ?_
 refine⟨s1.heap.objs.size,[s1.heap.objs.size],_,_,H1,rfl,I1.kept (t':=s1.toks) fun b o e=>ae _ e,jKI a _,⟨_,aJ _ rfl,rfl,rfl⟩,fun b hb=>?_,q⟩
 have e:b=s1.heap.objs.size:=by simpa using hb
 subst e
 exact I1.fpOk (ai _) (I1.hok.fresh (ai _))
theorem jSL {l:Expr}{tl:TE}(hl:PE X l tl):PI X tg l (iTup X.K tl):=by
 intro ad s σ H R I h
 refine lC (hl ad s σ H _ I h) fun v s1 ⟨x,H1,I1,r1,q1⟩=>?_
 obtain⟨a,e,⟨xs,hq⟩,q⟩:=q1
 subst e
 cases r1
 obtain⟨its,rv,p,hz⟩:=I1.tuple hq
 refine wpAny_pyIter_tuple (show s1.heap.IsTuple a its.toArray from p) ?_
 refine⟨s1.heap.objs.size,[s1.heap.objs.size],_,_,H1,rfl,I1.kept (t':=s1.toks) fun b o e=>ae _ e,jJG a _,⟨_,aJ _ rfl,rfl,rfl⟩,fun b hb=>?_,q⟩
 have e:b=s1.heap.objs.size:=by simpa using hb
 subst e
 exact I1.fpOk (ai _) (I1.hok.fresh (ai _))
theorem jNL {ad:List (Addr×Obj)}{σ:St}{H:Hp}{s:Shared}{R:It->Hp->Prop}{E:Value->Shared->Prop}{lo hi:Int}{t u v:Tok}{tk:Nat}(I:Inv X ad σ H s)(h1: -(2 ^ 62)<=lo)(h2:lo<2 ^ 62)(h3: -(2 ^ 62)<=hi)(h4:hi<2 ^ 62)
  (q:R (Itr lo (hi - lo).toNat) H):wpAny (model X.prog X.w) X.A (pyIter (.ref s.heap.objs.size)) (PIE X ad σ tg R) E { s with heap:=s.heap.push { cls:= .type "range",data:= .fields #[.int lo t, .int hi u, .int 1 v]},toks:=tk} :=by
 refine wpAny_pyIter_range (IsRange.new ..) (small_one h1 h2 h3 h4) ?_
 have I1:Inv X ad σ H { s with heap:=s.heap.push { cls:= .type "range",data:= .fields #[.int lo t, .int hi u, .int 1 v]},toks:=tk} :=I.kept fun b o e=>ae _ e
 refine⟨(s.heap.push { cls:= .type "range",data:= .fields #[.int lo t, .int hi u, .int 1 v]}).objs.size,[(s.heap.push { cls:= .type "range",data:= .fields #[.int lo t, .int hi u, .int 1 v]}).objs.size],_,_,H,rfl,
  I1.kept (t':=tk) fun b o e=>ae _ e,jJH _ lo (hi - lo).toNat,?_,fun b hb=>?_,q⟩
 ·have e1:lo+((0:Nat):Int)*1=lo:=by simp
  have e2:(((hi - lo).toNat:Nat):Int) - ((0:Nat):Int)=Builtin.Range.rangeSize lo hi 1:=by rw[rangeSize_one]; split <;> lia
  show IsRangeIter _ _ (lo+((0:Nat):Int)*1) ((((hi - lo).toNat:Nat):Int) - ((0:Nat):Int)) 1
  rw[e1,e2]
  exact aJ _ rfl
 ·have e:b=(s.heap.push { cls:= .type "range",data:= .fields #[.int lo t, .int hi u, .int 1 v]}).objs.size:=by simpa using hb
  subst e
  exact I1.fpOk (ai _) (I1.hok.fresh (ai _))
def iRng1 (ta:TA):TI:=fun σ H R=>ta σ H fun vs H1=>∃ j:Int,vs=[.int j]/\ -(2 ^ 62)<=j/\j<2 ^ 62/\R (Itr 0 j.toNat) H1
theorem jBQ {a:Expr}{ta:TA}{p pos:Pos}(hg:Gl X "range")(hm:X.mg "range" =none)(ha:PA X [a] ta)(hs:starEach [a] X.env=[(false,eval a X.env)]:=by rfl):PI X tg (.Call (.Name "range" p) [a] [] pos) (iRng1 ta):=by
 intro ad s σ H R I h
 refine Call_ (jBV I hg hm boot_range (cP (lC (ha pos ad s σ H _ I h) fun us s1 ⟨vs,H1,I1,r1,q1⟩=>?_) hs rfl))
 obtain⟨j,e,q1,q2,q⟩:=q1
 subst e
 cases r1 with
 | cons r rr=>
  cases rr
  obtain⟨t,rfl⟩:=r
  exact call_range_1 (jNL I1 (by lia) (by lia) q1 q2 (by simpa using q))
def tFor (wi:TI)(g:TG)(tb:TS):TS:=fun D σ H=>wi σ H fun J H1=>∃ W:Nat->Nat->St->Hp->Prop,(∃ m,W 0 m σ H1)/\∀ i m σ H,W i m σ H->
 (J.stop i H/\D.nx σ H)\/(J.go i H/\∃ N:St->Hp->Prop,(∀ σ' H',N σ' H'->∃ m',m'<m/\W (i+1) m' σ' H')/\∀ x H',J.yld i H x H'->g x σ H' fun σ2 H2=>tb { D with nx:=N,ct:=N,bk:=D.nx} σ2 H2)
def jGA (fp:List Addr)(h:Heap):List (Addr×Obj):=fp.filterMap fun b=>(h.get? b).map fun o=>(b,o)
theorem jB4 {fp:List Addr}{h:Heap}{b:Addr}{o:Obj}(hb:b∈fp)(e:h.get? b=some o):(b,o)∈jGA fp h:=kg.mpr ⟨b,hb,by rw[e]; rfl⟩
theorem jLC {fp:List Addr}{h:Heap}{p:Addr×Obj}(hp:p∈jGA fp h):p.1∈fp/\h.get? p.1=some p.2:=by
 obtain⟨b,hb,e⟩:=kg.mp hp
 cases q:h.get? b with
 | none=>rw[q] at e; cases e
 | some o=>
  rw[q] at e
  have e':(b,o)=p:=br e
  subst e'
  exact⟨hb,q⟩
theorem Inv.pinned {ad:List (Addr×Obj)}{σ:St}{H:Hp}{s:Shared}{fp:List Addr}(I:Inv X ad σ H s)(hf:∀ b∈fp,FpOk X ad H b)(ho:∀ b∈fp,∃ o,s.heap.get? b=some o/\∀ v,o.data≠ .cell v):Inv X (ad++jGA fp s.heap) σ H s:=
 I.pins_of fun p hp=>(ay.mp hp).elim (fun z=>I.pin p (aq _ z)) fun z=>by
  obtain⟨hb,e⟩:=jLC z
  obtain⟨f0,f1,f2,_⟩:=hf p.1 hb
  obtain⟨o,e',d⟩:=ho p.1 hb
  rw[e] at e'; cases e'
  exact⟨e,f0,f1,f2,d⟩
theorem Inv.unpinned {ad pl:List (Addr×Obj)}{σ:St}{H:Hp}{s:Shared}(I:Inv X (ad++pl) σ H s):Inv X ad σ H s:=I.pins_of fun p hp=>I.pin p (aq _ (ax _ hp))
theorem jP0 {iter:Expr}{body:List Stmt}{wi:TI}{g:TG}{tb:TS}{pos:Pos}(hp:PassesOwn (model X.prog X.w) X.A X.env X.xe)(hc:X.calm=true)(hi:PI X tg iter wi)(hg:PG X tg g)(hb:PSs X body tb)
  (hs:∀ x,foldedSetIterable iter X.env x=pure x:=by intro _; rfl):PS X (.For tg iter body [] pos) (tFor wi g tb):=by
 intro ad s σ H D I h
 refine wpAny_For (lC (hi ad s σ H _ I h) fun v s1 h1=>lC h1 fun itv s2 h2=>?_) hs
 obtain⟨it,fp,tn,J,H2,e,I2,T,st2,f2,W,⟨m0,w0⟩,turn⟩:=h2
 subst e
 have stat:∀ {H':Hp},(∀ b∈fp,H' b=none)->∀ b∈fp,FpOk X ad H' b:=fun hn b hb=>⟨hn b hb,(f2 b hb).2⟩
 refine codeAny_forLoop_any (fun n s'=>∃ i σ' H',Inv X ad σ' H' s'/\tn i s'.heap/\(∀ b∈fp,H' b=none)/\W i n σ' H') ?_ m0 ⟨0,σ,H2,I2,st2,fun b hb=>(f2 b hb).1,w0⟩
 rintro n s3 ⟨i,σ3,H3,I3,st3,fr3,w3⟩
 rcases turn i n σ3 H3 w3 with ⟨stop,qn⟩ | ⟨go,N,hN,step⟩
 ·refine dW hp (lC (T.done X rfl rfl rfl hc i ad s3 σ3 H3 X.xe I3 (stat fr3) st3 stop) fun r s4 ⟨hr,I4⟩=>?_)
  subst hr
  exact gI ⟨σ3,H3,I4,qn⟩
 ·refine dW hp (lC (T.item X rfl rfl rfl hc i ad s3 σ3 H3 X.xe I3 (stat fr3) st3 go) fun r s4 ⟨u,hr,h4⟩=>?_)
  subst hr
  refine dW hp (lC h4 fun _ s5 ⟨x,H5,I5,r5,y5,st5,fr5⟩=>?_)
  have I5':=I5.pinned (stat fr5) (T.obj _ _ st5)
  refine dW hp (lC (hg _ s5 σ3 H5 x u _ I5' r5 (step x H5 y5)) fun _ s6 ⟨σ6,H6,I6,q6⟩=>?_)
  refine dW hp (lC (hb _ s6 σ6 H6 _ I6 q6) fun f s7 q7=>?_)
  have again:∀ {σ7:St}{H7:Hp},Inv X (ad++jGA fp s5.heap) σ7 H7 s7->N σ7 H7->∃ m,m<n/\∃ i σ' H',Inv X ad σ' H' s7/\tn i s7.heap/\(∀ b∈fp,H' b=none)/\W i m σ' H':=fun {σ7 H7} I7 n7=>by
   obtain⟨m',hm,w7⟩:=hN σ7 H7 n7
   refine⟨m',hm,i+1,σ7,H7,I7.unpinned,T.keep _ _ _ st5 fun b hb o e=>(I7.pin (b,o) (aq _ (aq _ (jB4 hb e)))).1,fun b hb=>?_,w7⟩
   obtain⟨o,e,d⟩:=T.obj _ _ st5 b hb
   exact(I7.pin (b,o) (aq _ (aq _ (jB4 hb e)))).2.1
  cases f with
  | next=>obtain⟨σ7,H7,I7,n7⟩:=q7; exact again I7 n7
  | cont=>obtain⟨σ7,H7,I7,n7⟩:=q7; exact again I7 n7
  | brk=>obtain⟨σ7,H7,I7,q7⟩:=q7; exact⟨σ7,H7,I7.unpinned,q7⟩
  | ret v=>obtain⟨x7,σ7,H7,I7,r7,q7⟩:=q7; exact⟨x7,σ7,H7,I7.unpinned,r7,q7⟩
end
theorem jB6 {K:W.Frag}{a:Addr}{xs:List V}{g:TG}{tb:TS}{D:Ends}{σ:St}{H:Hp}(Pv:Nat->St->Hp->Prop)(h0:Pv 0 σ H)(hl:∀ i σ H,i<=xs.length->Pv i σ H->SqL K H a xs)
  (hs:∀ i x σ H,xs[i]?=some x->Pv i σ H->g x σ H fun σ2 H2=>tb { D with nx:=Pv (i+1),ct:=Pv (i+1),bk:=D.nx} σ2 H2) (hd:∀ σ H,Pv xs.length σ H->D.nx σ H):
  ∃ W:Nat->Nat->St->Hp->Prop,(∃ m,W 0 m σ H)/\∀ i m σ H,W i m σ H->
   ((Itl K a).stop i H/\D.nx σ H)\/((Itl K a).go i H/\∃ N:St->Hp->Prop,(∀ σ' H',N σ' H'->∃ m',m'<m/\W (i+1) m' σ' H')/\∀ x H',(Itl K a).yld i H x H'->g x σ H' fun σ2 H2=>tb { D with nx:=N,ct:=N,bk:=D.nx} σ2 H2):=by
 refine⟨fun i m σ H=>m=xs.length - i/\i<=xs.length/\Pv i σ H,⟨xs.length,by simp,ba _,h0⟩,?_⟩
 rintro i m σ H ⟨rfl,hi,p⟩
 have q:=hl i σ H hi p
 by_cases hlt:i<xs.length
 ·refine .inr ⟨⟨xs,xs[i],q,by simp [hlt]⟩,Pv (i+1),fun σ' H' p'=>⟨xs.length - (i+1),by lia,rfl,hlt,p'⟩,fun x H' y=>?_⟩
  obtain⟨e,y⟩:=y
  subst e
  exact hs i x σ _ (y xs q) p
 ·have e:i=xs.length:=by lia
  subst e
  exact .inl ⟨⟨xs,q,ai _⟩,hd σ H p⟩
theorem jAY {lo:Int}{n:Nat}{g:TG}{tb:TS}{D:Ends}{σ:St}{H:Hp}(Pv:Nat->St->Hp->Prop)(h0:Pv 0 σ H)
  (hs:∀ i σ H,i<n->Pv i σ H->g (.int (lo+i)) σ H fun σ2 H2=>tb { D with nx:=Pv (i+1),ct:=Pv (i+1),bk:=D.nx} σ2 H2) (hd:∀ σ H,Pv n σ H->D.nx σ H):
  ∃ W:Nat->Nat->St->Hp->Prop,(∃ m,W 0 m σ H)/\∀ i m σ H,W i m σ H->
   ((Itr lo n).stop i H/\D.nx σ H)\/((Itr lo n).go i H/\∃ N:St->Hp->Prop,(∀ σ' H',N σ' H'->∃ m',m'<m/\W (i+1) m' σ' H')/\∀ x H',(Itr lo n).yld i H x H'->g x σ H' fun σ2 H2=>tb { D with nx:=N,ct:=N,bk:=D.nx} σ2 H2):=by
 refine⟨fun i m σ H=>m=n - i/\i<=n/\Pv i σ H,⟨n,by simp,ba _,h0⟩,?_⟩
 rintro i m σ H ⟨rfl,hi,p⟩
 by_cases hlt:i<n
 ·refine .inr ⟨hlt,Pv (i+1),fun σ' H' p'=>⟨n - (i+1),by lia,rfl,hlt,p'⟩,fun x H' y=>?_⟩
  obtain⟨e,y⟩:=y
  subst e y
  exact hs i σ _ hlt p
 ·have e:i=n:=by lia
  subst e
  exact .inl ⟨ai _,hd σ H p⟩
abbrev R2:=V->V->Hp->VK->Prop
def OpR (X:Cx)(f:Value->Value->Sem Value)(r:R2):Prop:=
 ∀ (ad:List (Addr×Obj)) (s:Shared) (σ:St) (H:Hp) (x y:V) (v u:Value) (Q:VK),Inv X ad σ H s->RelV x v->RelV y u->r x y H Q->
  wpAny (model X.prog X.w) X.A (f v u) (EP X ad σ Q) X.xe s
def UnR (X:Cx)(f:Value->Sem Value)(r:V->Hp->VK->Prop):Prop:=
 ∀ (ad:List (Addr×Obj)) (s:Shared) (σ:St) (H:Hp) (x:V) (v:Value) (Q:VK),Inv X ad σ H s->RelV x v->r x H Q->
  wpAny (model X.prog X.w) X.A (f v) (EP X ad σ Q) X.xe s
def yN (X:Cx)(f:Value)(r:List V->Hp->VK->Prop):Prop:=
 ∀ (ad:List (Addr×Obj)) (s:Shared) (σ:St) (H:Hp) (xs:List V) (us:List Value) (Q:VK),Inv X ad σ H s->Vals xs us->r xs H Q->
  wpAny (model X.prog X.w) X.A (call f us) (EP X ad σ Q) X.xe s
def tOp (r:R2)(ta tb:TE):TE:=fun σ H Q=>ta σ H fun x H1=>tb σ H1 fun y H2=>r x y H2 Q
def tUn (r:V->Hp->VK->Prop)(ta:TE):TE:=fun σ H Q=>ta σ H fun x H1=>r x H1 Q
def rI (C:Int->Int->Prop)(g:Int->Int->V):R2:=fun x y H Q=>∃ i j,x= .int i/\y= .int j/\C i j/\Q (g i j) H
def rI0 (g:Int->Int->V):R2:=fun x y H Q=>∃ i j,x= .int i/\y= .int j/\Q (g i j) H
def rU (g:Int->V):V->Hp->VK->Prop:=fun x H Q=>∃ i,x= .int i/\Q (g i) H
variable {c:Expr}{tc:TE}
section
variable {a:Expr}
theorem binT (ha:PE X a ta)(hb:PE X b tb){ad:List (Addr×Obj)}{s:Shared}{σ:St}{H:Hp}{R:V->V->Hp->Prop}(I:Inv X ad σ H s)
  (h:ta σ H fun x H1=>tb σ H1 fun y H2=>R x y H2) {Q:Value->Shared->Prop}{f:Value->Value->Sem Value}
  (hf:∀ v u s2 x y H2,Inv X ad σ H2 s2->RelV x v->RelV y u->R x y H2->wpAny (model X.prog X.w) X.A (f v u) Q X.xe s2):
  wpAny (model X.prog X.w) X.A (eval a X.env) (fun v s₁=>wpAny (model X.prog X.w) X.A (eval b X.env) (fun u s₂=>wpAny (model X.prog X.w) X.A (f v u) Q X.xe s₂) X.xe s₁) X.xe s:=by
 refine lC (ha ad s σ H _ I h) fun v s1 ⟨x,H1,I1,r1,q1⟩=>?_
 refine lC (hb ad s1 σ H1 _ I1 q1) fun u s2 ⟨y,H2,I2,r2,q2⟩=>?_
 exact hf v u s2 x y H2 I2 r1 r2 q2
theorem kO {op:Operator}{r:R2}(ho:OpR X (binaryOp op) r)(ha:PE X a ta)(hb:PE X b tb):PE X (.BinOp a op b pos) (tOp r ta tb):=by
 intro ad s σ H Q I h
 exact wpAny_BinOp (binT ha hb I h fun v u s2 x y H2 I2 rx ry q=>ho ad s2 σ H2 x y v u Q I2 rx ry q)
theorem pe_un {op:UnaryOp}{r:V->Hp->VK->Prop}(ho:UnR X (unaryOp op) r)(ha:PE X a ta):PE X (.UnaryOp op a pos) (tUn r ta):=by
 intro ad s σ H Q I h
 exact UnaryOp_ (lC (ha ad s σ H _ I h) fun v s1 ⟨x,H1,I1,r1,q1⟩=>ho ad s1 σ H1 x v Q I1 r1 q1)
theorem opI {f:Value->Value->Sem Value}{C:Int->Int->Prop}{g:Int->Int->Int}
  (rule:∀ (i j:Int) (t u:Tok) (s:Shared) (Q:Value->Shared->Prop) (E:Value->Shared->Prop),C i j->Q (.int (g i j) s.toks) { s with toks:=s.toks+1} ->wpAny (model X.prog X.w) X.A (f (.int i t) (.int j u)) Q E s):
  OpR X f (rI C fun i j=> .int (g i j)):=by
 intro ad s σ H x y v u Q I rx ry h
 obtain⟨i,j,rfl,rfl,hc,q⟩:=h
 obtain⟨t,rfl⟩:=rx
 obtain⟨t',rfl⟩:=ry
 exact rule i j t t' s _ _ hc ⟨.int (g i j),H,I.tok _,⟨_,rfl⟩,q⟩
theorem opI0 {f:Value->Value->Sem Value}{g:Int->Int->Int}
  (rule:∀ (i j:Int) (t u:Tok) (s:Shared) (Q:Value->Shared->Prop) (E:Value->Shared->Prop),Q (.int (g i j) s.toks) { s with toks:=s.toks+1} ->wpAny (model X.prog X.w) X.A (f (.int i t) (.int j u)) Q E s):
  OpR X f (rI0 fun i j=> .int (g i j)):=by
 intro ad s σ H x y v u Q I rx ry h
 obtain⟨i,j,rfl,rfl,q⟩:=h
 obtain⟨t,rfl⟩:=rx
 obtain⟨t',rfl⟩:=ry
 exact rule i j t t' s _ _ ⟨.int (g i j),H,I.tok _,⟨_,rfl⟩,q⟩
theorem opB0 {f:Value->Value->Sem Value}{g:Int->Int->Bool}
  (rule:∀ (i j:Int) (t u:Tok) (s:Shared) (Q:Value->Shared->Prop) (E:Value->Shared->Prop),Q (.bool (g i j)) s->wpAny (model X.prog X.w) X.A (f (.int i t) (.int j u)) Q E s):
  OpR X f (rI0 fun i j=> .bl (g i j)):=by
 intro ad s σ H x y v u Q I rx ry h
 obtain⟨i,j,rfl,rfl,q⟩:=h
 obtain⟨t,rfl⟩:=rx
 obtain⟨t',rfl⟩:=ry
 exact rule i j t t' s _ _ ⟨.bl (g i j),H,I,rfl,q⟩
def CPow (i j:Int):Prop:=0<=j/\j<=1000000/\i.natAbs<2 ^ 64
def CMul (i j:Int):Prop:=(-(2 ^ 64)<i/\i<2 ^ 64)\/(-(2 ^ 64)<j/\j<2 ^ 64)
theorem CMul.ok {i j:Int}(h:CMul i j):IntMulOk i j:=by
 rcases h with ⟨h1,h2⟩ | ⟨h1,h2⟩
 ·exact .of_left (intBits_le_64 h1 h2)
 ·exact .of_right (intBits_le_64 h1 h2)
theorem jJF (k:Nat):(0:Int)<=2 ^ k:=by
 rw[two_pow_cast]
 exact fS _
theorem yF:OpR X (binaryOp .Add) (rI0 fun i j=> .int (i+j)):=opI0 fun _ _ _ _ _ _ _ q=>add_int q
theorem jCX:OpR X (binaryOp .Sub) (rI0 fun i j=> .int (i - j)):=opI0 fun _ _ _ _ _ _ _ q=>sub_int q
theorem yS:OpR X (binaryOp .Mult) (rI CMul fun i j=> .int (i*j)):=opI fun _ _ _ _ _ _ _ hc q=>mul_int q hc.ok
theorem jCY:OpR X (binaryOp .Mod) (rI (fun _ j=>0<j) fun i j=> .int (i % j)):=opI fun i j _ _ _ _ _ hc q=>by
 have h1:(0:Int)<j:=hc
 exact mod_int' (by lia) (by rw[Int.fmod_eq_emod_of_nonneg i (by lia)]; exact q)
theorem jQO:OpR X (binaryOp .Mod) (rI (fun _ j=>j≠0) fun i j=> .int (i.fmod j)):=opI fun _ _ _ _ _ _ _ hc q=>mod_int' hc q
theorem jL6:OpR X (binaryOp .Pow) (rI CPow fun i j=> .int (i ^ j.toNat)):=opI fun _ _ _ _ _ _ _ hc q=>pow_int_small hc.1 hc.2.1 hc.2.2 q
theorem jIO:OpR X (binaryOp .LShift) (rI CPow fun i j=> .int (i*2 ^ j.toNat)):=opI fun _ _ _ _ _ _ _ hc q=>lshift_int_small hc.1 hc.2.1 hc.2.2 q
theorem jSV:OpR X (binaryOp .RShift) (rI (fun _ j=>0<=j) fun i j=> .int (i / 2 ^ j.toNat)):=opI fun i j _ _ _ _ _ hc q=>
 rshift_int hc (by rw[g6 i (jJF _)]; exact q)
theorem jL9:OpR X (binaryOp .BitAnd) (rI0 fun i j=> .int (Builtin.bitAnd i j)):=opI0 fun _ _ _ _ _ _ _ q=>and_int q
theorem op_or:OpR X (binaryOp .BitOr) (rI0 fun i j=> .int (Builtin.bitOr i j)):=opI0 fun _ _ _ _ _ _ _ q=>or_int q
theorem unI {f:Value->Sem Value}{g:Int->Int}
  (rule:∀ (i:Int) (t:Tok) (s:Shared) (Q:Value->Shared->Prop) (E:Value->Shared->Prop),Q (.int (g i) s.toks) { s with toks:=s.toks+1} ->wpAny (model X.prog X.w) X.A (f (.int i t)) Q E s):
  UnR X f (rU fun i=> .int (g i)):=by
 intro ad s σ H x v Q I rx h
 obtain⟨i,rfl,q⟩:=h
 obtain⟨t,rfl⟩:=rx
 exact rule i t s _ _ ⟨.int (g i),H,I.tok _,⟨_,rfl⟩,q⟩
theorem jKH:UnR X (unaryOp .USub) (rU fun i=> .int (-i)):=unI fun _ _ _ _ _ q=>neg_int q
theorem jRZ:UnR X (unaryOp .Invert) (rU fun i=> .int (Builtin.bitNot i)):=unI fun _ _ _ _ _ q=>invert_int q
end
noncomputable def scal:V->V->Bool
 | .non, .non=>true | .non, .int _=>true | .int _, .non=>true | .non, .bl _=>true | .bl _, .non=>true | .non, .str _=>true | .str _, .non=>true
 | .int _, .int _=>true | .bl _, .bl _=>true | .str _, .str _=>true | .byt _, .byt _=>true
 | .int _, .str _=>true | .str _, .int _=>true | .bl _, .str _=>true | .str _, .bl _=>true
 | _,_=>false
def rEq:R2:=fun x y H Q=>scal x y=true/\Q (.bl (decide (x=y))) H
def rNe:R2:=fun x y H Q=>scal x y=true/\Q (.bl (!decide (x=y))) H
theorem jMI {i j:Int} :decide (V.int i=V.int j)=(i==j):=by
 rw[dX]
 simp
theorem jPJ {i j:Bool} :decide (V.bl i=V.bl j)=(i==j):=by
 rw[dX]
 simp
theorem jMH {i j:Str} :decide (V.str i=V.str j)=(i==j):=by
 rw[dX]
 simp
theorem jMJ {i j:Array UInt8} :decide (V.byt i=V.byt j)=(i.toList==j.toList):=by
 rw[dX]
 cases i
 cases j
 simp
section
variable {a:Expr}
theorem kD {ad:List (Addr×Obj)}{σ:St}{H:Hp}{s:Shared}{Q:VK}{k k':Bool}(I:Inv X ad σ H s)(q:Q (.bl k) H)(e:k=k'):EP X ad σ Q (.bool k') s:=by
 subst e
 exact⟨.bl k,H,I,rfl,q⟩
theorem yW:OpR X (compareOp .Eq) rEq:=by
 intro ad s σ H x y v u Q I rx ry h
 obtain⟨hs,q⟩:=h
 cases x with
 | non=>
  cases rx
  cases y with
  | non=>cases ry; exact PySem.EqNone.eq_none_none (kD I q (by simp))
  | bl j=>cases ry; exact PySem.EqNone.eq_none_bool (kD I q (by simp))
  | int j=>obtain⟨t',rfl⟩:=ry; exact PySem.EqNone.eq_none_int (kD I q (by simp))
  | str j=>obtain⟨t',rfl⟩:=ry; exact PySem.EqNone.eq_none_str (kD I q (by simp))
  | _=>exact absurd (show false=true from hs) ao
 | bl i=>
  cases rx
  cases y with
  | non=>cases ry; exact PySem.EqNone.eq_bool_none (kD I q (by simp))
  | bl j=>cases ry; exact eq_bool (kD I q jPJ)
  | str j=>obtain⟨t',rfl⟩:=ry; exact PySem.EqMixed.eq_bool_str (kD I q (by simp))
  | _=>exact absurd (show false=true from hs) ao
 | int i=>
  obtain⟨t,rfl⟩:=rx
  cases y with
  | non=>cases ry; exact PySem.EqNone.eq_int_none (kD I q (by simp))
  | int j=>obtain⟨t',rfl⟩:=ry; exact eq_int (kD I q jMI)
  | str j=>obtain⟨t',rfl⟩:=ry; exact PySem.EqMixed.eq_int_str (kD I q (by simp))
  | _=>exact absurd (show false=true from hs) ao
 | str i=>
  obtain⟨t,rfl⟩:=rx
  cases y with
  | non=>cases ry; exact PySem.EqNone.eq_str_none (kD I q (by simp))
  | bl j=>cases ry; exact PySem.EqMixed.eq_str_bool (kD I q (by simp))
  | int j=>obtain⟨t',rfl⟩:=ry; exact PySem.EqMixed.eq_str_int (kD I q (by simp))
  | str j=>obtain⟨t',rfl⟩:=ry; exact eq_str (kD I q jMH)
  | _=>exact absurd (show false=true from hs) ao
 | byt i=>
  obtain⟨t,rfl⟩:=rx
  cases y with
  | byt j=>obtain⟨t',rfl⟩:=ry; exact PySem.W.eq_bytes (kD I q jMJ)
  | _=>exact absurd (show false=true from hs) ao
 | _=>cases y <;> exact absurd (show false=true from hs) ao
theorem qI:OpR X (compareOp .NotEq) rNe:=by
 intro ad s σ H x y v u Q I rx ry h
 obtain⟨hs,q⟩:=h
 cases x with
 | non=>
  cases rx
  cases y with
  | non=>cases ry; exact PySem.EqNone.ne_none_none (kD I q (by simp))
  | bl j=>cases ry; exact PySem.EqNone.ne_none_bool (kD I q (by simp))
  | int j=>obtain⟨t',rfl⟩:=ry; exact PySem.EqNone.ne_none_int (kD I q (by simp))
  | str j=>obtain⟨t',rfl⟩:=ry; exact PySem.EqNone.ne_none_str (kD I q (by simp))
  | _=>exact absurd (show false=true from hs) ao
 | bl i=>
  cases rx
  cases y with
  | non=>cases ry; exact PySem.EqNone.ne_bool_none (kD I q (by simp))
  | bl j=>cases ry; exact ne_bool (kD I q (bA not jPJ))
  | str j=>obtain⟨t',rfl⟩:=ry; exact PySem.EqMixed.ne_bool_str (kD I q (by simp))
  | _=>exact absurd (show false=true from hs) ao
 | int i=>
  obtain⟨t,rfl⟩:=rx
  cases y with
  | non=>cases ry; exact PySem.EqNone.ne_int_none (kD I q (by simp))
  | int j=>obtain⟨t',rfl⟩:=ry; exact ne_int (kD I q (bA not jMI))
  | str j=>obtain⟨t',rfl⟩:=ry; exact PySem.EqMixed.ne_int_str (kD I q (by simp))
  | _=>exact absurd (show false=true from hs) ao
 | str i=>
  obtain⟨t,rfl⟩:=rx
  cases y with
  | non=>cases ry; exact PySem.EqNone.ne_str_none (kD I q (by simp))
  | bl j=>cases ry; exact PySem.EqMixed.ne_str_bool (kD I q (by simp))
  | int j=>obtain⟨t',rfl⟩:=ry; exact PySem.EqMixed.ne_str_int (kD I q (by simp))
  | str j=>obtain⟨t',rfl⟩:=ry; exact ne_str (kD I q (bA not jMH))
  | _=>exact absurd (show false=true from hs) ao
 | byt i=>
  obtain⟨t,rfl⟩:=rx
  cases y with
  | byt j=>obtain⟨t',rfl⟩:=ry; exact PySem.W.ne_bytes (kD I q (bA not jMJ))
  | _=>exact absurd (show false=true from hs) ao
 | _=>cases y <;> exact absurd (show false=true from hs) ao
theorem op_lt:OpR X (compareOp .Lt) (rI0 fun i j=> .bl (decide (i<j))):=opB0 fun _ _ _ _ _ _ _ q=>lt_int q
theorem op_gt:OpR X (compareOp .Gt) (rI0 fun i j=> .bl (decide (j<i))):=opB0 fun _ _ _ _ _ _ _ q=>gt_int q
theorem op_ge:OpR X (compareOp .GtE) (rI0 fun i j=> .bl (decide (j<=i))):=opB0 fun _ _ _ _ _ _ _ q=>ge_int q
theorem jM (b:Expr){op:CmpOp}(h:op≠ .In:=by decide)(h2:op≠ .NotIn:=by decide):behindInMarks op b=false:=by
 have e1:(op==CmpOp.In)=false:=by cases op <;> first | rfl | exact absurd rfl h
 have e2:(op==CmpOp.NotIn)=false:=by cases op <;> first | rfl | exact absurd rfl h2
 cases b <;> simp [behindInMarks,e1,e2]
theorem jQJ {op:CmpOp}{r:R2}(ho:OpR X (compareOp op) r)(ha:PE X a ta)(hb:PE X b tb)(hm:behindInMarks op b=false):PE X (.Compare a [op] [b] pos) (tOp r ta tb):=by
 intro ad s σ H Q I h
 exact wpAny_Compare1 (binT ha hb I h fun v u s2 x y H2 I2 rx ry q=>ho ad s2 σ H2 x y v u Q I2 rx ry q) hm
def tTest (t:TE):TT:=fun σ H Q=>t σ H fun x H'=>∃ k,x= .bl k/\Q k H'
theorem jDL {op:CmpOp}{r:R2}(ho:OpR X (compareOp op) r)(ha:PE X a ta)(hb:PE X b tb)(hm:behindInMarks op b=false):PT X (.Compare a [op] [b] pos) (tTest (tOp r ta tb)):=by
 intro ad s σ H Q I h
 refine wpAny_isTrue_Compare1 (lC (ha ad s σ H _ I h) fun v s1 ⟨x,H1,I1,r1,q1⟩=>lC (hb ad s1 σ H1 _ I1 q1) fun u s2 ⟨y,H2,I2,r2,q2⟩=>
  lC (ho ad s2 σ H2 x y v u _ I2 r1 r2 q2) fun c s3 ⟨z,H3,I3,r3,k,e,q3⟩=>?_) hm
 subst e
 cases r3
 exact fc ⟨H3,I3,q3⟩
theorem jGI:(sizeLine:Nat)<2 ^ 63:=by rw[fY]; decide
theorem vals1 {x:V}{us:List Value}(r:Vals [x] us):∃ u,us=[u]/\RelV x u:=by
 cases r with
 | cons r1 r2=>cases r2; exact⟨_,rfl,r1⟩
theorem vals2 {x y:V}{us:List Value}(r:Vals [x,y] us):∃ u w',us=[u,w']/\RelV x u/\RelV y w':=by
 cases r with
 | cons r1 r2=>
  cases r2 with
  | cons r3 r4=>cases r4; exact⟨_,_,rfl,r1,r3⟩
theorem jDD:yN X (.builtin "abs") (fun xs H Q=>∃ i,xs=[.int i]/\Q (.int (if i<0 then -i else i)) H):=by
 intro ad s σ H xs us Q I r h
 obtain⟨i,rfl,q⟩:=h
 obtain⟨u,rfl,t,rfl⟩:=vals1 r
 exact call_abs_int fun u tk=>⟨.int (if i<0 then -i else i),H,I.tok _,⟨_,rfl⟩,q⟩
theorem jMY (hc:X.calm=true):yN X (.builtin "max") (fun xs H Q=>∃ i j,xs=[.int i, .int j]/\Q (.int (if j>i then j else i)) H):=by
 intro ad s σ H xs us Q I r h
 obtain⟨i,j,rfl,q⟩:=h
 obtain⟨u,w',rfl,⟨t,rfl⟩,⟨t',rfl⟩⟩:=vals2 r
 refine max_two_ints (I.ok.hd hc) fun h' tk k=>⟨_,H,I.kept k,?_,q⟩
 by_cases hj:j>i
 ·rw[ak hj,ak hj]; exact⟨_,rfl⟩
 ·rw[aj hj,aj hj]; exact⟨_,rfl⟩
theorem jMX (hc:X.calm=true):yN X (.builtin "min") (fun xs H Q=>∃ i j,xs=[.int i, .int j]/\Q (.int (if j<i then j else i)) H):=by
 intro ad s σ H xs us Q I r h
 obtain⟨i,j,rfl,q⟩:=h
 obtain⟨u,w',rfl,⟨t,rfl⟩,⟨t',rfl⟩⟩:=vals2 r
 refine min_two_ints (I.ok.hd hc) fun h' tk k=>⟨_,H,I.kept k,?_,q⟩
 by_cases hj:j<i
 ·rw[ak hj,ak hj]; exact⟨_,rfl⟩
 ·rw[aj hj,aj hj]; exact⟨_,rfl⟩
theorem jC2:yN X (.type "int") (fun xs H Q=>(∃ i,xs=[.int i]/\Q (.int i) H)\/∃ k,xs=[.bl k]/\Q (.int (if k then 1 else 0)) H):=by
 intro ad s σ H xs us Q I r h
 rcases h with ⟨i,rfl,q⟩ | ⟨k,rfl,q⟩
 ·obtain⟨u,rfl,t,rfl⟩:=vals1 r
  exact call_int_int ⟨.int i,H,I,⟨_,rfl⟩,q⟩
 ·obtain⟨u,rfl,r1⟩:=vals1 r
  cases r1
  exact call_int_bool ⟨.int (if k then 1 else 0),H,I.tok _,⟨_,rfl⟩,q⟩
end
structure ObjM (h:Heap)(x dx C:Addr)(mA:Str->Option Value):Prop where
 obj:h.get? x=some (instObj C dx)
 ns:h.Ns1 dx mA
 ne:dx≠x
theorem jLQ {h:Heap}{dx:Addr}{mA:Str->Option Value}(n:h.Ns1 dx mA):∃ od,h.get? dx=some od/\∀ name,lookIn name od=some (mA name):=by
 obtain⟨o,es,ep,ho,hd,hk,_,hm⟩:=n
 refine⟨o,ho,fun name=>?_⟩
 have e:=hm name
 unfold nsFind findBy at e
 rw[<- Array.find?_toList] at e
 unfold lookIn
 rw[hd]
 dsimp only
 split
 ·rename_i y q
  rw[q] at e
  exact bA some e
 ·rename_i q
  rw[q] at e
  have a:es.toList.any (·.refKey)=false:=by
   rw[List.any_eq_false]
   intro y hy
   obtain⟨z,t,hkey⟩:=hk y (Array.mem_toList_iff.mp hy)
   simp [DictEntry.refKey,hkey]
  have a':¬ es.toList.any (·.refKey)=true:=by rw[a]; exact ao
  rw[aj a']
  exact bA some e
theorem ObjM.look {h:Heap}{x dx C:Addr}{mA:Str->Option Value}(I:ObjM h x dx C mA):∃ od,PySem.W.InstAt h x (instObj C dx) C (some od)/\∀ name,lookIn name od=some (mA name):=
 let ⟨od,ho,hl⟩:=jLQ I.ns
 ⟨od,⟨I.obj,rfl,rfl,ho⟩,hl⟩
variable {A:Around}{dx C f:Addr}
section
variable {prog:Program}{K:W.Frag}{mA:Str->Option Value}{name:Str}{v:Value}
end
theorem RelO.some_of {v:V}{o:Option Value}(r:RelO (some v) o):∃ u,o=some u/\RelV v u:=by
 cases o with
 | none=>exact(show False from r).elim
 | some u=>exact⟨u,rfl,r⟩
section
variable {fs fs':List (Str×V)}
theorem jRA (hok:HOk P w H h)(e:H a=some (.ins C dx fs)):∃ mA,ObjM h a dx C mA/\(∀ f,RelO (fs.lookup f) (mA f))/\PySem.Within mA (fs.map (·.1))/\fs.length<=1000/\H dx=some (.own a):=by
 obtain⟨d,z,ne,ob,mA,n,r,q⟩:=(show ObjOk P w H h a (.ins C dx fs) from hok a _ e)
 exact⟨mA,⟨ob,n,ne⟩,r,q,z,d⟩
end
structure Cls (K:W.Frag)(C:Addr):Prop where
 pg:plainGet K C Str.empty=true
 hd:PySem.W.hasDictIn K C=true
 po:PySem.W.plainOver K C=true
 sa:findIn K (.ref C) "__setattr__" =some (some (.builtin "object.__setattr__"))
theorem Cls.get {K:W.Frag}{C:Addr}(c:Cls K C)(f:Str):plainGet K C f=true:=c.pg
section
variable {σ:St}{fs:List (Str×V)}{f:Str}{v:V}
end
variable {o:Expr}
section
variable {value:Expr}{f:Str}{pos' tpos:Pos}{tv:TE}
end
section
variable {σ:St}{Q:Value->Shared->Prop}{c:Value}{b:Bool}
inductive TyOf (K:W.Frag) (H:Hp):V->Value->Prop where
 | non:TyOf K H .non (.type "NoneType")
 | bl (x:Bool):TyOf K H (.bl x) (.type "bool")
 | int (i:Int):TyOf K H (.int i) (.type "int")
 | str (x:Str):TyOf K H (.str x) (.type "str")
 | flt (x:UInt64):TyOf K H (.flt x) (.type "float")
 | lst {a:Addr}{xs:List V}(e:H a=some (.lst xs)):TyOf K H (.ref a) (.type "list")
 | frz {a:Addr}{o:Obj}{xs:List V}(e:H a=some (.frz o (.lst xs))):TyOf K H (.ref a) (.type "list")
 | tup {a:Addr}{xs:List V}(e:H a=some (.tup xs)):TyOf K H (.ref a) (.type "tuple")
 | dK {a:Addr}{kvs:List (Key×V)}(e:H a=some (.dK kvs)):TyOf K H (.ref a) (.type "dict")
 | dT {a:Addr}{kvs:List (List Key×V)}(e:H a=some (.dT kvs)):TyOf K H (.ref a) (.type "dict")
 | ins {a C dx:Addr}{fs:List (Str×V)}(e:H a=some (.ins C dx fs)) (cl:Cls K C) (ha:findIn K (.ref C) "__class__" =some (some (.builtin "object.__class__")))
   (hn:PySem.W.specialIn K (.builtin "object.__class__") "__get__" =some (some (.builtin "getset_descriptor.__get__"))) (htk:PySem.W.takesIn K (.builtin "object.__class__")=some true)
   (hm:mroIn K C (.type "object")=some true):TyOf K H (.ref a) (.ref C)
theorem jM8 {x:V}{u t:Value}(I:Inv X ad σ H s)(rx:RelV x u)(ty:TyOf X.K H x t)(e:kitOne X.K t c=some b)(h:∀ tk,Q (.bool b) { s with toks:=tk}):
  wpAny (model X.prog X.w) A (call (.builtin "isinstance") [u,c]) Q E s:=by
 cases ty with
 | non=>cases (show u=Value.none from rx); exact cy PySem.W.kitx_none I.kIn True.intro e (fun z=>nomatch z) h
 | bl y=>cases (show u=Value.bool y from rx); exact cy PySem.W.kitx_bool I.kIn True.intro e (fun z=>nomatch z) h
 | int i=>obtain⟨t,q⟩:=(show ∃ t,u=Value.int i t from rx); cases q; exact cy PySem.W.kitx_int I.kIn True.intro e (fun z=>nomatch z) h
 | str y=>obtain⟨t,q⟩:=(show ∃ t,u=Value.str y t from rx); cases q; exact cy PySem.W.kitx_str I.kIn True.intro e (fun z=>nomatch z) h
 | flt y=>obtain⟨t,q⟩:=(show ∃ t,u=Value.float y t from rx); cases q; exact cy PySem.W.kitx_float I.kIn True.intro e (fun z=>nomatch z) h
 | @lst a xs ea=>
  cases (show u=Value.ref a from rx)
  obtain⟨_,_,n,_,h1⟩:=(show ObjOk X.prog X.w H s.heap a (.lst xs) from I.hok a _ ea)
  exact cy kitx_list I.kIn ⟨_,h1,rfl⟩ e (fun z=>nomatch z) h
 | @frz a ob xs ea=>
  cases (show u=Value.ref a from rx)
  obtain⟨_,_,_,n,_,h1⟩:=(show ObjOk X.prog X.w H s.heap a (.frz ob (.lst xs)) from I.hok a _ ea)
  exact cy kitx_list I.kIn ⟨_,h1,rfl⟩ e (fun z=>nomatch z) h
 | @tup a xs ea=>
  cases (show u=Value.ref a from rx)
  obtain⟨_,_,_,p⟩:=(show ObjOk X.prog X.w H s.heap a (.tup xs) from I.hok a _ ea)
  obtain⟨o,h1,h2,_⟩:=p.isTup
  exact cy PySem.W.kitx_tuple I.kIn ⟨o,h1,h2⟩ e (fun z=>nomatch z) h
 | @dK a kvs ea=>
  cases (show u=Value.ref a from rx)
  obtain⟨_,_,vs,_,p⟩:=(show ObjOk X.prog X.w H s.heap a (.dK kvs) from I.hok a _ ea)
  obtain⟨o,es,ep,h1,h2,_⟩:=p
  exact cy kitx_dict I.kIn ⟨o,h1,h2.1⟩ e (fun z=>nomatch z) h
 | @dT a kvs ea=>
  cases (show u=Value.ref a from rx)
  obtain⟨_,_,xs,_,o,es,ep,h1,h2,_⟩:=(show ObjOk X.prog X.w H s.heap a (.dT kvs) from I.hok a _ ea)
  exact cy kitx_dict I.kIn ⟨o,h1,h2.1⟩ e (fun z=>nomatch z) h
 | @ins a C dx fs ea cl ha hn htk hm=>
  cases (show u=Value.ref a from rx)
  obtain⟨mA,O,_⟩:=jRA I.hok ea
  obtain⟨od,J,_⟩:=O.look
  exact cy (PySem.W.kitx_own (cl.get _) cl.hd ha hn htk hm) I.kIn J e (fun z=>nomatch z) h
end
structure Room (k:Nat)(A:Around):Prop where
 hd:A.handled=none
 dp:A.depth+3*k+5<recursionLimit
 un:A.units+16*k+200<cLine
theorem Room.mono {j k:Nat}{A:Around}(r:Room k A)(h:j<=k):Room j A:=⟨r.hd,by have:=r.dp; lia,by have:=r.un; lia⟩
theorem Room.deeper {k:Nat}{A:Around}(r:Room (k+1) A)(env:Env):Room k (A.deeper env):=
 ⟨r.hd,by have:=r.dp; show A.depth+1+3*k+5<_; lia,by have:=r.un; show A.units+3+16*k+200<_; lia⟩
theorem Room.in1 {k:Nat}{A:Around}(r:Room (k+1) A):Room k A.in1:=
 ⟨r.hd,by have:=r.dp; show A.depth+3*k+5<_; lia,by have:=r.un; show A.units+1+16*k+200<_; lia⟩
theorem Room.depth {k:Nat}{A:Around}(r:Room k A):A.depth<recursionLimit:=by have:=r.dp; lia
theorem Room.units {k:Nat}{A:Around}(r:Room k A):A.units+64<cLine:=by have:=r.un; lia
theorem Room.units0 {k:Nat}{A:Around}(r:Room k A):A.units<cLine:=by have:=r.un; lia
def tNil:TA:=fun _ H Q=>Q [] H
def tCons (ta:TE)(tr:TA):TA:=fun σ H Q=>ta σ H fun x H1=>tr σ H1 fun xs H2=>Q (x::xs) H2
variable {es:List Expr}{t:TA}
theorem yE:PA X [] tNil:=fun _ _ _ _ H Q I h=>Calls.spliced_nil ⟨[],H,I, .nil,h⟩
theorem kB (ha:PE X e te)(hr:PA X es t)(hs:starEach (e::es) X.env=(false,eval e X.env)::starEach es X.env:=by rfl):PA X (e::es) (tCons te t):=by
 intro pos ad s σ H Q I h
 rw[hs]
 show wpAny _ _ (spliced ((false,eval e X.env)::backTo pos (starEach es X.env))) _ _ s
 refine Calls.spliced_cons (lC (ha ad s σ H _ I h) fun u s1 ⟨x,H1,I1,r1,q1⟩=>?_)
 exact lC (hr pos ad s1 σ H1 _ I1 q1) fun us s2 ⟨xs,H2,I2,r2,q2⟩=>⟨x::xs,H2,I2, .cons r1 r2,q2⟩
def tTup (t:TA):TE:=fun σ H Q=>t σ H fun xs H1=>xs.length<=sizeLine/\∀ p,H1 p=none->Q (.ref p) (upd H1 p (.tup xs))
def tLst (t:TA):TE:=fun σ H Q=>t σ H fun xs H1=>xs.length<=sizeLine/\∀ p,H1 p=none->Q (.ref p) (upd H1 p (.lst xs))
theorem jSO {x1}(h:PA X es t):PE X (.Tuple es x1 pos) (tTup t):=by
 intro ad s σ H Q I hq
 refine wpAny_Tuple_spliced (lC (h pos ad s σ H _ I hq) fun us s1 ⟨xs,H1,I1,r,z,q⟩=>⟨by rw[<- r.length]; exact z,?_⟩)
 have hf:H1 s1.heap.objs.size=none:=I1.hok.fresh (ai _)
 refine⟨.ref s1.heap.objs.size,upd H1 s1.heap.objs.size (.tup xs),I1.laid (t':=s1.toks) (fun b u e=>ae _ e) (ai _) ?_,rfl,q _ hf⟩
 exact⟨z,us,r,TupO.new _ _⟩
theorem jIN (h:PA X es t):PE X (.List es pos) (tLst t):=by
 intro ad s σ H Q I hq
 refine wpAny_List_spliced (lC (h pos ad s σ H _ I hq) fun us s1 ⟨xs,H1,I1,r,z,q⟩=>⟨by rw[<- r.length]; exact z,?_⟩)
 have hf:H1 s1.heap.objs.size=none:=I1.hok.fresh (ai _)
 refine⟨.ref s1.heap.objs.size,upd H1 s1.heap.objs.size (.lst xs),I1.laid (t':=s1.toks) (fun b u e=>ae _ e) (ai _) ?_,rfl,q _ hf⟩
 exact⟨z,us,0,r,aJ _ rfl⟩
abbrev Sp:=List V->Hp->VK->XK->Prop
abbrev CXT:=List Env->Hp->Shared->XK->Value->Shared->Prop
structure Env0 (P:Program)(w:World)(K:W.Frag)(mg:Str->Option Value)(base:Heap)(A:Around)(outer:List Env)(s:Shared)(H:Hp):Prop where
 frames:A.frames=some outer
 mod:Mod K mg base
 bs:∀ b o,base.get? b=some o->s.heap.get? b=some o/\H b=none
 bsz:base.objs.size<=s.heap.objs.size
 funs:s.heap.FunFrames base outer
 frf:∀ b∈frs outer,H b=none
 hok:HOk P w H s.heap
 bare:AllBare s.gens
def CE (outer:List Env)(P:Program)(w:World)(H:Hp)(s:Shared)(Q:VK)(u:Value)(s':Shared):Prop:=
 ∃ v H',s'.os=s.os/\AllBare s'.gens/\Un (frs outer) [] H H' s.heap s'.heap/\HOk P w H' s'.heap/\RelV v u/\Q v H'
def CR (CX:CXT)(outer:List Env)(P:Program)(w:World)(H:Hp)(s:Shared)(Q:VK)(E:XK)(r:Result)(s':Shared):Prop:=
 match r with
 | .ok (.ret u)=>CE outer P w H s Q u s'
 | .ok _=>False
 | .error e=>CX outer H s E e s'
structure FnOk (P:Program)(w:World)(K:W.Frag)(mg:Str->Option Value)(base:Heap)(CX:CXT)(k:Nat)(f:Addr)(fd:FuncData)(ps:List Str)(sp:Sp):Prop where
 len:∀ vs H Q E,sp vs H Q E->vs.length=ps.length
 run:∀ (A:Around) (outer:List Env) (s:Shared) (H:Hp) (args:Args) (us:List Value) (vs:List V) (Q:VK) (E:XK),Room k A->Env0 P w K mg base A outer s H->BindsTo s fd args (ps.zip us)->Vals vs us->sp vs H Q E->
  codeAny (model P w) A (.call (.ref f) args) (CR CX outer P w H s Q E) s
theorem Env0.in1 {P:Program}{w:World}{K:W.Frag}{mg:Str->Option Value}{base:Heap}{A:Around}{outer:List Env}{s:Shared}{H:Hp}(e:Env0 P w K mg base A outer s H):
  Env0 P w K mg base A.in1 outer s H:=⟨e.frames,e.mod,e.bs,e.bsz,e.funs,e.frf,e.hok,e.bare⟩
section
variable {σ:St}{s':Shared}
theorem Inv.env0 (I:Inv X ad σ H s):Env0 X.prog X.w X.K X.mg X.base X.A X.stack s H:=
 ⟨I.ok.frames,I.ok.mod,I.bs,aX I.ok.bsz I.sz,I.stack,I.stkFree,I.hok,I.bare⟩
theorem Inv.after {Q:VK}{u:Value}(I:Inv X ad σ H s)(h:CE X.stack X.prog X.w H s Q u s'):EP X ad σ Q u s':=by
 obtain⟨v,H',os,bare,un,hok,r,q⟩:=h
 obtain⟨hh,g,d,t,os'⟩:=s'
 obtain rfl:os'=s.os:=os
 exact⟨v,H',I.call (h':=hh) (g':=g) (d':=d) (t':=t) (ch:=[]) un hok bare (fun b z=>absurd z (by simp)),r,q⟩
end
def tCall (sp:Sp)(dvs:List V)(E:XK)(t:TA):TE:=fun σ H Q=>t σ H fun vs H1=>sp (vs++dvs) H1 Q E
def Binds (K:W.Frag)(fd:FuncData)(ps:List Str)(ds:List Value):Prop:=
 ∀ (s:Shared) (us:List Value),K.In s.heap->(us++ds).length=ps.length->BindsTo s fd ⟨us,[]⟩ (ps.zip (us++ds))
theorem Binds.all {K:W.Frag}{fd:FuncData}{ps:List Str}(h:∀ us:List Value,us.length=ps.length->bindArgs fd ⟨us,[]⟩=pure (ps.zip us)):Binds K fd ps []:=fun s us _ hl=>by
 rw[bg] at hl ⊢
 exact .of_eq (h us hl)
def jN8 (CX:CXT)(X:Cx)(E:XK):Prop:=∀ (ad:List (Addr×Obj)) (σ:St) (H:Hp) (s:Shared) (e:Value) (s':Shared),Inv X ad σ H s->CX X.stack H s E e s'->X.xe e s'
variable {CX:CXT}{fd:FuncData}{ps:List Str}{sp:Sp}{m:Str}{p apos:Pos}
section
variable {k:Nat}{dvs:List V}{ds:List Value}{E:XK}{x:Str}
theorem jSA {ad:List (Addr×Obj)}{σ:St}{H:Hp}{s:Shared}{Q:VK}{us:List Value}{vs:List V}(F:FnOk X.prog X.w X.K X.mg X.base CX k f fd ps sp)(hr:Room k X.A)(hb:Binds X.K fd ps ds)(hd:Vals dvs ds)(hx:jN8 CX X E)
  (I:Inv X ad σ H s) (r:Vals vs us) (h:sp (vs++dvs) H Q E):wpAny (model X.prog X.w) X.A (call (.ref f) us) (EP X ad σ Q) X.xe s:=by
 have r2:Vals (vs++dvs) (us++ds):=r.append hd
 have hl:(us++ds).length=ps.length:=by rw[<- r2.length]; exact F.len _ _ _ _ h
 refine kh (eQ (F.run X.A X.stack s H ⟨us,[]⟩ (us++ds) (vs++dvs) Q E hr I.env0 (hb s us I.kIn hl) r2 h) fun r s' hq=>?_)
 cases r with
 | error e=>exact hx ad σ H s e s' I hq
 | ok fl=>
  cases fl with
  | ret u=>exact I.after hq
  | next=>exact False.elim hq
  | brk=>exact False.elim hq
  | cont=>exact False.elim hq
theorem jQK (F:FnOk X.prog X.w X.K X.mg X.base CX k f fd ps sp)(hr:Room k X.A)(hg:Gl X x)(hm:X.mg x=some (.ref f))(hk:keepIn X.K (.ref f)=true)(hb:Binds X.K fd ps ds)(hd:Vals dvs ds)(hx:jN8 CX X E)
  (ha:PA X (e::es) t) (hdb:(x==("__debug__" :Str))=false:=by decide) (he:starEach (e::es) X.env=(false,eval e X.env)::starEach es X.env:=by rfl) (hpl:(backTo pos (starEach es X.env)).any (·.1)=false:=by rfl):
  PE X (.Call (.Name x p) (e::es) [] pos) (tCall sp dvs E t):=by
 intro ad s σ H Q I h
 refine dM (jR6 I hg hm ?_ hdb)
 refine PySem.W.callWith_K (h₀:=X.base) I.ok.mod.kin hk (lC (ha pos ad s σ H _ I h) fun us s1 ⟨vs,H1,I1,r,q⟩=>⟨I1.kIn,?_⟩) he hpl
 exact jSA F hr hb hd hx I1 r q
end
def PK (X:Cx)(kws:List Keyword)(t:TA):Prop:=
 ∀ (pos:Pos) (ad:List (Addr×Obj)) (s:Shared) (σ:St) (H:Hp) (Q:List V->Hp->Prop),Inv X ad σ H s->t σ H Q->wpAny (model X.prog X.w) X.A (evalAll ((backToKw pos (keywordEach kws X.env)).map (·.2))) (AP X ad σ Q) X.xe s
section
variable {k:Nat}{ks:List Str}{E:XK}{x:Str}{kpos:Pos}{kws:List Keyword}{tk:TA}{nm:Option Str}
theorem jSJ:PK X [] tNil:=fun _ _ _ _ H Q I h=>wpAny_evalAll_nil ⟨[],H,I, .nil,h⟩
theorem jQA (ha:PE X e te)(hr:PK X kws t):PK X (⟨nm,e,kpos⟩::kws) (tCons te t):=by
 intro pos ad s σ H Q I h
 show wpAny _ _ (evalAll ((do let v <- eval e X.env; standAt pos; pure v)::(backToKw pos (keywordEach kws X.env)).map (·.2))) _ _ s
 refine wpAny_evalAll_cons (aa (lC (ha ad s σ H _ I h) fun u s1 ⟨x,H1,I1,r1,q1⟩=>aa (iF (ah ?_))))
 exact lC (hr pos ad s1 σ H1 _ I1 q1) fun us s2 ⟨xs,H2,I2,r2,q2⟩=>⟨x::xs,H2,I2, .cons r1 r2,q2⟩
variable {g:List Value->List Value->List Value}{gV:List V->List V->List V}
end
structure FnScope (N P:List Str)(sc:Scope):Prop where
 kind:sc.kind= .function:=by rfl
 co:sc.isCoroutine=false:=by rfl
 gen:sc.isGenerator=false:=by rfl
 nd:N.Nodup:=by decide+kernel
 pre:N.take P.length=P:=by rfl
 par:∀ x∈P,sc.names.lookup x=some .local\/sc.names.lookup x=some .cell:=by decide+kernel
 nofree:∀ y∈sc.names,y.2≠ .free:=by decide+kernel
theorem jH0 {kindOf:Str->Option NameKind}{x:Str} :∀ {binds:List (Str×Value)}{m:Str->Option Value},(∀ v,(x,v)∉binds)->bindL kindOf binds m x=m x
 | [],_,_=>rfl
 | (n,v)::r,m,h=>by
  unfold bindL
  rw[jH0 fun w hw=>h w (az _ hw)]
  split
  ·have:x≠n:=by rintro rfl; exact h v ar
   simp [this]
  ·rfl
theorem jH2 {kindOf:Str->Option NameKind}{x:Str} :∀ {binds:List (Str×Value)}{m:Str->Option Value},(∀ v,(x,v)∉binds)->bindC kindOf binds m x=m x
 | [],_,_=>rfl
 | (n,v)::r,m,h=>by
  unfold bindC
  rw[jH2 fun w hw=>h w (az _ hw)]
  split
  ·rfl
  ·have:x≠n:=by rintro rfl; exact h v ar
   simp [this]
theorem jH1 {kindOf:Str->Option NameKind}{x:Str}{v:Value} :∀ {P:List Str}{vs:List Value}{i:Nat}{m:Str->Option Value},P.Nodup->P[i]?=some x->vs[i]?=some v->kindOf x=some .local->
  bindL kindOf (P.zip vs) m x=some v
 | [],_,_,_,_,h,_,_=>by simp at h
 | _::_,[],_,_,_,_,h,_=>by simp at h
 | p::P,w::vs,0,m,nd,h1,h2,hk=>by
  simp at h1 h2; subst h1; subst h2
  show bindL kindOf ((p,w)::P.zip vs) m p=_
  unfold bindL
  rw[jH0 fun v hv=>(cL.mp nd).1 (dw hv).1,ak hk]
  simp
 | p::P,w::vs,i+1,m,nd,h1,h2,hk=>by
  show bindL kindOf ((p,w)::P.zip vs) m x=_
  unfold bindL
  exact jH1 (i:=i) (cL.mp nd).2 (by simpa using h1) (by simpa using h2) hk
theorem jH3 {kindOf:Str->Option NameKind}{x:Str}{v:Value} :∀ {P:List Str}{vs:List Value}{i:Nat}{m:Str->Option Value},P.Nodup->P[i]?=some x->vs[i]?=some v->kindOf x≠some .local->
  bindC kindOf (P.zip vs) m x=some v
 | [],_,_,_,_,h,_,_=>by simp at h
 | _::_,[],_,_,_,_,h,_=>by simp at h
 | p::P,w::vs,0,m,nd,h1,h2,hk=>by
  simp at h1 h2; subst h1; subst h2
  show bindC kindOf ((p,w)::P.zip vs) m p=_
  unfold bindC
  rw[jH2 fun v hv=>(cL.mp nd).1 (dw hv).1,aj hk]
  simp
 | p::P,w::vs,i+1,m,nd,h1,h2,hk=>by
  show bindC kindOf ((p,w)::P.zip vs) m x=_
  unfold bindC
  exact jH3 (i:=i) (cL.mp nd).2 (by simpa using h1) (by simpa using h2) hk
def kZ (N:List Str)(vs:List V):St:=vs.map some++replicate (N.length - vs.length) none
def cxOf (CX:CXT)(P:Program)(w:World)(K:W.Frag)(mg:Str->Option Value)(base:Heap)(N:List Str)(qual:Str)(scope:Scope)(f:Addr)(cd:Value)(A:Around)(outer:List Env)(s:Shared)(H:Hp)(E:XK):Cx where
 prog:=P
 w:=w
 K:=K
 mg:=mg
 base:=base
 A:=A.deeper (envOfC qual scope s.heap.objs.size f cd)
 N:=N
 s₀:=s
 H₀:=H
 env:=envOfC qual scope s.heap.objs.size f cd
 outer:=outer
 stack:=envOfC qual scope s.heap.objs.size f cd::outer
 ex:=[]
 calm:=true
 fn:=fun _=>true
 pn:=[]
 xe:=fun e s'=>wpAny (model P w) (A.deeper (envOfC qual scope s.heap.objs.size f cd)) (leaving (envOfC qual scope s.heap.objs.size f cd) e) (fun _ s''=>CX outer H s E e s'') (fun e' s''=>CX outer H s E e' s'') s'
theorem jJB {sc:Scope}{n:Nat}{x:Str}(h:sc.names.lookup x=some .cell):∃ c,(cellsFrom n sc.names []).lookup x=some c:=by
 have q:=gc sc.names n [] (.inl h)
 exact Option.isSome_iff_exists.mp q
theorem jGP {CX:CXT}{P:Program}{w:World}{K:W.Frag}{mg:Str->Option Value}{base:Heap}{N ps:List Str}{qual:Str}{scope:Scope}{f:Addr}{cd:Value}{A:Around}{outer:List Env}{s s1:Shared}{H:Hp}{E:XK}{us:List Value}{vs:List V}
  (S:FnScope N ps scope) (hd:A.handled=none) (e0:Env0 P w K mg base A outer s H) (hl:vs.length=ps.length) (r:Vals vs us)
  (x:InCallC s s.heap.objs.size (bindL (envOfC qual scope s.heap.objs.size f cd).kindOf (ps.zip us) fun _=>none) (cellsFrom (s.heap.objs.size+1) scope.names []) (bindC (envOfC qual scope s.heap.objs.size f cd).kindOf (ps.zip us) fun _=>none) s1):
  Inv (cxOf CX P w K mg base N qual scope f cd A outer s H E) [] (kZ N vs) H s1:=by
 have hpl:ps.length<=N.length:=by have:=bA List.length S.pre; rw[bq] at this; lia
 obtain⟨h1,tk,rfl,hk⟩:=x.done
 have noA:∀ b:Addr,b∉(cxOf CX P w K mg base N qual scope f cd A outer s H E).ex:=fun b z=>absurd (show b∈([]:List Addr) from z) (by simp)
 refine⟨⟨e0.mod,S.kind,rfl,rfl,ai _,fun y z c h1 h2=>?_,fun y hy=>?_,fun y c _ h=>?_,fun _=>hd,Around.frames_deeper e0.frames, .inr ⟨rfl,rfl⟩,fun b z=>absurd z (noA b),e0.bs,e0.bsz,fun b _ _=>noA b,fun b z=>absurd z (noA b),e0.funs,e0.frf⟩,
  rfl,e0.bare,Un.kept hk,⟨_,x.toInCall.ns,fun i y v h1 h2 h3=>?_⟩,fun y c h=>⟨_,x.cell y c h⟩,e0.hok.fresh (ai _),fun y c h=>?_,fun p hp=>absurd (show p∈([]:List (Addr×Obj)) from hp) (by simp),e0.hok.kept hk,?_⟩
 ·exact name_of_addr x.apart (cD h1) (cD h2)
 ·have hy:scope.names.lookup y=some .cell\/scope.names.lookup y=some .free:=hy
  rcases hy with hy | hy
  ·exact jJB hy
  ·exact absurd rfl (S.nofree _ (cD hy))
 ·exact dF (x.above y c (cD h))
 ·have hi:i<vs.length:=by
   unfold kZ at h2
   by_cases hi:i<vs.length
   ·exact hi
   ·rw[bh (by simpa using hi)] at h2
    rw[eJ] at h2
    split at h2 <;> cases h2
  have ha:vs[i]?=some v:=by
   unfold kZ at h2
   rw[bQ (by simpa using hi),aY] at h2
   cases e:vs[i]? with
   | none=>rw[e] at h2; cases h2
   | some a=>rw[e] at h2; cases h2; rfl
  obtain⟨u,hu,rv⟩:=r.get ha
  have hp:ps[i]?=some y:=by
   rw[<- S.pre,ci (by lia)]; exact h1
  have ndP:ps.Nodup:=by rw[<- S.pre]; exact S.nd.sublist (d0 _ _)
  refine⟨u,rv,?_⟩
  rcases S.par y (aC hp) with k | k
  ·exact .inl ⟨k,jH1 ndP hp hu k⟩
  ·obtain⟨c,e⟩:=jJB (n:=s.heap.objs.size+1) k
   refine .inr ⟨.inl k,c,e,?_⟩
   have q:=x.cell y c e
   rw[jH3 ndP hp hu (by show scope.names.lookup y≠_; rw[k]; decide)] at q
   exact q
 ·exact e0.hok.fresh (dF (x.above y c (cD h)))
 ·unfold kZ
  show _=N.length
  rw[aG,ab,cX]
  lia
theorem fn_of {CX:CXT}{P:Program}{w:World}{K:W.Frag}{mg:Str->Option Value}{base:Heap}{k:Nat}{f:Addr}{name qual:Str}{params:Arguments}{body:List Stmt}{scope:Scope}{dV kV doc pm cdv ct oc:Value}{an od:Option Addr}
  {osl:Array (Option Value)}{N ps:List Str}{sp:Sp}(lk:K.lookup f=some ⟨oc,od, .func (PySem.W.fnOf name qual params body scope dV kV doc pm an cdv ct),osl⟩) (hcd:PySem.W.codeIn K cdv qual=true) (S:FnScope N ps scope)
  (len:∀ vs H Q E,sp vs H Q E->vs.length=ps.length)
  (hbody:∀ (A:Around) (outer:List Env) (s:Shared) (H:Hp) (vs:List V) (Q:VK) (E:XK),Room k (A.deeper (envOfC qual scope s.heap.objs.size f cdv))->sp vs H Q E->
   ∃ t,PSs (cxOf CX P w K mg base N qual scope f cdv A outer s H E) body t/\t { nx:=fun _ H'=>Q .non H',rt:=Q} (kZ N vs) H):
  FnOk P w K mg base CX (k+1) f (PySem.W.fnOf name qual params body scope dV kV doc pm an cdv ct) ps sp:=by
 refine⟨len,fun A outer s H args us vs Q E hr e0 hb r hsp=>?_⟩
 have hl:=len _ _ _ _ hsp
 have KX:K.In s.heap:=e0.mod.kin.keeps fun b o e=>(e0.bs b o e).1
 have lim:s.heap.NoLimit:=e0.mod.nolimit.keeps fun b o e=>(e0.bs b o e).1
 have hkind:∀ y∈ps.zip us,scope.names.lookup y.1=some .local\/(scope.names.lookup y.1=some .cell/\((cellsFrom (s.heap.objs.size+1) scope.names []).lookup y.1).isSome=true):=fun ⟨n,v⟩ hy=>by
  rcases S.par n (dw hy).1 with q | q
  ·exact .inl q
  ·exact .inr ⟨q,gc _ _ _ (.inl q)⟩
 refine codeAny_call_function hr.depth (KX _ _ lk) rfl S.co S.gen rfl (ki KX hcd) (hb _ _ _ _ ?_)
 refine g7 S.kind hkind fun env he s1 x=>?_
 subst he
 refine⟨lim.keeps x.toInCall.keep,codeAny_func ?_⟩
 obtain⟨t,ht,hq⟩:=hbody A outer s H vs Q E (hr.deeper _) hsp
 have I:Inv (cxOf CX P w K mg base N qual scope f cdv A outer s H E) [] (kZ N vs) H s1:=jGP S hr.hd e0 hl r x
 refine bX (ht [] s1 (kZ N vs) H _ I hq) (fun fl s' hs=>?_) fun e s' hs=>hs
 have fin:∀ {σ':St}{H':Hp}{v:V}{u:Value},Inv (cxOf CX P w K mg base N qual scope f cdv A outer s H E) [] σ' H' s'->RelV v u->Q v H'->CE outer P w H s Q u s':=
  fun {σ' H' v u} J rv q=>⟨v,H',J.os,J.bare,J.base,J.hok,rv,q⟩
 cases fl with
 | ret u=>
  obtain⟨v,σ',H',J,rv,q⟩:=hs
  exact fin J rv q
 | next=>
  obtain⟨σ',H',J,q⟩:=hs
  exact fin (v:=V.non) (u:=Value.none) J rfl q
 | brk=>
  obtain⟨_,_,_,q⟩:=hs
  exact False.elim q
 | cont=>
  obtain⟨_,_,_,q⟩:=hs
  exact False.elim q
section
variable {x:Str}{id T:String}{r:List V->Hp->VK->Prop}
def tCB (r:List V->Hp->VK->Prop)(t:TA):TE:=fun σ H Q=>t σ H fun vs H1=>r vs H1 Q
theorem jF0 (hc:yN X (.builtin id) r)(hg:Gl X x)(hm:X.mg x=none)(hv:bootBuiltins x=some (.builtin id))(ha:PA X (e::es) t)(hn:x≠ "__name__" :=by decide)(hdb:(x==("__debug__" :Str))=false:=by decide)
  (he:starEach (e::es) X.env=(false,eval e X.env)::starEach es X.env:=by rfl) (hpl:(backTo pos (starEach es X.env)).any (·.1)=false:=by rfl):PE X (.Call (.Name x p) (e::es) [] pos) (tCB r t):=by
 intro ad s σ H Q I h
 refine dM (jBV I hg hm hv ?_ hn hdb)
 exact PyProof.Rows.callWith_builtin1 (lC (ha pos ad s σ H _ I h) fun us s1 ⟨vs,H1,I1,r1,q1⟩=>hc ad s1 σ H1 vs us Q I1 r1 q1) he hpl
theorem jBR (hc:yN X (.type T) r)(hg:Gl X x)(hm:X.mg x=none)(hv:bootBuiltins x=some (.type T))(ha:PA X (e::es) t)(hn:x≠ "__name__" :=by decide)(hdb:(x==("__debug__" :Str))=false:=by decide)
  (he:starEach (e::es) X.env=(false,eval e X.env)::starEach es X.env:=by rfl) (hpl:(backTo pos (starEach es X.env)).any (·.1)=false:=by rfl):PE X (.Call (.Name x p) (e::es) [] pos) (tCB r t):=by
 intro ad s σ H Q I h
 refine dM (jBV I hg hm hv ?_ hn hdb)
 exact cP (lC (ha pos ad s σ H _ I h) fun us s1 ⟨vs,H1,I1,r1,q1⟩=>hc ad s1 σ H1 vs us Q I1 r1 q1) he hpl
end
end L2
namespace HT
open PySem PyProof.Rows
noncomputable def lexLt:List Int->List Int->Bool
 | [],[]=>false
 | [],_::_=>true
 | _::_,[]=>false
 | x::xs,y::ys=>if x=y then lexLt xs ys else decide (x<y)
theorem lexLt_cons (x y:Int)(xs ys:List Int):lexLt (x::xs) (y::ys)=if x=y then lexLt xs ys else decide (x<y):=rfl
section
open PySem.SeqAt
open PySem.AutoSeq1 (wpAny_loadPart')
open PySem.MeetsSeq PySem.MeetsSeq2 PySem.MeetsSeq3
end
section
variable {prog:Program}{w:World}{A:Around}{E:Value->Shared->Prop}{s:Shared}
theorem cat_tup {t b:Addr}{vs ws:List Value}{Q:Value->Shared->Prop}(ht:IsTup s.heap t vs.toArray)(hb:IsTup s.heap b ws.toArray)(hv:vs≠ [])
  (h1:ws=[]->Q (.ref t) s) (h2:ws≠ []->Q (.ref s.heap.objs.size) { s with heap:=s.heap.push { cls:= .type "tuple",data:= .seq (vs++ws).toArray}})
  (hsz:vs.length+ws.length<=sizeLine):wpAny (model prog w) A (binaryOp .Add (.ref t) (.ref b)) Q E s:=by
 obtain⟨⟨cls,dd,data,sl⟩,ho,hc,n,hd⟩:=id ht
 obtain⟨⟨cls2,dd2,data2,sl2⟩,ho2,hc2,n2,hd2⟩:=id hb
 simp only at hc hd hc2 hd2
 subst hc hd hc2 hd2
 have e:vs.toArray++ws.toArray=(vs++ws).toArray:=by simp
 by_cases hw:ws=[]
 ·exact concat_meets ⟨_,ho,rfl⟩ ⟨_,ho2,rfl⟩ iK seq_tuple_add gd fZ (fw _ _)
   (tuple_addW1 t b vs.toArray ws.toArray n n2 dd dd2 sl sl2 (by simpa using hv) (by simp [hw])) ⟨ho,ho2,h1 hw⟩
 ·refine concat_meets ⟨_,ho,rfl⟩ ⟨_,ho2,rfl⟩ iK seq_tuple_add gd fZ (fw _ _)
   (tuple_addW2 t b vs.toArray ws.toArray n n2 dd dd2 sl sl2 (by simpa using hv) (by simpa using hw) (by rw[aK,aK]; exact hsz)) ⟨ho,ho2,?_⟩
  rw[e]
  exact h2 hw
noncomputable def sIx (n d:Nat):Option Int->Nat
 | none=>d
 | some v=>if v<0 then (v+(n:Int)).toNat else min v.toNat n
theorem sIx_none (n d:Nat):sIx n d none=d:=rfl
theorem sIx_nat (n d k:Nat):sIx n d (some (k:Int))=min k n:=by
 show (if (k:Int)<0 then ((k:Int)+(n:Int)).toNat else min (k:Int).toNat n)=min k n
 rw[aj (by lia),bB]
end
end HT
namespace L2
open PySem PySem.Spec PyProof.Rows
abbrev TO:=St->Hp->(Option Int->Hp->Prop)->Prop
def PO (X:Cx)(e:Option Expr)(t:TO):Prop:=
 ∀ (ad:List (Addr×Obj)) (s:Shared) (σ:St) (H:Hp) (Q:Option Int->Hp->Prop),Inv X ad σ H s->t σ H Q->
  wpAny (model X.prog X.w) X.A (evalPart e X.env) (fun u s'=>∃ o H',Inv X ad σ H' s'/\IsPart u o/\Q o H') X.xe s
def jEL:TO:=fun _ H Q=>Q none H
def tPart (t:TE):TO:=fun σ H Q=>t σ H fun x H1=>∃ i,x= .int i/\Q (some i) H1
variable {X:Cx}{e:Expr}{pos:Pos}
section
variable {te:TE}{lo hi:Option Expr}{tl th:TO}{p2:Pos}
theorem jQ9:PO X none jEL:=by
 intro ad s σ H Q I h
 rw[evalPart_none]
 exact ah ⟨none,H,I, .none,h⟩
theorem jQ8 (h:PE X e te):PO X (some e) (tPart te):=by
 intro ad s σ H Q I hw
 rw[evalPart_some]
 refine lC (h ad s σ H _ I hw) fun u s1 ⟨x,H1,I1,r1,q1⟩=>?_
 obtain⟨i,rfl,q⟩:=q1
 obtain⟨t,rfl⟩:=r1
 exact⟨some i,H1,I1, .int i t,q⟩
def SlR (X:Cx)(r:V->Option Int->Option Int->Hp->VK->Prop):Prop:=
 ∀ (ad:List (Addr×Obj)) (s:Shared) (σ:St) (H:Hp) (x:V) (v vl vu:Value) (lo hi:Option Int) (sl:Addr) (Q:VK),Inv X ad σ H s->RelV x v->s.heap.IsSliceOf sl vl vu .none->IsPart vl lo->IsPart vu hi->r x lo hi H Q->
  ∃ T id,typeLookup (.type T) "__getitem__" =pure (some (.builtin id))/\s.TypeIs v T/\wpAny (model X.prog X.w) X.A (getItem v (.ref sl)) (EP X ad σ Q) X.xe s
def tSl (r:V->Option Int->Option Int->Hp->VK->Prop)(te:TE)(tl th:TO):TE:=fun σ H Q=>te σ H fun x H1=>tl σ H1 fun l H2=>th σ H2 fun u H3=>r x l u H3 Q
theorem jNQ {r:V->Option Int->Option Int->Hp->VK->Prop}(hr:SlR X r)(he:PE X e te)(hl:PO X lo tl)(hu:PO X hi th):PE X (.Subscript e (.Slice lo hi none p2) pos) (tSl r te tl th):=by
 intro ad s σ H Q I h
 refine Subscript_ (lC (he ad s σ H _ I h) fun v s1 ⟨x,H1,I1,r1,q1⟩=>?_)
 refine wpAny_Slice (lC (hl ad s1 σ H1 _ I1 q1) fun vl s2 ⟨l,H2,I2,pl,q2⟩=>lC (hu ad s2 σ H2 _ I2 q2) fun vu s3 ⟨u,H3,I3,pu,q3⟩=>?_)
 rw[evalPart_none]
 refine ah ?_
 have I4:Inv X ad σ H3 { s3 with heap:=s3.heap.push { cls:= .type "slice",data:= .fields #[vl,vu, .none]}} :=I3.kept (t':=s3.toks) fun b ob q=>ae _ q
 obtain⟨T,id,hT,ht,hg⟩:=hr ad { s3 with heap:=s3.heap.push { cls:= .type "slice",data:= .fields #[vl,vu, .none]}} σ H3 x v vl vu l u s3.heap.objs.size Q I4 r1 (Heap.IsSliceOf.new ..) pl pu q3
 show wpAny (model X.prog X.w) X.A (subscriptTail e (.Slice lo hi none p2) v (.ref s3.heap.objs.size)) (EP X ad σ Q) X.xe { s3 with heap:=s3.heap.push { cls:= .type "slice",data:= .fields #[vl,vu, .none]}}
 exact tail_any (ops:=[.ref s3.heap.objs.size,v]) ht hT hg (by with_unfolding_all rfl)
def cutV (xs:List V)(lo hi:Option Int):List V:=(xs.drop (HT.sIx xs.length 0 lo)).take (HT.sIx xs.length xs.length hi - HT.sIx xs.length 0 lo)
theorem jI4 (xs:List V)(lo hi:Option Int):(cutV xs lo hi).length<=xs.length:=by
 unfold cutV
 rw[bq,dI]
 lia
def rCatT (K:W.Frag):R2:=fun x y H Q=>∃ a b xs ys,x= .ref a/\y= .ref b/\SqT K H a xs/\SqT K H b ys/\xs≠ []/\xs.length+ys.length<=sizeLine/\
 (ys=[]->Q (.ref a) H)/\(ys≠ []->∀ p,H p=none->Q (.ref p) (upd H p (.tup (xs++ys))))
theorem Vals.nil_iff {xs:List V}{us:List Value}(r:Vals xs us):us=[]↔xs=[]:=by
 cases r with
 | nil=>simp
 | cons _ _=>simp
theorem jQP:OpR X (binaryOp .Add) (rCatT X.K):=by
 intro ad s σ H x y v u Q I rx ry h
 obtain⟨a,b,xs,ys,rfl,rfl,ha,hb,hx,hz,q1,q2⟩:=h
 cases rx
 cases ry
 obtain⟨its,r1,p1,_⟩:=I.tuple ha
 obtain⟨its2,r2,p2,_⟩:=I.tuple hb
 refine HT.cat_tup p1 p2 (fun z=>hx (r1.nil_iff.mp z)) (fun z=>⟨.ref a,H,I,rfl,q1 (r2.nil_iff.mp z)⟩) (fun z=>?_) (by rw[<- r1.length,<- r2.length]; exact hz)
 refine⟨.ref s.heap.objs.size,_,I.laid (t':=s.toks) (o:= .tup (xs++ys)) (fun b ob q=>ae _ q) (ai _) ?_,rfl,q2 (fun w=>z (r2.nil_iff.mpr w)) _ (I.hok.fresh (ai _))⟩
 exact⟨by rw[aG]; exact hz,_,r1.append r2,TupO.new _ _⟩
end
noncomputable def ixN (n:Nat)(i:Int):Option Nat:=if 0<=i then (if i<n then some i.toNat else none) else if -(n:Int)<=i then some (i+n).toNat else none
def atI {α:Type}(xs:List α)(i:Int):Option α:=(ixN xs.length i).bind fun j=>xs[j]?
theorem jM7 {n:Nat}{i:Int}{j:Nat}(h:ixN n i=some j):seqIndex? i n=some j/\j<n/\ -(n:Int)<=i/\i<n:=by
 unfold ixN at h
 by_cases h0:0<=i
 ·rw[ak h0] at h
  by_cases h1:i<n
  ·rw[ak h1] at h
   have e:i.toNat=j:=br h
   exact⟨by rw[seqIndex_of h0 h1,e],by lia,by lia,h1⟩
  ·rw[aj h1] at h; cases h
 ·rw[aj h0] at h
  by_cases h1: -(n:Int)<=i
  ·rw[ak h1] at h
   have e:(i+n).toNat=j:=br h
   exact⟨by rw[seqIndex_neg (by lia) h1,e],by lia,h1,by lia⟩
  ·rw[aj h1] at h; cases h
theorem jN5 {α:Type}{xs:List α}{i:Int}{v:α}(h:atI xs i=some v):∃ j,seqIndex? i xs.length=some j/\xs[j]?=some v/\j<xs.length/\ -(xs.length:Int)<=i/\i<xs.length:=by
 unfold atI at h
 cases e:ixN xs.length i with
 | none=>rw[e] at h; cases h
 | some j=>
  rw[e] at h
  obtain⟨h1,h2,h3,h4⟩:=jM7 e
  exact⟨j,h1,h,h2,h3,h4⟩
theorem jCM {α:Type}{xs:List α}{j:Nat}{v:α}(h:xs[j]?=some v):atI xs (j:Int)=some v:=by
 have hj:j<xs.length:=(am.mp h).1
 have e:ixN xs.length (j:Int)=some j:=by
  unfold ixN
  rw[ak (by lia),ak (by lia)]; simp
 unfold atI; rw[e]; exact h
def jB0 (b:Expr):Prop:=∀ o i,subscripted b false o i=operate [o,i] (getItem o i)
def IxR (X:Cx)(r:R2):Prop:=
 ∀ (value slice:Expr) (ad:List (Addr×Obj)) (s:Shared) (σ:St) (H:Hp) (x y:V) (v u:Value) (Q:VK),Inv X ad σ H s->RelV x v->RelV y u->r x y H Q->
  subscripted slice false v u=operate [v,u] (getItem v u)->wpAny (model X.prog X.w) X.A (subscriptTail value slice v u) (EP X ad σ Q) X.xe s
def MtR (X:Cx)(id:String)(r:V->List V->Hp->VK->Prop):Prop:=
 ∀ (ad:List (Addr×Obj)) (s:Shared) (σ:St) (H:Hp) (x:V) (xs:List V) (v:Value) (us:List Value) (Q:VK),Inv X ad σ H s->RelV x v->Vals xs us->r x xs H Q->
  wpAny (model X.prog X.w) X.A (call (.builtin id) (v::us)) (EP X ad σ Q) X.xe s
section
variable {a b:Expr}{ta tb:TE}
theorem pe_ix {r:R2}(hr:IxR X r)(ha:PE X a ta)(hb:PE X b tb)(hs:jB0 b):PE X (.Subscript a b pos) (tOp r ta tb):=by
 intro ad s σ H Q I h
 exact Subscript_ (binT ha hb I h fun v u s2 x y H2 I2 rx ry q=>hr a b ad s2 σ H2 x y v u Q I2 rx ry q (hs _ _))
def rIxL (K:W.Frag):R2:=fun x y H Q=>∃ p xs i v,x= .ref p/\y= .int i/\SqL K H p xs/\atI xs i=some v/\Q v H
def rIxT (K:W.Frag):R2:=fun x y H Q=>∃ p xs i v,x= .ref p/\y= .int i/\SqT K H p xs/\atI xs i=some v/\Q v H
theorem yB:IxR X (rIxL X.K):=by
 intro value slice ad s σ H x y v u Q I rx ry h hs
 obtain⟨p,xs,i,z,rfl,rfl,hq,he,q⟩:=h
 cases rx
 obtain⟨t,rfl⟩:=ry
 obtain⟨its,r,pl,hz⟩:=I.list hq
 obtain⟨j,h1,h2,h3,h4,h5⟩:=jN5 he
 obtain⟨w,ew,rw'⟩:=r.get h2
 have hl:=r.length
 have hn:=jGI
 have fin:EP X ad σ Q w s:=⟨z,H,I,rw',q⟩
 by_cases h0:0<=i
 ·have hj:i.toNat=j:=by
   rw[seqIndex_of h0 h5] at h1
   exact br h1
  exact item_listR pl.isList h0 (by lia) (by rw[hj]; simpa using ew) fin hs
 ·have hj:(i+(its.toArray.size:Int)).toNat=j:=by
   rw[seqIndex_neg (by lia) h4] at h1
   rw[aK,<- hl]
   exact br h1
  exact subscriptTail_builtinR (x:=w) pl.isList.typeIs slot_list_getitem.lookup
   (wpAny_getItem_list_neg (Q:=fun r s'=>r=w/\EP X ad σ Q r s') pl.isList (by lia) (by rw[aK] <;> lia) (by lia) (by rw[hj]; simpa using ew) ⟨rfl,fin⟩) hs
theorem kL:IxR X (rIxT X.K):=by
 intro value slice ad s σ H x y v u Q I rx ry h hs
 obtain⟨p,xs,i,z,rfl,rfl,hq,he,q⟩:=h
 cases rx
 obtain⟨t,rfl⟩:=ry
 obtain⟨its,r,pl,hz⟩:=I.tuple hq
 obtain⟨j,h1,h2,h3,h4,h5⟩:=jN5 he
 obtain⟨w,ew,rw'⟩:=r.get h2
 have hl:=r.length
 have hn:=jGI
 have fin:EP X ad σ Q w s:=⟨z,H,I,rw',q⟩
 exact subscriptTail_builtinR (x:=w) pl.typeIs slot_tuple_getitem.lookup
  (getItem_tuple (j:=j) (Q:=fun r s'=>r=w/\EP X ad σ Q r s') pl (by lia) (by lia) (by rw[aK,<- hl]; exact h1) (by simpa using ew) ⟨rfl,fin⟩) hs
theorem jJW (its:List Value)(n j:Nat)(u:Value):Obj.mapSeq (·.setIfInBounds j u) { cls:= .type "list",data:= .seq its.toArray n} = { cls:= .type "list",data:= .seq (its.set j u).toArray n} :=by
 simp [Obj.mapSeq]
theorem Inv.lst {ad:List (Addr×Obj)}{σ:St}{H:Hp}{s:Shared}{p:Addr}{xs:List V}(I:Inv X ad σ H s)(h:H p=some (.lst xs)):
  ∃ (its:List Value) (n:Nat),Vals xs its/\s.heap.get? p=some { cls:= .type "list",data:= .seq its.toArray n} /\xs.length<=sizeLine:=by
 obtain⟨z,its,n,r,e⟩:=I.hok p _ h
 exact⟨its,n,r,e,z⟩
theorem Inv.lstUpd {ad:List (Addr×Obj)}{σ:St}{H:Hp}{s:Shared}{p:Addr}{xs ys:List V}{its its':List Value}{n n':Nat}{f:Obj->Obj}(I:Inv X ad σ H s)(h:H p=some (.lst xs))
  (ho:s.heap.get? p=some { cls:= .type "list",data:= .seq its.toArray n}) (hf:f { cls:= .type "list",data:= .seq its.toArray n} = { cls:= .type "list",data:= .seq its'.toArray n'}) (r:Vals ys its') (hz:ys.length<=sizeLine) (t:Nat):
  Inv X ad σ (upd H p (.lst ys)) { s with heap:=s.heap.update p f,toks:=t} :=by
 have e:(s.heap.update p f).get? p=some { cls:= .type "list",data:= .seq its'.toArray n'} :=by
  rw[dQ f ho (by rw[hf] <;> rfl),hf]
 refine I.write (x:=p) (e:=p) (by rw[h]; trivial) (.inl rfl) (fun b u hb q=>(bw _ _ (dZ hb)).trans q) ⟨_,e⟩ ?_
 exact⟨hz,its',n',r,e⟩
def rSetL:V->V->V->Hp->(Hp->Prop)->Prop:=fun o i v H Q=>∃ p xs k j,o= .ref p/\i= .int k/\H p=some (.lst xs)/\ixN xs.length k=some j/\Q (upd H p (.lst (xs.set j v)))
theorem jEV:PSet X rSetL:=by
 intro ad s σ H o i v ov iv u Q I ro ri rv h
 obtain⟨p,xs,k,j,rfl,rfl,hp,hj,q⟩:=h
 cases ro
 obtain⟨t,rfl⟩:=ri
 obtain⟨its,n,r,ho,hz⟩:=I.lst hp
 obtain⟨h1,h2,h3,h4⟩:=jM7 hj
 have hl:=r.length
 have hn:=jGI
 have I':Inv X ad σ (upd H p (.lst (xs.set j v))) { s with heap:=s.heap.update p (Obj.mapSeq (·.setIfInBounds j u))} :=
  I.lstUpd hp ho (jJW its n j u) (r.set rv j) (by rw[gJ]; exact hz) s.toks
 by_cases h0:0<=k
 ·have hk:k.toNat=j:=by
   rw[seqIndex_of h0 h4] at h1
   exact br h1
  exact PySem.W.ki_setAt ho h0 (by lia) (by rw[aK,<- hl]; exact h4) (by rw[hk]; exact⟨_,I',q⟩)
 ·have hk:(k+(its.toArray.size:Int)).toNat=j:=by
   rw[seqIndex_neg (by lia) h3] at h1
   rw[aK,<- hl]
   exact br h1
  exact PySem.W.ki_setBack ho (by lia) (by rw[aK,<- hl]; exact h3) (by lia) (by rw[hk]; exact⟨_,I',q⟩)
theorem jG3 (lo hi:Option Int)(n:Nat):(sliceBounds lo hi none n).1=((HT.sIx n 0 lo:Nat):Int)/\(sliceBounds lo hi none n).2.1=((HT.sIx n n hi:Nat):Int)/\(sliceBounds lo hi none n).2.2=1:=by
 refine⟨?_,?_,rfl⟩
 ·cases lo with
  | none=>simp [sliceBounds,HT.sIx]
  | some i=>
   simp only [sliceBounds,HT.sIx,getD_none,show (1:Int)>0 by decide,io]
   by_cases h:i<0
   ·simp only [h,io] <;> lia
   ·simp only [h,kq] <;> lia
 ·cases hi with
  | none=>simp [sliceBounds,HT.sIx]
  | some i=>
   simp only [sliceBounds,HT.sIx,getD_none,show (1:Int)>0 by decide,io]
   by_cases h:i<0
   ·simp only [h,io] <;> lia
   ·simp only [h,kq] <;> lia
theorem jET (its:List Value)(lo hi:Option Int):slicePick its.toArray lo hi none=((its.drop (HT.sIx its.length 0 lo)).take (HT.sIx its.length its.length hi - HT.sIx its.length 0 lo)).toArray:=by
 obtain⟨h1,h2,h3⟩:=jG3 lo hi its.toArray.size
 unfold slicePick
 rw[h1,h2,h3]
 simp only [sliceRange_one,pick_run,aK] <;> rfl
def rSlL (K:W.Frag):V->Option Int->Option Int->Hp->VK->Prop:=fun x lo hi H Q=>∃ a xs,x= .ref a/\SqL K H a xs/\∀ p,H p=none->Q (.ref p) (upd H p (.lst (cutV xs lo hi)))
theorem jEU:SlR X (rSlL X.K):=by
 intro ad s σ H x v vl vu lo hi sl Q I rx hs pl pu h
 obtain⟨a,xs,rfl,hx,q⟩:=h
 cases rx
 obtain⟨its,r,ht,hz⟩:=I.list hx
 have hlen:=r.length
 refine⟨"list",_,slot_list_getitem.lookup,ht.isList.typeIs,?_⟩
 refine wpAny_getItem_list_slice ht.isList hs pl pu .none (by simp) ?_ (by rw[aK] <;> lia)
 rw[jET,<- hlen]
 refine⟨.ref s.heap.objs.size,_,I.laid (t':=s.toks) (o:= .lst (cutV xs lo hi)) (fun b ob q=>ae _ q) (ai _) ?_,rfl,q _ (I.hok.fresh (ai _))⟩
 exact⟨aX (jI4 xs lo hi) hz,_,0,(r.drop (HT.sIx xs.length 0 lo)).take (HT.sIx xs.length xs.length hi - HT.sIx xs.length 0 lo),aJ _ rfl⟩
def flatV:V->Bool
 | .non=>true
 | .bl _=>true
 | .int _=>true
 | .str _=>true
 | _=>false
noncomputable def eqV:V->V->Bool
 | .non, .non=>true
 | .bl a, .bl b=>a==b
 | .bl a, .int b=>(if a then 1 else 0)==b
 | .int a, .bl b=>a==(if b then 1 else 0)
 | .int a, .int b=>a==b
 | .str a, .str b=>a==b
 | _,_=>false
theorem jTV {A:Around}{s:Shared}{y x:V}{u v:Value}(ry:RelV y u)(rx:RelV x v)(fy:flatV y=true)(fx:flatV x=true):SeqAt.EqAt A s u v (eqV y x):=by
 cases y with
 | non=>
  cases ry
  cases x with
  | non=>cases rx; exact SeqAt.EqAt.same _
  | bl b=>cases rx; exact SeqAt.EqAt.none_bool b
  | int b=>obtain⟨t,rfl⟩:=rx; exact SeqAt.EqAt.none_int b t
  | str b=>obtain⟨t,rfl⟩:=rx; exact SeqAt.EqAt.none_str b t
  | _=>exact absurd (show false=true from fx) ao
 | bl a=>
  cases ry
  cases x with
  | non=>cases rx; exact SeqAt.EqAt.bool_none a
  | bl b=>cases rx; exact SeqAt.EqAt.bool_bool a b
  | int b=>obtain⟨t,rfl⟩:=rx; exact SeqAt.EqAt.bool_int a b t
  | str b=>obtain⟨t,rfl⟩:=rx; exact SeqAt.EqAt.bool_str a b t
  | _=>exact absurd (show false=true from fx) ao
 | int a=>
  obtain⟨t',rfl⟩:=ry
  cases x with
  | non=>cases rx; exact SeqAt.EqAt.int_none a t'
  | bl b=>cases rx; exact SeqAt.EqAt.int_bool a t' b
  | int b=>obtain⟨t,rfl⟩:=rx; exact SeqAt.EqAt.int_int a t' b t
  | str b=>obtain⟨t,rfl⟩:=rx; exact SeqAt.EqAt.int_str a t' b t
  | _=>exact absurd (show false=true from fx) ao
 | str a=>
  obtain⟨t',rfl⟩:=ry
  cases x with
  | non=>cases rx; exact SeqAt.EqAt.str_none a t'
  | bl b=>cases rx; exact SeqAt.EqAt.str_bool a t' b
  | int b=>obtain⟨t,rfl⟩:=rx; exact SeqAt.EqAt.str_int a t' b t
  | str b=>obtain⟨t,rfl⟩:=rx; exact SeqAt.EqAt.str_str a t' b t
  | _=>exact absurd (show false=true from fx) ao
 | _=>exact absurd (show false=true from fy) ao
noncomputable def eqU (x:V)(u:Value):Bool:=match u with
 | .none=>eqV .non x
 | .bool b=>eqV (.bl b) x
 | .int i _=>eqV (.int i) x
 | .str z _=>eqV (.str z) x
 | _=>false
theorem jPH {x y:V}{u:Value}(r:RelV y u)(f:flatV y=true):eqU x u=eqV y x:=by
 cases y with
 | non=>cases r; rfl
 | bl b=>cases r; rfl
 | int i=>obtain⟨t,rfl⟩:=r; rfl
 | str z=>obtain⟨t,rfl⟩:=r; rfl
 | _=>exact absurd (show false=true from f) ao
theorem jDX {x:V} :∀ {xs:List V}{us:List Value},Vals xs us->xs.all flatV=true->us.any (eqU x)=xs.any fun y=>eqV y x
 | _,_, .nil,_=>rfl
 | y::xs,u::us, .cons r t,f=>by
  rw[iG,bD] at f
  rw[gw,gw,jPH r f.1,jDX t f.2]
theorem jBS {A:Around}{s:Shared}{x:V}{v:Value}(rx:RelV x v)(fx:flatV x=true):∀ {xs:List V}{us:List Value},Vals xs us->xs.all flatV=true->∀ u∈us,SeqAt.EqAt A s u v (eqU x u)
 | _,_, .nil,_=>fun u hu=>by cases hu
 | y::xs,u::us, .cons r t,f=>fun u' hu=>by
  rw[iG,bD] at f
  rcases aM.mp hu with rfl | hu
  ·rw[jPH r f.1]; exact jTV r rx f.1 fx
  ·exact jBS rx fx t f.2 u' hu
def inV (x:V)(xs:List V):Bool:=xs.any fun y=>eqV y x
def rIn (K:W.Frag)(neg:Bool):R2:=fun x y H Q=>∃ p xs,y= .ref p/\(SqL K H p xs\/SqT K H p xs)/\flatV x=true/\xs.all flatV=true/\Q (.bl (if neg then !inV x xs else inV x xs)) H
theorem jL7:OpR X (compareOp .In) (rIn X.K false):=by
 intro ad s σ H x y v u Q I rx ry h
 obtain⟨p,xs,rfl,hq,fx,fs,q⟩:=h
 cases ry
 rcases hq with hq | hq
 ·obtain⟨its,r,pl,hz⟩:=I.list hq
  refine SeqAt.in_listAt (eqU x) pl.isList (fun w hw=>jBS rx fx r fs w (by simpa using hw)) ⟨.bl _,H,I,rfl,?_⟩
  rw[show its.toArray.any (eqU x)=its.any (eqU x) by simp,jDX r fs]
  exact q
 ·obtain⟨its,r,pl,hz⟩:=I.tuple hq
  refine SeqAt.in_tupleAt (eqU x) pl (fun w hw=>jBS rx fx r fs w (by simpa using hw)) ⟨.bl _,H,I,rfl,?_⟩
  rw[show its.toArray.any (eqU x)=its.any (eqU x) by simp,jDX r fs]
  exact q
theorem jGD:OpR X (compareOp .NotIn) (rIn X.K true):=by
 intro ad s σ H x y v u Q I rx ry h
 obtain⟨p,xs,rfl,hq,fx,fs,q⟩:=h
 cases ry
 rcases hq with hq | hq
 ·obtain⟨its,r,pl,hz⟩:=I.list hq
  refine SeqAt.notIn_listAt (eqU x) pl.isList (fun w hw=>jBS rx fx r fs w (by simpa using hw)) ⟨.bl _,H,I,rfl,?_⟩
  rw[show its.toArray.any (eqU x)=its.any (eqU x) by simp,jDX r fs]
  exact q
 ·obtain⟨its,r,pl,hz⟩:=I.tuple hq
  refine SeqAt.notIn_tupleAt (eqU x) pl (fun w hw=>jBS rx fx r fs w (by simpa using hw)) ⟨.bl _,H,I,rfl,?_⟩
  rw[show its.toArray.any (eqU x)=its.any (eqU x) by simp,jDX r fs]
  exact q
theorem jO:yN X (.builtin "len") (fun xs H Q=>∃ p ys,xs=[.ref p]/\(SqL X.K H p ys\/SqT X.K H p ys)/\Q (.int ys.length) H):=by
 intro ad s σ H xs us Q I r h
 obtain⟨p,ys,rfl,hq,q⟩:=h
 obtain⟨u,rfl,rx⟩:=vals1 r
 cases rx
 have hn:=jGI
 rcases hq with hq | hq
 ·obtain⟨its,r',pl,hz⟩:=I.list hq
  have hlen:=r'.length
  exact Calls.call_len_list pl.isList (by simp only [aK] <;> lia) ⟨.int ys.length,H,I.tok _,⟨s.toks+1,by rw[aK,hlen]⟩,q⟩
 ·obtain⟨its,r',pl,hz⟩:=I.tuple hq
  have hlen:=r'.length
  exact len_tuple pl (by simp only [aK] <;> lia) ⟨.int ys.length,H,I.tok _,⟨s.toks+1,by rw[aK,hlen]⟩,q⟩
theorem jY:yN X (.type "tuple") (fun xs H Q=>∃ p ys,xs=[.ref p]/\((SqL X.K H p ys/\∀ l,H l=none->Q (.ref l) (upd H l (.tup ys)))\/(SqT X.K H p ys/\Q (.ref p) H))):=by
 intro ad s σ H xs us Q I r h
 obtain⟨p,ys,rfl,h⟩:=h
 obtain⟨u,rfl,rx⟩:=vals1 r
 cases rx
 rcases h with ⟨hq,q⟩ | ⟨hq,q⟩
 ·obtain⟨its,r',pl,hz⟩:=I.list hq
  have hlen:=r'.length
  refine call_tuple_list pl.isList (fun h' kp=>?_) (by simp only [aK] <;> lia)
  have I1:Inv X ad σ H { s with heap:=h'} :=I.kept (t':=s.toks) kp
  have I2:Inv X ad σ (upd H h'.objs.size (.tup ys)) { s with heap:=h'.push { cls:= .type "tuple",data:= .seq its.toArray}} :=
   I1.laid (t':=s.toks) (fun b o e=>ae _ e) (ai _) (show ObjOk X.prog X.w _ _ _ (.tup ys) from ⟨hz,its,r',TupO.new _ _⟩)
  exact⟨.ref h'.objs.size,_,I2,rfl,q _ (I1.hok.fresh (ai _))⟩
 ·obtain⟨its,r',pl,hz⟩:=I.tuple hq
  exact call_tuple_same pl ⟨.ref p,H,I,rfl,q⟩
def tyV (K:W.Frag)(T:String)(x:V)(H:Hp):Prop:=match x with
 | .str _=>T= "str"
 | .int _=>T= "int"
 | .ref p=>(T= "list" /\∃ xs,SqL K H p xs)\/(T= "tuple" /\∃ o,K.lookup p=some o/\o.cls= .type "tuple" /\o.dict=none)\/
   (T= "dict" /\((∃ kvs,H p=some (.dK kvs))\/∃ kvs,H p=some (.dT kvs)))\/(T= "set" /\∃ S n,H p=some (.set S n))
 | _=>False
theorem jOT {ad:List (Addr×Obj)}{σ:St}{H:Hp}{s:Shared}{T:String}{x:V}{v:Value}(I:Inv X ad σ H s)(r:RelV x v)(ty:tyV X.K T x H):
  s.TypeIs v T/\∀ a,v= .ref a->∃ ob,s.heap.get? a=some ob/\ob.dict=none:=by
 cases x with
 | str z=>
  obtain⟨t,rfl⟩:=r
  cases (show T= "str" from ty)
  exact⟨typeIs_str s z t,fun _ e=>nomatch e⟩
 | int i=>
  obtain⟨t,rfl⟩:=r
  cases (show T= "int" from ty)
  exact⟨iT s i t,fun _ e=>nomatch e⟩
 | ref p=>
  cases r
  rcases ty with ⟨rfl,xs,hq⟩ | ⟨rfl,o,hk,hc,hd⟩ | ⟨rfl,hk⟩ | ⟨rfl,S,n,hk⟩
  ·obtain⟨its,_,pl,_⟩:=I.list hq
   refine⟨pl.isList.typeIs,fun a e=>?_⟩
   cases e
   obtain⟨o,n,e,c,hd,_⟩:=pl
   exact⟨o,e,hd⟩
  ·refine⟨⟨o,I.kIn p o hk,hc⟩,fun a e=>?_⟩
   cases e
   exact⟨o,I.kIn _ o hk,hd⟩
  ·have z:∃ o,s.heap.get? p=some o/\o.ExactDict:=by
    rcases hk with ⟨kvs,hk⟩ | ⟨kvs,hk⟩
    ·obtain⟨_,_,_,_,o,_,_,e,ex,_⟩:=I.hok p _ hk
     exact⟨o,e,ex⟩
    ·obtain⟨_,_,_,_,o,_,_,e,ex,_⟩:=I.hok p _ hk
     exact⟨o,e,ex⟩
   obtain⟨o,e,ex⟩:=z
   refine⟨⟨o,e,ex.1⟩,fun a e2=>?_⟩
   cases e2
   exact⟨o,e,ex.2.1⟩
  ·obtain⟨o,_,_,_,e,ex,_⟩:=I.hok p _ hk
   refine⟨⟨o,e,ex.1⟩,fun a e2=>?_⟩
   cases e2
   exact⟨o,e,ex.2.1⟩
 | _=>exact False.elim ty
def tBM0 (K:W.Frag)(T:String)(r:V->List V->Hp->VK->Prop)(to:TE):TE:=fun σ H Q=>to σ H fun x H1=>tyV K T x H1/\r x [] H1 Q
def tBM (K:W.Frag)(T:String)(r:V->List V->Hp->VK->Prop)(to:TE)(t:TA):TE:=fun σ H Q=>to σ H fun x H1=>tyV K T x H1/\t σ H1 fun xs H2=>r x xs H2 Q
variable {o:Expr}{es:List Expr}{to:TE}{t:TA}{name:Str}{apos cpos:Pos}{T id:String}{r:V->List V->Hp->VK->Prop}
theorem jSS (pa:PlainAttrs T)(slot:Slot T name id)(hty:typeOf (.builtin id)=pure (.type "method_descriptor"))(hm:MtR X id r)(ho:PE X o to)
  (hbase:attributeBase o name X.env (eval o X.env)=eval o X.env:=by rfl) (hline:(apos.endLine==cpos.line)=true:=by rfl):PE X (.Call (.Attribute o name apos) [] [] cpos) (tBM0 X.K T r to):=by
 intro ad s σ H Q I h
 refine wpAny_Call_method0_late hbase hline (lC (ho ad s σ H _ I h) fun v s1 ⟨x,H1,I1,r1,ty,q1⟩=>?_)
 obtain⟨h1,h2⟩:=jOT I1 r1 ty
 exact⟨T,id,pa,slot,hty,h1,h2,Calls.callWith_builtin rfl (PySem.evalArgs_none (hm ad s1 σ H1 x [] v [] Q I1 r1 .nil q1))⟩
theorem pe_bm (pa:PlainAttrs T)(slot:Slot T name id)(hty:typeOf (.builtin id)=pure (.type "method_descriptor"))(hm:MtR X id r)(ho:PE X o to)(ha:PA X (e::es) t)
  (hbase:attributeBase o name X.env (eval o X.env)=eval o X.env:=by rfl)
  (hfew:((backTo cpos (starEach (e::es) X.env)).all (fun x=>!x.1)&&(backToKw cpos (keywordEach [] X.env)).all (fun x=>x.1.isSome)
   &&decide ((e::es).length+([]:List Keyword).length+(if ([]:List Keyword).isEmpty then 0 else 1)<30))=true:=by rfl)
  (hline:(apos.endLine==cpos.line)=true:=by rfl) (hs:starEach (e::es) X.env=(false,eval e X.env)::starEach es X.env:=by rfl) (hplain:(backTo cpos (starEach es X.env)).any (·.1)=false:=by rfl):
  PE X (.Call (.Attribute o name apos) (e::es) [] cpos) (tBM X.K T r to t):=by
 intro ad s σ H Q I h
 refine wpAny_Call_method_late hbase hfew hline rfl (lC (ho ad s σ H _ I h) fun v s1 ⟨x,H1,I1,r1,ty,q1⟩=>?_)
 obtain⟨h1,h2⟩:=jOT I1 r1 ty
 refine⟨T,id,pa,slot,hty,h1,h2,?_⟩
 have hA:=ha cpos ad s1 σ H1 _ I1 q1
 rw[hs] at hA ⊢
 refine Calls.callWith_builtin (by show (false || (backTo cpos (starEach es X.env)).any (·.1))=false; rw[hplain] <;> rfl) (Calls.evalArgs_plain ?_)
 exact lC hA fun us s2 ⟨vs,H2,I2,r2,q2⟩=>hm ad s2 σ H2 x vs v us Q I2 r1 r2 q2
/- xs.append(e),list.index on a module's tuple .. are MtR facts of 06m -/
end
def MtM (X:Cx)(id:String)(r:V->List V->Hp->VK->Prop):Prop:=
 ∀ (ad:List (Addr×Obj)) (s:Shared) (σ:St) (H:Hp) (x:V) (xs:List V) (v:Value) (us:List Value) (Q:VK),Inv X ad σ H s->RelV x v->Vals xs us->r x xs H Q->
  wpAny (model X.prog X.w) X.A (call (.builtin id) (v::us)) (EP X ad σ Q) X.xe s
theorem Vals.one:∀ {x:V}{us:List Value},Vals [x] us->∃ u,us=[u]/\RelV x u
 | _,_, .cons r .nil=>⟨_,rfl,r⟩
theorem Vals.two:∀ {x y:V}{us:List Value},Vals [x,y] us->∃ u v,us=[u,v]/\RelV x u/\RelV y v
 | _,_,_, .cons r (.cons q .nil)=>⟨_,_,rfl,r,q⟩
theorem Vals.zero:∀ {us:List Value},Vals [] us->us=[]
 | _, .nil=>rfl
theorem Vals.dropLast {xs:List V}{us:List Value}(h:Vals xs us):Vals xs.dropLast us.dropLast:=by
 induction h with
 | nil=>exact .nil
 | cons r t ih=>
  cases t with
  | nil=>exact .nil
  | cons q t'=>exact .cons r ih
theorem Vals.rep {xs:List V}{us:List Value}(h:Vals xs us):∀ k:Nat,Vals (replicate k xs).flatten (replicate k us).flatten
 | 0=> .nil
 | k+1=>by
  rw[cm,cm,ed,ed]
  exact Vals.append h (Vals.rep h k)
theorem jK7 {α:Type}(l:List α):l.eraseIdx (l.length - 1)=l.dropLast:=by
 induction l with
 | nil=>rfl
 | cons a r ih=>
  cases r with
  | nil=>rfl
  | cons b r=>
   have e:(a::b::r).length - 1=((b::r).length - 1)+1:=by
    have h1:(a::b::r).length=r.length+2:=rfl
    have h2:(b::r).length=r.length+1:=rfl
    lia
   rw[e,List.eraseIdx_cons_succ,ih]
   all_goals rfl
theorem jDU (its:List Value):∀ (k:Nat) (acc:List Value),
  List.foldl (fun x1 x2=>x1++x2) acc.toArray (replicate k its.toArray)=(acc++(replicate k its).flatten).toArray
 | 0,acc=>by simp
 | k+1,acc=>by
  have e:acc.toArray++its.toArray=(acc++its).toArray:=by simp
  have e2:(acc++its)++(replicate k its).flatten=acc++(replicate (k+1) its).flatten:=by
   rw[cm,ed,aU]
  rw[<- e2,<- jDU its k (acc++its),<- e,cm,List.foldl_cons]
variable {s:Shared}
section
variable {ad:List (Addr×Obj)}{σ:St}{H:Hp}{l b:Addr}{xs ys zs:List V}
theorem Inv.lset {its its':List Value}{n:Nat}{f:Array Value->Array Value}{t':Nat}(I:Inv X ad σ H s)(hH:H l=some (.lst xs))
  (e:s.heap.get? l=some { cls:= .type "list",data:= .seq its.toArray n}) (hf:f its.toArray=its'.toArray) (hv:Vals ys its') (hz:ys.length<=sizeLine):
  Inv X ad σ (upd H l (.lst ys)) { s with heap:=s.heap.update l (Obj.mapSeq f),toks:=t'} :=by
 have q:=PySem.IsL.update e f
 rw[hf] at q
 refine I.write (x:=l) (e:=l) (by rw[hH]; exact trivial) (.inl rfl) (fun b' u hb hu=>(bw s.heap (Obj.mapSeq f) (dZ hb)).trans hu) ⟨_,q⟩ ?_
 exact⟨hz,its',_,hv,q⟩
theorem Inv.lnew {its:List Value}{t':Nat}(I:Inv X ad σ H s)(hv:Vals ys its)(hz:ys.length<=sizeLine):
  Inv X ad σ (upd H s.heap.objs.size (.lst ys)) { s with heap:=s.heap.push { cls:= .type "list",data:= .seq its.toArray},toks:=t'} :=
 I.laid (fun _ _ q=>ae _ q) (ai _) ⟨hz,its,0,hv,aJ _ rfl⟩
theorem Inv.fresh (I:Inv X ad σ H s):H s.heap.objs.size=none:=I.hok.fresh (ai _)
theorem Inv.lstM (I:Inv X ad σ H s)(hH:H l=some (.lst xs)):xs.length<=sizeLine/\∃ (its:List Value) (n:Nat),Vals xs its/\xs.length=its.length/\s.heap.get? l=some { cls:= .type "list",data:= .seq its.toArray n} :=by
 obtain⟨z,its,n,r,e⟩:=I.hok l _ hH
 exact⟨z,its,n,r,r.length,e⟩
theorem jIQ {n:Nat}(h:n<=sizeLine):Builtin.List.listTooLong n=false:=by
 unfold Builtin.List.listTooLong
 exact aH (by lia)
end
def jQ0:V->List V->Hp->VK->Prop:=fun x vs H Q=>∃ l xs y,x= .ref l/\vs=[y]/\H l=some (.lst xs)/\xs.length<sizeLine/\Q .non (upd H l (.lst (xs++[y])))
theorem jAK:MtM X "list.append" jQ0:=by
 intro ad s σ H x vs v us Q I rx rv h
 obtain⟨l,xs,y,rfl,rfl,hH,hz,q⟩:=h
 cases rx
 obtain⟨u,rfl,ru⟩:=rv.one
 obtain⟨z,its,n,r,hl,e⟩:=I.lstM hH
 refine eR F.slot_list_append ⟨_,e,rfl⟩ F.entry_list_append (F.args_list_append_2 _ _) (PySem.list_append l its.toArray n u (by rw[aK]; lia)) ⟨e,?_⟩
 refine⟨.non,_,I.lset (its':=its++[u]) hH e (by simp) (r.append (.cons ru .nil)) ?_,rfl,q⟩
 rw[aG,gn]
 lia
def jPZ:V->List V->Hp->VK->Prop:=fun x vs H Q=>∃ l b xs zs,x= .ref l/\vs=[.ref b]/\H l=some (.lst xs)/\H b=some (.lst zs)/\xs.length+zs.length<=sizeLine/\Q .non (upd H l (.lst (xs++zs)))
theorem jLN:MtM X "list.extend" jPZ:=by
 intro ad s σ H x vs v us Q I rx rv h
 obtain⟨l,b,xs,zs,rfl,rfl,hH,hB,hz,q⟩:=h
 cases rx
 obtain⟨u,rfl,ru⟩:=rv.one
 cases ru
 obtain⟨z,its,n,r,hl,e⟩:=I.lstM hH
 obtain⟨z2,its2,n2,r2,hl2,e2⟩:=I.lstM hB
 have hsz:its.toArray.size+its2.toArray.size<=sizeLine:=by rw[aK,aK]; lia
 have hlong:¬ (!its.toArray.isEmpty&&Builtin.List.listTooLong (its.toArray.size+its2.toArray.size))=true:=by
  rw[jIQ hsz,fg]
  exact ao
 refine eR F.slot_list_extend ⟨_,e,rfl⟩ F.entry_list_extend (F.args_list_extend_2 _ _)
  (AutoSeq1.list_extend_list_list_0 l its.toArray n b its2.toArray n2 hlong (by rw[aK]; lia) (by lia)) ⟨e,e2,?_⟩
 refine⟨.non,_,I.lset (its':=its++its2) hH e (by simp) (r.append r2) ?_,rfl,q⟩
 rw[aG]
 lia
def rPop:V->List V->Hp->VK->Prop:=fun x vs H Q=>∃ l xs y,x= .ref l/\vs=[]/\H l=some (.lst xs)/\xs[xs.length - 1]?=some y/\Q y (upd H l (.lst xs.dropLast))
theorem jTB:MtM X "list.pop" rPop:=by
 intro ad s σ H x vs v us Q I rx rv h
 obtain⟨l,xs,y,rfl,rfl,hH,hy,q⟩:=h
 cases rx
 have hus:=rv.zero
 subst hus
 obtain⟨z,its,n,r,hl,e⟩:=I.lstM hH
 obtain⟨u,hu,ru⟩:=r.get hy
 have hy':its.toArray[its.toArray.size - 1]?=some u:=by
  show its.toArray[its.length - 1]?=some u
  rw[<- bK,<- hl]
  exact hu
 refine eR F.slot_list_pop ⟨_,e,rfl⟩ F.entry_list_pop (F.args_list_pop_1 _) (MeetsSeq.list_pop_last l its.toArray n u hy' (by rw[aK]; lia)) ⟨e,?_⟩
 refine⟨y,_,I.lset (its':=its.dropLast) hH e ?_ r.dropLast ?_,ru,q⟩
 ·show its.toArray.eraseIdxIfInBounds (its.toArray.size - 1)=its.dropLast.toArray
  rw[aK,List.eraseIdxIfInBounds_toArray,jK7]
 ·rw[List.length_dropLast]
  lia
def rCat:R2:=fun x y H Q=>∃ l b xs zs,x= .ref l/\y= .ref b/\H l=some (.lst xs)/\H b=some (.lst zs)/\xs.length+zs.length<=sizeLine/\∀ p,H p=none->Q (.ref p) (upd H p (.lst (xs++zs)))
theorem jSX:OpR X (binaryOp .Add) rCat:=by
 intro ad s σ H x y v u Q I rx ry h
 obtain⟨l,b,xs,zs,rfl,rfl,hH,hB,hz,q⟩:=h
 cases rx
 cases ry
 obtain⟨z,its,n,r,hl,e⟩:=I.lstM hH
 obtain⟨z2,its2,n2,r2,hl2,e2⟩:=I.lstM hB
 refine PySem.P.add_list e e2 ?_ (by rw[aK,aK]; lia)
 have ea:its.toArray++its2.toArray=(its++its2).toArray:=by simp
 rw[ea]
 exact⟨.ref _,_,I.lnew (t':=s.toks) (r.append r2) (by rw[aG]; lia),rfl,q _ I.fresh⟩
def rRep:R2:=fun x y H Q=>∃ l k xs,x= .ref l/\y= .int k/\H l=some (.lst xs)/\ -(2 ^ 63)<=k/\k<2 ^ 63/\xs.length*k.toNat<=sizeLine/\
 ∀ p,H p=none->Q (.ref p) (upd H p (.lst (replicate k.toNat xs).flatten))
theorem jHU {α:Type}(xs:List α)(k:Nat):(replicate k xs).flatten.length=k*xs.length:=by
 induction k with
 | zero=>simp
 | succ k ih=>rw[cm,ed,aG,ih,ku,iU]
theorem jL5:OpR X (binaryOp .Mult) rRep:=by
 intro ad s σ H x y v u Q I rx ry h
 obtain⟨l,k,xs,rfl,rfl,hH,h1,h2,hz,q⟩:=h
 cases rx
 obtain⟨t,rfl⟩:=ry
 obtain⟨z,its,n,r,hl,e⟩:=I.lstM hH
 have hlen:its.toArray.size*k.toNat<=sizeLine:=by rw[aK,<- hl]; exact hz
 have hcap:¬ its.toArray.size*k.toNat>(2 ^ 63 - 1) / 8:=by
  have:(sizeLine:Nat)<=(2 ^ 63 - 1) / 8:=by decide
  lia
 have hfit:¬ (!Builtin.List.listFitsIndex k)=true:=by
  rw[fitsIndex_both h1 h2]
  exact ao
 have hlong:¬ Builtin.List.listTooLong (its.toArray.size*k.toNat)=true:=by
  rw[jIQ hlen]
  exact ao
 have hnew:List.foldl (fun x1 x2=>x1++x2) #[] (replicate (if its.toArray.isEmpty=true then 0 else k.toNat) its.toArray)=(replicate k.toNat its).flatten.toArray:=by
  have f0:∀ m:Nat,List.foldl (fun x1 x2=>x1++x2) #[] (replicate m its.toArray)=(replicate m its).flatten.toArray:=fun m=>by
   have:=jDU its m []
   rw[gL] at this
   exact this
  rw[f0]
  cases its with
  | nil=>simp
  | cons a r'=>rw[aj (by simp)]
 refine ik (T:= "list") (U:= "int") (by decide) ⟨_,e,rfl⟩ (fun s'=>iT s' k t) noFill_list_mul F.fills_int_mul F.slot_int_rmul repeat_list F.slot_int_index.lookup
  (eR F.slot_int_rmul (iT s k t) F.entry_int_rmul (F.args_int_rmul_2 _ _) (int___rmul___int_list k t l its.toArray n)
   ⟨e,rfl,⟨_,e,rfl⟩,eR F.slot_list_mul ⟨_,e,rfl⟩ F.entry_list_mul (F.args_list_mul_2 _ _) (AutoListH.list___mul___list_int_3 l its.toArray n k t hfit hcap hlong) ⟨e,?_⟩⟩)
 rw[hnew]
 exact⟨.ref _,_,I.lnew (t':=s.toks) (r.rep k.toNat) (by rw[jHU,gf]; exact hz),rfl,q _ I.fresh⟩
section
variable {prog:Program}{w:World}{A:Around}{E:Value->Shared->Prop}
set_option maxRecDepth 100000 in
end
end L2
namespace Att
open PySem PySem.W PySem.Calls PyProof.Rows
theorem jDS {P:Params}{h:Heap} :∀ (ns:List Int) (vs:List Value),WellAll P h vs (ns.map WData.int)->IntsAre vs ns:=by
 intro ns
 induction ns with
 | nil=>
  intro vs w
  rw[kx] at w
  cases w
  exact .nil
 | cons n ns ih=>
  intro vs w
  rw[bi] at w
  cases w with
  | cons a b=>
   cases a
   exact .cons _ _ (ih _ b)
theorem jKW {l:OpenLaw}{n:Nat}(hn:l.most=some n){P:Params}{h:Heap}{args:List WData}{vals:List Value}
  (hpre:l.row.toRowW.claim.pre args=true) (hwl:WellAll P h vals args):
  ∃ a vs ns,vals=[Value.ref a]/\args=[WData.list (ns.map WData.int)]/\h.get? a=some { cls:= .type "list",data:= .seq vs.toArray} /\IntsAre vs ns/\ns.length<=n:=by
 have hsh:WShape.hasAll [] args [.list .int]=true:=(pre_splitW hpre).1
 have hc:l.pre.holds [] { args:=args} =true:=(pre_splitW hpre).2
 obtain⟨d,r,rfl,h1,h2⟩:=hasAllW_cons hsh
 obtain rfl:=hasAllW_nil h2
 obtain⟨xs,rfl,h3⟩:=hasW_list h1
 obtain⟨ns,rfl⟩:=items_int h3
 have hlen:ns.length<=n:=by
  unfold OpenLaw.pre at hc
  have h4:(WTm.not (.lt (.lit (.int (n:Int))) (.len (.arg 0)))).holds [] { args:=[.list (ns.map .int)]} =true:=by
   have h4:=(holds_andW hc).1
   rw[hn] at h4
   exact h4
  have h5:=condW_of h4 (w_not (w_lt w_lit (w_len_list (w_arg rfl))))
  rw[ab] at h5
  refine Nat.le_of_not_lt fun q=>?_
  have q':(n:Int)<((ns.length:Nat):Int):=by lia
  first
   | (rw[aw q'] at h5; exact absurd h5 (by decide))
   | (simp at h5; lia)
 cases hwl with
 | cons w1 w2=>
  cases w2
  cases w1 with
  | list ho hall=>exact⟨_,_,ns,rfl,rfl,ho,jDS ns _ hall,hlen⟩
theorem jL2 (l:OpenLaw)(args:List WData):l.row.toRowW.claim.post args (.bool true) args=true:=
 postW_of (r:=l.row.toRowW) (X:=(true==true))
  (show WShape.has [] (.bool true) .bool=true by first | rfl | decide | simp [WShape.has,WShape.arms,WShape.armsAll])
  (show (WTm.eq .res (.lit (.bool true))).value [] { args:=args,res:=some (.bool true),after:=args} =some (.bool (true==true)) from w_eq_bool (w_res rfl) w_lit) rfl
theorem attach_call {l:OpenLaw}{n:Nat}{q:Program}{loose:List Str}{XP:(Str->Option Value)->Heap->Prop}{YP:World->Heap->Prop}{d:DefRec}
  (hn:l.most=some n) (hdf:d.params.defaults=[])
  (call:∀ (w:World) (s₀ s₁:Shared) (mg mb:Str->Option Value) (fa:Addr) (o:Obj) (pm cd doc:Value) (a:Addr) (vs:List Value) (ns:List Int),
   Ground q loose [] XP w s₀ mg mb s₁.heap->YP w s₁.heap->
   s₁.heap.get? fa=some o->o.data= .func (docDef d.name d.params d.body d.scope pm cd doc)->s₁.heap.CodeRec cd d.name->mg d.name=some (.ref fa)->
   s₁.heap.get? a=some { cls:= .type "list",data:= .seq vs.toArray} ->IntsAre vs ns->ns.length<=n->s₁.gens=#[]->
   codeAny (model l.prog w) callerA (.call (.ref fa) ⟨[.ref a],[]⟩) (fun r s'=>r= .ok (.ret (.bool true))/\OldK s₁.heap s'.heap/\s'.os=s₁.os/\AllBare s'.gens) s₁):
  WalkO q loose XP YP l.row.toRowW d [] (fun f vs=>PySem.call f vs):=by
 intro w s₀ s₁ mg mb G Y fa o pm cd doc dV kV ho hd hcd hD hmg hg args vals as hpre hlay hrd hwl hlo
 obtain rfl:dV= .none:=Dflts.none hD hdf
 obtain rfl:kV= .none:=Dflts.noKw hD
 obtain⟨a,vs,ns,rfl,rfl,hobj,hints,hlen⟩:=jKW hn hpre hwl
 refine enter_call (eQ (call w s₀ s₁ mg mb fa o pm cd doc a vs ns G Y ho (fd_plain hd) hcd hmg hobj hints hlen hg) fun r s' hq=>?_)
 obtain⟨rfl,h2,h3,h4⟩:=hq
 exact⟨.inl ⟨.bool true, .bool true,[],rfl,fun _=>rfl, .bool true,jL2 l _,fun _=>⟨List.Pairwise.nil,fun _ hm=>(nomatch hm)⟩⟩,h2,h3,h4⟩
section
variable {prog:Program}{w:World}{A:Around}{E:Value->Shared->Prop}{s:Shared}{K:Frag}
end
end Att
namespace L2
open PySem PySem.Spec PyProof.Rows
theorem jFT:∀ {vs:List Value}{ns:List Int},IntsAre vs ns->Vals (ns.map V.int) vs
 | _,_, .nil=> .nil
 | _,_, .cons n t h=> .cons ⟨t,rfl⟩ (jFT h)
end L2
/- THE LAST THEOREM (shape; LID,My.* are yours):
  My.Adr:a structure of the addresses that your layer names (classes,functions); My.Txt K t:a structure (Prop) of the equations over K;
  My.txt_mk: {K} {implicit addresses ..} (e1:nsIn K mainGlobals "law" =some (some (.ref f))) (e2:K.lookup f=some ⟨oc,od, .func (fnOf "law" "law" params body scope dV kV doc pm an cdv ct),sl⟩) (e3:codeIn K cdv "law" =true) .. :∃ t,My.Txt K t
set_option maxRecDepth 100000 in
set_option maxHeartbeats 0 in
theorem PySem.Challenge.cw_LID_holds : PySem.Challenge.rw_LID.Holds := by
 w_on; o_law; k_head; (case hw=>w_witness2)
 k_fill
 refine L2.walk_of (l:=PySem.Challenge.rw_LID) (n:=63) (k:=40) (x:= "script") (CX:=fun w=> ..) (sp:=fun _=>My.sp_law) rfl (by decide) rfl ⟨rfl,by decide,by decide⟩ (fun w h Y=>PySem.W.kIn_of Y) ?F ?S ?C
 case F=>
  intro w mg fa h KX G hmg
  have T:∃ t,My.Txt (L2.KOf KX) t:=by
   dsimp only [L2.KOf] -- K must stand as «<heap const>w.params» for k_is
   refine' My.txt_mk ?e1 ?e2 ?e3 ..
   (case e1=>PySem.W.k_is) -- in the order:a name->its address->its object->its parts
   (case e2=>PySem.W.k_is)
   ..
  obtain⟨t,T⟩:=T
  have e0:=hmg.symm.trans (fE KX G T.law)
  cases e0 -- fa is the law's own address
  exact⟨_,fun s u=> .of_eq rfl,fun base kb nb=>My.law_fn T kb nb⟩ -- if «.of_eq rfl» comes too early:refine' ⟨_,?b,fun base kb nb=>My.law_fn T kb nb⟩; exact fun s u=> .of_eq rfl
 case S=>exact fun w H a ns hl hO hS=> ..
 case C=>exact ..
(the tactic k_is has no namespace:write k_is) -/
namespace L2
open PySem PySem.Spec PyProof.Rows
abbrev CX0:CXT:=fun _ _ _ _ _ _=>False
abbrev E0:XK:=fun _ _ _=>False
theorem pass0 {X:Cx} :jN8 CX0 X E0:=fun _ _ _ _ _ _ _ h=>h.elim
structure Fun (K:W.Frag)(x qual:Str)(st:Stmt)(f:Addr)(fd:FuncData):Prop where
 ex:∃ (oc:Value) (od:Option Addr) (kV doc pm:Value) (an:Option Addr) (cdv ct:Value) (osl:Array (Option Value)),
  fd=PySem.W.fnOf x qual (yC st) (jC st) (j8 st) .none kV doc pm an cdv ct/\K.lookup f=some ⟨oc,od, .func fd,osl⟩/\PySem.W.codeIn K cdv qual=true
 kp:keepIn K (.ref f)=true
variable {w:World}
section
variable {P:Program}{K:W.Frag}{mg:Str->Option Value}{base:Heap}
theorem Fun.ok {x qual:Str}{st:Stmt}{f:Addr}{fd:FuncData}{N ps:List Str}{k:Nat}{sp:Sp}(F:Fun K x qual st f fd)(S:FnScope N ps (j8 st))(len:∀ vs H Q E,sp vs H Q E->vs.length=ps.length)
  (hbody:∀ (cdv:Value) (A:Around) (outer:List Env) (s:Shared) (H:Hp) (vs:List V) (Q:VK) (E:XK),Room k (A.deeper (envOfC qual (j8 st) s.heap.objs.size f cdv))->sp vs H Q E->
   ∃ t,PSs (cxOf CX0 P w K mg base N qual (j8 st) f cdv A outer s H E).nox (jC st) t/\t { nx:=fun _ H'=>Q .non H',rt:=Q} (kZ N vs) H):FnOk P w K mg base CX0 (k+1) f fd ps sp:=by
 obtain⟨oc,od,kV,doc,pm,an,cdv,ct,osl,rfl,lk,hcd⟩:=F.ex
 refine fn_of lk hcd S len fun A outer s H vs Q E hr hsp=>?_
 obtain⟨t,h,q⟩:=hbody cdv A outer s H vs Q E hr hsp
 exact⟨t,h.nox,q⟩
theorem Fun.binds {x qual:Str}{st:Stmt}{f:Addr}{fd:FuncData}{ps:List Str}(F:Fun K x qual st f fd)
  (h:∀ (kV doc pm:Value) (an:Option Addr) (cdv ct:Value) (us:List Value),us.length=ps.length->bindArgs (PySem.W.fnOf x qual (yC st) (jC st) (j8 st) .none kV doc pm an cdv ct) ⟨us,[]⟩=pure (ps.zip us)):Binds K fd ps []:=by
 obtain⟨oc,od,kV,doc,pm,an,cdv,ct,osl,rfl,lk,hcd⟩:=F.ex
 exact .all (h kV doc pm an cdv ct)
theorem kG {x qual:Str}{st:Stmt}{f:Addr}{oc:Value}{od an:Option Addr}{osl:Array (Option Value)}{kV doc pm cdv ct:Value}(l:K.lookup f=some ⟨oc,od, .func (PySem.W.fnOf x qual (yC st) (jC st) (j8 st) .none kV doc pm an cdv ct),osl⟩)
  (c:PySem.W.codeIn K cdv qual=true) (k:keepIn K (.ref f)=true):Fun K x qual st f (PySem.W.fnOf x qual (yC st) (jC st) (j8 st) .none kV doc pm an cdv ct):=⟨⟨oc,od,kV,doc,pm,an,cdv,ct,osl,rfl,l,c⟩,k⟩
end
theorem hu_of {A:Around}{k:Nat}(hr:Room k A):A.units+1<cLine:=g8 (Nat.add_le_add_left (by decide:1<=64) _) hr.units
variable {X:Cx}
theorem pv (i:Nat){x:Str}{pos:Pos}(hN:X.N[i]?=some x:=by rfl)(hv:Vis X.env.scope x:=by first | exact Or.inl rfl | exact Or.inr (Or.inl rfl) | exact Or.inr (Or.inr rfl))(hd:(x==("__debug__" :Str))=false:=by decide)
  (hcd:(x==("__classdict__" :Str))=false:=by decide):PE X (.Name x pos) (tVar i):=jL3 hN hv hd hcd
theorem iteF {A B:Prop}(h:B):if false=true then A else B:=by
 rw[aj ao]
 exact h
theorem iteT {A B:Prop}(h:A):if true=true then A else B:=by
 rw[ak rfl]
 exact h
theorem ite2 {c A B:Prop} [Decidable c](h1:c->A)(h2:¬ c->B):if c then A else B:=by
 by_cases h:c
 ·rw[ak h]
  exact h1 h
 ·rw[aj h]
  exact h2 h
theorem iteNS {c A B:Prop} [Decidable c](hc:c)(h:B):if (!decide c)=true then A else B:=by
 rw[aw hc]
 exact iteF h
noncomputable def kE (cells:List (Str×Addr)):List (Str×NameKind)->List (Str×Addr)->List (Str×Addr)
 | [],acc=>acc
 | (n,k)::r,acc=>if k= .free then kE cells r ((n,(cells.lookup n).getD 0)::acc) else kE cells r acc
theorem jCL {env:Env} :∀ (l:List (Str×NameKind)) (acc:List (Str×Addr)),(∀ y∈l,y.2= .free->∃ c,env.cells.lookup y.1=some c)->
  (forIn l acc fun (x:Str×NameKind) (cs:List (Str×Addr))=>(if (x.2==NameKind.free)=true then (do let a <- cellOf env x.1; pure (ForInStep.yield ((x.1,a)::cs))) else pure (ForInStep.yield cs):Sem (ForInStep (List (Str×Addr)))))=pure (kE env.cells l acc)
 | [],acc,_=>rfl
 | (n,k)::r,acc,h=>by
  have hr:∀ y∈r,y.2= .free->∃ c,env.cells.lookup y.1=some c:=fun y hy=>h y (az _ hy)
  rw[gM]
  by_cases hk:k= .free
  ·subst hk
   obtain⟨c,hc⟩:=h (n, .free) ar rfl
   have e:cellOf env n=pure c:=by unfold cellOf; rw[hc]
   have e2:kE env.cells ((n,NameKind.free)::r) acc=kE env.cells r ((n,c)::acc):=by
    show (if NameKind.free=NameKind.free then kE env.cells r ((n,(env.cells.lookup n).getD 0)::acc) else _)=_
    rw[ak rfl,hc]; rfl
   rw[e2,<- jCL r ((n,c)::acc) hr]
   show ((do let a <- cellOf env n; pure (ForInStep.yield ((n,a)::acc))) >>= _)=_
   rw[e]; rfl
  ·have hb:(k==NameKind.free)=false:=by cases k <;> first | rfl | exact absurd rfl hk
   have e2:kE env.cells ((n,k)::r) acc=kE env.cells r acc:=by
    show (if k=NameKind.free then _ else kE env.cells r acc)=_
    rw[aj hk]
   rw[e2,<- jCL r acc hr]
   show ((if (k==NameKind.free)=true then _ else pure (ForInStep.yield acc)) >>= _)=_
   rw[hb]; rfl
theorem jMT {env:Env}{sc:Scope}(h:∀ y∈sc.names,y.2= .free->∃ c,env.cells.lookup y.1=some c):closureFor sc env=pure (kE env.cells sc.names []):=by
 unfold closureFor
 show (forIn sc.names [] _ >>= fun cs=>pure cs)=_
 rw[show (forIn sc.names ([]:List (Str×Addr)) _:Sem _)=_ from jCL sc.names [] h]
 rfl
theorem jAN {cells:List (Str×Addr)} :∀ (l:List (Str×NameKind)) (acc:List (Str×Addr)),(∀ y∈l,y.2= .free->∃ c,cells.lookup y.1=some c)->
  (∀ x c,acc.lookup x=some c->cells.lookup x=some c)->∀ x c,(kE cells l acc).lookup x=some c->cells.lookup x=some c
 | [],acc,_,ha=>ha
 | (n,k)::r,acc,h,ha=>by
  have hr:∀ y∈r,y.2= .free->∃ c,cells.lookup y.1=some c:=fun y hy=>h y (az _ hy)
  unfold kE
  by_cases hk:k= .free
  ·rw[ak hk]
   obtain⟨c0,hc⟩:=h (n,k) ar hk
   refine jAN r _ hr fun x c e=>?_
   rw[bE] at e
   cases hx:x==n with
   | true=>
    rw[hx] at e
    have exn:x=n:=eq_of_beq hx
    subst exn
    have hc':cells.lookup x=some c0:=hc
    rw[hc'] at e ⊢
    exact e
   | false=>rw[hx] at e; exact ha x c e
  ·rw[aj hk]; exact jAN r acc hr ha
theorem jAO {cells:List (Str×Addr)}{x:Str} :∀ (l:List (Str×NameKind)) (acc:List (Str×Addr)),((x,NameKind.free)∈l\/∃ c,acc.lookup x=some c)->∃ c,(kE cells l acc).lookup x=some c
 | [],acc,h=>by
  rcases h with h | h
  ·cases h
  ·exact h
 | (n,k)::r,acc,h=>by
  unfold kE
  by_cases hk:k= .free
  ·rw[ak hk]
   refine jAO r _ ?_
   by_cases e:x=n
   ·subst e
    exact .inr ⟨_,by rw[bE,beq_self_eq_true]⟩
   ·rcases h with h | ⟨c,h⟩
    ·rcases aM.mp h with q | q
     ·cases q; exact absurd rfl e
     ·exact .inl q
    ·refine .inr ⟨c,?_⟩
     rw[bE,dB.mpr e]
     exact h
  ·rw[aj hk]
   refine jAO r _ ?_
   rcases h with h | h
   ·rcases aM.mp h with q | q
    ·cases q; exact absurd rfl hk
    ·exact .inl q
   ·exact .inr h
theorem jAL {x:Str}{k:NameKind} :∀ {l:List (Str×NameKind)},l.lookup x=some k->(x,k)∈l
 | [],h=>by cases h
 | (n,k')::r,h=>by
  rw[bE] at h
  cases hx:x==n with
  | true=>rw[hx] at h; cases h; rw[eq_of_beq hx]; exact ar
  | false=>rw[hx] at h; exact az _ (jAL h)
theorem jCB {env:Env}{x:Str}{k:NameKind}(hk:k= .cell\/k= .free):∀ {l:List (Str×NameKind)},(∀ y∈l,y.2≠ .cell)->
  (l.map fun (n,k)=>if (k==NameKind.free&&env.scope.kind== .function&&env.kindOf n==some .cell) then (n,NameKind.cell) else (n,k)).lookup x=some k->l.lookup x=some .free
 | [],_,h=>by simp at h
 | (n,k')::r,hc,h=>by
  have ih:= @jCB env x k hk r (fun y hy=>hc y (az _ hy))
  have hc0:k'≠ .cell:=hc (n,k') ar
  rw[bE]
  rw[bi] at h
  dsimp only at h
  by_cases hb:(k'==NameKind.free&&env.scope.kind== .function&&env.kindOf n==some .cell)=true
  ·rw[ak hb,bE] at h
   cases hx:x==n with
   | true=>
    have:k'= .free:=by
     simp only [bD] at hb
     exact eq_of_beq hb.1.1
    rw[this]
   | false=>rw[hx] at h; exact ih h
  ·rw[aj hb,bE] at h
   cases hx:x==n with
   | true=>
    rw[hx] at h
    have e:k'=k:=br h
    rcases hk with q | q
    ·exact absurd (e.trans q) hc0
    ·rw[e,q]
   | false=>rw[hx] at h; exact ih h
theorem jCI {env:Env}{x:Str} :∀ {l:List (Str×NameKind)},l.lookup x=some .free->
  (l.map fun (n,k)=>if (k==NameKind.free&&env.scope.kind== .function&&env.kindOf n==some .cell) then (n,NameKind.cell) else (n,k)).lookup x=some .cell\/
  (l.map fun (n,k)=>if (k==NameKind.free&&env.scope.kind== .function&&env.kindOf n==some .cell) then (n,NameKind.cell) else (n,k)).lookup x=some .free
 | [],h=>by cases h
 | (n,k')::r,h=>by
  have ih:= @jCI env x r
  rw[bE] at h
  rw[bi]
  dsimp only
  by_cases hb:(k'==NameKind.free&&env.scope.kind== .function&&env.kindOf n==some .cell)=true
  ·rw[ak hb,bE]
   cases hx:x==n with
   | true=>exact .inl rfl
   | false=>rw[hx] at h; exact ih h
  ·rw[aj hb,bE]
   cases hx:x==n with
   | true=>rw[hx] at h; exact .inr h
   | false=>rw[hx] at h; exact ih h
section
variable {prog:Program}{A:Around}{R:Result->Shared->Prop}{s:Shared}
abbrev jKM (ifs:List Expr)(env:Env):Sem Bool:=forIn ifs true fun c r=>if r=true then do let ok <- isTrue c env (eval c env); pure (ForInStep.yield ok) else pure (ForInStep.yield r)
theorem jK8 {elt tg iter:Expr}{ifs:List Expr}{sc:Scope}{pos:Pos}{it acc:Value}{env:Env}(J:Nat->Shared->Prop)
  (turn:∀ n z,J n z->wpAny (model prog w) A (pyNext it) (fun r z1=>match r with
   | none=>R (.ok .next) z1
   | some v=>wpAny (model prog w) A (letOwnedTupleGo tg it v) (fun _ z2=>wpAny (model prog w) A (assign tg env v) (fun _ z3=>wpAny (model prog w) A (jKM ifs env) (fun ok z4=>
     if ok=true then wpAny (model prog w) A (eval elt env) (fun x z5=>wpAny (model prog w) A (call (.builtin "list.append") [acc,x]) (fun _ z6=>∃ k,k<n/\J k z6) (fun _ _=>False) z5) (fun _ _=>False) z4
     else ∃ k,k<n/\J k z4) (fun _ _=>False) z3) (fun _ _=>False) z2) (fun _ _=>False) z1) (fun _ _=>False) z)
  (n:Nat) (h:J n s):codeAny (model prog w) A (.compLoop (.ListComp elt [⟨tg,iter,ifs,0⟩] sc pos) 0 it acc env) R s:=by
 refine codeAny_loop rfl J (fun k z hJ=>?_) n h
 have noE:∀ {α:Type}{t:Sem α}{Q:α->Shared->Prop}{E:Value->Shared->Prop}{z:Shared},wpAny (model prog w) A t Q (fun _ _=>False) z->wpAny (model prog w) A t Q E z:=
  fun q=>bX q (fun _ _ a=>a) fun _ _ f=>f.elim
 show wpAny _ A ((compTurn (.ListComp elt [⟨tg,iter,ifs,0⟩] sc pos) 0 it acc env).onRaise (fun x=>do noteFrame x env; theTreesLotGoes x)) _ _ z
 refine wpAny_noted ?_
 rw[compTurn_list]
 refine aa (iF (aa (bX (turn k z hJ) (fun r z1 q1=>?_) fun _ _ f=>f.elim)))
 cases r with
 | none=>exact ah q1
 | some v=>
  refine aa (bX q1 (fun _ z2 q2=>?_) fun _ _ f=>f.elim)
  refine aa (bX q2 (fun _ z3 q3=>?_) fun _ _ f=>f.elim)
  refine aa (bX q3 (fun ok z4 q4=>?_) fun _ _ f=>f.elim)
  cases ok with
  | false=>exact ah ⟨rfl,q4⟩
  | true=>
   refine aa (aa (bX q4 (fun x z5 q5=>?_) fun _ _ f=>f.elim))
   exact aa (bX q5 (fun _ z6 q6=>ah (ah ⟨rfl,q6⟩)) fun _ _ f=>f.elim)
end
noncomputable def blk (X:Cx)(sc:Scope)(cl:List (Str×Addr))(C:Addr)(Nc:List Str)(fp:List Addr)(s:Shared)(H:Hp):Cx where
 prog:=X.prog
 w:=X.w
 K:=X.K
 mg:=X.mg
 base:=X.base
 A:=X.A
 N:=Nc
 s₀:=s
 H₀:=H
 env:=compEnvC sc cl C X.env
 outer:=X.stack
 stack:=X.stack
 ex:=fp
 fn:=fun _=>false
 calm:=X.calm
 pn:=[]
 xe:=fun _ _=>False
def blkσ (m:List (Option Nat))(σ:St):St:=m.map fun o=>match o with
 | none=>none
 | some i=>(σ[i]?).getD none
def PTs (X:Cx)(ifs:List Expr)(t:TT):Prop:=
 ∀ (ad:List (Addr×Obj)) (s:Shared) (σ:St) (H:Hp) (Q:Bool->Hp->Prop),Inv X ad σ H s->t σ H Q->wpAny (model X.prog X.w) X.A (jKM ifs X.env) (TP X ad σ Q) X.xe s
def yG:TT:=fun _ H Q=>Q true H
theorem jL0 {X:Cx} :PTs X [] yG:=fun _ _ _ H _ I h=>wpAny_tests_nil ⟨H,I,h⟩
theorem jKZ {X:Cx}{c:Expr}{t:TT}(h:PT X c t):PTs X [c] t:=fun ad s σ H Q I q=>wpAny_tests_one (h ad s σ H Q I q)
def qB (m:List (Option Nat))(g:TG)(tt:TT)(te:TE)(σ:St)(Q:VK)(J:It)(H1:Hp):Prop:=∀ D,H1 D=none->∃ W:Nat->Nat->St->Hp->List V->Prop,
  (∃ n,W 0 n (blkσ m σ) (upd H1 D (.lst [])) [])/\∀ i n σ' H' ys,W i n σ' H' ys->H' D=some (.lst ys)/\ys.length<sizeLine/\
   ((J.stop i H'/\Q (.ref D) H')\/(J.go i H'/\∃ N:St->Hp->List V->Prop,(∀ σ2 H2 zs,N σ2 H2 zs->∃ n',n'<n/\W (i+1) n' σ2 H2 zs)/\∀ x H'',J.yld i H' x H''->g x σ' H'' fun σ2 H2=>tt σ2 H2 fun b H3=>
    if b=true then te σ2 H3 fun v H4=>H4 D=some (.lst ys)/\N σ2 (upd H4 D (.lst (ys++[v]))) (ys++[v])
    else N σ2 H3 ys))
def tComp (m:List (Option Nat))(wi:TI)(g:TG)(tt:TT)(te:TE):TE:=fun σ H Q=>wi σ H (qB m g tt te σ Q)
theorem Un.sameBut {fs ex:List Addr}{H H':Hp}{h h1 h2:Heap}{C:Addr}(u:Un fs ex H H' h h1)(sb:Heap.SameBut C h1 h2)(hC:h.objs.size<=C):Un fs ex H H' h h2:=by
 have ne:∀ {b:Addr}{o:Obj},h.get? b=some o->b≠C:=fun e=>aV (aS (aE e) hC)
 refine⟨fun b o e n hf hx=>(sb.2 b (ne e)).trans (u.keep b o e n hf hx),fun b o e n hf hx=>?_,u.free,fun b o e hx=>?_,u.tups,u.frzs,u.tbls⟩
 ·obtain⟨sl,q⟩:=u.slot b o e n hf hx
  exact⟨sl,(sb.2 b (ne e)).trans q⟩
 ·obtain⟨o',q⟩:=u.there b o e hx
  exact⟨o',(sb.2 b (ne e)).trans q⟩
theorem HOk.sameBut {P:Program}{w:World}{H:Hp}{h1 h2:Heap}{C:Addr}(x:HOk P w H h1)(sb:Heap.SameBut C h1 h2)(hC:H C=none):HOk P w H h2:=fun a o e=>
 (x a o e).stay (fun b u hb q=>(sb.2 b (by
  rintro rfl
  rcases hb with rfl | hb
  ·rw[hC] at e; cases e
  ·rw[hC] at hb; cases hb)).trans q) (fun _ q=>q) fun _ _ q=>q
variable {g:TG}{tt:TT}{te:TE}{m:List (Option Nat)}
section
variable {tg iter elt:Expr}{ifs:List Expr}{sc:Scope}{pos:Pos}{wi:TI}{Nc:List Str}
def jD0 (X:Cx)(sc:Scope)(Nc:List Str)(m:List (Option Nat)):Prop:=
 m.length=Nc.length/\∀ (k i:Nat),m[k]?=some (some i)->∃ x,Nc[k]?=some x/\X.N[i]?=some x/\sc.names.lookup x=some .free
theorem jN3 {ad:List (Addr×Obj)}{s:Shared}{σ:St}{H:Hp}{fp:List Addr}(I:Inv X ad σ H s)(hkind:sc.kind= .function)(hcell:∀ y∈sc.names,y.2≠ .cell)
  (hfree:∀ y∈sc.names,y.2= .free->X.env.scope.names.lookup y.1=some .cell\/X.env.scope.names.lookup y.1=some .free) (hm:jD0 X sc Nc m) (hfp:∀ b∈fp,FpOk X ad H b) (hlt:∀ b∈fp,b<s.heap.objs.size)
  {h1:Heap}{tk:Nat}{md:Str->Option Value}(hns:h1.Ns s.heap.objs.size md) (old:∀ b o,s.heap.get? b=some o->h1.get? b=some o):
  Inv (blk X sc (kE X.env.cells sc.names []) s.heap.objs.size Nc fp s H) [] (blkσ m σ) H { s with heap:=h1,toks:=tk} :=by
 have hcl:∀ y∈sc.names,y.2= .free->∃ c,X.env.cells.lookup y.1=some c:=fun y hy hf=>I.ok.has y.1 (hfree y hy hf)
 have sub:∀ x c,(kE X.env.cells sc.names []).lookup x=some c->X.env.cells.lookup x=some c:=jAN sc.names [] hcl (fun x c e=>by cases e)
 have isfree:∀ x,(compEnvC sc (kE X.env.cells sc.names []) s.heap.objs.size X.env).kindOf x=some .cell\/(compEnvC sc (kE X.env.cells sc.names []) s.heap.objs.size X.env).kindOf x=some .free->sc.names.lookup x=some .free:=fun x h=>by
  rcases h with h | h
  ·exact jCB (.inl rfl) hcell h
  ·exact jCB (.inr rfl) hcell h
 refine⟨⟨I.ok.mod,hkind,I.ok.glob,I.ok.blt,ai _,fun x y c h1 h2=>I.ok.inj x y c (sub x c h1) (sub y c h2),fun x hx=>?_,fun x c hf _=>?_,I.ok.hd,I.ok.frames, .inl rfl,fun b hb=>?_,I.bs,aX I.ok.bsz I.sz,fun b o e hb=>?_,fun b hb hz=>?_,I.stack,I.stkFree⟩,
  rfl,I.bare,Un.kept old,⟨md,hns,fun k x v e1 e2 e3=>?_⟩,fun x c e=>?_,I.hok.fresh (ai _),fun x c e=>I.freeC x c (sub x c e),fun p hp=>absurd (show p∈([]:List (Addr×Obj)) from hp) (by simp),I.hok.kept old,?_⟩
 ·exact jAO sc.names [] (.inl (jAL (isfree x hx)))
 ·exact absurd (show false=true from hf) ao
 ·obtain⟨f0,f1,f2,f3,f4,f5⟩:=hfp b hb
  exact⟨aV (hlt b hb),fun x c e=>f4 x c (sub x c e)⟩
 ·obtain⟨f0,f1,f2,f3,f4,f5⟩:=hfp b hb
  rcases f3 with q | q
  ·exact I.ok.noex b o e q
  ·exact absurd (aS (aE (I.ok.bs b o e).1) q) (da _)
 ·obtain⟨f0,f1,f2,f3,f4,f5⟩:=hfp b hb
  rcases aM.mp (I.stkSub b hz) with q | q
  ·exact f1 q
  ·exact f2 q
 ·have e2':∃ i,m[k]?=some (some i)/\σ[i]?=some (some v):=by
   unfold blkσ at e2
   rw[aY] at e2
   cases q:m[k]? with
   | none=>rw[q] at e2; cases e2
   | some o=>
    rw[q] at e2
    cases o with
    | none=>cases e2
    | some i=>
     refine⟨i,rfl,?_⟩
     have e2:(σ[i]?).getD none=some v:=br e2
     cases r:σ[i]? with
     | none=>rw[r] at e2; cases e2
     | some z=>rw[r] at e2; exact bA some e2
  obtain⟨i,q1,q2⟩:=e2'
  obtain⟨x',a1,a2,a3⟩:=hm.2 k i q1
  have e1':Nc[k]?=some x:=e1
  rw[e1'] at a1
  cases a1
  have vis:=hfree (x, .free) (jAL a3) rfl
  obtain⟨m0,hn0,hl0⟩:=I.loc
  obtain⟨u,r,l⟩:=hl0 i x v a2 q2 (.inr vis)
  refine⟨u,r, .inr ⟨jCI a3,?_⟩⟩
  obtain⟨c,hc⟩:=jAO (cells:=X.env.cells) (x:=x) sc.names [] (.inl (jAL a3))
  rcases l with ⟨lk,_⟩ | ⟨_,c',hc',o,ho,hd⟩
  ·have lk':X.env.scope.names.lookup x=some .local:=lk
   rcases vis with z | z
   ·rw[lk'] at z; cases z
   ·rw[lk'] at z; cases z
  ·have:=sub x c hc
   rw[hc'] at this
   cases this
   exact⟨c,hc,o,old _ _ ho,hd⟩
 ·obtain⟨v,o,ho,hd⟩:=I.cell x c (sub x c e)
  exact⟨v,o,old _ _ ho,hd⟩
 ·show (blkσ m σ).length=Nc.length
  unfold blkσ
  rw[ab]
  exact hm.1
theorem jJA {tf:St->TE}(hc:X.calm=true)(hi:PI X tg iter wi)(hkind:sc.kind= .function)(hcell:∀ y∈sc.names,y.2≠ .cell)(hnames:∀ y∈sc.names,y.2= .local->sc.names.lookup y.1=some .local)
  (hfree:∀ y∈sc.names,y.2= .free->X.env.scope.names.lookup y.1=some .cell\/X.env.scope.names.lookup y.1=some .free) (hm:jD0 X sc Nc m)
  (hg:∀ cl C fp s H,PG (blk X sc cl C Nc fp s H) tg g) (ht:∀ cl C fp s H,PTs (blk X sc cl C Nc fp s H) ifs tt) (he:∀ cl C fp s H ad σ,Inv X ad σ H s->(∀ b∈fp,FpOk X ad H b)->PE (blk X sc cl C Nc fp s H) elt (tf σ))
  (hs:∀ x,foldedSetIterable iter X.env x=pure x) {fpos:Pos}{use:Option (Value->Sem Unit)}{R:Value->Shared->Prop}{ad:List (Addr×Obj)}{s:Shared}{σ:St}{H:Hp}{Q:VK}(I:Inv X ad σ H s) (h:tComp m wi g tt (tf σ) σ H Q)
  (fin:∀ (D C:Addr) (H5:Hp) (z1:Shared) (r:Flow),(∃ mm,z1.heap.Ns C mm)->FpOk X ad H5 C->(∀ h',Heap.SameBut C z1.heap h'->Inv X ad σ H5 { z1 with heap:=h'})->Q (.ref D) H5->compPost (model X.prog X.w) X.A X.xe use R (.ref D) C (.ok r) z1):
  wpAny (model X.prog X.w) X.A (comprehension (.ListComp elt [⟨tg,iter,ifs,0⟩] sc pos) sc X.env fpos (newList []) false (eval iter X.env) use) R X.xe s:=by
 have hcl:∀ y∈sc.names,y.2= .free->∃ c,X.env.cells.lookup y.1=some c:=fun y hy hf=>I.ok.has y.1 (hfree y hy hf)
 refine wpAny_comprehension_free (use:=use) rfl hs (jMT hcl) hkind hnames (lC (hi ad s σ H _ I h) fun v s1 h1=>lC h1 fun itv s2 h2=>?_)
 obtain⟨it,fp,tn,J,H2,e,I2,T,st2,f2,hQ⟩:=h2
 subst e
 have hlt:∀ b∈fp,b<s2.heap.objs.size:=fun b hb=>by
  obtain⟨o,e,_⟩:=T.obj 0 _ st2 b hb
  exact aE e
 refine cR (wpAny_newFunctionEnv hcell (by intro y hy; simp at hy) (fun h₁ hns₁ hsb₁=>?_) hkind)
 have I3:Inv X ad σ (upd H2 s2.heap.objs.size (.lst [])) { s2 with heap:=s2.heap.push { cls:= .type "list",data:= .seq ([]:List Value).toArray}} :=I2.lnew (t':=s2.toks) .nil (ba _)
 obtain⟨W,⟨n0,w0⟩,turn⟩:=hQ s2.heap.objs.size I2.fresh
 have hD3:∀ b∈fp,b≠s2.heap.objs.size:=fun b hb=>aV (hlt b hb)
 have f3:∀ b∈fp,FpOk X ad (upd H2 s2.heap.objs.size (.lst [])) b:=fun b hb=>by
  obtain⟨a0,a1⟩:=f2 b hb
  exact⟨by rw[j7 (hD3 b hb)]; exact a0,a1⟩
 generalize hE:({ s2 with heap:=s2.heap.push { cls:= .type "list",data:= .seq ([]:List Value).toArray}} :Shared)=s3 at I3 hns₁ hsb₁ ⊢
 generalize hH3:upd H2 s2.heap.objs.size (.lst [])=H3 at I3 f3 w0
 have hsz3:s3.heap.objs.size=s2.heap.objs.size+1:=by rw[<- hE]; exact cq _ _
 have old:∀ b o,s3.heap.get? b=some o->h₁.get? b=some o:=fun b o e=>hsb₁.extBut b o (aV (aE e)) (ae _ e)
 have old2:∀ b o,s2.heap.get? b=some o->h₁.get? b=some o:=fun b o e=>old b o (by rw[<- hE]; exact ae _ e)
 have I4:=jN3 (fp:=fp) (tk:=s3.toks+([]:List (Str×Value)).length) I3 hkind hcell hfree hm f3 (fun b hb=>show b<s3.heap.objs.size by rw[hsz3]; exact bJ (hlt b hb)) hns₁ old
 have st4:tn 0 h₁:=T.keep _ _ _ st2 fun b hb o e=>old2 b o e
 have loop:codeAny (model X.prog X.w) X.A (.compLoop (.ListComp elt [⟨tg,iter,ifs,0⟩] sc pos) 0 (.ref it) (.ref s2.heap.objs.size) (compEnvC sc (kE X.env.cells sc.names []) s3.heap.objs.size X.env))
   (compPost (model X.prog X.w) X.A X.xe use R (.ref s2.heap.objs.size) s3.heap.objs.size) { s3 with heap:=h₁,toks:=s3.toks+([]:List (Str×Value)).length} :=by
  generalize hX:blk X sc (kE X.env.cells sc.names []) s3.heap.objs.size Nc fp s3 H3=Xb at I4
  have eP:Xb.prog=X.prog:=by rw[<- hX]; rfl
  have ew:Xb.w=X.w:=by rw[<- hX]; rfl
  have eK:Xb.K=X.K:=by rw[<- hX]; rfl
  have eA:Xb.A=X.A:=by rw[<- hX]; rfl
  have ec:Xb.calm=true:=by rw[<- hX]; exact hc
  have ee:Xb.env=compEnvC sc (kE X.env.cells sc.names []) s3.heap.objs.size X.env:=by rw[<- hX]; rfl
  have ex:Xb.xe=fun _ _=>False:=by rw[<- hX]; rfl
  have hgb:PG Xb tg g:=by rw[<- hX]; exact hg _ _ _ _ _
  have htb:PTs Xb ifs tt:=by rw[<- hX]; exact ht _ _ _ _ _
  have heb:PE Xb elt (tf σ):=by rw[<- hX]; exact he _ _ _ _ _ _ _ I3 f3
  have stat:∀ {H':Hp},(∀ b∈fp,H' b=none)->∀ b∈fp,FpOk Xb [] H' b:=fun {H'} hn b hb=>by
   obtain⟨o,eo,_⟩:=T.obj _ _ st4 b hb
   have q:=I4.ok.exf b (by rw[<- hX]; exact hb)
   exact⟨hn b hb,q.1,I4.ok.exfs b (by rw[<- hX]; exact hb), .inl (by rw[<- hX]; exact hb),q.2,fun p hp=>absurd hp (by rw[<- hX]; simp [blk])⟩
  have fr4:∀ b∈fp,H3 b=none:=fun b hb=>(f3 b hb).1
  unfold PG at hgb
  unfold PTs at htb
  unfold PE at heb
  rw[eP,ew,eA,ee,ex] at hgb htb heb
  refine jK8 (fun n z=>∃ i σ' H' ys,Inv Xb [] σ' H' z/\tn i z.heap/\(∀ b∈fp,H' b=none)/\W i n σ' H' ys) ?_ n0 ⟨0,_,H3,[],I4,st4,fr4,w0⟩
  rintro n z ⟨i,σ5,H5,ys,I5,st5,fr5,w5⟩
  obtain⟨hD,hlen,way⟩:=turn i n σ5 H5 ys w5
  rcases way with ⟨stop,q⟩ | ⟨go,N,hN,step⟩
  ·have RR:=T.done Xb eP ew eK ec i [] z σ5 H5 (fun _ _=>False) I5 (stat fr5) st5 stop
   rw[eA] at RR
   refine lC RR fun r z1 ⟨hr,I6⟩=>?_
   subst hr
   obtain⟨mm,hn6,_⟩:=I6.loc
   rw[ee] at hn6
   have u6:Un (frs X.stack) fp H3 H5 s3.heap z1.heap:=by
    have:=I6.base
    rw[<- hX] at this
    exact this
   have fC:H5 s3.heap.objs.size=none:=by
    have:=I6.free
    rw[ee] at this
    exact this
   have hok6:HOk X.prog X.w H5 z1.heap:=by
    have:=I6.hok
    rw[eP,ew] at this
    exact this
   have os6:z1.os=s3.os:=by
    have:=I6.os
    rw[<- hX] at this
    exact this
   refine fin s2.heap.objs.size s3.heap.objs.size H5 z1 .next ⟨mm,hn6⟩ (I3.fpOk (ai _) fC) (fun h' sb=>?_) q
   refine I3.call' (s':= { z1 with heap:=h'}) (ch:=fp) os6 (u6.sameBut sb (ai _)) (hok6.sameBut sb fC) I6.bare (fun b hb=>?_)
   obtain⟨a0,a1,a2,a3,a4,a5⟩:=f3 b hb
   exact⟨a3,a1,a4,a5⟩
  ·have RR:=T.item Xb eP ew eK ec i [] z σ5 H5 (fun _ _=>False) I5 (stat fr5) st5 go
   rw[eA] at RR
   refine lC RR fun r z1 ⟨u,hr,h6⟩=>?_
   subst hr
   refine lC h6 fun _ z2 ⟨x,H7,I7,r7,y7,st7,fr7⟩=>?_
   have I7':=I7.pinned (stat fr7) (T.obj _ _ st7)
   refine lC (hgb _ z2 σ5 H7 x u _ I7' r7 (step x H7 y7)) fun _ z3 ⟨σ8,H8,I8,q8⟩=>?_
   refine lC (htb _ z3 σ8 H8 _ I8 q8) fun ok z4 ⟨H9,I9,q9⟩=>?_
   have again:∀ {σ7:St}{Hz:Hp}{zz:Shared}{yy:List V}{n':Nat},Inv Xb ([]++jGA fp z2.heap) σ7 Hz zz->n'<n->W (i+1) n' σ7 Hz yy->∃ k,k<n/\∃ i σ' H' ys,Inv Xb [] σ' H' zz/\tn i zz.heap/\(∀ b∈fp,H' b=none)/\W i k σ' H' ys:=fun {σ7 Hz zz yy n'} Iz hn wz=>by
    refine⟨n',hn,i+1,σ7,Hz,yy,Iz.unpinned,T.keep _ _ _ st7 fun b hb o e=>(Iz.pin (b,o) (aq _ (aq _ (jB4 hb e)))).1,fun b hb=>?_,wz⟩
    obtain⟨o,e,d⟩:=T.obj _ _ st7 b hb
    exact(Iz.pin (b,o) (aq _ (aq _ (jB4 hb e)))).2.1
   cases ok with
   | false=>
    obtain⟨n',hn,w9⟩:=hN _ _ _ (show N σ8 H9 ys from q9)
    exact again I9 hn w9
   | true=>
    refine lC (heb _ z4 σ8 H9 _ I9 q9) fun xv z5 ⟨vv,H10,I10,r10,hD10,n10⟩=>?_
    obtain⟨n',hn,w10⟩:=hN _ _ _ n10
    have RR:=jAK (X:=Xb) _ z5 σ8 H10 (.ref s2.heap.objs.size) [vv] (.ref s2.heap.objs.size) [xv] (fun _ H'=>H'=upd H10 s2.heap.objs.size (.lst (ys++[vv]))) I10 rfl (.cons r10 .nil) ⟨_,ys,vv,rfl,rfl,hD10,hlen,rfl⟩
    rw[eP,ew,eA,ex] at RR
    refine lC RR fun _ z6 ⟨_,H11,I11,_,e11⟩=>?_
    subst e11
    exact again I11 hn w10
 exact codeAny_compStart_list loop (T.self _ 0 _ _ _ st4 loop)
theorem jHN (hc:X.calm=true)(hi:PI X tg iter wi)(hkind:sc.kind= .function)(hcell:∀ y∈sc.names,y.2≠ .cell)(hnames:∀ y∈sc.names,y.2= .local->sc.names.lookup y.1=some .local)
  (hfree:∀ y∈sc.names,y.2= .free->X.env.scope.names.lookup y.1=some .cell\/X.env.scope.names.lookup y.1=some .free) (hm:jD0 X sc Nc m)
  (hg:∀ cl C fp s H,PG (blk X sc cl C Nc fp s H) tg g) (ht:∀ cl C fp s H,PTs (blk X sc cl C Nc fp s H) ifs tt) (he:∀ cl C fp s H,PE (blk X sc cl C Nc fp s H) elt te)
  (hs:∀ x,foldedSetIterable iter X.env x=pure x:=by intro _; rfl):PE X (.ListComp elt [⟨tg,iter,ifs,0⟩] sc pos) (tComp m wi g tt te):=by
 intro ad s σ H Q I h
 rw[eval_ListComp]
 exact jJA (tf:=fun _=>te) (use:=none) hc hi hkind hcell hnames hfree hm hg ht (fun cl C fp s H _ _ _ _=>he cl C fp s H) hs I h (fun D C H5 z1 r ⟨mm,hn⟩ fC sb q=>⟨mm,hn,fun h' s2=>⟨.ref D,H5,sb h' s2,rfl,q⟩⟩)
end
theorem jQ {X:Cx}{sc psc:Scope}(h:(sc.names.all fun y=>decide (y.2= .free->psc.names.lookup y.1=some .cell\/psc.names.lookup y.1=some .free))=true:=by decide+kernel)(e:X.env.scope=psc:=by rfl):
  ∀ y∈sc.names,y.2= .free->X.env.scope.names.lookup y.1=some .cell\/X.env.scope.names.lookup y.1=some .free:=by
 rw[e]
 intro y hy
 exact aP (bY.mp h y hy)
def jME (sc:Scope)(N Nc:List Str)(m:List (Option Nat))(k:Nat):Bool:=match m[k]? with
 | some (some i)=>match Nc[k]? with
  | some x=>decide (N[i]?=some x)&&decide (sc.names.lookup x=some .free)
  | none=>false
 | _=>true
theorem jG {X:Cx}{sc:Scope}{N Nc:List Str}{m:List (Option Nat)}(e:X.N=N)(hl:m.length=Nc.length)(h:((List.range m.length).all (jME sc N Nc m))=true):jD0 X sc Nc m:=by
 refine⟨hl,fun k i hk=>?_⟩
 have hlt:k<m.length:=(am.mp hk).1
 have q:=bY.mp h k (bM.mpr hlt)
 unfold jME at q
 rw[hk] at q
 cases e2:Nc[k]? with
 | none=>rw[e2] at q; cases q
 | some x=>
  rw[e2] at q
  have q:(decide (N[i]?=some x)&&decide (sc.names.lookup x=some .free))=true:=q
  rw[bD] at q
  exact⟨x,rfl,by rw[e]; exact aP q.1,aP q.2⟩
section
variable {σ:St}{H1:Hp}{Q:VK}
theorem jB8 {lo:Int}{n:Nat}(hn:n<sizeLine)(Pv:Addr->Nat->St->Hp->List V->Prop)(h0:∀ D,H1 D=none->Pv D 0 (blkσ m σ) (upd H1 D (.lst [])) [])
  (hD:∀ D i σ' H' ys,H1 D=none->i<=n->Pv D i σ' H' ys->H' D=some (.lst ys)/\ys.length<=i)
  (hs:∀ D i σ' H' ys,H1 D=none->i<n->Pv D i σ' H' ys->g (.int (lo+i)) σ' H' fun σ2 H2=>tt σ2 H2 fun b H3=>if b=true then te σ2 H3 fun v H4=>H4 D=some (.lst ys)/\Pv D (i+1) σ2 (upd H4 D (.lst (ys++[v]))) (ys++[v]) else Pv D (i+1) σ2 H3 ys)
  (hd:∀ D σ' H' ys,H1 D=none->Pv D n σ' H' ys->Q (.ref D) H'):qB m g tt te σ Q (Itr lo n) H1:=by
 intro D hDn
 refine⟨fun i k σ' H' ys=>k=n - i/\i<=n/\Pv D i σ' H' ys,⟨n,rfl,ba _,h0 D hDn⟩,?_⟩
 rintro i k σ' H' ys ⟨rfl,hi,p⟩
 obtain⟨q1,q2⟩:=hD D i σ' H' ys hDn hi p
 refine⟨q1,by lia,?_⟩
 by_cases hlt:i<n
 ·refine .inr ⟨hlt,Pv D (i+1),fun σ2 H2 zs z=>⟨n - (i+1),by lia,rfl,hlt,z⟩,fun x H'' y=>?_⟩
  obtain⟨e1,e2⟩:=y
  subst e1 e2
  exact hs D i σ' _ ys hDn hlt p
 ·have e:i=n:=by lia
  subst e
  exact .inl ⟨ai _,hd D σ' H' ys hDn p⟩
end
end L2
end
namespace SS
open PySem PySem.SetTable
abbrev Ris (xs:Array Nat):Prop:=xs.toList.Pairwise (· < ·)
theorem jCA {xs:Array Nat}(h:Ris xs){a b:Nat}(hab:a<b)(hb:b<xs.size):xs.getD a 0<xs.getD b 0:=by
 have h1:a<xs.size:=gX hab hb
 have:=cB.mp h a b (by simpa using h1) (by simpa using hb) hab
 simpa [Array.getD,h1,hb] using this
theorem jRE {xs:Array Nat}{j:Nat}(hr:Ris xs):∀ (fuel lo hi:Nat),hi - lo<=fuel->lo<=hi->hi<=xs.size->(∀ a,a<lo->xs.getD a 0<j)->(∀ a,hi<=a->a<xs.size->j<=xs.getD a 0)->
  (below.go xs j fuel lo hi<=xs.size/\(∀ a,a<below.go xs j fuel lo hi->xs.getD a 0<j)/\(∀ a,below.go xs j fuel lo hi<=a->a<xs.size->j<=xs.getD a 0)):=by
 intro fuel
 induction fuel with
 | zero=>
  intro lo hi h1 h2 h3 h4 h5
  have e:lo=hi:=by lia
  subst e
  exact⟨h3,h4,h5⟩
 | succ fuel ih=>
  intro lo hi h1 h2 h3 h4 h5
  unfold below.go
  by_cases hlt:lo<hi
  ·rw[ak hlt]
   have hm:(lo+hi) / 2<xs.size:=by lia
   have e:xs.getD ((lo+hi) / 2) j=xs.getD ((lo+hi) / 2) 0:=by simp [Array.getD,hm]
   dsimp only
   rw[e]
   by_cases hc:xs.getD ((lo+hi) / 2) 0<j
   ·rw[ak hc]
    refine ih _ _ (by lia) (by lia) h3 (fun a ha=>?_) h5
    by_cases e2:a=(lo+hi) / 2
    ·rw[e2]; exact hc
    ·exact gX (jCA hr (by lia) hm) hc
   ·rw[aj hc]
    refine ih _ _ (by lia) (by lia) (by lia) h4 (fun a ha hs=>?_)
    by_cases e2:a=(lo+hi) / 2
    ·rw[e2]; lia
    ·have:=jCA hr (show (lo+hi) / 2<a by lia) hs
     lia
  ·rw[aj hlt]
   have e:lo=hi:=by lia
   subst e
   exact⟨h3,h4,h5⟩
theorem jEG {xs:Array Nat}(hr:Ris xs)(j:Nat):below xs j<=xs.size/\(∀ a,a<below xs j->xs.getD a 0<j)/\(∀ a,below xs j<=a->a<xs.size->j<=xs.getD a 0):=
 jRE hr xs.size 0 xs.size (by lia) (ba _) (ai _) (fun a h=>absurd h (fJ _)) (fun a h1 h2=>absurd h2 (by lia))
theorem jFP {xs:Array Nat}(hr:Ris xs){j i:Nat}(hi:i<=xs.size)(h1:∀ a,a<i->xs.getD a 0<j)(h2:∀ a,i<=a->a<xs.size->j<=xs.getD a 0):below xs j=i:=by
 obtain⟨b1,b2,b3⟩:=jEG hr j
 rcases Nat.lt_trichotomy (below xs j) i with h | h | h
 ·have q1:=h1 _ h
  have q2:=b3 _ (ai _) (by lia)
  lia
 ·exact h
 ·have q1:=b2 _ h
  have q2:=h2 _ (ai _) (by lia)
  lia
theorem jAA {α:Type}(xs:Array α)(p:Nat)(x:α):(insertAt xs p x).toList=xs.toList.take p++x::xs.toList.drop p:=by
 unfold insertAt
 simp [fh,List.extract]
 rw[bC (by simp)]
theorem jBM {α:Type}(xs:Array α)(p:Nat)(x:α):(insertAt xs p x).size=xs.size+1:=by
 rw[<- aR,jAA]
 simp
 lia
theorem jJK {xs:Array Nat}{j:Nat}(hr:Ris xs)(hj:j∉xs.toList):Ris (insertAt xs (below xs j) j):=by
 obtain⟨b1,b2,b3⟩:=jEG hr j
 show (insertAt xs (below xs j) j).toList.Pairwise (· < ·)
 rw[jAA,bO,dO]
 have hl:∀ a∈xs.toList.take (below xs j),a<j:=by
  intro a ha
  obtain⟨i,hi,e⟩:=List.mem_take_iff_getElem.mp ha
  have:=b2 i (by lia)
  have hs:i<xs.size:=by simp at hi; lia
  simp [Array.getD,hs] at this
  simp at e
  lia
 have hg:∀ a∈xs.toList.drop (below xs j),j<a:=by
  intro a ha
  obtain⟨i,hi,e⟩:=List.mem_drop_iff_getElem.mp ha
  have hs:i+below xs j<xs.size:=by simpa [iU] using hi
  have:=b3 (i+below xs j) (by lia) hs
  simp [Array.getD,hs] at this
  have e':xs[i+below xs j]=a:=by simpa [iU] using e
  have hne:a≠j:=by
   intro z
   apply hj
   rw[<- z]
   exact cr ha
  lia
 refine⟨hr.sublist (d0 _ _),⟨hg,hr.sublist (iq _ _)⟩,?_⟩
 intro a ha b hb
 rcases aM.mp hb with rfl | hb
 ·exact hl a ha
 ·exact gX (hl a ha) (hg b hb)
theorem jDN {t:SetTable}{j:Nat}(hr:Ris t.place)(h:t.slot j= .empty):j∉t.place.toList:=by
 intro hm
 obtain⟨i,hi,e⟩:=cE hm
 have hs:i<t.place.size:=by simpa using hi
 have e0:t.place[i]=j:=by simpa using e
 have eb:below t.place j=i:=by
  refine jFP hr (dF hs) (fun a ha=>?_) (fun a h1 h2=>?_)
  ·have:=jCA hr ha hs
   simp only [Array.getD,hs] at this ⊢
   simp [e0] at this ⊢
   exact this
  ·by_cases e2:a=i
   ·subst e2
    simp [Array.getD,hs,e0]
   ·have:=jCA hr (show i<a by lia) h2
    simp only [Array.getD,hs] at this
    simp [e0] at this
    simp [Array.getD]
    lia
 unfold SetTable.slot at h
 dsimp only at h
 rw[eb] at h
 rw[ak (by simp [hs,e0])] at h
 cases h
theorem jHZ (j:Nat):has #[] j=false:=by
 unfold has
 simp
theorem jIL {t:SetTable}(hd:t.dummies=#[]){f:Nat->Int}{h:Int} :∀ (fuel:Nat) (p:Probe) (m:Met),p.dummy=none->probe.go t f h fuel p=some m->
  (∃ j,m= .empty j none/\t.slot j= .empty)\/(∃ j i n,m= .candidate j i n):=by
 intro fuel
 induction fuel with
 | zero=>intro p m _ e; simp [probe.go] at e
 | succ fuel ih=>
  intro p m hp e
  unfold probe.go at e
  cases hs:t.slot p.j with
  | empty=>
   rw[hs] at e
   simp only [ir] at e
   subst e
   exact .inl ⟨p.j,by rw[hp],hs⟩
  | dummy=>
   unfold SetTable.slot at hs
   dsimp only at hs
   rw[hd,jHZ] at hs
   split at hs
   ·cases hs
   ·simp at hs
  | live i=>
   rw[hs] at e
   dsimp only at e
   split at e
   ·simp only [ir] at e
    subst e
    exact .inr ⟨_,_,_,rfl⟩
   ·refine ih _ _ ?_ e
    unfold advance
    split
    ·exact hp
    ·exact hp
theorem jFF {t:SetTable}(hr:Ris t.place)(hd:t.dummies=#[]){h:Int}{slot:Nat}{d:Bool}(e:t.freeSlot h=some (slot,d)):slot∉t.place.toList:=by
 unfold SetTable.freeSlot at e
 split at e
 ·rename_i j dummy hp
  simp only [ir,Prod.mk.injEq] at e
  have hp':probe.go t (fun _=>h+1) h (10*turns t.mask) (t.probeStart h)=some (.empty j dummy):=hp
  rcases jIL hd _ _ _ (by unfold probeStart; rfl) hp' with ⟨j',em,hs⟩ | ⟨_,_,_,em⟩
  ·cases em
   have:slot=j:=by rw[<- e.1]; rfl
   rw[this]
   exact jDN hr hs
  ·cases em
 ·cases e
theorem jJI {t:SetTable}{j:Nat}(hd:t.dummies=#[])(h:t.slot j≠ .empty):(∃ i,t.slot j= .live i)/\j∈t.place.toList:=by
 unfold SetTable.slot at h ⊢
 dsimp only at h ⊢
 by_cases q:(t.place[below t.place j]?==some j)=true
 ·rw[ak q]
  refine⟨⟨_,rfl⟩,?_⟩
  have e:t.place[below t.place j]?=some j:=eq_of_beq q
  obtain⟨hi,e⟩:=Array.getElem?_eq_some_iff.mp e
  rw[<- e]
  exact Array.getElem_mem_toList hi
 ·rw[aj q,hd,jHZ] at h
  exact absurd rfl h
theorem run7 (i:Nat):runEnd 7 i=i:=by unfold runEnd; rw[aj (by lia)]
theorem jL1 {t:SetTable}(hm:t.mask=7)(hd:t.dummies=#[]){h:Int} :∀ (k fuel:Nat) (p:Probe),p.j=p.i->p.more=0->p.i<8->p.perturb<32->k<=fuel->
  probe.go t (fun _=>h+1) h fuel p=none->∀ r,r<k->Nat.repeat (fun i=>(i*5+1) % 8) r p.i∈t.place.toList:=by
 intro k
 induction k with
 | zero=>intro fuel p _ _ _ _ _ _ r hr; lia
 | succ k ih=>
  intro fuel p h1 h2 h3 h4 h5 h6 r hr
  obtain⟨f,rfl⟩:∃ f,fuel=f+1:=⟨fuel - 1,by lia⟩
  unfold probe.go at h6
  by_cases he:t.slot p.j= .empty
  ·rw[he] at h6; cases h6
  ·obtain⟨⟨i,hl⟩,hmem⟩:=jJI hd he
   rw[hl] at h6
   dsimp only at h6
   rw[aj (by simp; lia)] at h6
   have hz:p.perturb / 32=0:=by lia
   have ea:t.advance p= { p with j:=(p.i*5+1) % 8,more:=0,i:=(p.i*5+1) % 8,perturb:=0} :=by
    unfold advance leap
    rw[aj (by lia),hm,hz]
    simp [run7]
   rw[ea] at h6
   cases r with
   | zero=>show p.i∈_; rw[<- h1]; exact hmem
   | succ r=>
    have q:=ih f _ (by rfl) (by rfl) (by show (p.i*5+1) % 8<8; lia) (by show 0<32; lia) (by lia) h6 r (by lia)
    have e:∀ (r i:Nat),Nat.repeat (fun i=>(i*5+1) % 8) (r+1) i=Nat.repeat (fun i=>(i*5+1) % 8) r ((i*5+1) % 8):=by
     intro r
     induction r with
     | zero=>intro i; rfl
     | succ r ihr=>
      intro i
      show ((Nat.repeat _ (r+1) i)*5+1) % 8=((Nat.repeat _ r ((i*5+1) % 8))*5+1) % 8
      rw[ihr]
    rw[e]
    exact q
theorem jN7:∀ i,i<8->∀ j,j<8->∃ r,r<8/\Nat.repeat (fun i=>(i*5+1) % 8) r i=j:=by decide+kernel
theorem jFE {t:SetTable}(hm:t.mask=7)(hd:t.dummies=#[])(hz:t.place.size<8){h:Int}(h0:0<=h)(h1:h<32):∃ q,t.freeSlot h=some q:=by
 unfold SetTable.freeSlot
 have hb:bits h<32:=by unfold bits; lia
 have hps:t.probeStart h= { j:=bits h % 8,more:=0,i:=bits h % 8,perturb:=bits h,dummy:=none} :=by
  unfold probeStart
  rw[hm]
  simp [run7]
 cases e:t.probe (fun _=>h+1) h (t.probeStart h) with
 | none=>
  exfalso
  have e':probe.go t (fun _=>h+1) h (10*turns t.mask) (t.probeStart h)=none:=e
  rw[hps] at e'
  have q:=jL1 hm hd 8 _ _ (by rfl) (by rfl) (by show bits h % 8<8; lia) (by exact hb) (by rw[hm]; decide) e'
  have sub:List.range 8 ⊆ t.place.toList:=by
   intro j hj
   obtain⟨r,hr,er⟩:=jN7 (bits h % 8) (by lia) j (bM.mp hj)
   rw[<- er]
   exact q r hr
  have:=List.Nodup.length_le_of_subset (iM (n:=8)) sub
  simp at this
  lia
 | some m=>
  rcases jIL hd _ _ _ (by rw[hps]) (show probe.go t (fun _=>h+1) h (10*turns t.mask) (t.probeStart h)=some m from e) with ⟨j,rfl,_⟩ | ⟨j,i,n,rfl⟩
  ·exact⟨_,rfl⟩
  ·exfalso
   have nc:∀ (fuel:Nat) (p:Probe) (j i:Nat) (n:Probe),probe.go t (fun _=>h+1) h fuel p≠some (.candidate j i n):=by
    intro fuel
    induction fuel with
    | zero=>intro p j i n; simp [probe.go]
    | succ f ih=>
     intro p j i n
     unfold probe.go
     cases t.slot p.j with
     | empty=>simp
     | dummy=>exact ih _ _ _ _
     | live i'=>
      dsimp only
      rw[aj (by simp; lia)]
      exact ih _ _ _ _
   exact nc _ _ _ _ _ e
structure Tab (t:SetTable)(n:Nat)(led:Bool):Prop where
 ris:Ris t.place
 sz:t.place.size=n
 dm:t.dummies=#[]
 msk:t.mask=7
 pl:t.plain=true
 ld:t.led=led
theorem Tab.fits {t:SetTable}{n:Nat}{led:Bool}(T:Tab t n led)(hn:n<=4):t.fits n=true:=by
 unfold SetTable.fits fill
 simp [T.sz,T.dm,T.msk]
 lia
theorem Tab.full {t:SetTable}{n:Nat}{led:Bool}(T:Tab t n led)(hn:n<=4):t.tooFull=false:=by
 unfold tooFull fill
 simp [T.sz,T.dm,T.msk]
 lia
theorem jKN (led:Bool):Tab (fresh 0 0 led) 0 led:=⟨List.Pairwise.nil,rfl,rfl,rfl,rfl,rfl⟩
theorem jJZ {t:SetTable}{n:Nat}{led:Bool}(T:Tab t n led)(hn:n+1<=4)(es:Array (Int×Value))(he:es.size=n){h:Int}(h0:0<=h)(h1:h<32)(x:Value):
  Tab (layNew t es h x).2.1 (n+1) led/\∃ p,(layNew t es h x).1.toList=es.toList.take p++(h,x)::es.toList.drop p:=by
 obtain⟨⟨slot,d⟩,hf⟩:=jFE T.msk T.dm (by rw[T.sz]; lia) h0 h1
 unfold layNew
 rw[hf]
 dsimp only [SetTable.put]
 have hnm:=jFF T.ris T.dm hf
 have T2:Tab { t with place:=insertAt t.place (below t.place slot) slot,dummies:=if has t.dummies slot then eraseAt t.dummies (below t.dummies slot) else t.dummies} (n+1) led:=by
  refine⟨jJK T.ris hnm,by rw[jBM,T.sz],?_,T.msk,T.pl,T.ld⟩
  rw[T.dm,jHZ]
  rfl
 refine⟨?_,_,jAA _ _ _⟩
 unfold SetTable.orStandIn
 rw[jBM,he,T2.fits hn]
 exact T2
def jII (xs:Array Nat):Nat->Nat
 | 0=>0
 | i+1=>xs.getD i 0+1
theorem jH4 {xs:Array Nat}(hr:Ris xs){i:Nat}(hi:i<=xs.size):below xs (jII xs i)=i:=by
 cases i with
 | zero=>exact jFP hr (ba _) (fun a h=>absurd h (fJ _)) (fun a _ _=>ba _)
 | succ i=>
  refine jFP hr hi (fun a ha=>?_) (fun a h1 h2=>?_)
  ·show _<xs.getD i 0+1
   by_cases e:a=i
   ·rw[e]; lia
   ·have:=jCA hr (show a<i by lia) (show i<xs.size by lia)
    lia
  ·show xs.getD i 0+1<=_
   exact jCA hr (show i<a by lia) h2
theorem jK6 {α:Type}{l:List α}{i:Nat}(h:i<l.length):(l[i]::l.eraseIdx i).Perm l:=by
 rw[List.eraseIdx_eq_take_drop_succ]
 have e:l=l.take i++l[i]::l.drop (i+1):=by rw[<- fq h,bo]
 conv=>rhs; rw[e]
 exact List.perm_middle.symm
theorem jQB {α:Type}(next:Nat->Nat):∀ (fuel k:Nat) (left:List α) (out:Array α),fuel=left.length->(pickOrder.go next fuel k left out).toList.Perm (out.toList++left):=by
 intro fuel
 induction fuel with
 | zero=>
  intro k left out h
  have:left=[]:=List.length_eq_zero_iff.mp h.symm
  subst this
  simp [pickOrder.go]
 | succ f ih=>
  intro k left out h
  have hl:next k % left.length<left.length:=Nat.mod_lt _ (by lia)
  unfold pickOrder.go
  rw[ag hl]
  dsimp only
  refine(ih _ _ _ (by rw[List.length_eraseIdx_of_lt hl]; lia)).trans ?_
  rw[eg,aU]
  exact cY _ (jK6 hl)
theorem jGB {α:Type}(next:Nat->Nat)(xs:Array α):(pickOrder next xs).toList.Perm xs.toList:=by
 unfold pickOrder
 have:=jQB next xs.size 0 xs.toList #[] (by simp)
 simpa using this
end SS
namespace SS
open PySem
abbrev ledW (w:World):Bool:=!(w.params.followText "set-order")
def El (e:Int×Value)(k:Int):Prop:=e.1=hashInt k/\∃ t,e.2= .int k t
theorem jBF {α β:Type}{F:α->β->Prop} :∀ {l:List α}{r:List β},Paired F l r->∀ a∈l,∃ b∈r,F a b
 | _,_, .nil=>fun a h=>by cases h
 | _,_, .cons f t=>fun a h=>by
  rcases aM.mp h with rfl | h
  ·exact⟨_,ar,f⟩
  ·obtain⟨b,hb,q⟩:=jBF t a h
   exact⟨b,az _ hb,q⟩
theorem jCW {α β:Type}{F:α->β->Prop} :∀ {l:List α}{r:List β},Paired F l r->∀ b∈r,∃ a∈l,F a b
 | _,_, .nil=>fun a h=>by cases h
 | _,_, .cons f t=>fun b h=>by
  rcases aM.mp h with rfl | h
  ·exact⟨_,ar,f⟩
  ·obtain⟨a,ha,q⟩:=jCW t b h
   exact⟨a,az _ ha,q⟩
theorem jE8 {α β:Type}{F:α->β->Prop}{a:α}{b:β}(f:F a b):∀ {l:List α}{r:List β}(p:Nat),Paired F l r->Paired F (l.take p++a::l.drop p) (r.take p++b::r.drop p)
 | _,_,0,q=>by simpa using Paired.cons f q
 | _,_,p+1, .nil=>by simpa using Paired.cons f .nil
 | _,_,p+1, .cons g t=>by
  simp only [List.take_succ_cons,List.drop_succ_cons,List.cons_append]
  exact .cons g (jE8 f p t)
theorem jQ3 {α:Type}(l:List α)(p:Nat)(x z:α):z∈l.take p++x::l.drop p↔z=x\/z∈l:=by
 conv=>rhs; rw[<- bo p l]
 simp only [ay,aM]
 constructor
 ·rintro (h | h | h)
  ·exact .inr (.inl h)
  ·exact .inl h
  ·exact .inr (.inr h)
 ·rintro (h | h | h)
  ·exact .inr (.inl h)
  ·exact .inl h
  ·exact .inr (.inr h)
theorem jEX {α:Type}(l:List α)(p:Nat)(x:α):(l.take p++x::l.drop p).Perm (x::l):=by
 have h:(l.take p++x::l.drop p).Perm (x::(l.take p++l.drop p)):=List.perm_middle
 rw[bo] at h
 exact h
structure SetG (w:World)(h:Heap)(a:Addr)(ks:List Int):Prop where
 ex:∃ o es ep t,h.get? a=some o/\o.ExactSet/\o.data= .set es ep t/\Paired El es.toList ks/\Tab t es.size (ledW w)
 nd:ks.Nodup
 len:ks.length<=4
variable {prog:Program}{w:World}{A:Around}{E:Value->Shared->Prop}{s:Shared}{a:Addr}
section
variable {ks:List Int}{k:Int}{tk:Tok}
theorem elems {es:List (Int×Value)}(h:Paired El es ks):ElemsOf (intKind prog w) es:=fun e he=>by
 obtain⟨k,_,h1,t,h2⟩:=jBF h e he
 rw[h2]
 exact⟨⟨k,by show Value.isInt k (.int k t)=true; simp [Value.isInt],h1⟩,rfl⟩
theorem SetG.at {h h':Heap}(S:SetG w h a ks)(e:∀ o,h.get? a=some o->h'.get? a=some o):SetG w h' a ks:=by
 obtain⟨⟨o,es,ep,t,ho,r⟩,nd,len⟩:=S
 exact⟨⟨o,es,ep,t,e _ ho,r⟩,nd,len⟩
theorem jBZ (k0:0<=k)(k1:k<32):hashInt k=k:=by
 obtain⟨n,rfl⟩:=Int.eq_ofNat_of_zero_le k0
 have e:∀ n:Nat,n<32->hashInt (n:Int)=(n:Int):=by decide+kernel
 exact e n (by lia)
theorem jU0 {Q:Bool->Shared->Prop}(S:SetG w s.heap a ks)(hl:ks.length+1<=4)(k0:0<=k)(k1:k<32)
  (h:∀ b h' ks',Heap.SameBut a s.heap h'->SetG w h' a ks'->(∀ z,z∈ks'↔z=k\/z∈ks)->ks'.length<=ks.length+1->Q b { s with heap:=h'}):
  wpAny (model prog w) A (setAddHashed a (.int k tk) (hashInt k)) Q E s:=by
 obtain⟨o,es,ep,t,ho,hex,hd,hp,T⟩:=id S.ex
 have hn:es.size=ks.length:=by rw[<- aR]; exact gu hp
 have hf:=T.fits (by lia)
 have hel:ElemsOf (intKind prog w) es.toList:=elems hp
 have hb:es.size<scanBound:=by unfold scanBound; lia
 have hi:∀ (j:Int) (t:Tok),Value.isInt k (.int j t)=true->j=k:=fun j t e=>by simpa [Value.isInt] using e
 unfold setAddHashed setAddHashedIn
 refine cI (aa (dj ho hd hf ?_))
 dsimp only
 rw[byScan_of (knd:=intKind prog w) rfl hb hel,ak rfl]
 unfold setAddByScan
 refine aa (aa (cS (aa ?_)))
 refine wpAny_setScan_of (knd:=intKind prog w) (k:=k) (by show Value.isInt k (.int k tk)=true; simp [Value.isInt]) ho hd hf hel ?_
 have es0:s= { s with heap:=s.heap} :=by cases s; rfl
 cases hr:List.findIdx? (fun e=>(intKind prog w).is k e.2) es.toList with
 | some j=>
  obtain⟨hj,hpj,_⟩:=List.findIdx?_eq_some_iff_getElem.mp hr
  obtain⟨k',hk',_,t',e'⟩:=jBF hp _ (bS hj)
  have hkk:k'=k:=hi k' t' (by rw[<- e']; exact hpj)
  subst hkk
  refine ah (ah ?_)
  rw[es0]
  exact h false s.heap ks (Heap.SameBut.refl a s.heap) S (fun z=>⟨.inr,fun q=>q.elim (fun e=>e ▸ hk') id⟩) (by lia)
 | none=>
  have hnk:k∉ks:=fun hm=>by
   obtain⟨e,he,_,t',e'⟩:=jCW hp k hm
   have q:=List.findIdx?_eq_none_iff.mp hr e he
   rw[e'] at q
   have q':Value.isInt k (.int k t')=false:=q
   simp [Value.isInt] at q'
  obtain⟨T1,p,hp1⟩:=jJZ T (by lia) es rfl (h:=hashInt k) (by rw[jBZ k0 k1]; exact k0) (by rw[jBZ k0 k1]; exact k1) (.int k tk)
  dsimp only
  show wpAny _ A (match layNew t es (hashInt k) (Value.int k tk) with | (es,t,wasDummy,gave)=>_) _ E s
  generalize layNew t es (hashInt k) (Value.int k tk)=L at T1 hp1 ⊢
  obtain⟨es1,t1,wd,gv⟩:=L
  dsimp only at T1 hp1 ⊢
  have hp2:Paired El es1.toList (ks.take p++k::ks.drop p):=by
   rw[hp1]
   exact jE8 ⟨rfl,tk,rfl⟩ p hp
  have hz1:es1.size=es.size+1:=by
   rw[<- aR,hp1,(jEX es.toList p (hashInt k,Value.int k tk)).length_eq]
   simp
  have hlen:(ks.take p++k::ks.drop p).length=ks.length+1:=(jEX ks p k).length_eq
  have T1':Tab t1 es1.size (ledW w):=by rw[hz1]; exact T1
  have hg:(s.heap.update a (Obj.putSet es1 t1)).get? a=some { o with data:= .set es1 (ep+1) t1} :=by
   have q:=dQ (Obj.putSet es1 t1) ho (by rw[putSet_of es1 t1 hd]; rfl)
   rw[putSet_of es1 t1 hd] at q
   exact q
  have fin:Q true { s with heap:=s.heap.update a (Obj.putSet es1 t1)} :=
   h true _ _ (gU ..) ⟨⟨_,es1,ep+1,t1,hg,hex,rfl,hp2,T1'⟩,(jEX ks p k).nodup_iff.mpr (cL.mpr ⟨hnk,S.nd⟩),by lia⟩ (fun z=>jQ3 ks p k z) (by lia)
  have hfull:t1.tooFull=false:=T1'.full (by lia)
  refine aa (show wpAny _ A (match gv with | true=>rule "set.scan.the-table-gave-way" | false=>pure ()) _ E s from ?_)
  have hzl:es1.size<=sizeLine:=by rw[hz1,show sizeLine=2 ^ 24 from rfl]; lia
  cases gv with
  | true=>
   refine cS ?_
   split
   all_goals
    refine aa (show wpAny _ A (pure true:Sem Bool) _ E s from ah ?_)
    simp only [io]
    refine aa (wpAny_storeSet_of ho hd ?_ hzl)
    rw[hfull,fg,aj ao]
    exact ah (ah fin)
  | false=>
   refine ah ?_
   split
   all_goals
    refine aa (show wpAny _ A (pure true:Sem Bool) _ E s from ah ?_)
    simp only [io]
    refine aa (wpAny_storeSet_of ho hd ?_ hzl)
    rw[hfull,fg,aj ao]
    exact ah (ah fin)
end
theorem jBB:entryFor table "set.update.loop" =some Builtin.«set.update.loop»:=entryFor_of_fast (by kernel_rfl)
theorem jAE:plainId "set.update.loop" =true:=by decide+kernel
variable {I:Addr}
section
variable {R:Result->Shared->Prop}{fp wr:List Addr}{n:Nat}{P:Nat->Value->Prop}{St:Nat->Shared->Prop}
theorem jNE (W:WalksS prog w A.in1 I fp wr (fun a b=>b=a) n P St)(S:Addr)(hSf:S∉fp)(val:Nat->Int)(hval:∀ i v,P i v->∃ t,v= .int (val i) t)(hv:∀ i,i<n->0<=val i/\val i<32)(hn:n<=4):
  ∀ (k i:Nat) (s:Shared) (ks:List Int),n - i=k->i<=n->St i s->SetG w s.heap S ks->ks.length<=i->(∀ z,z∈ks↔∃ j,j<i/\val j=z)->
   (∀ s' ks',Moved (S::wr) (fun a b=>b=a) s s'->SetG w s'.heap S ks'->(∀ z,z∈ks'↔∃ j,j<n/\val j=z)->R (.ok (.ret .none)) s')->
   codeAny (model prog w) A (.builtin "set.update.loop" ⟨[.ref S, .ref I],[]⟩) R s:=by
 have hSw:S∉wr:=fun h=>hSf (W.sub _ h)
 have sub1:∀ b∈wr,b∈S::wr:=fun b hb=>az _ hb
 intro k
 induction k with
 | zero=>
  intro i s ks hk hi hst hS hl hm hR
  obtain rfl:i=n:=by lia
  refine dy jBB ?_
  rw[cM jAE _]
  show wpAny _ A.in1 (pyNext (.ref I) >>= _) _ _ s
  refine aa (W.done s _ _ hst fun s' mv=>?_)
  show wpAny _ A.in1 (ret Value.none) _ _ s'
  exact ah (hR s' ks (mv.mono sub1) (hS.at fun o e=>mv.heap S o hSw e) hm)
 | succ k ih=>
  intro i s ks hk hi hst hS hl hm hR
  have hlt:i<n:=by lia
  refine dy jBB ?_
  rw[cM jAE _]
  show wpAny _ A.in1 (pyNext (.ref I) >>= _) _ _ s
  refine aa (W.item i s _ _ hlt hst fun v s' hP hst' mv=>?_)
  obtain⟨t,rfl⟩:=hval i v hP
  have hS':=hS.at (h':=s'.heap) fun o e=>mv.heap S o hSw e
  show wpAny _ A.in1 (holding [Value.int (val i) t] (setAdd S (.int (val i) t)) >>= _) _ _ s'
  refine aa (cI ?_)
  unfold setAdd
  refine cI (aa (wpAny_pyHash_int ?_))
  refine jU0 (s:= { s' with toks:=s'.toks+1}) hS' (by lia) (hv i hlt).1 (hv i hlt).2 fun b h' ks' sb hS2 hm2 hl2=>?_
  refine ah ⟨gx jAE _,ih (i+1) _ ks' (by lia) hlt (W.frame _ s' _ _ hst' (iu _) fun b hb o e=>?_) hS2 (by lia) (fun z=>?_) fun s'' ks'' mv2 hS3 hm3=>?_⟩
  ·rw[sb.2 b (fun h:b=S=>hSf (by rw[<- h]; exact hb))]
   exact e
  ·rw[hm2,hm]
   constructor
   ·rintro (h | ⟨j,hj,e⟩)
    ·exact⟨i,by lia,h.symm⟩
    ·exact⟨j,by lia,e⟩
   ·rintro ⟨j,hj,e⟩
    by_cases hji:j=i
    ·exact .inl (by rw[<- e,hji])
    ·exact .inr ⟨j,by lia,e⟩
  ·refine hR s'' ks'' (Moved.trans W.gtrans ((mv.mono sub1).then_heap (iu _) fun b o hb e=>?_) mv2) hS3 hm3
   rw[sb.2 b (fun h:b=S=>hb (by rw[h]; exact ar))]
   exact e
end
section
theorem jR1 (a:Value){Q:Value->Shared->Prop}
  (h:Q (.ref s.heap.objs.size) { s with heap:=s.heap.push { cls:= .type "set",dict:=none,data:= .set #[] 0 (.fresh 0 0 (ledW w))}}):
  codeAny (model prog w) A (.call (.builtin "set.__new__") ⟨[.type "set",a],[]⟩) (wants Q E) s:=by
 refine codeAny_of_tree (show wpAny _ A.in1 (do checkBuiltinCall "set.__new__" ⟨[.type "set",a],[]⟩; again (.builtin "set.__new__" ⟨[.type "set",a],[]⟩)) _ _ s from ?_)
 refine aa (wpAny_of_eq (F.newCall_set_1 a) (ah ⟨gx F.plain_set_new _,dy F.entry_set_new ?_⟩))
 rw[cM F.plain_set_new _]
 unfold Builtin.«set.__new__» Builtin.Frozenset.newClass
 have q:=sub_set_self
 obtain⟨hp,g,d,tk,os⟩:=s
 dsimp only
 wp_walk
 refine fj (ah ?_)
 dsimp only
 simp only [newObj]
 exact aa (wpAny_alloc (ah (ah h)))
set_option maxHeartbeats 3200000 in
theorem set_of_list {l:Addr}{items:Array Value}{ns:List Int}{Q:Value->Shared->Prop}(hh:A.handled=none)(hl:s.heap.IsList l items)(hi:PyProof.Rows.IntsAre items.toList ns)
  (hn:items.size<=4) (hv:∀ z∈ns,0<=z/\z<32)
  (h:∀ (h':Heap) (tk:Nat) (ks:List Int),SetG w h' s.heap.objs.size ks->(∀ z,z∈ks↔z∈ns)->(∀ b o,s.heap.get? b=some o->h'.get? b=some o)->Q (.ref s.heap.objs.size) { s with heap:=h',toks:=tk}):
  wpAny (model prog w) A (call (.type "set") [.ref l]) Q E s:=by
 obtain⟨c,tl,hmro⟩:=F.called_set.mro
 have hmade:=F.called_set.made
 have hsub:=F.called_set.sub
 have g1:=F.called_set.notType
 have g2:=F.called_set.canCreate
 have g3:=F.typeCall_set_1 (.ref l)
 refine kh (codeAny_of_tree (show wpAny _ _ (callAny (.type "set") _) _ _ _ from ?_))
 refine ah ⟨Code.quiet_builtin _ (by decide+kernel),dy F.entry_type_call ?_⟩
 rw[Around.under_plain (weight_type_call_type "set" [.ref l] []) rfl]
 repeat (any_goals (first | assumption | wp_step))
 have hlen:items.size=ns.length:=by rw[<- aR]; exact hi.length
 refine eQ (jR1 (.ref l) (E:=E) (Q:=fun obj z=>obj= .ref s.heap.objs.size/\z= { s with heap:=s.heap.push { cls:= .type "set",dict:=none,data:= .set #[] 0 (.fresh 0 0 (ledW w))}}) ⟨rfl,rfl⟩) fun r z hr=>?_
 cases r with
 | error e=>exact hr
 | ok fl=>
  cases fl with
  | ret obj=>
   obtain⟨rfl,rfl⟩:=hr
   generalize hO:({ cls:= .type "set",dict:=none,data:= .set #[] 0 (.fresh 0 0 (ledW w))} :Obj)=oS
   have hS:(s.heap.push oS).get? s.heap.objs.size=some oS:=aJ _ (by rw[<- hO]; rfl)
   have hT:Shared.TypeIs { s with heap:=s.heap.push oS} (.ref s.heap.objs.size) "set" :=⟨_,hS,by rw[<- hO]⟩
   have hli:=F.called_set.init.lookup
   have hbi:=F.called_set.init.bind (.ref s.heap.objs.size)
   repeat (any_goals (first | assumption | wp_step))
   refine eQ (codeAny_call_builtin (R:=wants (fun r z2=>r= .none/\∃ h' tk ks,z2= { s with heap:=h',toks:=tk} /\SetG w h' s.heap.objs.size ks/\(∀ z,z∈ks↔z∈ns)/\(∀ b o,s.heap.get? b=some o->h'.get? b=some o)) E)
    F.called_set.init.plain F.entry_set_init (check_set_init_1 hT ?_)) fun r2 z2 hr2=>?_
   ·obtain⟨ol,hol,hcl,nl,hdl⟩:=hl
    obtain⟨ocls,odict,odata,oslots⟩:=ol
    simp only at hcl hdl
    subst hcl; subst hdl
    have hol':(s.heap.push oS).get? l=some { cls:= .type "list",dict:=odict,data:= .seq items nl,slots:=oslots} :=ae _ hol
    have y1:=F.sub_list_set
    have y2:=F.sub_list_frozenset
    have y3:(Value.type "list" ==Value.type "dict")=false:=by decide
    have hl1:(s.heap.push oS).IsList l items:=⟨_,hol',rfl,nl,rfl⟩
    subst hO
    unfold Builtin.«set.__init__» noKeywords Builtin.Frozenset.updateFrom
    generalize hPI:pyIter=PI
    wp_walk
    subst hPI
    refine fe hl1 (aa (jm ?_))
    have hlS:l<s.heap.objs.size:=aE hol
    have hz1:(s.heap.push { cls:= .type "set",dict:=none,data:= .set #[] 0 (.fresh 0 0 (ledW w))}).objs.size=s.heap.objs.size+1:=cq _ _
    have nI:l≠(s.heap.push { cls:= .type "set",dict:=none,data:= .set #[] 0 (.fresh 0 0 (ledW w))}).objs.size:=by
     rw[hz1]
     exact aV (bJ hlS)
    have nS:s.heap.objs.size∉ [(s.heap.push { cls:= .type "set",dict:=none,data:= .set #[] 0 (.fresh 0 0 (ledW w))}).objs.size,l]:=by
     rw[hz1]
     simp only [aM,bF,dE,lw]
     exact⟨aV (dJ _),cK hlS⟩
    have hget:((s.heap.push { cls:= .type "set",dict:=none,data:= .set #[] 0 (.fresh 0 0 (ledW w))}).push { cls:= .type "list_iterator",data:= .fields #[.ref l, .int 0 0]}).get? s.heap.objs.size
      =some { cls:= .type "set",dict:=none,data:= .set #[] 0 (.fresh 0 0 (ledW w))} :=ae _ hS
    refine jNE ((Walks.list (by simp [hh]) _ l nI items).toS) s.heap.objs.size nS (fun i=>ns.getD i 0) (fun i v q=>PyProof.Rows.IntsAre.int_at hi i v (by rw[bK]; exact q))
     (fun i q=>hv _ ?_) hn (items.size - 0) 0 _ [] rfl (ba _) ⟨⟨_,aJ _ rfl,rfl,rfl⟩,hl1.push _⟩ ⟨⟨_,#[],0,_,hget,⟨rfl,rfl,rfl⟩,rfl, .nil,jKN _⟩,jn,ba _⟩ (ai _) (fun z=>⟨fun q=>by(cases q),fun ⟨j,q,_⟩=>absurd q (fJ _)⟩) ?_
    ·have q':i<ns.length:=by rw[<- hlen]; exact q
     simp [List.getD,q']
    ·intro s' ks mv S' hm
     obtain⟨h',g',d',tk',os'⟩:=s'
     have e1:g'=s.gens:=mv.gens
     have e2:d'=s.drawn:=mv.drawn
     have e3:os'=s.os:=mv.os
     subst e1; subst e2; subst e3
     refine ah (ah ⟨rfl,h',tk',ks,rfl,S',fun z=>?_,fun b o e=>?_⟩)
     ·rw[hm]
      constructor
      ·rintro ⟨j,hj,e⟩
       have hj':j<ns.length:=by rw[<- hlen]; exact hj
       rw[<- e]
       simp [List.getD,hj']
      ·intro hz
       obtain⟨j,hj,e⟩:=cE hz
       exact⟨j,by rw[hlen]; exact hj,by simp [List.getD,hj,e]⟩
     ·have hb:=aE e
      refine mv.heap b o ?_ (ae _ (ae _ e))
      rw[hz1]
      simp only [aM,bF,dE,lw]
      exact⟨aV hb,aV (bJ hb)⟩
   ·cases r2 with
    | error e=>exact hr2
    | ok fl2=>
     cases fl2 with
     | ret r=>
      obtain⟨rfl,h',tk,ks,rfl,hS',hm,hk⟩:=hr2
      repeat (any_goals (first | assumption | wp_step))
      exact h _ _ _ hS' hm hk
     | _=>exact hr2.elim
  | _=>exact hr.elim
end
theorem slot_si_next:Slot "set_iterator" "__next__" "set_iterator.__next__" :=
 .of (owner:= "set_iterator") (n:= "__next__") (by
   rw[i8,gq]
   kernel_rfl) (by decide+kernel) (by decide+kernel)
  (by decide+kernel)
  (by first
   | exact .inl (by decide+kernel)
   | exact .inr (by decide+kernel))
  (by
   rw[jo]
   kernel_rfl)
theorem jCQ:Slot "set_iterator" "__iter__" "set_iterator.__iter__" :=
 .of (owner:= "set_iterator") (n:= "__iter__") (by
   rw[i8,gq]
   kernel_rfl) (by decide+kernel) (by decide+kernel)
  (by decide+kernel)
  (by first
   | exact .inl (by decide+kernel)
   | exact .inr (by decide+kernel))
  (by
   rw[jo]
   kernel_rfl)
theorem jC0:entryFor table "set_iterator.__next__" =some Builtin.«set_iterator.__next__»:=entryFor_of_tree (by kernel_rfl)
theorem jDY:entryFor table "set.__iter__" =some Builtin.«frozenset.__iter__»:=
 entryFor_alias (id':= "frozenset.__iter__") (by kernel_rfl) rfl (by decide+kernel) (by kernel_rfl)
theorem jFI:entryFor table "set_iterator.__iter__" =some Builtin.«dict_keyiterator.__iter__»:=
 entryFor_alias (id':= "dict_keyiterator.__iter__") (by kernel_rfl) (by first | rfl | decide+kernel | (unfold String.splitOn; simp+decide [String.splitOnAux])) (by decide+kernel)
  (by kernel_rfl)
theorem jCZ (a:Value):argsOk "set_iterator.__next__" ⟨[a],[]⟩:=by unfold argsOk; kernel_rfl
theorem jH6 (a:Value):argsOk "set_iterator.__iter__" ⟨[a],[]⟩:=by unfold argsOk; kernel_rfl
theorem jFQ (a:Value):argsOk "set.__iter__" ⟨[a],[]⟩:=by unfold argsOk; kernel_rfl
abbrev byTxt (w:World):Bool:=w.params.followText "set-order"
abbrev IsSI (h:Heap)(I:Addr)(slot i:Nat)(a:Addr)(n ep:Nat):Prop:=
 h.get? I=some { cls:= .type "set_iterator",dict:=none,data:= .fields #[rawInt slot,rawInt i, .ref a,rawInt n,rawInt ep],slots:=#[]}
def yU (w:World)(t:SetTable)(i:Nat):Nat:=if byTxt w=true then 0 else jII t.place i
noncomputable def told (w:World)(a:Addr)(ep:Nat)(es:Array (Int×Value)):List Value:=(if byTxt w=true then (pickOrder (w.params.setOrder a ep) es).toList else es.toList).map (·.2)
theorem jAR (w:World)(a:Addr)(ep:Nat)(es:Array (Int×Value)):(told w a ep es).length=es.size:=by
 unfold told
 rw[ab]
 split
 ·rw[(jGB _ es).length_eq]; simp
 ·simp
theorem jKL (w:World)(a:Addr)(ep:Nat)(es:Array (Int×Value)):(told w a ep es).Perm (es.toList.map (·.2)):=by
 unfold told
 split
 ·exact(jGB _ es).map _
 ·exact .refl _
variable {o:Obj}{es:Array (Int×Value)}{ep:Nat}{t:SetTable}
theorem jLG {i:Nat}{Q:Option (Value×Nat)->Shared->Prop}(ho:s.heap.get? a=some o)(hd:o.data= .set es ep t)(T:Tab t es.size (ledW w))(hn:es.size<=4)(hi:i<=es.size)
  (h:Q ((told w a ep es)[i]?.map fun v=>(v,yU w t (i+1))) s):wpAny (model prog w) A (setNext a (yU w t i) i ep) Q E s:=by
 unfold setNext
 refine aa (dj ho hd (T.fits hn) ?_)
 dsimp only
 unfold setsByText
 refine aa (aa (fj (ah ?_)))
 show wpAny _ A (if byTxt w=true then _ else _) Q E s
 have hl:=jAR w a ep es
 by_cases hb:byTxt w=true
 ·rw[ak hb,aj (by simp)]
  unfold setWalk
  refine aa (aa (dj ho hd (T.fits hn) ?_))
  dsimp only
  unfold setsByText
  refine aa (aa (fj (ah ?_)))
  show wpAny _ A (if byTxt w=true then _ else _) _ E s
  rw[ak hb]
  refine aa (fj (ah (ah ?_)))
  have e:(told w a ep es)[i]?.map (fun v=>(v,yU w t (i+1)))=(pickOrder (w.params.setOrder a ep) es)[i]?.map (fun e=>(e.snd,yU w t i)):=by
   unfold told yU
   rw[ak hb,ak hb,ak hb,aY,bK,Option.map_map]
   rfl
  rw[e] at h
  exact h
 ·rw[aj hb]
  have hb':byTxt w=false:=by simpa using hb
  have hld:t.led=true:=by rw[T.ld]; show (!byTxt w)=true; rw[hb']; rfl
  show wpAny _ A (if (!t.plain&&decide (es.size>1))=true then _ else _) Q E s
  rw[T.pl,jz,ff,aj ao]
  refine aa ?_
  show wpAny _ A (if (!t.led&&!es.isEmpty)=true then _ else pure ()) _ E s
  rw[hld,jz,ff,aj ao]
  refine ah (ah ?_)
  have eb:SetTable.below t.place (yU w t i)=i:=by
   unfold yU
   rw[aj hb]
   exact jH4 T.ris (by rw[T.sz]; exact hi)
  rw[eb]
  have et:(told w a ep es)[i]?=es[i]?.map (·.2):=by
   unfold told
   rw[aj hb,aY,bK]
  rw[et] at h
  by_cases hlt:i<es.size
  ·have h1:es[i]?=some es[i]:=by simp [hlt]
   have hlt2:i<t.place.size:=by rw[T.sz]; exact hlt
   have h2:t.place[i]?=some t.place[i]:=by simp [hlt2]
   have h3:yU w t (i+1)=t.place[i]+1:=by
    unfold yU jII
    rw[aj hb]
    simp [Array.getD,hlt2]
   rw[h1,h3] at h
   rw[h1,h2]
   exact h
  ·have h1:es[i]?=none:=by simp; lia
   rw[h1] at h
   rw[h1]
   exact h
theorem jG4 {i:Nat}{v:Value}{Q:Option Value->Shared->Prop}(ho:s.heap.get? a=some o)(hd:o.data= .set es ep t)(T:Tab t es.size (ledW w))(hn:es.size<=4)
  (hit:IsSI s.heap I (yU w t i) i a es.size ep) (hv:(told w a ep es)[i]?=some v)
  (hQ:∀ h',IsSI h' I (yU w t (i+1)) (i+1) a es.size ep->Heap.SameBut I s.heap h'->Q (some v) { s with heap:=h'}):wpAny (model prog w) A (pyNext (.ref I)) Q E s:=by
 have hT:s.TypeIs (.ref I) "set_iterator" :=⟨_,hit,rfl⟩
 have hi:i<es.size:=by
  rw[<- jAR w a ep es]
  exact(am.mp hv).1
 unfold pyNext
 refine aa (dH (bZ (name:=Str.ofString "__next__") hT slot_si_next (cj slot_si_next hT jC0 ?_ (jCZ _))))
 unfold Builtin.«set_iterator.__next__»
 refine aa (m:=slotArgs "__next__" 0 _) (ah ?_)
 dsimp only
 unfold fieldsOf
 refine aa (aa (g5 hit ?_))
 refine ah ?_
 dsimp only [rawInt]
 unfold setEntries
 refine aa (aa (dj ho hd (T.fits hn) (ah ?_)))
 rw[aj (by simp)]
 simp only [bB]
 refine aa (jLG ho hd T hn (dF hi) ?_)
 rw[hv]
 dsimp only [Option.map]
 refine aa (bH hit (by simp) fun h1 hit1 sb1=>?_)
 refine aa (bH hit1 (by simp) fun h2 hit2 sb2=>?_)
 refine ah ⟨v,rfl,ah (hQ h2 ?_ (sb1.trans sb2))⟩
 show h2.get? I=_
 rw[hit2]
 simp [rawInt]
theorem jHJ {Q:Option Value->Shared->Prop}(hh:A.handled=none)(ho:s.heap.get? a=some o)(hd:o.data= .set es ep t)(T:Tab t es.size (ledW w))(hn:es.size<=4)
  (hit:IsSI s.heap I (yU w t es.size) es.size a es.size ep)
  (hQ:∀ h',Heap.ExtBut I s.heap h'->Q none { s with heap:=h'}):wpAny (model prog w) A (pyNext (.ref I)) Q E s:=by
 have hT:s.TypeIs (.ref I) "set_iterator" :=⟨_,hit,rfl⟩
 unfold pyNext
 refine aa (dH (bZ (name:=Str.ofString "__next__") hT slot_si_next (cj slot_si_next hT jC0 ?_ (jCZ _))))
 unfold Builtin.«set_iterator.__next__»
 refine aa (m:=slotArgs "__next__" 0 _) (ah ?_)
 dsimp only
 unfold fieldsOf
 refine aa (aa (g5 hit ?_))
 refine ah ?_
 dsimp only [rawInt]
 unfold setEntries
 refine aa (aa (dj ho hd (T.fits hn) (ah ?_)))
 rw[aj (by simp)]
 simp only [bB]
 refine aa (jLG ho hd T hn (ai _) ?_)
 rw[cn (by rw[jAR]; exact ai _)]
 dsimp only [Option.map]
 refine aa (bH hit (by simp) fun h1 hit1 sb1=>?_)
 refine aa ?_
 simp only [newExc,newTuple]
 refine aa (cR ?_ (by size_fits))
 refine aa (m:=firstArgMember _ _) (wpAny_of_eq (a:=Value.none) (by first | rfl | (simp only [firstArgMember]; rfl)) ?_)
 refine cR ?_ (by size_fits)
 simp only [raiseNew]
 refine aa (wpAny_handled ?_)
 rw[show A.in1.handled=none from hh]
 refine aa (ah (wpAny_throw ?_))
 refine aa (gt (T:= "StopIteration") (b:=true) ⟨_,aJ _ rfl,rfl⟩ jp ?_)
 exact ah (hQ _ ((sb1.extBut.push _).push _))
theorem jPX {i:Nat}{slot n:Nat}{Q:Value->Shared->Prop}(hit:IsSI s.heap I slot i a n ep)(h:Q (.ref I) s):wpAny (model prog w) A (pyIter (.ref I)) Q E s:=by
 have hT:s.TypeIs (.ref I) "set_iterator" :=⟨_,hit,rfl⟩
 refine wpAny_pyIter_slot hT jCQ (cj jCQ hT jFI ?_ (jH6 _))
 show wpAny _ _ (ret (.ref I)) _ _ s
 exact ah ⟨_,rfl,"set_iterator",_,hT,slot_si_next.lookup,h⟩
theorem jNK {Q:Value->Shared->Prop}(hx:o.ExactSet)(ho:s.heap.get? a=some o)(hd:o.data= .set es ep t)(T:Tab t es.size (ledW w))(hn:es.size<=4)
  (hQ:∀ h',h'.get? s.heap.objs.size=some { cls:= .type "set_iterator",dict:=none,data:= .fields #[rawInt (yU w t 0),rawInt 0, .ref a,rawInt es.size,rawInt ep],slots:=#[]} ->(∀ b u,s.heap.get? b=some u->h'.get? b=some u)->
   h'.objs.size=s.heap.objs.size+1->Q (.ref s.heap.objs.size) { s with heap:=h'}):wpAny (model prog w) A (pyIter (.ref a)) Q E s:=by
 have hT:s.TypeIs (.ref a) "set" :=⟨o,ho,hx.1⟩
 refine wpAny_pyIter_slot hT jf (cj jf hT jDY ?_ (jFQ _))
 unfold Builtin.«frozenset.__iter__»
 refine aa (show wpAny _ _ (pure a:Sem Addr) _ _ s from ah ?_)
 unfold Builtin.Frozenset.sizeOf setEntries
 refine aa (aa (aa (dj ho hd (T.fits hn) (ah (ah ?_)))))
 dsimp only
 unfold setDrawn
 refine aa (aa (dj ho hd (T.fits hn) ?_))
 dsimp only
 unfold setsByText
 refine aa (aa (fj (ah (ah ?_))))
 show wpAny _ _ (if (!byTxt w&&(!t.plain&&decide (es.size>1)))=true then _ else _) _ _ s
 rw[T.pl,jz,ff,fg,aj ao]
 refine aa (ah ?_)
 refine aa (wpAny_setEpoch_of ho hd (T.fits hn) ?_)
 refine aa (cR (ah ⟨_,rfl,"set_iterator",_,⟨_,aJ _ rfl,rfl⟩,slot_si_next.lookup,hQ _ ?_ (fun b u e=>ae _ e) (cq _ _)⟩) (by size_fits))
 have e0:yU w t 0=0:=by unfold yU jII; split <;> rfl
 rw[e0]
 exact aJ _ rfl
theorem jKG (hh:A.handled=none)(hne:a≠I)(hd:o.data= .set es ep t)(T:Tab t es.size (ledW w))(hn:es.size<=4):
  Walks prog w A I [I,a] [I] es.size (fun i v=>(told w a ep es)[i]?=some v) (fun i h=>IsSI h I (yU w t i) i a es.size ep/\h.get? a=some o) where
 sub:=fun b hb=>by simp at hb; simp [hb]
 frame:=fun _ _ _ st hk=>⟨hk I (by simp) _ st.1,hk a (by simp) _ st.2⟩
 item:=fun i s Q E hi st hQ=>by
  obtain⟨v,hv⟩:∃ v,(told w a ep es)[i]?=some v:=⟨_,ag (by rw[jAR]; exact hi)⟩
  exact jG4 st.2 hd T hn st.1 hv fun h' hit' sb=>hQ v h' s.toks hv ⟨hit',(sb.2 a hne).trans st.2⟩ fun b o hb e=>(sb.2 b (fun z=>hb (by simp [z]))).trans e
 done:=fun s Q E st hQ=>jHJ hh st.2 hd T hn st.1 fun h' eb=>hQ h' s.toks fun b o hb e=>eb b o (fun z=>hb (by simp [z])) e
 self:=fun _ _ _ _ st hQ=>jPX st.1 hQ
theorem jG2:typeLookup (.type "set") "__len__" =pure (some (.builtin "set.__len__")):=by rw[i8,gq]; kernel_rfl
theorem jOD {Q:Bool->Shared->Prop}(hT:s.TypeIs (.ref a) "set")(h:Q false s):wpAny (model prog w) A (Builtin.List.listLengthHint (.ref a)) Q E s:=by
 unfold Builtin.List.listLengthHint
 refine aa (wpAny_specialOf hT jG2 ?_)
 generalize hid:("set.__len__" :String)=id0
 wp_delta
 rw[show splitId id0=some ("set","__len__") from by subst hid; decide+kernel]
 subst hid
 refine aa (gt (b:=true) hT (by rw[jo]; kernel_rfl) ?_)
 refine wpAny_ite_split (fun q=>absurd q (by decide)) (fun _=>?_)
 refine wpAny_ite_split (fun _=>?_) (fun q=>absurd (by decide+kernel) q)
 exact aa (wpAny_typeOf hT (ah h))
theorem jI6 {Q:List Value->Shared->Prop}(hh:A.handled=none)(hx:o.ExactSet)(ho:s.heap.get? a=some o)(hd:o.data= .set es ep t)(T:Tab t es.size (ledW w))(hn:es.size<=4)
  (hQ:∀ s',(∀ b u,s.heap.get? b=some u->s'.heap.get? b=some u)->s'.gens=s.gens->s'.drawn=s.drawn->s'.os=s.os->s.heap.objs.size<s'.heap.objs.size->Q (told w a ep es) s'):wpAny (model prog w) A (collect (.ref a)) Q E s:=by
 have ha:a<s.heap.objs.size:=aE ho
 have hSa:s.heap.objs.size≠a:=cK ha
 unfold collect
 refine aa (jm (dy PySem.F.entry_proto_collect ?_))
 rw[cM gY _]
 show wpAny _ A.in1 (newList [] >>= fun l=>again (.builtin "list.__iadd__" ⟨[l, .ref a],[]⟩)) _ _ s
 refine aa (cR (ah ⟨gx eL _,dy PySem.F.entry_list_iadd ?_⟩))
 rw[cM eL _]
 generalize hE:({ s with heap:=s.heap.push { cls:= .type "list",dict:=none,data:= .seq ([]:List Value).toArray}} :Shared)=s1
 have ho1:s1.heap.get? a=some o:=by rw[<- hE]; exact ae _ ho
 have hL1:s1.heap.get? s.heap.objs.size=some { cls:= .type "list",dict:=none,data:= .seq ([]:List Value).toArray} :=by rw[<- hE]; exact aJ _ rfl
 have hz1:s1.heap.objs.size=s.heap.objs.size+1:=by rw[<- hE]; exact cq _ _
 have hT1:s1.TypeIs (.ref a) "set" :=⟨o,ho1,hx.1⟩
 show wpAny _ A.in1 (Builtin.List.listExtendWith (.ref s.heap.objs.size) (.ref a) (.ref s.heap.objs.size)) _ _ _
 unfold Builtin.List.listExtendWith
 refine aa (wpAny_typeOf hT1 ?_)
 have q1:Builtin.List.listSameRef (.ref s.heap.objs.size) (.ref a)=false:=by simp [Builtin.List.listSameRef,hSa]
 rw[aj (by rw[q1]; decide)]
 refine aa (jNK hx ho1 hd T hn fun h2 hI2 k2 z2=>?_)
 refine aa (cI ?_)
 have ho2:h2.get? a=some o:=k2 _ _ ho1
 have hT2:Shared.TypeIs { s1 with heap:=h2} (.ref a) "set" :=⟨o,ho2,hx.1⟩
 have hL2:=k2 _ _ hL1
 refine jOD hT2 ?_
 rw[ak (by decide+kernel)]
 refine aa (cS ?_)
 have hne:s.heap.objs.size≠s1.heap.objs.size:=by lia
 refine aa ?_
 show wpAny _ A.in1 (updateSeq s.heap.objs.size (·.push .none) >>= fun _=>updateSeq s.heap.objs.size (·.pop)) _ _ _
 refine aa (wpAny_updateSeq hL2 rfl ?_)
 have hL3:=dQ (Obj.mapSeq (·.push Value.none)) hL2 rfl
 refine wpAny_updateSeq hL3 rfl ?_
 have hL4:=dQ (Obj.mapSeq (·.pop)) hL3 rfl
 have oth:∀ b u,b≠s.heap.objs.size->h2.get? b=some u->((h2.update s.heap.objs.size (Obj.mapSeq (·.push Value.none))).update s.heap.objs.size (Obj.mapSeq (·.pop))).get? b=some u:=
  fun b u hb e=>(bw _ _ (dZ hb)).trans ((bw _ _ (dZ hb)).trans e)
 have W:=(jKG (prog:=prog) (A:=A.in1) (a:=a) (I:=s1.heap.objs.size) hh (aV (show a<s1.heap.objs.size by rw[hz1]; exact bJ ha)) hd T hn).toS
 have z24:es.size<=sizeLine:=by rw[show sizeLine=2 ^ 24 from rfl]; lia
 refine ah ⟨gx PySem.F.plain_extend_loop _,codeAny_extend_loopS W z24 s.heap.objs.size (by simp [hne,hSa]) _ es.size 0 _ _ _ rfl (ba _) ⟨oth _ _ (dZ hne) hI2,oth _ _ (dZ hSa) ho2⟩ hL4 (ItemsOf.nil _) fun s' acc' c' hm hS' hacc=>?_⟩
 show wpAny _ A (load s.heap.objs.size >>= _) _ _ s'
 refine aa (g5 hS' ?_)
 have eacc:acc'.toList=told w a ep es:=by
  apply List.ext_getElem?
  intro i
  by_cases hi:i<es.size
  ·have hi':i<acc'.size:=by rw[hacc.1]; exact hi
   have:=hacc.2 i acc'[i] (by simp [hi'])
   rw[this]
   simp [hi']
  ·rw[cn (by rw[aR,hacc.1]; lia),cn (by rw[jAR]; lia)]
 refine ah ?_
 rw[eacc]
 refine hQ s' (fun b u e=>?_) ?_ ?_ ?_ (aE hS')
 ·have hb:b≠s.heap.objs.size:=aV (aE e)
  have hb1:b≠s1.heap.objs.size:=aV (show b<s1.heap.objs.size by rw[hz1]; exact bJ (aE e))
  exact hm.heap b u (by simp [hb,hb1]) (oth b u hb (k2 b u (by rw[<- hE]; exact ae _ e)))
 ·have:=hm.gens; rw[<- hE] at this; exact this
 ·have:=hm.drawn; rw[<- hE] at this; exact this
 ·have:=hm.os; rw[<- hE] at this; exact this
end SS
namespace SS
open PySem PyProof.Rows
section
variable {prog:Program}{w:World}{A:Around}{E:Value->Shared->Prop}{s:Shared}{a:Addr}{ks:List Int}
theorem jM9:∀ {vs:List Value}{ks:List Int},Paired (fun v k=>∃ t,v=Value.int k t) vs ks->IntsAre vs ks
 | _,_, .nil=> .nil
 | _,_, .cons ⟨t,e⟩ r=>by subst e; exact .cons _ t (jM9 r)
theorem jE9 {es:List (Int×Value)} :∀ {ks:List Int},Paired El es ks->Paired (fun v k=>∃ t,v=Value.int k t) (es.map (·.2)) ks
 | _, .nil=> .nil
 | _, .cons ⟨_,q⟩ r=> .cons q (jE9 r)
theorem jHO {α β:Type}{F:α->β->Prop}{l l':List α}(p:l'.Perm l):∀ {r:List β},Paired F l r->∃ r',Paired F l' r'/\r'.Perm r:=by
 induction p with
 | nil=>intro r h; cases h; exact⟨[], .nil, .nil⟩
 | cons x _ ih=>
  intro r h
  cases h with
  | cons f t=>
   obtain⟨r',h1,h2⟩:=ih t
   exact⟨_::r', .cons f h1,h2.cons _⟩
 | swap x y l=>
  intro r h
  cases h with
  | cons f t=>
   cases t with
   | cons g t=>exact⟨_, .cons g (.cons f t), .swap _ _ _⟩
 | trans _ _ ih1 ih2=>
  intro r h
  obtain⟨r1,h1,h2⟩:=ih2 h
  obtain⟨r2,h3,h4⟩:=ih1 h1
  exact⟨r2,h3,h4.trans h2⟩
theorem sorted_set {Q:Value->Shared->Prop}(hh:A.handled=none)(S:SetG w s.heap a ks)
  (h:∀ (s':Shared) (l:Addr) (vs:List Value) (ns:List Int) (e:Nat),s.heap.objs.size<=l->(∀ b u,s.heap.get? b=some u->s'.heap.get? b=some u)->s'.gens=s.gens->s'.drawn=s.drawn->s'.os=s.os->
   s'.heap.get? l=some { cls:= .type "list",data:= .seq vs.toArray e} ->IntsAre vs ns->ns.Perm ks->ns.Pairwise (· <= ·)->Q (.ref l) s'):
  wpAny (model prog w) A (call (.builtin "sorted") [.ref a]) Q E s:=by
 obtain⟨o,es,ep,t,ho,hex,hd,hp,T⟩:=S.ex
 have hn:es.size<=4:=by
  have:=gu hp
  rw[aR] at this
  have:=S.len
  lia
 refine Calls.call_function_entry kind_sorted plain_sorted entry_sorted (args_sorted1 _) ?_
 unfold Builtin.«sorted»
 refine aa (m:=checkCount "sorted" 1 1 _) (ah ?_)
 refine aa (jI6 (A:=A.in1) hh hex ho hd T hn fun s1 k1 g1 d1 o1 z1=>?_)
 refine aa (gy ?_ (by rw[jAR,show sizeLine=2 ^ 24 from rfl]; lia))
 obtain⟨ks1,hp1,pm1⟩:=jHO (jKL w a ep es) (jE9 hp)
 have hI:=jM9 hp1
 have hl:(told w a ep es).length<64:=by rw[jAR]; lia
 have hL:(s1.heap.push (seqObj "list" (told w a ep es).toArray 0)).get? s1.heap.objs.size=some (seqObj "list" (told w a ep es).toArray 0):=aJ _ rfl
 show wpAny _ _ _ _ _ { s1 with heap:=s1.heap.push (seqObj "list" (told w a ep es).toArray 0)}
 refine aa (cI (cj slot_list_sort ⟨_,hL,rfl⟩ entry_list_sort (list_sort_tree hL hI hl fun out ns' a1 a2 a3=>⟨_,rfl,?_⟩) (args_list_sort _)))
 obtain⟨e,he⟩:=sortedHeap_at (out:=out) hL
 have kept:∀ b u,s.heap.get? b=some u->(sortedHeap (s1.heap.push (seqObj "list" (told w a ep es).toArray 0)) s1.heap.objs.size (told w a ep es) out).get? b=some u:=fun b u q=>by
  have q1:=k1 b u q
  have hb:b<s1.heap.objs.size:=aE q1
  rw[sortedHeap_old (aV hb) (by rw[iV]; exact bJ hb)]
  exact ae _ q1
 generalize sortedHeap (s1.heap.push (seqObj "list" (told w a ep es).toArray 0)) s1.heap.objs.size (told w a ep es) out=hf at he kept ⊢
 exact ah ⟨_,rfl,h { s1 with heap:=hf} s1.heap.objs.size out.toList ns' e (dF z1) kept g1 d1 o1 (by rw[eh]; exact he) a1 (a2.trans pm1) a3⟩
end
end SS
namespace L2
open PySem PySem.Spec PyProof.Rows
variable {es xs:List Expr}{env:Env}{a b:Expr}{pos:Pos}
section
variable {ys:List Expr}
theorem kY {op:Operator} :starEach (.BinOp a op b pos::es) env=(false,eval (.BinOp a op b pos) env)::starEach es env:=rfl
theorem se_un {op:UnaryOp} :starEach (.UnaryOp op a pos::es) env=(false,eval (.UnaryOp op a pos) env)::starEach es env:=rfl
theorem jCR {ops:List CmpOp} :starEach (.Compare a ops xs pos::es) env=(false,eval (.Compare a ops xs pos) env)::starEach es env:=rfl
theorem jI {kw:List Keyword} :starEach (.Call a xs kw pos::es) env=(false,eval (.Call a xs kw pos) env)::starEach es env:=rfl
theorem jV:starEach (.Subscript a b pos::es) env=(false,eval (.Subscript a b pos) env)::starEach es env:=rfl
theorem jW {gs sc} :starEach (.ListComp a gs sc pos::es) env=(false,eval (.ListComp a gs sc pos) env)::starEach es env:=rfl
theorem jE5 {x1} :starEach (.Tuple xs x1 pos::es) env=(false,eval (.Tuple xs x1 pos) env)::starEach es env:=rfl
theorem jZ {c k} :starEach (.Constant c k pos::es) env=(false,eval (.Constant c k pos) env)::starEach es env:=rfl
theorem j4 {x:Str} :starEach (.Name x pos::es) env=(false,eval (.Name x pos) env)::starEach es env:=rfl
end
variable {X:Cx}
def CDivL (i j:Int):Prop:=0<j/\j<2 ^ 64
theorem jIP:OpR X (binaryOp .FloorDiv) (rI CDivL fun i j=> .int (i / j)):=opI fun i j _ _ _ _ _ hc q=>by
 have h1:(0:Int)<j:=hc.1
 have h2:j<2 ^ 64:=hc.2
 refine floordiv_int (by lia) (by rw[g6 i (by lia)]; exact q) (.inl (PyProof.noPylong_of_log2 ?_))
 have h3:j.natAbs<2 ^ 64:=by lia
 have h4:j.natAbs≠0:=by lia
 have:=(Nat.log2_lt h4).mpr h3
 lia
theorem jBJ:yN X (.builtin "isinstance") (fun xs H Q=>∃ x T t b,xs=[x, .ty T]/\TyOf X.K H x t/\kitOne X.K t (.type T)=some b/\Q (.bl b) H):=by
 intro ad s σ H xs us Q I r h
 obtain⟨x,T,t,b,rfl,ty,e,q⟩:=h
 obtain⟨u,v,rfl,ru,rv⟩:=r.two
 cases rv
 exact jM8 I ru ty e fun tk=>⟨.bl b,H,I.tok tk,rfl,q⟩
def jPY:V->List V->Hp->VK->Prop:=fun x vs H Q=>∃ l xs i y,x= .ref l/\vs=[.int i,y]/\H l=some (.lst xs)/\0<=i/\i<=xs.length/\xs.length<sizeLine/\Q .non (upd H l (.lst (xs.take i.toNat++y::xs.drop i.toNat)))
theorem Vals.put {y:V}{v:Value}(r:RelV y v){xs:List V}{us:List Value}(h:Vals xs us)(k:Nat):Vals (xs.take k++y::xs.drop k) (us.take k++v::us.drop k):=(h.take k).append (.cons r (h.drop k))
theorem jLM:MtM X "list.insert" jPY:=by
 intro ad s σ H x vs v us Q I rx rv h
 obtain⟨l,xs,i,y,rfl,rfl,hH,h0,h1,hz,q⟩:=h
 cases rx
 obtain⟨a,b,rfl,ra,rb⟩:=rv.two
 obtain⟨t,rfl⟩:=ra
 obtain⟨z,its,n,r,hl,e⟩:=I.lstM hH
 have line:=jGI
 have hf:Builtin.List.listFitsIndex i=true:=fitsIndex_both (by lia) (by lia)
 refine eR F.slot_list_insert ⟨_,e,rfl⟩ F.entry_list_insert (F.args_list_insert_3 _ _ _) (AutoSeq1.list_insert_list_int_val_1 l its.toArray n i t b (by simp [hf]) (by rw[aK]; lia)) ⟨e,?_⟩
 refine⟨.non,_,I.lset (its':=its.take i.toNat++b::its.drop i.toNat) hH e ?_ (Vals.put rb r i.toNat) ?_,rfl,q⟩
 ·have hk:(if i<0 then (i+(its.toArray.size:Int)).toNat else min i.toNat its.toArray.size)=i.toNat:=by
   rw[aj (by lia),aK]
   lia
  show (its.toArray.extract 0 (if i<0 then (i+(its.toArray.size:Int)).toNat else min i.toNat its.toArray.size)).push b++its.toArray.extract (if i<0 then (i+(its.toArray.size:Int)).toNat else min i.toNat its.toArray.size)=_
  rw[hk]
  apply Array.ext'
  simp [dU,bC]
 ·rw[aG,aW,bq,dI]
  lia
def rEqE (K:W.Frag):R2:=fun x y H Q=>∃ p q xs,x= .ref p/\y= .ref q/\SqT K H p xs/\SqT K H q []/\Q (.bl (decide (xs=[]))) H
theorem jSW (hu:X.A.units<cLine):OpR X (compareOp .Eq) (rEqE X.K):=by
 intro ad s σ H x y v u Q I rx ry h
 obtain⟨p,q,xs,rfl,rfl,hp,hq,k⟩:=h
 cases rx
 cases ry
 obtain⟨its,r,t1,_⟩:=I.tuple hp
 obtain⟨its2,r2,t2,_⟩:=I.tuple hq
 have e2:its2=[]:=r2.zero
 subst e2
 refine SeqAt.eq_tupleAt (e:=fun _=>true) (show s.heap.IsTuple p its.toArray from t1) (show s.heap.IsTuple q ([]:List Value).toArray from t2) hu (fun j h1 h2=>absurd h2 (by simp)) ⟨.bl _,H,I,rfl,?_⟩
 have hl:=r.length
 have e:((List.range (min its.toArray.size ([]:List Value).toArray.size)).all (fun _=>true)&&its.toArray.size==([]:List Value).toArray.size)=decide (xs=[]):=by
  cases xs with
  | nil=>
   have:its=[]:=by simpa using hl.symm
   subst this
   rfl
  | cons a b=>
   have:its.length≠0:=by rw[<- hl]; simp
   simp [this]
 rw[e]
 exact k
theorem jMZ (hc:X.calm=true):yN X (.builtin "all") (fun xs H Q=>∃ (p:Addr) (bs:List Bool),xs=[.ref p]/\SqL X.K H p (bs.map V.bl)/\Q (.bl (bs.all id)) H):=by
 intro ad s σ H xs us Q I r h
 obtain⟨p,bs,rfl,hq,q⟩:=h
 obtain⟨u,rfl,rx⟩:=r.one
 cases rx
 obtain⟨its,r',pl,hz⟩:=I.list hq
 have hlen:=r'.length
 rw[ab] at hlen
 refine call_all_walk (fe pl.isList ?_)
 have hne:p≠s.heap.objs.size:=by
  obtain⟨o,ho,_⟩:=pl.isList
  exact aV (aE ho)
 refine⟨s.heap.objs.size,_,_,_,_,_,fun i=>bs.getD i true,rfl,Walks.list (by simpa using I.ok.hd hc) _ p hne its.toArray,⟨⟨_,aJ _ rfl,rfl,rfl⟩,pl.isList.push _⟩,fun i v z Q' E' hP hQ'=>?_,fun h' tk hk=>?_⟩
 ·have hi:its[i]?=some v:=by simpa using hP
  have hb:i<bs.length:=by
   rw[hlen]
   exact(am.mp hi).1
  obtain⟨u,hu,ru⟩:=r'.get (i:=i) (x:= .bl (bs[i])) (by simp [hb])
  rw[hi] at hu
  cases hu
  cases ru
  have e:bs.getD i true=bs[i]:=by simp [List.getD,hb]
  have hQ2:Q' (bs.getD i true) z:=hQ'
  rw[e] at hQ2
  exact ah hQ2
 ·have e:(List.range its.toArray.size).all (fun i=>bs.getD i true)=bs.all id:=by
   rw[aK,<- hlen]
   rw[dX,bY,bY]
   constructor
   ·intro a b hb
    obtain⟨i,hi,rfl⟩:=cE hb
    have:=a i (bM.mpr hi)
    simpa [List.getD,hi] using this
   ·intro a i hi
    have hi:=bM.mp hi
    have:=a bs[i] (bS hi)
    simpa [List.getD,hi] using this
  rw[e]
  exact⟨.bl _,H,I.kept (t':=tk) fun b o e=>hk b o (by
   intro z
   have z:b=s.heap.objs.size:=by simpa using z
   exact absurd (aE e) (by rw[z]; exact da _)) (ae _ e),rfl,q⟩
def jDT (n:Nat):List V:=(List.range n).map fun (i:Nat)=>V.int (i:Int)
theorem jJE {n:Nat}{acc:Array Value}(h:ItemsOf (fun i v=>∃ t,v=Value.int (0+(i:Int)*1) t) acc n):Vals (jDT n) acc.toList:=by
 have key:∀ (l:List Value) (k:Nat),(∀ j v,l[j]?=some v->∃ t,v=Value.int ((k+j:Nat):Int) t)->Vals ((List.range' k l.length).map fun (i:Nat)=>V.int (i:Int)) l:=by
  intro l
  induction l with
  | nil=>intro k _; exact .nil
  | cons v l ih=>
   intro k hk
   rw[aW,List.range'_succ,bi]
   refine .cons ?_ (ih (k+1) fun j u hj=>?_)
   ·obtain⟨t,e⟩:=hk 0 v rfl
    exact⟨t,by simpa using e⟩
   ·obtain⟨t,e⟩:=hk (j+1) u (by simpa using hj)
    exact⟨t,by rw[e]; congr 1; lia⟩
 have:=key acc.toList 0 fun j v hj=>by
  obtain⟨t,e⟩:=h.2 j v (by simpa using hj)
  exact⟨t,by rw[e]; congr 1; lia⟩
 rw[aR,h.1] at this
 unfold jDT
 rw[List.range_eq_range']
 exact this
theorem jI7:yN X (.type "range") (fun xs H Q=>∃ j:Int,xs=[.int j]/\∀ p,H p=none->Q (.ref p) (upd H p (.rng 0 j))):=by
 intro ad s σ H xs us Q I r h
 obtain⟨j,rfl,q⟩:=h
 obtain⟨u,rfl,t,rfl⟩:=r.one
 refine call_range_1 ⟨.ref s.heap.objs.size,_,I.laid (o:= .rng 0 j) (fun b o e=>ae _ e) (ai _) ?_,rfl,q _ I.fresh⟩
 exact⟨_,_,_,aJ _ rfl⟩
theorem jGV (hc:X.calm=true):yN X (.type "list") (fun xs H Q=>∃ p j,xs=[.ref p]/\H p=some (.rng 0 j)/\0<=j/\j<=1000/\∀ l,H l=none->Q (.ref l) (upd H l (.lst (jDT j.toNat)))):=by
 intro ad s σ H xs us Q I r h
 obtain⟨p,j,rfl,hp,h0,h1,q⟩:=h
 obtain⟨u,rfl,rx⟩:=r.one
 cases rx
 obtain⟨t,u,v,e⟩:=I.hok p _ hp
 have en:Builtin.Range.rangeSize 0 j 1=(j.toNat:Int):=by
  rw[rangeSize_one]
  split <;> lia
 refine call_list_range (I.ok.hd hc) (show IsRange s.heap p 0 j 1 t u v from e) (small_one (by lia) (by lia) (by lia) (by lia)) en (by lia) fun h' tk acc' c' kp hS hacc=>?_
 refine⟨.ref s.heap.objs.size,_,I.laid (t':=tk) (o:= .lst (jDT j.toNat)) kp (ai _) ?_,rfl,q _ I.fresh⟩
 refine⟨?_,acc'.toList,c',jJE hacc,by rw[eh]; exact hS⟩
 unfold jDT
 rw[ab,bv,fY]
 lia
def SetO (w:World)(a:Addr)(ks:List Int):HO:= .ext fun h=>SS.SetG w h a ks
theorem jCO {ns:List Int} :∀ {us:List Value},Vals (ns.map V.int) us->IntsAre us ns:=by
 induction ns with
 | nil=>intro us h; cases h; exact .nil
 | cons n ns ih=>
  intro us h
  cases h with
  | cons r t=>
   obtain⟨k,rfl⟩:=r
   exact .cons n k (ih t)
theorem jAC:∀ {us:List Value}{ns:List Int},IntsAre us ns->Vals (ns.map V.int) us
 | _,_, .nil=> .nil
 | _,_, .cons n t r=> .cons ⟨t,rfl⟩ (jAC r)
theorem jMW (hc:X.calm=true):yN X (.type "set") (fun xs H Q=>∃ (p:Addr) (ns:List Int),xs=[.ref p]/\SqL X.K H p (ns.map V.int)/\ns.length<=4/\(∀ z∈ns,0<=z/\z<32)/\
  ∀ (l:Addr) (ks:List Int),H l=none->(∀ z,z∈ks↔z∈ns)->Q (.ref l) (upd H l (SetO X.w l ks))):=by
 intro ad s σ H xs us Q I r h
 obtain⟨p,ns,rfl,hq,hl,hv,q⟩:=h
 obtain⟨u,rfl,rx⟩:=r.one
 cases rx
 obtain⟨its,r',pl,hz⟩:=I.list hq
 have hlen:=r'.length
 rw[ab] at hlen
 refine SS.set_of_list (I.ok.hd hc) pl.isList (jCO r') (by rw[aK]; lia) hv fun h' tk ks S hm kp=>?_
 have hg:∃ o,h'.get? s.heap.objs.size=some o:=let ⟨o,_,_,_,e,_⟩:=S.ex; ⟨o,e⟩
 exact⟨.ref s.heap.objs.size,_,I.laid (t':=tk) (o:=SetO X.w s.heap.objs.size ks) kp (ai _) ⟨S,hg,fun h1 h2 a b=>a.at b⟩,rfl,q _ ks I.fresh hm⟩
theorem jDZ (hc:X.calm=true):yN X (.builtin "sorted") (fun xs H Q=>∃ (p:Addr) (ks:List Int),xs=[.ref p]/\H p=some (SetO X.w p ks)/\
  ∀ (l:Addr) (ns:List Int),H l=none->ns.Pairwise (· < ·)->(∀ z,z∈ns↔z∈ks)->Q (.ref l) (upd H l (.lst (ns.map V.int)))):=by
 intro ad s σ H xs us Q I r h
 obtain⟨p,ks,rfl,hp,q⟩:=h
 obtain⟨u,rfl,rx⟩:=r.one
 cases rx
 obtain⟨S,_,_⟩:=I.hok p _ hp
 refine SS.sorted_set (I.ok.hd hc) S fun s' l vs ns e hl kp g d o he hi pm srt=>?_
 obtain⟨h',g',d',t',o'⟩:=s'
 have g:g'=s.gens:=g
 have o:o'=s.os:=o
 have d:d'=s.drawn:=d
 subst g; subst o; subst d
 have nd:ns.Nodup:=pm.nodup_iff.mpr S.nd
 have lt:ns.Pairwise (· < ·):=by
  have:=List.Pairwise.and srt nd
  exact this.imp fun {a b} ⟨x,y⟩=>by lia
 have hz:(ns.map V.int).length<=sizeLine:=by
  rw[ab,pm.length_eq,fY]
  have:=S.len
  lia
 have I2:Inv X ad σ (upd H l (.lst (ns.map V.int))) { s with heap:=h',toks:=t'} :=I.laid (t':=t') kp hl ⟨hz,vs,e,jAC hi,he⟩
 exact⟨.ref l,_,I2,rfl,q l ns (I.hok.fresh hl) lt fun z=>pm.mem_iff⟩
variable {p2:Pos}
section
variable {p1 p3 p4 p5 p6 p7:Pos}{k1 k2 k3 k4:Nat}
theorem jQH {i j r:Int}(hj:0<=j)(hj2:j<=1000000)(hi:i.natAbs<2 ^ 64)(e:i ^ j.toNat=r):PE X (.BinOp (.Constant (.int i) k2 p2) .Pow (.Constant (.int j) k3 p3) p4) (tC (.int r)):=fun ad s σ H Q I h=>
 (kO (X:=X) jL6 jP jP) ad s σ H Q I ⟨_,_,rfl,rfl,⟨hj,hj2,hi⟩,by subst e; exact h⟩
theorem jQI {a b:Expr}{i j r:Int}(ha:PE X a (tC (.int i)))(hb:PE X b (tC (.int j)))(hc:CMul i j)(e:i*j=r):PE X (.BinOp a .Mult b p1) (tC (.int r)):=fun ad s σ H Q I h=>
 (kO (X:=X) yS ha hb) ad s σ H Q I ⟨_,_,rfl,rfl,hc,by subst e; exact h⟩
theorem jQL {a b:Expr}{i j r:Int}(ha:PE X a (tC (.int i)))(hb:PE X b (tC (.int j)))(e:i+j=r):PE X (.BinOp a .Add b p1) (tC (.int r)):=fun ad s σ H Q I h=>
 (kO (X:=X) yF ha hb) ad s σ H Q I ⟨_,_,rfl,rfl,by subst e; exact h⟩
theorem jST:PE X (.BinOp (.BinOp (.Constant (.int 2) k1 p1) .Mult (.BinOp (.Constant (.int 10) k2 p2) .Pow (.Constant (.int 12) k3 p3) p4) p5) .Add (.Constant (.int 1) k4 p6) p7) (tC (.int 2000000000001)):=
 jQL (i:=2000000000000) (jQI (j:=1000000000000) jP (jQH (by decide) (by decide) (by decide) (by decide)) (.inl ⟨by decide,by decide⟩) (by decide)) jP (by decide)
end
def ItAt (tp:Bool)(h:Heap)(it a:Addr)(i:Nat):Prop:=match tp with
 | false=>h.IsListIter it a i
 | true=>h.IsTupleIter it a i
def ObAt (tp:Bool)(h:Heap)(a:Addr)(xs:Array Value):Prop:=match tp with
 | false=>h.IsList a xs
 | true=>h.IsTuple a xs
theorem ItAt.but {tp:Bool}{h h':Heap}{it a b:Addr}{i:Nat}(x:ItAt tp h it a i)(e:Heap.ExtBut b h h')(n:it≠b):ItAt tp h' it a i:=by
 cases tp with
 | false=>exact Heap.IsListIter.extBut x e n
 | true=>exact Heap.IsTupleIter.extBut x e n
theorem ObAt.but {tp:Bool}{h h':Heap}{a b:Addr}{xs:Array Value}(x:ObAt tp h a xs)(e:Heap.ExtBut b h h')(n:a≠b):ObAt tp h' a xs:=by
 cases tp with
 | false=>exact Heap.IsList.extBut x e n
 | true=>exact Heap.IsTuple.extBut x e n
theorem ItAt.at {tp:Bool}{h h':Heap}{it a:Addr}{i:Nat}(x:ItAt tp h it a i)(e:∀ o,h.get? it=some o->h'.get? it=some o):ItAt tp h' it a i:=by
 cases tp with
 | false=>exact Heap.IsListIter.at x e
 | true=>exact Heap.IsTupleIter.at x e
theorem ItAt.obj {tp:Bool}{h:Heap}{it a:Addr}{i:Nat}(x:ItAt tp h it a i):∃ o,h.get? it=some o/\∀ v,o.data≠ .cell v:=by
 cases tp with
 | false=>obtain⟨o,e,_,d⟩:=x; exact⟨o,e,fun v q=>by rw[d] at q; cases q⟩
 | true=>obtain⟨o,e,_,d⟩:=x; exact⟨o,e,fun v q=>by rw[d] at q; cases q⟩
theorem ObAt.lt {tp:Bool}{h:Heap}{a:Addr}{xs:Array Value}(x:ObAt tp h a xs):a<h.objs.size:=by
 cases tp with
 | false=>obtain⟨o,e,_⟩:=x; exact aE e
 | true=>obtain⟨o,e,_⟩:=x; exact aE e
variable {w:World}{A:Around}{s:Shared}
section
variable {prog:Program}{E:Value->Shared->Prop}
theorem next1 {tp:Bool}{it a:Addr}{i:Nat}{xs:Array Value}{x:Value}{Q:Value->Shared->Prop}(hi:ItAt tp s.heap it a i)(ha:ObAt tp s.heap a xs)(hx:xs[i]?=some x)
  (k:∀ h',ItAt tp h' it a (i+1)->Heap.SameBut it s.heap h'->Q x { s with heap:=h'}):wpAny (model prog w) A (Builtin.SmallTypes.nextOf (.ref it)) Q E s:=by
 cases tp with
 | false=>exact wpAny_nextOf_list_item hi ha hx k
 | true=>
  obtain⟨o,e,c,d⟩:=id (show s.heap.IsTupleIter it a i from hi)
  obtain⟨u,eu,_,n,du⟩:=(show s.heap.IsTuple a xs from ha)
  have ty:=Heap.IsTupleIter.typeIs (show s.heap.IsTupleIter it a i from hi)
  unfold Builtin.SmallTypes.nextOf
  refine aa (bZ (name:=Str.ofString "__next__") ty F.slot_tuple_iterator_next (cj F.slot_tuple_iterator_next ty F.entry_tuple_iterator_next (?_:wpAny (model prog w) _ (field (.ref it) 0 >>= _) _ _ s) (F.args_tuple_iterator_next_1 _)))
  refine aa (ce e d (x:= .ref a) rfl (?_:wpAny (model prog w) _ (if (Value.ref a==Value.none)=true then _ else _) _ _ s))
  rw[aj (by exact ao)]
  show wpAny (model prog w) _ (field (.ref it) 1 >>= _) _ _ s
  refine aa (ce e d (x:= .int i 0) rfl ?_)
  show wpAny (model prog w) _ (seqItems? (.ref a) >>= _) _ _ s
  refine aa (dP eu du ?_)
  simp only [bB,hx]
  refine aa (wpAny_setField e d (by simp) (ah ⟨x,rfl,ah (k _ ⟨_,dQ _ e (Obj.isFreed_of_fields (Obj.data_mapFields d _)),(Obj.cls_mapFields ..).trans c,?_⟩ (gU ..))⟩))
  rw[Obj.data_mapFields d]
  simp [rawInt]
theorem next0 {tp:Bool}{it a:Addr}{i:Nat}{xs:Array Value}{Q:Value->Shared->Prop}(hh:A.handled=none)(hi:ItAt tp s.heap it a i)(ha:ObAt tp s.heap a xs)(hx:xs[i]?=none)
  (k:∀ h' e,Heap.ExtBut it s.heap h'->(∃ o,h'.get? e=some o/\o.cls= .type "StopIteration")->E (.ref e) { s with heap:=h'}):wpAny (model prog w) A (Builtin.SmallTypes.nextOf (.ref it)) Q E s:=by
 cases tp with
 | false=>exact wpAny_nextOf_list_end hh hi ha hx k
 | true=>
  obtain⟨o,e,c,d⟩:=id (show s.heap.IsTupleIter it a i from hi)
  obtain⟨u,eu,_,n,du⟩:=(show s.heap.IsTuple a xs from ha)
  have ty:=Heap.IsTupleIter.typeIs (show s.heap.IsTupleIter it a i from hi)
  unfold Builtin.SmallTypes.nextOf
  refine aa (bZ (name:=Str.ofString "__next__") ty F.slot_tuple_iterator_next (cj F.slot_tuple_iterator_next ty F.entry_tuple_iterator_next (?_:wpAny (model prog w) _ (field (.ref it) 0 >>= _) _ _ s) (F.args_tuple_iterator_next_1 _)))
  refine aa (ce e d (x:= .ref a) rfl (?_:wpAny (model prog w) _ (if (Value.ref a==Value.none)=true then _ else _) _ _ s))
  rw[aj (by exact ao)]
  show wpAny (model prog w) _ (field (.ref it) 1 >>= _) _ _ s
  refine aa (ce e d (x:= .int i 0) rfl ?_)
  show wpAny (model prog w) _ (seqItems? (.ref a) >>= _) _ _ s
  refine aa (dP eu du ?_)
  simp only [bB,hx]
  refine aa (cS (aa (wpAny_setField e d (by simp) (?_:wpAny (model prog w) _ (newExc (.type "StopIteration") [] >>= _) _ _ _))))
  refine aa (by
   simp only [newExc,newTuple]
   refine aa (cR (aa (m:=firstArgMember _ _) (wpAny_of_eq (a:=Value.none) (by first | rfl | (simp only [firstArgMember]; rfl)) (cR ?_ (by size_fits)))) (by size_fits))
   simp only [raiseNew]
   refine aa (wpAny_handled ?_)
   first | rw[show A.in1.handled=none from hh] | rw[hh]
   exact aa (ah (wpAny_throw (k _ _ (((gU ..).extBut.push _).push _) ⟨_,aJ _ rfl,rfl⟩))))
theorem jKC {t1 t2:Bool}{z TI TO i1 i2 l1 l2:Addr}{k1 k2:Nat}{xs ys:Array Value}{x y a b:Value}{Q:Value->Shared->Prop}(D:ZipApart z TI TO i1 i2 l1 l2)
  (ez:IsZip s.heap z TI TO .none) (eI:IsPair s.heap TI (.ref i1) (.ref i2)) (eO:IsPair s.heap TO a b) (g1:ItAt t1 s.heap i1 l1 k1) (g2:ItAt t2 s.heap i2 l2 k2) (o1:ObAt t1 s.heap l1 xs) (o2:ObAt t2 s.heap l2 ys) (hx:xs[k1]?=some x) (hy:ys[k2]?=some y)
  (k:∀ h',IsZip h' z TI TO (rawInt s.heap.objs.size)->IsPair h' TO x y->ItAt t1 h' i1 l1 (k1+1)->ItAt t2 h' i2 l2 (k2+1)->IsPair h' s.heap.objs.size x y->h'.objs.size=s.heap.objs.size+1->
   (∀ c o,c≠z->c≠TO->c≠i1->c≠i2->s.heap.get? c=some o->h'.get? c=some o)->Q (.ref s.heap.objs.size) { s with heap:=h'}):
  wpAny (model prog w) A (Builtin.«zip.__next__» ⟨[.ref z],[]⟩) (fun fin s'=>∃ v,fin= .done (.ret v)/\Q v s') E s:=by
 show wpAny (model prog w) A (field (.ref z) 2 >>= _) _ _ _
 refine aa (ce ez rfl (x:= .bool false) rfl (?_:wpAny (model prog w) A (field (.ref z) 3 >>= _) _ _ _))
 refine aa (ce ez rfl (x:= .ref TI) rfl (aa (dP eI rfl (?_:wpAny (model prog w) A (Builtin.SmallTypes.ownedTupleIsFree (.ref z) >>= _) _ _ _))))
 refine aa (by
  unfold Builtin.SmallTypes.ownedTupleIsFree
  refine aa (ce ez rfl (x:= .none) rfl (ah ?_))
  simp only [io]
  refine aa (cS (aa (ce ez rfl (x:= .ref TO) rfl (aa (bH ez (by simp) fun p1 f1 q1=>?_)))))
  have f1:IsZip p1 z TI TO .ellipsis:=f1
  refine aa (by
   simp only [iN,List.zipIdx_nil,gM,jq]
   refine aa (aa (iH (?_:wpAny (model prog w) A (Builtin.SmallTypes.nextOf (.ref i1) >>= _) _ _ _)))
   refine aa (next1 (g1.but q1.extBut D.i1z) (o1.but q1.extBut D.l1z) hx fun p2 r2 q2=>ah ?_)
   have eO2:IsPair p2 TO a b:=q2.extBut _ _ D.TOi1 (q1.extBut _ _ D.TOz eO)
   refine aa (dP eO2 rfl (aa (gA eO2 fun p3 eO3 q3=>aa (iw (ah ?_)))))
   have eO3:IsPair p3 TO x b:=eO3
   refine aa (aa (iH (?_:wpAny (model prog w) A (Builtin.SmallTypes.nextOf (.ref i2) >>= _) _ _ _)))
   refine aa (next1 (((g2.but q1.extBut D.i2z).but q2.extBut D.i12.symm).but q3.extBut D.TOi2.symm) (((o2.but q1.extBut D.l2z).but q2.extBut D.l2i1).but q3.extBut D.l2TO) hy fun p4 r4 q4=>ah ?_)
   have eO4:IsPair p4 TO x b:=q4.extBut _ _ D.TOi2 eO3
   refine aa (dP eO4 rfl (aa (gA eO4 fun p5 eO5 q5=>aa (iw (ah (ah ?_))))))
   have eO5:IsPair p5 TO x y:=eO5
   refine aa (dP eO5 rfl (aa (g9 ?_)))
   have sz:p5.objs.size=s.heap.objs.size:=by rw[q5.1,q4.1,q3.1,q2.1,q1.1]
   have ez5:IsZip p5 z TI TO .ellipsis:=q5.extBut _ _ D.TOz.symm (q4.extBut _ _ D.i2z.symm (q3.extBut _ _ D.TOz.symm (q2.extBut _ _ D.i1z.symm f1)))
   have kp5:∀ c o,c≠z->c≠TO->c≠i1->c≠i2->s.heap.get? c=some o->p5.get? c=some o:=fun c o n1 n2 n3 n4 e=>q5.extBut _ _ n2 (q4.extBut _ _ n4 (q3.extBut _ _ n2 (q2.extBut _ _ n3 (q1.extBut _ _ n1 e))))
   have r15:ItAt t1 p5 i1 l1 (k1+1):=((r2.but q3.extBut D.TOi1.symm).but q4.extBut D.i12).but q5.extBut D.TOi1.symm
   have r25:ItAt t2 p5 i2 l2 (k2+1):=r4.but q5.extBut D.TOi2.symm
   have zlt:z<p5.objs.size:=aE ez5
   show wpAny (model prog w) A (Builtin.SmallTypes.ownedTupleHandOut (.ref z) (.ref p5.objs.size) >>= _) _ _ _
   refine aa ?_
   unfold Builtin.SmallTypes.ownedTupleHandOut
   have f6:IsZip (p5.push { cls:= .type "tuple",data:= .seq #[x,y]}) z TI TO .ellipsis:=ae _ ez5
   refine aa (bH f6 (by simp) fun p7 f7 q7=>?_)
   have f7:IsZip p7 z TI TO (rawInt p5.objs.size):=f7
   refine bH f7 (by simp) fun p8 f8 q8=>?_
   have f8:IsZip p8 z TI TO (rawInt p5.objs.size):=f8
   have up:∀ c o,c≠z->p5.get? c=some o->p8.get? c=some o:=fun c o n1 e=>q8.extBut _ _ n1 (q7.extBut _ _ n1 (ae _ e))
   have eT:IsPair p8 p5.objs.size x y:=q8.extBut _ _ (cK zlt) (q7.extBut _ _ (cK zlt) (aJ _ rfl))
   have sz8:p8.objs.size=p5.objs.size+1:=by rw[q8.1,q7.1,cq]
   rw[sz] at f8 eT sz8
   refine ah ⟨_,rfl,(?_:Q (.ref p5.objs.size) _)⟩
   rw[sz]
   exact k p8 f8 (up _ _ D.TOz eO5) (r15.at fun o e=>up _ o D.i1z e) (r25.at fun o e=>up _ o D.i2z e) eT sz8 fun c o n1 n2 n3 n4 e=>up c o n1 (kp5 c o n1 n2 n3 n4 e)))
theorem jNA {t1 t2:Bool}{z TI TO i1 i2 l1 l2:Addr}{k1 k2:Nat}{xs ys:Array Value}{a b:Value}{Q:Fin->Shared->Prop}(hh:A.handled=none)(D:ZipApart z TI TO i1 i2 l1 l2)
  (ez:IsZip s.heap z TI TO .none) (eI:IsPair s.heap TI (.ref i1) (.ref i2)) (eO:IsPair s.heap TO a b) (g1:ItAt t1 s.heap i1 l1 k1) (g2:ItAt t2 s.heap i2 l2 k2) (o1:ObAt t1 s.heap l1 xs) (o2:ObAt t2 s.heap l2 ys) (hend:xs[k1]?=none\/ys[k2]?=none)
  (k:∀ h' e,(∀ c o,c≠z->c≠TO->c≠i1->c≠i2->s.heap.get? c=some o->h'.get? c=some o)->(∃ o,h'.get? e=some o/\o.cls= .type "StopIteration")->E (.ref e) { s with heap:=h'}):
  wpAny (model prog w) A (Builtin.«zip.__next__» ⟨[.ref z],[]⟩) Q E s:=by
 show wpAny (model prog w) A (field (.ref z) 2 >>= _) _ _ _
 refine aa (ce ez rfl (x:= .bool false) rfl (?_:wpAny (model prog w) A (field (.ref z) 3 >>= _) _ _ _))
 refine aa (ce ez rfl (x:= .ref TI) rfl (aa (dP eI rfl (?_:wpAny (model prog w) A (Builtin.SmallTypes.ownedTupleIsFree (.ref z) >>= _) _ _ _))))
 refine aa (by
  unfold Builtin.SmallTypes.ownedTupleIsFree
  refine aa (ce ez rfl (x:= .none) rfl (ah ?_))
  simp only [io]
  refine aa (cS (aa (ce ez rfl (x:= .ref TO) rfl (aa (bH ez (by simp) fun p1 f1 q1=>?_)))))
  have f1:IsZip p1 z TI TO .ellipsis:=f1
  refine aa (by
   simp only [iN,List.zipIdx_nil,gM,jq]
   refine aa (aa (iH (?_:wpAny (model prog w) A (Builtin.SmallTypes.nextOf (.ref i1) >>= _) _ _ _)))
   cases hx:xs[k1]? with
   | none=>
    refine aa (next0 hh (g1.but q1.extBut D.i1z) (o1.but q1.extBut D.l1z) hx fun p2 e q2 ⟨u,eu,cu⟩=>?_)
    have f2:IsZip p2 z TI TO .ellipsis:=q2 _ _ D.i1z.symm f1
    have nz:e≠z:=fun v=>by subst v; rw[f2] at eu; cases eu; simp at cu
    exact bH f2 (by simp) fun p3 _ q3=>k p3 e (fun c o n1 _ n3 _ v=>q3.extBut _ _ n1 (q2 _ _ n3 (q1.extBut _ _ n1 v))) ⟨u,q3.extBut _ _ nz eu,cu⟩
   | some x=>
    have hy:ys[k2]?=none:=by
     rcases hend with v | v
     ·rw[hx] at v; cases v
     ·exact v
    refine aa (next1 (g1.but q1.extBut D.i1z) (o1.but q1.extBut D.l1z) hx fun p2 r2 q2=>ah ?_)
    have eO2:IsPair p2 TO a b:=q2.extBut _ _ D.TOi1 (q1.extBut _ _ D.TOz eO)
    refine aa (dP eO2 rfl (aa (gA eO2 fun p3 eO3 q3=>aa (iw (ah ?_)))))
    refine aa (aa (iH (?_:wpAny (model prog w) A (Builtin.SmallTypes.nextOf (.ref i2) >>= _) _ _ _)))
    refine aa (next0 hh (((g2.but q1.extBut D.i2z).but q2.extBut D.i12.symm).but q3.extBut D.TOi2.symm) (((o2.but q1.extBut D.l2z).but q2.extBut D.l2i1).but q3.extBut D.l2TO) hy fun p4 e q4 ⟨u,eu,cu⟩=>?_)
    have f4:IsZip p4 z TI TO .ellipsis:=q4 _ _ D.i2z.symm (q3.extBut _ _ D.TOz.symm (q2.extBut _ _ D.i1z.symm f1))
    have nz:e≠z:=fun v=>by subst v; rw[f4] at eu; cases eu; simp at cu
    exact bH f4 (by simp) fun p5 _ q5=>k p5 e (fun c o n1 n2 n3 n4 v=>q5.extBut _ _ n1 (q4 _ _ n4 (q3.extBut _ _ n2 (q2.extBut _ _ n3 (q1.extBut _ _ n1 v))))) ⟨u,q5.extBut _ _ nz eu,cu⟩))
theorem jHK {t1 t2:Bool}{z TI TO i1 i2 l1 l2:Addr}{k1 k2:Nat}{xs ys:Array Value}{x y a b:Value}{Q:Option Value->Shared->Prop}(D:ZipApart z TI TO i1 i2 l1 l2)
  (ez:IsZip s.heap z TI TO .none) (eI:IsPair s.heap TI (.ref i1) (.ref i2)) (eO:IsPair s.heap TO a b) (g1:ItAt t1 s.heap i1 l1 k1) (g2:ItAt t2 s.heap i2 l2 k2) (o1:ObAt t1 s.heap l1 xs) (o2:ObAt t2 s.heap l2 ys) (hx:xs[k1]?=some x) (hy:ys[k2]?=some y)
  (k:∀ h',IsZip h' z TI TO (rawInt s.heap.objs.size)->IsPair h' TO x y->ItAt t1 h' i1 l1 (k1+1)->ItAt t2 h' i2 l2 (k2+1)->IsPair h' s.heap.objs.size x y->h'.objs.size=s.heap.objs.size+1->
   (∀ c o,c≠z->c≠TO->c≠i1->c≠i2->s.heap.get? c=some o->h'.get? c=some o)->Q (some (.ref s.heap.objs.size)) { s with heap:=h'}):
  wpAny (model prog w) A (pyNext (.ref z)) Q E s:=by
 have ty:s.TypeIs (.ref z) "zip" :=⟨_,ez,rfl⟩
 unfold pyNext
 exact aa (dH (bZ (name:=Str.ofString "__next__") ty F.slot_zip_next (cj F.slot_zip_next ty F.entry_zip_next (jKC D ez eI eO g1 g2 o1 o2 hx hy fun h' b1 b2 b3 b4 b5 b6 b7=>ah (k h' b1 b2 b3 b4 b5 b6 b7)) (F.args_zip_next_1 _))))
theorem jHL {t1 t2:Bool}{z TI TO i1 i2 l1 l2:Addr}{k1 k2:Nat}{xs ys:Array Value}{a b:Value}{Q:Option Value->Shared->Prop}(hh:A.handled=none)(D:ZipApart z TI TO i1 i2 l1 l2)
  (ez:IsZip s.heap z TI TO .none) (eI:IsPair s.heap TI (.ref i1) (.ref i2)) (eO:IsPair s.heap TO a b) (g1:ItAt t1 s.heap i1 l1 k1) (g2:ItAt t2 s.heap i2 l2 k2) (o1:ObAt t1 s.heap l1 xs) (o2:ObAt t2 s.heap l2 ys) (hend:xs[k1]?=none\/ys[k2]?=none)
  (k:∀ h',(∀ c o,c≠z->c≠TO->c≠i1->c≠i2->s.heap.get? c=some o->h'.get? c=some o)->Q none { s with heap:=h'}):wpAny (model prog w) A (pyNext (.ref z)) Q E s:=by
 have ty:s.TypeIs (.ref z) "zip" :=⟨_,ez,rfl⟩
 unfold pyNext
 refine aa (dH (bZ (name:=Str.ofString "__next__") ty F.slot_zip_next (cj F.slot_zip_next ty F.entry_zip_next (jNA hh D ez eI eO g1 g2 o1 o2 hend fun h' e kp ⟨u,eu,cu⟩=>?_) (F.args_zip_next_1 _))))
 exact aa (gt (T:= "StopIteration") (b:=true) ⟨u,eu,cu⟩ jp (ah (k _ kp)))
end
def yY (tp:Bool)(a:Addr):Obj:=match tp with
 | false=> { cls:= .type "list_iterator",data:= .fields #[.ref a, .int 0 0]}
 | true=> { cls:= .type "tuple_iterator",data:= .fields #[.ref a, .int 0 0]}
theorem jCG (tp:Bool)(a:Addr):(yY tp a).isFreed=false:=by cases tp <;> rfl
theorem ObAt.push {tp:Bool}{h:Heap}{a:Addr}{xs:Array Value}(x:ObAt tp h a xs)(o:Obj):ObAt tp (h.push o) a xs:=by
 cases tp with
 | false=>exact Heap.IsList.push x o
 | true=>exact Heap.IsTuple.push x o
theorem jCC {prog:Program}{w:World}{A:Around}{E:Value->Shared->Prop}{s:Shared}{tp:Bool}{a:Addr}{xs:Array Value}{Q:Value->Shared->Prop}(h:ObAt tp s.heap a xs)(q:Q (.ref s.heap.objs.size) { s with heap:=s.heap.push (yY tp a)}):
  wpAny (model prog w) A (pyIter (.ref a)) Q E s:=by
 cases tp with
 | false=>exact fe h q
 | true=>exact wpAny_pyIter_tuple h q
def zp1 (t1:Bool)(h:Heap)(l1:Addr):Heap:=h.push (yY t1 l1)
def zp2 (t1 t2:Bool)(h:Heap)(l1 l2:Addr):Heap:=(zp1 t1 h l1).push (yY t2 l2)
def zp3 (t1 t2:Bool)(h:Heap)(l1 l2:Addr):Heap:=(zp2 t1 t2 h l1 l2).push { cls:= .type "tuple",data:= .seq #[.ref h.objs.size, .ref (zp1 t1 h l1).objs.size]}
def zp4 (t1 t2:Bool)(h:Heap)(l1 l2:Addr):Heap:=(zp3 t1 t2 h l1 l2).push { cls:= .type "tuple",data:= .seq #[.none, .none]}
def zp5 (t1 t2:Bool)(h:Heap)(l1 l2:Addr):Heap:=(zp4 t1 t2 h l1 l2).push { cls:= .type "zip",data:= .fields #[.none, .bool false, .bool false, .ref (zp2 t1 t2 h l1 l2).objs.size, .ref (zp3 t1 t2 h l1 l2).objs.size]}
theorem jJU (t1 t2:Bool)(l1 l2:Addr)(xs ys:Array Value):
  Meets (Builtin.«zip.__new__» ⟨[.type "zip", .ref l1, .ref l2],[]⟩) (fun _ R s=>ObAt t1 s.heap l1 xs/\ObAt t2 s.heap l2 ys/\R (.ok (.ret (.ref (zp4 t1 t2 s.heap l1 l2).objs.size))) { s with heap:=zp5 t1 t2 s.heap l1 l2}):=
 .of_wp fun prog w A R s h=>by
  obtain⟨hp,g,d,tk,os⟩:=s
  obtain⟨a1,a2,q⟩:=h
  have sub:=sub_zip
  have e1:ObAt t1 (Shared.heap ⟨hp,g,d,tk,os⟩) l1 xs:=a1
  have e2:ObAt t2 (Shared.heap ⟨hp.push (yY t1 l1),g,d,tk,os⟩) l2 ys:=ObAt.push a2 _
  wp_walk using jCC e1,jCC e2
  exact⟨_,rfl,q⟩
theorem ItAt.new (tp:Bool){h:Heap}{it a:Addr}(e:h.get? it=some (yY tp a)):ItAt tp h it a 0:=by
 cases tp with
 | false=>exact⟨_,e,rfl,rfl⟩
 | true=>exact⟨_,e,rfl,rfl⟩
theorem jMV {prog:Program}{w:World}{A:Around}{E:Value->Shared->Prop}{s:Shared}{t1 t2:Bool}{l1 l2:Addr}{xs ys:Array Value}{Q:Value->Shared->Prop}(a1:ObAt t1 s.heap l1 xs)(a2:ObAt t2 s.heap l2 ys)
  (k:∀ h',IsZip h' (s.heap.objs.size+4) (s.heap.objs.size+2) (s.heap.objs.size+3) .none->IsPair h' (s.heap.objs.size+2) (.ref s.heap.objs.size) (.ref (s.heap.objs.size+1))->
   IsPair h' (s.heap.objs.size+3) .none .none->ItAt t1 h' s.heap.objs.size l1 0->ItAt t2 h' (s.heap.objs.size+1) l2 0->(∀ c o,s.heap.get? c=some o->h'.get? c=some o)->Q (.ref (s.heap.objs.size+4)) { s with heap:=h'}):
  wpAny (model prog w) A (call (.type "zip") [.ref l1, .ref l2]) Q E s:=by
 refine callType_new F.called_zip (by decide) (F.typeCall_zip_2 _ _) (F.newCall_zip_2 _ _) (fun obj=>F.args_object_init_3 obj _ _) F.entry_zip_new (jJU t1 t2 l1 l2 xs ys) ⟨a1,a2,?_⟩
 have z1:(zp1 t1 s.heap l1).objs.size=s.heap.objs.size+1:=cq ..
 have z2:(zp2 t1 t2 s.heap l1 l2).objs.size=s.heap.objs.size+2:=(cq ..).trans (bA (· +1) z1)
 have z3:(zp3 t1 t2 s.heap l1 l2).objs.size=s.heap.objs.size+3:=(cq ..).trans (bA (· +1) z2)
 have z4:(zp4 t1 t2 s.heap l1 l2).objs.size=s.heap.objs.size+4:=(cq ..).trans (bA (· +1) z3)
 have y5:(zp5 t1 t2 s.heap l1 l2).get? (zp4 t1 t2 s.heap l1 l2).objs.size=some { cls:= .type "zip",data:= .fields #[.none, .bool false, .bool false, .ref (zp2 t1 t2 s.heap l1 l2).objs.size, .ref (zp3 t1 t2 s.heap l1 l2).objs.size]} :=aJ _ rfl
 have y4:(zp5 t1 t2 s.heap l1 l2).get? (zp3 t1 t2 s.heap l1 l2).objs.size=some { cls:= .type "tuple",data:= .seq #[.none, .none]} :=ae _ (aJ _ rfl)
 have y3:(zp5 t1 t2 s.heap l1 l2).get? (zp2 t1 t2 s.heap l1 l2).objs.size=some { cls:= .type "tuple",data:= .seq #[.ref s.heap.objs.size, .ref (zp1 t1 s.heap l1).objs.size]} :=ae _ (ae _ (aJ _ rfl))
 have y2:(zp5 t1 t2 s.heap l1 l2).get? (zp1 t1 s.heap l1).objs.size=some (yY t2 l2):=ae _ (ae _ (ae _ (aJ _ (jCG _ _))))
 have y1:(zp5 t1 t2 s.heap l1 l2).get? s.heap.objs.size=some (yY t1 l1):=ae _ (ae _ (ae _ (ae _ (aJ _ (jCG _ _)))))
 have up:∀ c o,s.heap.get? c=some o->(zp5 t1 t2 s.heap l1 l2).get? c=some o:=fun c o e=>ae _ (ae _ (ae _ (ae _ (ae _ e))))
 rw[z2,z3,z4] at y5
 rw[z1,z2] at y3
 rw[z3] at y4
 rw[z1] at y2
 show _/\_
 rw[z4]
 exact⟨⟨_,y5,rfl⟩,k _ y5 y3 y4 (.new t1 y1) (.new t2 y2) up⟩
def Sq (tp:Bool)(K:W.Frag)(H:Hp)(a:Addr)(xs:List V):Prop:=match tp with
 | false=>SqL K H a xs
 | true=>SqT K H a xs
theorem Inv.sq {X:Cx}{ad:List (Addr×Obj)}{σ:St}{H:Hp}{s:Shared}{tp:Bool}{a:Addr}{xs:List V}(I:Inv X ad σ H s)(h:Sq tp X.K H a xs):∃ its:List Value,Vals xs its/\ObAt tp s.heap a its.toArray/\xs.length<=sizeLine:=by
 cases tp with
 | false=>
  obtain⟨its,r,p,z⟩:=I.list h
  exact⟨its,r,p.isList,z⟩
 | true=>exact I.tuple h
theorem Inv.sq_inj {X:Cx}{ad:List (Addr×Obj)}{σ:St}{H:Hp}{s:Shared}{tp:Bool}{a:Addr}{xs ys:List V}(I:Inv X ad σ H s)(h:Sq tp X.K H a xs)(h':Sq tp X.K H a ys):xs=ys:=by
 cases tp with
 | false=>exact I.list_inj h h'
 | true=>exact I.tuple_inj h h'
def Itz (t1 t2:Bool)(K:W.Frag)(l1 l2:Addr):It:=
 ⟨fun i H=>∃ xs ys x y,Sq t1 K H l1 xs/\Sq t2 K H l2 ys/\xs[i]?=some x/\ys[i]?=some y,
  fun i H v H'=>∃ T x y,H T=none/\v= .ref T/\H'=upd H T (.tup [x,y])/\∀ xs ys,Sq t1 K H l1 xs->Sq t2 K H l2 ys->xs[i]?=some x/\ys[i]?=some y,
  fun i H=>∃ xs ys,Sq t1 K H l1 xs/\Sq t2 K H l2 ys/\(xs.length<=i\/ys.length<=i)⟩
theorem jNF {P:Program}{w:World}{K:W.Frag}{elts:List Expr}{x1:Nat}{tp:Pos}(t1 t2:Bool)(l1 l2 z TI TO i1 i2:Addr)(D:ZipApart z TI TO i1 i2 l1 l2):
  Turn P w K (.Tuple elts x1 tp) (Itz t1 t2 K l1 l2) [z,TO,i1,i2,TI] z (fun i h=>IsZip h z TI TO .none/\IsPair h TI (.ref i1) (.ref i2)/\(∃ a b,IsPair h TO a b)/\ItAt t1 h i1 l1 i/\ItAt t2 h i2 l2 i) where
 mem:=by simp
 obj:=fun i h st b hb=>by
  obtain⟨hz,hTI,⟨a,c,hTO⟩,y1,y2⟩:=st
  simp only [aM,bF,dE] at hb
  rcases hb with rfl | rfl | rfl | rfl | rfl
  ·exact⟨_,hz,fun v q=>by cases q⟩
  ·exact⟨_,hTO,fun v q=>by cases q⟩
  ·exact y1.obj
  ·exact y2.obj
  ·exact⟨_,hTI,fun v q=>by cases q⟩
 keep:=fun i h h' st k=>by
  obtain⟨hz,hTI,⟨a,c,hTO⟩,h1,h2⟩:=st
  exact⟨k z (by simp) _ hz,k TI (by simp) _ hTI,⟨a,c,k TO (by simp) _ hTO⟩,h1.at fun o e=>k i1 (by simp) o e,h2.at fun o e=>k i2 (by simp) o e⟩
 item:=by
  intro X hP hw hK hc i ad s σ H E I hf st hg
  subst hP hw hK
  obtain⟨xs,ys,x,y,hq1,hq2,hx,hy⟩:=hg
  obtain⟨hz,hTI,⟨a,c,hTO⟩,h1,h2⟩:=st
  obtain⟨its1,r1,p1,_⟩:=I.sq hq1
  obtain⟨its2,r2,p2,_⟩:=I.sq hq2
  obtain⟨u,hu,ru⟩:=r1.get hx
  obtain⟨v,hv,rv⟩:=r2.get hy
  refine jHK D hz hTI hTO h1 h2 p1 p2 (x:=u) (y:=v) (by simpa using hu) (by simpa using hv) fun h' a1 a2 a3 a4 a5 a6 a7=>?_
  refine⟨_,rfl,wpAny_letOwnedTupleGo_zip (s:= { s with heap:=h'}) a1 fun h'' b1 sb=>?_⟩
  have fresh:H s.heap.objs.size=none:=I.fresh
  have nch:∀ b∈([z,TO,i1,i2]:List Addr),FpOk X ad H b:=fun b hb=>hf b (by
   simp only [aM,bF,dE] at hb ⊢
   rcases hb with q | q | q | q
   ·exact .inl q
   ·exact .inr (.inl q)
   ·exact .inr (.inr (.inl q))
   ·exact .inr (.inr (.inr (.inl q))))
  have ntr:∀ b o,H b=some o->b∉([z,TO,i1,i2]:List Addr):=fun b o e hb=>by
   have:=(nch b hb).1
   rw[e] at this; cases this
  have kp:∀ b o,b∉([z,TO,i1,i2]:List Addr)->s.heap.get? b=some o->h''.get? b=some o:=fun b o hb e=>by
   simp only [aM,bF,dE,lw] at hb
   exact(sb.2 b hb.1).trans (a7 b o hb.1 hb.2.1 hb.2.2.1 hb.2.2.2 e)
  have nz:s.heap.objs.size≠z:=cK (aE hz)
  have hT2:h''.get? s.heap.objs.size=some { cls:= .type "tuple",data:= .seq #[u,v]} :=(sb.2 _ nz).trans a5
  have I2:Inv X ad σ (upd H s.heap.objs.size (.tup [x,y])) { s with heap:=h''} :=by
   refine I.step (g':=s.gens) (d':=s.drawn) (t':=s.toks) (ch:=[z,TO,i1,i2]) (fun b hb=>?_) (fun b o _ _ hb e _=>kp b o hb e) (fun b o _ _ hb e _=>⟨o.slots,kp b o hb e⟩)
    (fun b o _ e n=>by rw[j7 (aV (aE e))]; exact n) (fun b o hb e=>⟨o,kp b o hb e⟩) (fun b ws e=>by rw[j7 (jA e fresh)]; exact e) (fun b o ws e=>by rw[j7 (jA e fresh)]; exact e)
    (fun b ps e=>⟨#[],by rw[j7 (jA e fresh),e]; simp⟩) (fun m hm=>?_) (fun b o e=>?_) I.bare
   ·obtain⟨f0,f1,f2,f3,f4,f5⟩:=nch b hb
    exact⟨f3,f1,f4,f5⟩
   ·obtain⟨o,es,ep,ho,r⟩:=hm
    exact⟨o,es,ep,kp _ o (fun hb=>(nch _ hb).2.1 rfl) ho,r⟩
   ·by_cases hb:b=s.heap.objs.size
    ·subst hb
     rw[j5] at e
     cases e
     exact⟨by rw[fY]; show 2<=_; decide,[u,v], .cons ru (.cons rv .nil),0,hT2⟩
    ·rw[j7 hb] at e
     refine(I.hok b o e).stay (fun c w hc q=>kp c w ?_ q) (fun c q=>by rw[j7 (jA q fresh)]; exact q) (fun c ws q=>by rw[j7 (jA q fresh)]; exact q)
     rcases hc with rfl | hc
     ·exact ntr _ _ e
     ·exact ntr _ _ hc
  refine⟨.ref s.heap.objs.size,_,I2,rfl,⟨_,x,y,fresh,rfl,rfl,fun xs' ys' q1 q2=>⟨by rw[I.sq_inj q1 hq1]; exact hx,by rw[I.sq_inj q2 hq2]; exact hy⟩⟩,⟨b1,?_,⟨u,v,?_⟩,?_,?_⟩,fun b hb=>?_⟩
  ·exact kp TI _ (by simp [D.TIz,D.TITO,D.TIi1,D.TIi2]) hTI
  ·exact(sb.2 TO D.TOz).trans a2
  ·exact a3.at fun o e=>(sb.2 i1 D.i1z).trans e
  ·exact a4.at fun o e=>(sb.2 i2 D.i2z).trans e
  ·rw[j7 (fun q=>by
    obtain⟨o,eo⟩:∃ o,s.heap.get? b=some o:=by
     simp only [aM,bF,dE] at hb
     rcases hb with rfl | rfl | rfl | rfl | rfl
     ·exact⟨_,hz⟩
     ·exact⟨_,hTO⟩
     ·obtain⟨o,e,_⟩:=h1.obj; exact⟨o,e⟩
     ·obtain⟨o,e,_⟩:=h2.obj; exact⟨o,e⟩
     ·exact⟨_,hTI⟩
    exact absurd (aE eo) (by rw[q]; exact da _))]
   exact(hf b hb).1
 done:=by
  intro X hP hw hK hc i ad s σ H E I hf st hg
  subst hP hw hK
  obtain⟨xs,ys,hq1,hq2,hend⟩:=hg
  obtain⟨hz,hTI,⟨a,c,hTO⟩,h1,h2⟩:=st
  obtain⟨its1,r1,p1,_⟩:=I.sq hq1
  obtain⟨its2,r2,p2,_⟩:=I.sq hq2
  have e1:=r1.length
  have e2:=r2.length
  refine jHL (I.ok.hd hc) D hz hTI hTO h1 h2 p1 p2 (by
   rcases hend with q | q
   ·exact .inl (by simp; lia)
   ·exact .inr (by simp; lia)) fun h' kp=>⟨rfl,?_⟩
  have nch:∀ b∈([z,TO,i1,i2]:List Addr),FpOk X ad H b:=fun b hb=>hf b (by
   simp only [aM,bF,dE] at hb ⊢
   rcases hb with q | q | q | q
   ·exact .inl q
   ·exact .inr (.inl q)
   ·exact .inr (.inr (.inl q))
   ·exact .inr (.inr (.inr (.inl q))))
  have kp2:∀ b o,b∉([z,TO,i1,i2]:List Addr)->s.heap.get? b=some o->h'.get? b=some o:=fun b o hb e=>by
   simp only [aM,bF,dE,lw] at hb
   exact kp b o hb.1 hb.2.1 hb.2.2.1 hb.2.2.2 e
  have ntr:∀ b o,H b=some o->b∉([z,TO,i1,i2]:List Addr):=fun b o e hb=>by
   have:=(nch b hb).1
   rw[e] at this; cases this
  refine I.step (g':=s.gens) (d':=s.drawn) (t':=s.toks) (ch:=[z,TO,i1,i2]) (fun b hb=>?_) (fun b o _ _ hb e _=>kp2 b o hb e) (fun b o _ _ hb e _=>⟨o.slots,kp2 b o hb e⟩)
   (fun b o _ e n=>n) (fun b o hb e=>⟨o,kp2 b o hb e⟩) (fun b ws e=>e) (fun b o ws e=>e) (fun b ps e=>⟨#[],by rw[e]; simp⟩) (fun m hm=>?_) (fun b o e=>?_) I.bare
  ·obtain⟨f0,f1,f2,f3,f4,f5⟩:=nch b hb
   exact⟨f3,f1,f4,f5⟩
  ·obtain⟨o,es,ep,ho,r⟩:=hm
   exact⟨o,es,ep,kp2 _ o (fun hb=>(nch _ hb).2.1 rfl) ho,r⟩
  ·refine(I.hok b o e).stay (fun c w hc q=>kp2 c w ?_ q) (fun _ q=>q) fun _ _ q=>q
   rcases hc with rfl | hc
   ·exact ntr _ _ e
   ·exact ntr _ _ hc
 self:=fun _ _ _ _ _ st h=>wpAny_pyIter_zip st.1 h
def iZip (K:W.Frag)(ta:TA):TI:=fun σ H R=>ta σ H fun vs H1=>∃ t1 t2 l1 l2,vs=[.ref l1, .ref l2]/\(∃ xs,Sq t1 K H1 l1 xs)/\(∃ ys,Sq t2 K H1 l2 ys)/\R (Itz t1 t2 K l1 l2) H1
theorem jSK {a b:Expr}{ta:TA}{p pos:Pos}{elts:List Expr}{x1:Nat}{tp:Pos}(hg:Gl X "zip")(hm:X.mg "zip" =none)(ha:PA X [a,b] ta)(hv:bootBuiltins "zip" =some (.type "zip"):=by decide+kernel)
  (he:starEach [a,b] X.env=(false,eval a X.env)::starEach [b] X.env:=by rfl) (hpl:(backTo pos (starEach [b] X.env)).any (·.1)=false:=by rfl):
  PI X (.Tuple elts x1 tp) (.Call (.Name "zip" p) [a,b] [] pos) (iZip X.K ta):=by
 intro ad s σ H R I h
 refine Call_ (jBV I hg hm hv (cP (lC (ha pos ad s σ H _ I h) fun us s1 ⟨vs,H1,I1,r1,q1⟩=>?_) he hpl))
 obtain⟨t1,t2,l1,l2,rfl,⟨xs,hq1⟩,⟨ys,hq2⟩,q⟩:=q1
 obtain⟨u,v,rfl,ru,rv⟩:=r1.two
 cases ru
 cases rv
 obtain⟨its1,_,p1,_⟩:=I1.sq hq1
 obtain⟨its2,_,p2,_⟩:=I1.sq hq2
 have lt1:l1<s1.heap.objs.size:=p1.lt
 have lt2:l2<s1.heap.objs.size:=p2.lt
 refine jMV p1 p2 fun h' a1 a2 a3 a4 a5 kp=>?_
 have I2:Inv X ad σ H1 { s1 with heap:=h'} :=I1.kept (t':=s1.toks) kp
 have D:ZipApart (s1.heap.objs.size+4) (s1.heap.objs.size+2) (s1.heap.objs.size+3) s1.heap.objs.size (s1.heap.objs.size+1) l1 l2:=zipApart_new lt1 lt2
 refine wpAny_pyIter_zip a1 ⟨s1.heap.objs.size+4,[s1.heap.objs.size+4,s1.heap.objs.size+3,s1.heap.objs.size,s1.heap.objs.size+1,s1.heap.objs.size+2],_,Itz t1 t2 X.K l1 l2,H1,rfl,I2,jNF t1 t2 l1 l2 _ _ _ _ _ D,⟨a1,a2,⟨_,_,a3⟩,a4,a5⟩,fun b hb=>?_,q⟩
 have hge:s1.heap.objs.size<=b:=by
  simp only [aM,bF,dE] at hb
  rcases hb with rfl | rfl | rfl | rfl | rfl
  ·exact dL _ 4
  ·exact dL _ 3
  ·exact ai _
  ·exact dL _ 1
  ·exact dL _ 2
 exact I1.fpOk hge (I1.hok.fresh hge)
structure JE (X:Cx)(e:Expr)(t:TE):Prop where
 h:PE X e t
structure JA (X:Cx)(es:List Expr)(t:TA):Prop where
 h:PA X es t
structure JT (X:Cx)(e:Expr)(t:TT):Prop where
 h:PT X e t
structure JTs (X:Cx)(e:List Expr)(t:TT):Prop where
 h:PTs X e t
structure JS (X:Cx)(e:Stmt)(t:TS):Prop where
 h:PS X e t
structure JSs (X:Cx)(e:List Stmt)(t:TS):Prop where
 h:PSs X e t
structure JG (X:Cx)(e:Expr)(t:TG):Prop where
 h:PG X e t
structure JGs (X:Cx)(e:List Expr)(t:TGs):Prop where
 h:PGs X e t
structure JI (X:Cx)(tg e:Expr)(t:TI):Prop where
 h:PI X tg e t
structure JO (X:Cx)(e:Option Expr)(t:TO):Prop where
 h:PO X e t
structure Loc1 (X:Cx)(x:Str):Prop where
 a:Loc X.env.scope x
 b:X.fn x=true\/X.env.scope.names.lookup x=some .local
structure Vis1 (X:Cx)(x:Str):Prop where
 a:Vis X.env.scope x
structure Gl1 (X:Cx)(x:Str):Prop where
 a:Gl X x
section
variable {o:Option Expr}{l:Nat}
structure SwOk (e:Expr)(o:Option Expr):Prop where
 h:∀ l env,swapsWith e o l env=pure false
theorem jE2 {op:Operator} :SwOk (.BinOp a op b pos) o:=⟨fun _ _=>rfl⟩
theorem jK {kw:List Keyword} :SwOk (.Call a xs kw pos) o:=⟨fun _ _=>rfl⟩
theorem jFW:SwOk (.Subscript a b pos) o:=⟨fun _ _=>rfl⟩
theorem jOW {x1} :SwOk (.Tuple xs x1 pos) o:=⟨fun _ _=>rfl⟩
theorem jE1:SwOk (.List xs pos) o:=⟨fun _ _=>rfl⟩
theorem jEO {c k} :SwOk (.Constant c k pos) o:=⟨fun _ _=>rfl⟩
theorem jKY {op:Operator} :jB0 (.BinOp a op b pos):=fun _ _=>rfl
theorem jQ1 {kw:List Keyword} :jB0 (.Call a xs kw pos):=fun _ _=>rfl
theorem jF {i:Int}{k} :jB0 (.Constant (.int i) k pos):=fun _ _=>rfl
theorem y9 {x:Str} :jB0 (.Name x pos):=fun _ _=>rfl
theorem jSB:jB0 (.Subscript a b pos):=fun _ _=>rfl
structure FoOk (iter:Expr):Prop where
 h:∀ env x,foldedSetIterable iter env x=pure x
theorem kI {kw:List Keyword} :FoOk (.Call a xs kw pos):=⟨fun _ _=>rfl⟩
theorem jAG {x:Str} :FoOk (.Name x pos):=⟨fun _ _=>rfl⟩
theorem jEC:FoOk (.Subscript a b pos):=⟨fun _ _=>rfl⟩
structure TvOk (e:Expr):Prop where
 h:∀ env whole,isTrue e env whole=(do let v <- whole; standAt e.pos; holding [v] (truthy v))
theorem jDH {kw:List Keyword} :TvOk (.Call a xs kw pos):=⟨fun _ _=>rfl⟩
end
variable {te:TE}{x:Str}
section
variable {e o:Expr}{ta tb to:TE}{t:TA}{p cpos apos:Pos}{T:String}{id:String}
theorem jv (i:Nat)(hN:X.N[i]?=some x)(hv:Vis1 X x)(hd:(x==("__debug__" :Str))=false:=by decide)(hcd:(x==("__classdict__" :Str))=false:=by decide):JE X (.Name x pos) (tVar i):=⟨jL3 hN hv.a hd hcd⟩
theorem je_int {i j} :JE X (.Constant (.int i) j pos) (tC (.int i)):=⟨jP⟩
theorem je_bl {i j} :JE X (.Constant (.bool i) j pos) (tC (.bl i)):=⟨pe_bl⟩
theorem jJ0 {i j} :JE X (.Constant (.str i) j pos) (tC (.str i)):=⟨jSP⟩
theorem jHY {v:V}{u:Value}(hg:Gl1 X x)(hm:X.mg x=none)(hv:bootBuiltins x=some u)(r:RelV v u)(hn:x≠ "__name__" :=by decide)(hd:(x==("__debug__" :Str))=false:=by decide):JE X (.Name x pos) (tC v):=⟨jQM hg.a hm hv r hn hd⟩
theorem jR {op:Operator}{r:R2}(ho:OpR X (binaryOp op) r)(ha:JE X a ta)(hb:JE X b tb):JE X (.BinOp a op b pos) (tOp r ta tb):=⟨kO ho ha.h hb.h⟩
theorem je_un {op:UnaryOp}{r:V->Hp->VK->Prop}(ho:UnR X (unaryOp op) r)(ha:JE X a ta):JE X (.UnaryOp op a pos) (tUn r ta):=⟨pe_un ho ha.h⟩
theorem jTM (ha:JE X a ta):JE X (.UnaryOp .Not a pos) (tNotV ta):=⟨jSR ha.h⟩
theorem jCF {op:CmpOp}{r:R2}(ho:OpR X (compareOp op) r)(ha:JE X a ta)(hb:JE X b tb)(hm:behindInMarks op b=false):JE X (.Compare a [op] [b] pos) (tOp r ta tb):=⟨jQJ ho ha.h hb.h hm⟩
theorem jTO {rest:List Expr}(ha:JE X a ta)(hb:JE X (.BoolOp .And (b::rest) pos) tb):JE X (.BoolOp .And (a::b::rest) pos) (tAndV ta tb):=⟨jSU ha.h hb.h⟩
theorem jTL {op}(ha:JE X a ta):JE X (.BoolOp op [a] pos) ta:=⟨jSQ ha.h⟩
theorem jM4 (h:JA X es t):JE X (.List es pos) (tLst t):=⟨jIN h.h⟩
theorem jIZ {x1}(h:JA X es t):JE X (.Tuple es x1 pos) (tTup t):=⟨jSO h.h⟩
theorem jDC {lo hi:Option Expr}{tl th:TO}{r:V->Option Int->Option Int->Hp->VK->Prop}(hr:SlR X r)(he:JE X e te)(hl:JO X lo tl)(hu:JO X hi th):JE X (.Subscript e (.Slice lo hi none p2) pos) (tSl r te tl th):=⟨jNQ hr he.h hl.h hu.h⟩
theorem jT {r:R2}(hr:IxR X r)(ha:JE X a ta)(hb:JE X b tb)(hs:jB0 b):JE X (.Subscript a b pos) (tOp r ta tb):=⟨pe_ix hr ha.h hb.h hs⟩
theorem kJ {T}{r:List V->Hp->VK->Prop}(hc:yN X (.type T) r)(hg:Gl1 X x)(hm:X.mg x=none)(hv:bootBuiltins x=some (.type T))(ha:JA X (e::es) t)(he:starEach (e::es) X.env=(false,eval e X.env)::starEach es X.env)(hn:x≠ "__name__" :=by decide)(hdb:(x==("__debug__" :Str))=false:=by decide)
  (hpl:(backTo pos (starEach es X.env)).any (·.1)=false:=by rfl):JE X (.Call (.Name x p) (e::es) [] pos) (tCB r t):=⟨jBR hc hg.a hm hv ha.h hn hdb he hpl⟩
theorem jH {id}{r:List V->Hp->VK->Prop}(hc:yN X (.builtin id) r)(hg:Gl1 X x)(hm:X.mg x=none)(hv:bootBuiltins x=some (.builtin id))(ha:JA X (e::es) t)(he:starEach (e::es) X.env=(false,eval e X.env)::starEach es X.env)(hn:x≠ "__name__" :=by decide)(hdb:(x==("__debug__" :Str))=false:=by decide)
  (hpl:(backTo pos (starEach es X.env)).any (·.1)=false:=by rfl):JE X (.Call (.Name x p) (e::es) [] pos) (tCB r t):=⟨jF0 hc hg.a hm hv ha.h hn hdb he hpl⟩
theorem j6:JA X [] tNil:=⟨yE⟩
theorem j3 (ha:JE X e te)(hr:JA X es t)(hs:starEach (e::es) X.env=(false,eval e X.env)::starEach es X.env):JA X (e::es) (tCons te t):=⟨kB ha.h hr.h hs⟩
theorem jJ {op:CmpOp}{r:R2}(ho:OpR X (compareOp op) r)(ha:JE X a ta)(hb:JE X b tb)(hm:behindInMarks op b=false):JT X (.Compare a [op] [b] pos) (tTest (tOp r ta tb)):=⟨jDL ho ha.h hb.h hm⟩
theorem jGL (h:JE X e te)(he:TvOk e):JT X e (tB te):=⟨jSF h.h (he.h _)⟩
theorem jGM {tA:TT}(ha:JT X a tA):JT X (.UnaryOp .Not a pos) (tNot tA):=⟨jSG ha.h⟩
theorem kX:JTs X [] yG:=⟨jL0⟩
theorem jAW {t:TT}(h:JT X e t):JTs X [e] t:=⟨jKZ h.h⟩
theorem jN {i:Nat}(hN:X.N.Nodup)(hi:X.N[i]?=some x)(hx:Loc1 X x):JG X (.Name x pos) (kQ i):=⟨jEZ hN hi hx.a hx.b⟩
theorem jA2 {tg:Expr}(hg:Gl1 X "range")(hm:X.mg "range" =none)(ha:JA X [a] t)(hs:starEach [a] X.env=(false,eval a X.env)::starEach [] X.env):JI X tg (.Call (.Name "range" p) [a] [] pos) (iRng1 t):=⟨jBQ hg.a hm ha.h hs⟩
theorem kT {tg:Expr}(hl:JE X a ta):JI X tg a (iList X.K ta):=⟨jQC hl.h⟩
theorem jM1 {tg:Expr}(hl:JE X a ta):JI X tg a (iTup X.K ta):=⟨jSL hl.h⟩
theorem jGN {elts:List Expr}{x1:Nat}{tp:Pos}(hg:Gl1 X "zip")(hm:X.mg "zip" =none)(ha:JA X [a,b] t)(he:starEach [a,b] X.env=(false,eval a X.env)::starEach [b] X.env)(hv:bootBuiltins "zip" =some (.type "zip"):=by decide+kernel)
  (hpl:(backTo pos (starEach [b] X.env)).any (·.1)=false:=by rfl):JI X (.Tuple elts x1 tp) (.Call (.Name "zip" p) [a,b] [] pos) (iZip X.K t):=⟨jSK hg.a hm ha.h hv he hpl⟩
theorem jFD:JO X none jEL:=⟨jQ9⟩
theorem jFC (h:JE X e te):JO X (some e) (tPart te):=⟨jQ8 h.h⟩
theorem jE {i:Nat}{pos':Pos}(hN:X.N.Nodup)(hi:X.N[i]?=some x)(hx:Loc1 X x)(he:JE X e te)(hs:SwOk e (some (.Name x pos'))):JS X (.Assign [.Name x pos'] e pos) (tAsg te (kQ i)):=⟨yV hN hi hx.a he.h (hs.h _ _) hx.b⟩
theorem jX (he:JE X e te):JS X (.Return (some e) pos) (tRet te):=⟨jCV he.h⟩
theorem jBH (he:JE X e te)(hs:SwOk e none):JS X (.Expr e pos) (tDrop te):=⟨jQ5 he.h (hs.h _ _)⟩
theorem yA:JSs X [] tNext:=⟨jEY⟩
theorem jB {st:Stmt}{t:TS}(h1:JS X st t):JSs X [st] t:=⟨jAT h1.h⟩
theorem j9 {st:Stmt}{rest:List Stmt}{t u:TS}(h1:JS X st t)(h2:JSs X rest u):JSs X (st::rest) (tSeq t u):=⟨kR h1.h h2.h⟩
theorem yX {c:Expr}{a b:List Stmt}{tc:TT}{t u:TS}(hc:JT X c tc)(ha:JSs X a t)(hb:JSs X b u):JS X (.If c a b pos) (tIfS tc t u):=⟨ps_if hc.h ha.h hb.h⟩
theorem yO {tg iter:Expr}{body:List Stmt}{wi:TI}{g:TG}{tb:TS}(hp:PassesOwn (model X.prog X.w) X.A X.env X.xe)(hc:X.calm=true)(hi:JI X tg iter wi)(hg:JG X tg g)(hb:JSs X body tb)(hs:FoOk iter):JS X (.For tg iter body [] pos) (tFor wi g tb):=⟨jP0 hp hc hi.h hg.h hb.h (hs.h _)⟩
theorem je_bm {T:String}{name:Str}{r}(pa:PlainAttrs T)(slot:Slot T name id)(hty:typeOf (.builtin id)=pure (.type "method_descriptor"))(hm:MtR X id r)(ho:JE X o to)(ha:JA X (e::es) t)
  (hs:starEach (e::es) X.env=(false,eval e X.env)::starEach es X.env)
  (hbase:attributeBase o name X.env (eval o X.env)=eval o X.env:=by rfl)
  (hfew:((backTo cpos (starEach (e::es) X.env)).all (fun x=>!x.1)&&(backToKw cpos (keywordEach [] X.env)).all (fun x=>x.1.isSome)
   &&decide ((e::es).length+([]:List Keyword).length+(if ([]:List Keyword).isEmpty then 0 else 1)<30))=true:=by rfl)
  (hline:(apos.endLine==cpos.line)=true:=by rfl) (hplain:(backTo cpos (starEach es X.env)).any (·.1)=false:=by rfl):
  JE X (.Call (.Attribute o name apos) (e::es) [] cpos) (tBM X.K T r to t):=⟨pe_bm pa slot hty hm ho.h ha.h hbase hfew hline hs hplain⟩
theorem kU {tg iter elt:Expr}{ifs:List Expr}{sc:Scope}{wi:TI}{g:TG}{tt:TT}{m:List (Option Nat)}{Nc:List Str}(hc:X.calm=true)(hi:JI X tg iter wi)(hkind:sc.kind= .function)(hcell:∀ y∈sc.names,y.2≠ .cell)(hnames:∀ y∈sc.names,y.2= .local->sc.names.lookup y.1=some .local)
  (hfree:∀ y∈sc.names,y.2= .free->X.env.scope.names.lookup y.1=some .cell\/X.env.scope.names.lookup y.1=some .free) (hm:jD0 X sc Nc m)
  (hg:∀ cl C fp s H,JG (blk X sc cl C Nc fp s H) tg g) (ht:∀ cl C fp s H,JTs (blk X sc cl C Nc fp s H) ifs tt) (he:∀ cl C fp s H,JE (blk X sc cl C Nc fp s H) elt te)
  (hs:FoOk iter):JE X (.ListComp elt [⟨tg,iter,ifs,0⟩] sc pos) (tComp m wi g tt te):=⟨jHN hc hi.h hkind hcell hnames hfree hm (fun cl C fp s H=>(hg cl C fp s H).h) (fun cl C fp s H=>(ht cl C fp s H).h) (fun cl C fp s H=>(he cl C fp s H).h) (hs.h _)⟩
theorem jTN {p1 p2 p3 p4 p5 p6 p7:Pos}{k1 k2 k3 k4:Nat} :JE X (.BinOp (.BinOp (.Constant (.int 2) k1 p1) .Mult (.BinOp (.Constant (.int 10) k2 p2) .Pow (.Constant (.int 12) k3 p3) p4) p5) .Add (.Constant (.int 1) k4 p6) p7) (tC (.int 2000000000001)):=⟨jST⟩
end
variable {P:Program}{mg:Str->Option Value}{base:Heap}{N:List Str}{qual:Str}{sc:Scope}{f:Addr}{cdv:Value}{outer:List Env}{H:Hp}{E:XK}
section
variable {K:W.Frag}
theorem gl_d (h:sc.names.lookup x=some .globalImplicit):Gl1 (cxOf CX0 P w K mg base N qual sc f cdv A outer s H E).nox x:=⟨h⟩
theorem gD (h:sc.names.lookup x=some .globalImplicit:=by decide+kernel):Gl1 (cxOf CX0 P w K mg base N qual sc f cdv A outer s H E).nox x:=gl_d h
theorem vis_l (h:sc.names.lookup x=some .local):Vis1 (cxOf CX0 P w K mg base N qual sc f cdv A outer s H E).nox x:=⟨.inl h⟩
theorem vL (h:sc.names.lookup x=some .local:=by decide+kernel):Vis1 (cxOf CX0 P w K mg base N qual sc f cdv A outer s H E).nox x:=vis_l h
theorem vis_c (h:sc.names.lookup x=some .cell):Vis1 (cxOf CX0 P w K mg base N qual sc f cdv A outer s H E).nox x:=⟨.inr (.inl h)⟩
theorem vC (h:sc.names.lookup x=some .cell:=by decide+kernel):Vis1 (cxOf CX0 P w K mg base N qual sc f cdv A outer s H E).nox x:=vis_c h
end
theorem jAM {env:Env}{x:Str}{k:NameKind}(hk:k≠ .free):∀ {l:List (Str×NameKind)},l.lookup x=some k->
  (l.map fun (n,k)=>if (k==NameKind.free&&env.scope.kind== .function&&env.kindOf n==some .cell) then (n,NameKind.cell) else (n,k)).lookup x=some k
 | [],h=>by cases h
 | (n,k')::r,h=>by
  have ih:= @jAM env x k hk r
  rw[bE] at h
  rw[bi]
  dsimp only
  by_cases hb:(k'==NameKind.free&&env.scope.kind== .function&&env.kindOf n==some .cell)=true
  ·rw[ak hb,bE]
   cases hx:x==n with
   | true=>
    rw[hx] at h
    have e:k'=k:=br h
    simp only [bD] at hb
    exact absurd (e.symm.trans (eq_of_beq hb.1.1)) hk
   | false=>rw[hx] at h; exact ih h
  ·rw[aj hb,bE]
   cases hx:x==n with
   | true=>rw[hx] at h; exact h
   | false=>rw[hx] at h; exact ih h
variable {cl:List (Str×Addr)}{C:Addr}{Nc:List Str}{fp:List Addr}
theorem gl_b (h:sc.names.lookup x=some .globalImplicit:=by decide+kernel):Gl1 (blk X sc cl C Nc fp s H) x:=⟨jAM (by decide) h⟩
theorem jL (h:sc.names.lookup x=some .local:=by decide+kernel):Vis1 (blk X sc cl C Nc fp s H) x:=⟨.inl (jAM (by decide) h)⟩
theorem kN (h:sc.names.lookup x=some .free:=by decide+kernel):Vis1 (blk X sc cl C Nc fp s H) x:=⟨.inr (jCI h)⟩
theorem yH (h:sc.names.lookup x=some .local:=by decide+kernel):Loc1 (blk X sc cl C Nc fp s H) x:=⟨.inl (jAM (by decide) h), .inr (jAM (by decide) h)⟩
section
variable {K:W.Frag}
theorem loc_l (h:sc.names.lookup x=some .local):Loc1 (cxOf CX0 P w K mg base N qual sc f cdv A outer s H E).nox x:=⟨.inl h, .inl rfl⟩
theorem lL (h:sc.names.lookup x=some .local:=by decide+kernel):Loc1 (cxOf CX0 P w K mg base N qual sc f cdv A outer s H E).nox x:=loc_l h
theorem qA (h:sc.names.lookup x=some .cell:=by decide+kernel):Loc1 (cxOf CX0 P w K mg base N qual sc f cdv A outer s H E).nox x:=⟨.inr h, .inl rfl⟩
end
structure JW (X:Cx)(e:Expr)(t:TT):Prop where
 h:PW X e t
section
variable {rest:List Expr}{tA tB':TT}
theorem jLY (ha:JT X a tA):JW X (.BoolOp .And [a] pos) tA:=⟨jQ2 ha.h⟩
theorem jIX (ha:JT X a tA):JW X (.BoolOp .Or [a] pos) tA:=⟨jSC ha.h⟩
theorem jPA (ha:JT X a tA)(hb:JW X (.BoolOp .And (b::rest) pos) tB'):JW X (.BoolOp .And (a::b::rest) pos) (tAnd tA tB'):=⟨jSE ha.h hb.h⟩
theorem jw_or (ha:JT X a tA)(hb:JW X (.BoolOp .Or (b::rest) pos) tB'):JW X (.BoolOp .Or (a::b::rest) pos) (tOr tA tB'):=⟨pw_or ha.h hb.h⟩
theorem jt_w (h:JW X a tA):JT X a tA:=⟨h.h.pt⟩
theorem jHX:JGs X [] gNil:=⟨jQE⟩
structure AsOk (e:Expr):Prop where
 h:∀ es env,assignEach (e::es) env=(false,assign e env)::assignEach es env
theorem jCN {x:Str} :AsOk (.Name x pos):=⟨fun _ _=>rfl⟩
theorem jB5 {e:Expr}{es:List Expr}{t:TG}{u:TGs}(h1:JG X e t)(h2:JGs X es u)(hs:AsOk e):JGs X (e::es) (qH t u):=⟨jNP h1.h h2.h (by rw[hs.h]; rfl)⟩
theorem jM3 {es:List Expr}{k:Nat}{t:TGs}{n:Nat}(hc:X.calm=true)(h:JGs X es t)(hn:(assignEach es X.env).length=n:=by rfl)(hst:(assignEach es X.env).findIdx? (·.1)=none:=by rfl):JG X (.Tuple es k pos) (gTup X.K n t):=⟨jSN hc h.h hn hst⟩
theorem jLF {op:CmpOp}{x:Str} :behindInMarks op (.Name x pos)=false:=by cases op <;> rfl
end
theorem jAB {X:Cx}{sc:Scope}{cl:List (Str×Addr)}{C:Addr}{Nc:List Str}{fp:List Addr}{s:Shared}{H:Hp}{x y:Str}{p1 p2 pos:Pos}{k:Nat}{i j:Nat}(hc:X.calm=true)(hN:Nc.Nodup)(hi:Nc[i]?=some x)(hj:Nc[j]?=some y)(hx:sc.names.lookup x=some .local)(hy:sc.names.lookup y=some .local):
  JG (blk X sc cl C Nc fp s H) (.Tuple [.Name x p1, .Name y p2] k pos) (gTup X.K 2 (qH (kQ i) (qH (kQ j) gNil))):=
 jM3 (X:=blk X sc cl C Nc fp s H) hc (jB5 (jN hN hi (yH hx)) (jB5 (jN hN hj (yH hy)) jHX jCN) jCN)
variable {m:List (Option Nat)}{g:TG}{tt:TT}{H1:Hp}{Q:VK}
section
variable {K:W.Frag}{σ:St}
theorem jFK {t1 t2:Bool}{l1 l2:Addr}{xs ys:List V}(hn:xs.length<sizeLine)(Pv:Addr->Nat->St->Hp->List V->Prop)(h0:∀ D,H1 D=none->Pv D 0 (blkσ m σ) (upd H1 D (.lst [])) [])
  (hD:∀ D i σ' H' zs,H1 D=none->Pv D i σ' H' zs->Sq t1 K H' l1 xs/\Sq t2 K H' l2 ys/\H' D=some (.lst zs)/\zs.length<=i)
  (hs:∀ D i σ' H' zs x y T,H1 D=none->xs[i]?=some x->ys[i]?=some y->H' T=none->Pv D i σ' H' zs->g (.ref T) σ' (upd H' T (.tup [x,y])) fun σ2 H2=>tt σ2 H2 fun b H3=>if b=true then te σ2 H3 fun v H4=>H4 D=some (.lst zs)/\Pv D (i+1) σ2 (upd H4 D (.lst (zs++[v]))) (zs++[v]) else Pv D (i+1) σ2 H3 zs)
  (hd:∀ D σ' H' zs,H1 D=none->Pv D (min xs.length ys.length) σ' H' zs->Q (.ref D) H'):qB m g tt te σ Q (Itz t1 t2 K l1 l2) H1:=by
 intro D hDn
 refine⟨fun i k σ' H' zs=>k=min xs.length ys.length - i/\i<=min xs.length ys.length/\Pv D i σ' H' zs,⟨_,rfl,ba _,h0 D hDn⟩,?_⟩
 rintro i k σ' H' zs ⟨rfl,hi,p⟩
 obtain⟨s1,s2,q1,q2⟩:=hD D i σ' H' zs hDn p
 refine⟨q1,by lia,?_⟩
 by_cases hlt:i<min xs.length ys.length
 ·have a1:i<xs.length:=by lia
  have a2:i<ys.length:=by lia
  refine .inr ⟨⟨xs,ys,xs[i],ys[i],s1,s2,by simp [a1],by simp [a2]⟩,Pv D (i+1),fun σ2 H2 zs z=>⟨min xs.length ys.length - (i+1),by lia,rfl,hlt,z⟩,fun v H'' y=>?_⟩
  obtain⟨T,x,y,e1,e2,e3,e4⟩:=y
  subst e2 e3
  obtain⟨z1,z2⟩:=e4 xs ys s1 s2
  exact hs D i σ' _ zs x y T hDn z1 z2 e1 p
 ·have e:i=min xs.length ys.length:=by lia
  subst e
  exact .inl ⟨⟨xs,ys,s1,s2,by lia⟩,hd D σ' H' zs hDn p⟩
end
theorem jF2:OpR (blk X sc cl C Nc fp s H) (compareOp .In) (rIn X.K false):=jL7
theorem jJN:OpR (blk X sc cl C Nc fp s H) (compareOp .NotIn) (rIn X.K true):=jGD
theorem jA6:IxR (blk X sc cl C Nc fp s H) (rIxL X.K):=yB
theorem jBX:IxR (blk X sc cl C Nc fp s H) (rIxT X.K):=kL
def Ext (H H':Hp):Prop:=∀ b o,H b=some o->H' b=some o
theorem Ext.refl (H:Hp):Ext H H:=fun _ _ h=>h
theorem Ext.trans {H H1 H2:Hp}(a:Ext H H1)(b:Ext H1 H2):Ext H H2:=fun c o h=>b c o (a c o h)
theorem Ext.new {H H1:Hp}{l:Addr}(a:Ext H H1)(hl:H1 l=none)(o:HO):Ext H (upd H1 l o):=fun c u h=>by
 have:=a c u h
 rw[j7 (jA this hl)]
 exact this
theorem Ext.updNew {H H1:Hp}{l:Addr}(a:Ext H H1)(hl:H l=none)(o:HO):Ext H (upd H1 l o):=fun c u h=>by
 rw[j7 (jA h hl)]
 exact a c u h
def TupR (H:Hp)(xs:List V)(Q:VK):Prop:=∀ r H',H' r=some (.tup xs)->Ext H H'->Q (.ref r) H'
theorem TupR.new {H:Hp}{xs:List V}{Q:VK}(q:TupR H xs Q){p:Addr}(hp:H p=none):Q (.ref p) (upd H p (.tup xs)):=q p _ j5 ((Ext.refl H).new hp _)
theorem TupR.old {H:Hp}{xs:List V}{Q:VK}(q:TupR H xs Q){p:Addr}(hp:H p=some (.tup xs)):Q (.ref p) H:=q p H hp (Ext.refl H)
def rCatU:R2:=fun x y H Q=>∃ a b xs ys,x= .ref a/\y= .ref b/\H a=some (.tup xs)/\H b=some (.tup ys)/\xs.length+ys.length<=sizeLine/\TupR H (xs++ys) Q
theorem jL8:OpR X (binaryOp .Add) rCatU:=by
 intro ad s σ H x y v u Q I rx ry h
 obtain⟨a,b,xs,ys,rfl,rfl,ha,hb,hz,q⟩:=h
 by_cases hx:xs=[]
 ·subst hx
  cases rx
  cases ry
  obtain⟨_,its,r1,n1,e1⟩:=I.hok a _ ha
  obtain⟨_,its2,r2,n2,e2⟩:=I.hok b _ hb
  cases r1
  exact concat_meets ⟨_,e1,rfl⟩ ⟨_,e2,rfl⟩ iK seq_tuple_add gd fZ (fw _ _) (AutoSeq1.tuple___add___tuple_tuple_0 a _ n1 b its2.toArray n2 (by simp)) ⟨e1,e2, .ref b,H,I,rfl,q.old hb⟩
 ·refine jQP ad s σ H _ _ v u Q I rx ry ⟨a,b,xs,ys,rfl,rfl,SqT.of ha,SqT.of hb,hx,hz,fun e=>?_,fun _ p hp=>q.new hp⟩
  subst e
  rw[bg] at q
  exact q.old ha
theorem jD1:fillsNumberSlot (.type "tuple") "mul" =pure false:=
 PySem.fillsNumberSlot_seq (id:= "tuple.__mul__") (r:=some (.builtin "tuple.__rmul__")) iW.lookup (by decide+kernel) iP.lookup (by decide+kernel)
theorem jG7:seqRepeat? (.type "tuple")=pure (some (.builtin "tuple.__mul__")):=by
 unfold seqRepeat?
 rw[PySem.seqSlot_of (T:= "tuple") (name:= "__mul__") (id:= "tuple.__mul__") iW.lookup (by decide+kernel),PySem.seqSlot_of (T:= "tuple") (name:= "__rmul__") (id:= "tuple.__rmul__") iP.lookup (by decide+kernel)]
 rfl
theorem jJJ (a:Int)(t:Tok)(l:Addr)(items:Array Value)(n:Nat):
  Meets (Builtin.«int.__rmul__» ⟨[.int a t, .ref l],[]⟩) (fun _ R s=>s.heap.get? l=some { cls:= .type "tuple",dict:=none,data:= .seq items n,slots:=#[]} /\R (.ok (.ret Value.notImplemented)) s):=
 .of_wp fun prog w A R s h=>by
  obtain⟨hp,g,d,tk,os⟩:=s
  obtain⟨hl,h⟩:=h
  wp_walk
  exact⟨_,rfl,h⟩
section
variable (l:Addr)(items:Array Value)(n:Nat)(x:Int)(u:Tok)(h1:¬ (decide (x< -(2 ^ 63)) || decide (x ≥ 2 ^ 63))=true)
include h1
theorem jJS (h2:(items.isEmpty || x==1)=true):
  Meets (Builtin.«tuple.__mul__» ⟨[.ref l, .int x u],[]⟩) (fun _ R s=>s.heap.get? l=some { cls:= .type "tuple",dict:=none,data:= .seq items n,slots:=#[]} /\R (.ok (.ret (.ref l))) s):=
 .of_wp fun prog w A R s h=>by
  obtain⟨hp,g,d,tk,os⟩:=s
  obtain⟨hl,h⟩:=h
  have f1:=iQ
  wp_walk using ck hl
  refine gN (aH h1) ?_
  wp_walk using ck hl
  exact⟨_,rfl,h⟩
theorem jJR (h2:¬ (items.isEmpty || x==1)=true)(h3:(decide (x<=0) || items.isEmpty)=true):
  Meets (Builtin.«tuple.__mul__» ⟨[.ref l, .int x u],[]⟩) (fun _ R s=>s.heap.get? l=some { cls:= .type "tuple",dict:=none,data:= .seq items n,slots:=#[]} /\R (.ok (.ret (.ref s.heap.objs.size))) { s with heap:=s.heap.push { cls:= .type "tuple",data:= .seq #[]}}):=
 .of_wp fun prog w A R s h=>by
  obtain⟨hp,g,d,tk,os⟩:=s
  obtain⟨hl,h⟩:=h
  have f1:=iQ
  wp_walk using ck hl
  refine gN (aH h1) ?_
  wp_walk using ck hl
  exact⟨_,rfl,h⟩
theorem jJQ (h2:¬ (items.isEmpty || x==1)=true)(h3:¬ (decide (x<=0) || items.isEmpty)=true)(h4:¬ (items.size:Int)*x>(2 ^ 63 - 1) / 8)(h5:¬ Builtin.Tuple.tupleTooMany ((items.size:Int)*x)=true)(h6:(List.foldl (fun x1 x2=>x1++x2) #[] (replicate x.toNat items)).size<=sizeLine):
  Meets (Builtin.«tuple.__mul__» ⟨[.ref l, .int x u],[]⟩) (fun _ R s=>s.heap.get? l=some { cls:= .type "tuple",dict:=none,data:= .seq items n,slots:=#[]} /\R (.ok (.ret (.ref s.heap.objs.size))) { s with heap:=s.heap.push { cls:= .type "tuple",data:= .seq (List.foldl (fun x1 x2=>x1++x2) #[] (replicate x.toNat items))}}):=
 .of_wp fun prog w A R s h=>by
  obtain⟨hp,g,d,tk,os⟩:=s
  obtain⟨hl,h⟩:=h
  have f1:=iQ
  wp_walk using ck hl
  refine gN (aH h1) ?_
  wp_walk using ck hl
  refine gN (aH h4) ?_
  wp_walk using ck hl
  exact⟨_,rfl,h⟩
end
def rRepT:R2:=fun x y H Q=>∃ a k xs,x= .ref a/\y= .int k/\H a=some (.tup xs)/\ -(2 ^ 63)<=k/\k<2 ^ 63/\xs.length*k.toNat<=sizeLine/\TupR H (replicate k.toNat xs).flatten Q
theorem jQN:OpR X (binaryOp .Mult) rRepT:=by
 intro ad s σ H x y v u Q I rx ry h
 obtain⟨a,k,xs,rfl,rfl,ha,h1,h2,hz,q⟩:=h
 cases rx
 obtain⟨t,rfl⟩:=ry
 obtain⟨_,its,r,n,e⟩:=I.hok a _ ha
 have hl:=r.length
 have fit:¬ (decide (k< -(2 ^ 63)) || decide (k ≥ 2 ^ 63))=true:=by
  simp only [fO,ix]
  lia
 refine ik (T:= "tuple") (U:= "int") (by decide) ⟨_,e,rfl⟩ (fun s'=>iT s' k t) jD1 F.fills_int_mul F.slot_int_rmul jG7 F.slot_int_index.lookup
  (eR F.slot_int_rmul (iT s k t) F.entry_int_rmul (F.args_int_rmul_2 _ _) (jJJ k t a its.toArray n) ⟨e,rfl,⟨_,e,rfl⟩,?_⟩)
 have hsl:(sizeLine:Nat)<=(2 ^ 63 - 1) / 8:=by decide
 by_cases c1:(its.toArray.isEmpty || k==1)=true
 ·refine eR F.slot_tuple_mul ⟨_,e,rfl⟩ F.entry_tuple_mul (F.args_tuple_mul_2 _ _) (jJS a its.toArray n k t fit c1) ⟨e, .ref a,H,I,rfl,q.old ?_⟩
  rw[ha]
  congr 2
  rw[fO] at c1
  rcases c1 with c | c
  ·have:its=[]:=by simpa using c
   subst this
   have:xs=[]:=by simpa using hl
   subst this
   simp
  ·have:k=1:=eq_of_beq c
   subst this
   show xs=(replicate 1 xs).flatten
   simp
 ·by_cases c2:(decide (k<=0) || its.toArray.isEmpty)=true
  ·refine eR F.slot_tuple_mul ⟨_,e,rfl⟩ F.entry_tuple_mul (F.args_tuple_mul_2 _ _) (jJR a its.toArray n k t fit c1 c2) ⟨e,?_⟩
   refine⟨.ref s.heap.objs.size,_,I.laid (t':=s.toks) (o:= .tup []) (fun b ob q=>ae _ q) (ai _) ⟨ba _,[], .nil,TupO.new _ _⟩,rfl,?_⟩
   have k0:k.toNat=0:=by
    rw[fO] at c2
    rcases c2 with c | c
    ·have:=aP c
     lia
    ·exact absurd (by rw[c]; rfl) c1
   have e0:(replicate k.toNat xs).flatten=[]:=by rw[k0]; rfl
   rw[e0] at q
   exact q.new (I.hok.fresh (ai _))
  ·have f0:List.foldl (fun x1 x2=>x1++x2) #[] (replicate k.toNat its.toArray)=(replicate k.toNat its).flatten.toArray:=by
    have:=jDU its k.toNat []
    rw[gL] at this
    exact this
   have kp:0<k:=by
    simp only [fO,ix,lw] at c2
    lia
   have ek:((its.toArray.size:Nat):Int)*k=((xs.length*k.toNat:Nat):Int):=by
    rw[aK,<- hl,Int.natCast_mul]
    congr 1
    lia
   refine eR F.slot_tuple_mul ⟨_,e,rfl⟩ F.entry_tuple_mul (F.args_tuple_mul_2 _ _) (jJQ a its.toArray n k t fit c1 c2 (by rw[ek]; lia) ?_ ?_) ⟨e,?_⟩
   ·rw[ek]
    unfold Builtin.Tuple.tupleTooMany
    simp only [ix]
    lia
   ·rw[f0,aK,jHU,<- hl,gf]
    exact hz
   ·rw[f0]
    exact⟨.ref s.heap.objs.size,_,I.laid (t':=s.toks) (o:= .tup (replicate k.toNat xs).flatten) (fun b ob q=>ae _ q) (ai _) ⟨by rw[jHU,gf]; exact hz,_,r.rep k.toNat,TupO.new _ _⟩,rfl,q.new (I.hok.fresh (ai _))⟩
theorem Inv.big' {ad:List (Addr×Obj)}{σ:St}{H:Hp}{s:Shared}(I:Inv X ad σ H s):sysModules<s.heap.objs.size:=gX (by decide) (I.mod.glob.keeps I.bk).lt
def jS3:TE:=fun _ H Q=>∀ p,H p=none->Q (.ref p) (upd H p (.dK []))
theorem jOA {pos:Pos} :JE X (.Dict [] [] pos) jS3:=⟨fun ad s σ H Q I h=>
 wpAny_Dict_empty ⟨.ref s.heap.objs.size,_,I.laid (a:=s.heap.objs.size) (o:= .dK []) (t':=s.toks) (fun _ _ q=>ae _ q) (ai _)
  ⟨ba _,dB.mpr (dZ (aV I.big')),[], .nil,Heap.DictOf.new s.heap⟩,rfl,h _ (I.hok.fresh (ai _))⟩⟩
theorem jPB {tg e:Expr}{te:TE}{g:TG}{pos:Pos}(he:JE X e te)(hg:JG X tg g)(hs:swapsWithSole [tg] e pos.line X.env=pure false:=by rfl)(hw:swappedStores [tg] e X.env=pure none:=by rfl)
  (h1:(assignEach [tg] X.env).map (·.2)=[assign tg X.env]:=by rfl):JS X (.Assign [tg] e pos) (tAsg te g):=⟨jP1 he.h hg.h hs hw h1⟩
section
variable {K:W.Frag}{σ:St}
theorem jFL {a:Addr}{xs:List V}(hn:xs.length<sizeLine)(Pv:Addr->Nat->St->Hp->List V->Prop)(h0:∀ D,H1 D=none->Pv D 0 (blkσ m σ) (upd H1 D (.lst [])) [])
  (hD:∀ D i σ' H' zs,H1 D=none->Pv D i σ' H' zs->H' a=some (.tup xs)/\H' D=some (.lst zs)/\zs.length<=i)
  (hs:∀ D i σ' H' zs x,H1 D=none->xs[i]?=some x->Pv D i σ' H' zs->g x σ' H' fun σ2 H2=>tt σ2 H2 fun b H3=>if b=true then te σ2 H3 fun v H4=>H4 D=some (.lst zs)/\Pv D (i+1) σ2 (upd H4 D (.lst (zs++[v]))) (zs++[v]) else Pv D (i+1) σ2 H3 zs)
  (hd:∀ D σ' H' zs,H1 D=none->Pv D xs.length σ' H' zs->Q (.ref D) H'):qB m g tt te σ Q (Itt K a) H1:=by
 intro D hDn
 refine⟨fun i k σ' H' zs=>k=xs.length - i/\i<=xs.length/\Pv D i σ' H' zs,⟨_,rfl,ba _,h0 D hDn⟩,?_⟩
 rintro i k σ' H' zs ⟨rfl,hi,p⟩
 obtain⟨s1,q1,q2⟩:=hD D i σ' H' zs hDn p
 refine⟨q1,by lia,?_⟩
 by_cases hlt:i<xs.length
 ·refine .inr ⟨⟨xs,xs[i],SqT.of s1,by simp [hlt]⟩,Pv D (i+1),fun σ2 H2 zs z=>⟨xs.length - (i+1),by lia,rfl,hlt,z⟩,fun v H'' y=>?_⟩
  obtain⟨e1,e2⟩:=y
  subst e1
  exact hs D i σ' _ zs v hDn (e2 xs (SqT.of s1)) p
 ·have e:i=xs.length:=by lia
  subst e
  exact .inl ⟨⟨xs,SqT.of s1,ai _⟩,hd D σ' H' zs hDn p⟩
end
inductive Tr where
 | non
 | bl (b:Bool)
 | int (i:Int)
 | str (x:Str)
 | lst (ts:List Tr)
 | tup (ts:List Tr)
mutual
def TAt (H:Hp):Tr->V->Prop
 | .non,v=>v= .non
 | .bl b,v=>v= .bl b
 | .int i,v=>v= .int i
 | .str x,v=>v= .str x
 | .lst ts,v=>∃ a vs,v= .ref a/\H a=some (.lst vs)/\TsAt H ts vs
 | .tup ts,v=>∃ a vs,v= .ref a/\H a=some (.tup vs)/\TsAt H ts vs
def TsAt (H:Hp):List Tr->List V->Prop
 | [],vs=>vs=[]
 | t::ts,vs=>∃ v r,vs=v::r/\TAt H t v/\TsAt H ts r
end
mutual
def dep:Tr->Nat
 | .lst ts=>deps ts+1
 | .tup ts=>deps ts+1
 | _=>0
def deps:List Tr->Nat
 | []=>0
 | t::ts=>max (dep t) (deps ts)
end
mutual
def eqT:Tr->Tr->Bool
 | .non, .non=>true
 | .bl a, .bl b=>a==b
 | .bl a, .int b=>(if a then 1 else 0)==b
 | .int a, .bl b=>a==(if b then 1 else 0)
 | .int a, .int b=>a==b
 | .str a, .str b=>a==b
 | .lst a, .lst b=>eqTs a b
 | .tup a, .tup b=>eqTs a b
 | _,_=>false
def eqTs:List Tr->List Tr->Bool
 | [],[]=>true
 | a::as,b::bs=>eqT a b&&eqTs as bs
 | _,_=>false
end
mutual
theorem jOG:∀ t:Tr,eqT t t=true
 | .non=>by simp [eqT]
 | .bl b=>by simp [eqT]
 | .int i=>by simp [eqT]
 | .str x=>by simp [eqT]
 | .lst ts=>by rw[eqT]; exact jDW ts
 | .tup ts=>by rw[eqT]; exact jDW ts
theorem jDW:∀ ts:List Tr,eqTs ts ts=true
 | []=>by simp [eqTs]
 | t::ts=>by rw[eqTs,jOG t,jDW ts]; rfl
end
mutual
theorem TAt.ext {H H':Hp}(e:Ext H H'):∀ {t:Tr}{v:V},TAt H t v->TAt H' t v
 | .non,_,h=>h
 | .bl _,_,h=>h
 | .int _,_,h=>h
 | .str _,_,h=>h
 | .lst ts,_,⟨a,vs,q,h,r⟩=>⟨a,vs,q,e _ _ h,TsAt.ext e r⟩
 | .tup ts,_,⟨a,vs,q,h,r⟩=>⟨a,vs,q,e _ _ h,TsAt.ext e r⟩
theorem TsAt.ext {H H':Hp}(e:Ext H H'):∀ {ts:List Tr}{vs:List V},TsAt H ts vs->TsAt H' ts vs
 | [],_,h=>h
 | t::ts,_,⟨v,r,q,h,s⟩=>⟨v,r,q,TAt.ext e h,TsAt.ext e s⟩
end
mutual
theorem TAt.inj {H:Hp} :∀ {t u:Tr}{v:V},TAt H t v->TAt H u v->t=u
 | .non,u,_,h,h'=>by
  cases (show _=V.non from h)
  cases u with
  | non=>rfl
  | bl b=>cases (show V.non=_ from h')
  | int b=>cases (show V.non=_ from h')
  | str b=>cases (show V.non=_ from h')
  | lst ts=>obtain⟨_,_,q,_⟩:=h'; cases q
  | tup ts=>obtain⟨_,_,q,_⟩:=h'; cases q
 | .bl b,u,_,h,h'=>by
  cases (show _=V.bl b from h)
  cases u with
  | non=>cases (show V.bl b=_ from h')
  | bl b=>cases (show V.bl _=V.bl b from h'); rfl
  | int i=>cases (show V.bl b=V.int i from h')
  | str i=>cases (show V.bl b=V.str i from h')
  | lst ts=>obtain⟨_,_,q,_⟩:=h'; cases q
  | tup ts=>obtain⟨_,_,q,_⟩:=h'; cases q
 | .int b,u,_,h,h'=>by
  cases (show _=V.int b from h)
  cases u with
  | non=>cases (show V.int b=_ from h')
  | bl i=>cases (show V.int b=V.bl i from h')
  | int b=>cases (show V.int _=V.int b from h'); rfl
  | str i=>cases (show V.int b=V.str i from h')
  | lst ts=>obtain⟨_,_,q,_⟩:=h'; cases q
  | tup ts=>obtain⟨_,_,q,_⟩:=h'; cases q
 | .str b,u,_,h,h'=>by
  cases (show _=V.str b from h)
  cases u with
  | non=>cases (show V.str b=_ from h')
  | bl i=>cases (show V.str b=V.bl i from h')
  | int i=>cases (show V.str b=V.int i from h')
  | str b=>cases (show V.str _=V.str b from h'); rfl
  | lst ts=>obtain⟨_,_,q,_⟩:=h'; cases q
  | tup ts=>obtain⟨_,_,q,_⟩:=h'; cases q
 | .lst ts,u,_,⟨a,vs,q,h,r⟩,h'=>by
  subst q
  cases u with
  | non=>cases (show V.ref a=_ from h')
  | bl i=>cases (show V.ref a=V.bl i from h')
  | int i=>cases (show V.ref a=V.int i from h')
  | str i=>cases (show V.ref a=V.str i from h')
  | lst us=>
   obtain⟨a',vs',q',h2,r'⟩:=h'
   cases q'
   rw[h] at h2
   cases h2
   rw[TsAt.inj r r']
  | tup us=>
   obtain⟨a',vs',q',h2,r'⟩:=h'
   cases q'
   rw[h] at h2
   cases h2
 | .tup ts,u,_,⟨a,vs,q,h,r⟩,h'=>by
  subst q
  cases u with
  | non=>cases (show V.ref a=_ from h')
  | bl i=>cases (show V.ref a=V.bl i from h')
  | int i=>cases (show V.ref a=V.int i from h')
  | str i=>cases (show V.ref a=V.str i from h')
  | lst us=>
   obtain⟨a',vs',q',h2,r'⟩:=h'
   cases q'
   rw[h] at h2
   cases h2
  | tup us=>
   obtain⟨a',vs',q',h2,r'⟩:=h'
   cases q'
   rw[h] at h2
   cases h2
   rw[TsAt.inj r r']
theorem TsAt.inj {H:Hp} :∀ {ts us:List Tr}{vs:List V},TsAt H ts vs->TsAt H us vs->ts=us
 | [],us,_,h,h'=>by
  cases (show _=[] from h)
  cases us with
  | nil=>rfl
  | cons u us=>obtain⟨_,_,q,_⟩:=h'; cases q
 | t::ts,us,_,⟨v,r,q,h,s⟩,h'=>by
  subst q
  cases us with
  | nil=>cases (show v::r=[] from h')
  | cons u us=>
   obtain⟨v',r',q,h2,s2⟩:=h'
   cases q
   rw[TAt.inj h h2,TsAt.inj s s2]
end
section
variable {ad:List (Addr×Obj)}{σ:St}
end
section
variable {tg iter elt:Expr}{ifs:List Expr}{wi:TI}
end
section
variable {sc2:Scope}{cl2:List (Str×Addr)}{C2:Addr}{Nc2:List Str}{fp2:List Addr}{s2:Shared}{H2:Hp}
end
theorem jGU:yN X (.builtin "sorted") (fun xs H Q=>∃ (p:Addr) (ks:List Int),xs=[.ref p]/\SqL X.K H p (ks.map V.int)/\ks.length<64/\
  ∀ (l:Addr) (ns:List Int),H l=none->ns.Pairwise (· <= ·)->ns.Perm ks->Q (.ref l) (upd H l (.lst (ns.map V.int)))):=by
 intro ad s σ H xs us Q I r h
 obtain⟨p,ks,rfl,hp,hn,q⟩:=h
 obtain⟨u,rfl,rx⟩:=r.one
 cases rx
 obtain⟨its,r',pl,hz⟩:=I.list hp
 have hlen:=r'.length
 rw[ab] at hlen
 refine sorted_ints pl.isList (jCO r') (by lia) fun out ns' a1 a2 a3=>?_
 obtain⟨e,he⟩:=sortedAll_at s.heap its out
 have hz:(ns'.map V.int).length<=sizeLine:=by
  rw[ab,a2.length_eq,fY]
  lia
 have I2:Inv X ad σ (upd H (s.heap.objs.size+1) (.lst (ns'.map V.int))) { s with heap:=sortedAll s.heap its out} :=I.laid (t':=s.toks) (fun b o e=>sortedAll_old e) (iu _) ⟨hz,out.toList,e,jAC a1,by rw[eh]; exact he⟩
 exact⟨.ref _,_,I2,rfl,q _ ns' (I.hok.fresh (iu _)) a3 a2⟩
theorem jBW {c:Expr}{body:List Stmt}{tc:TT}{tb:TS}{pos:Pos}(hp:PassesOwn (model X.prog X.w) X.A X.env X.xe)(hc:JT X c tc)(hb:JSs X body tb):JS X (.While c body [] pos) (jOV tc tb):=⟨jNM hp hc.h hb.h⟩
theorem jLE {op:CmpOp}{a b:Expr}{pos:Pos} :behindInMarks op (.Subscript a b pos)=false:=by cases op <;> rfl
end L2
namespace L2
open PySem
def LstR (H:Hp)(xs:List V)(Q:VK):Prop:=∀ r H',H' r=some (.lst xs)->Ext H H'->H r=none->Q (.ref r) H'
theorem LstR.new {H:Hp}{xs:List V}{Q:VK}(q:LstR H xs Q){p:Addr}(hp:H p=none):Q (.ref p) (upd H p (.lst xs)):=q p _ j5 ((Ext.refl H).new hp _) hp
def tTupU (t:TA):TE:=fun σ H Q=>t σ H fun xs H1=>xs.length<=sizeLine/\TupR H1 xs Q
def tLstU (t:TA):TE:=fun σ H Q=>t σ H fun xs H1=>xs.length<=sizeLine/\LstR H1 xs Q
section
variable {X:Cx}{es:List Expr}{t:TA}{pos:Pos}
theorem yK {x1}(h:JA X es t):JE X (.Tuple es x1 pos) (tTupU t):=⟨fun ad s σ H Q I hq=>by
 refine wpAny_Tuple_spliced (lC (h.h pos ad s σ H _ I hq) fun us s1 ⟨xs,H1,I1,r,z,q⟩=>⟨by rw[<- r.length]; exact z,?_⟩)
 have hf:H1 s1.heap.objs.size=none:=I1.hok.fresh (ai _)
 exact⟨.ref s1.heap.objs.size,upd H1 s1.heap.objs.size (.tup xs),I1.laid (t':=s1.toks) (fun b u e=>ae _ e) (ai _) ⟨z,us,r,TupO.new _ _⟩,rfl,q.new hf⟩⟩
theorem jAF (h:JA X es t):JE X (.List es pos) (tLstU t):=⟨fun ad s σ H Q I hq=>by
 refine wpAny_List_spliced (lC (h.h pos ad s σ H _ I hq) fun us s1 ⟨xs,H1,I1,r,z,q⟩=>⟨by rw[<- r.length]; exact z,?_⟩)
 have hf:H1 s1.heap.objs.size=none:=I1.hok.fresh (ai _)
 exact⟨.ref s1.heap.objs.size,upd H1 s1.heap.objs.size (.lst xs),I1.laid (t':=s1.toks) (fun b u e=>ae _ e) (ai _) ⟨z,us,0,r,aJ _ rfl⟩,rfl,q.new hf⟩⟩
theorem jF3:OpR X (binaryOp .Add) (fun x y H Q=>∃ l b xs zs,x= .ref l/\y= .ref b/\H l=some (.lst xs)/\H b=some (.lst zs)/\xs.length+zs.length<=sizeLine/\LstR H (xs++zs) Q):=by
 intro ad s σ H x y v u Q I rx ry h
 obtain⟨l,b,xs,zs,rfl,rfl,h1,h2,h3,q⟩:=h
 exact jSX ad s σ H _ _ v u Q I rx ry ⟨l,b,xs,zs,rfl,rfl,h1,h2,h3,fun p hp=>q.new hp⟩
end
end L2
namespace L2
open PySem PySem.Spec PyProof.Rows
variable {X:Cx}
theorem jPD {o i:Expr}{pos:Pos}{to ti:TE}{t:TSet}(ho:JE X o to)(hi:JE X i ti)(hs:PSet X t)
  (ha:∀ v,assign (.Subscript o i pos) X.env v=(do
   let ov <- holding [v] (eval o X.env)
   let iv <- holding [v,ov] (eval i X.env)
   standAt pos
   holding [v,ov,iv] (setItem ov iv v)
   release [v,ov,iv] []):=by intro _; rfl):JG X (.Subscript o i pos) (gSub to ti t):=⟨jP2 ho.h hi.h hs ha⟩
theorem jDM (ns:List Int):∀ j,preSum (fun i=>ns.getD i 0) j=(ns.take j).sum
 | 0=>rfl
 | j+1=>by
  rw[preSum,jDM ns j,be,eV]
  congr 1
  rw[af]
  cases ns[j]? with
  | none=>rfl
  | some z=>simp
section
def rSum (K:W.Frag):List V->Hp->VK->Prop:=fun xs H Q=>∃ (p:Addr) (ns:List Int),xs=[.ref p]/\(SqL K H p (ns.map V.int))/\Q (.int ns.sum) H
theorem jAP (hc:X.calm=true):yN X (.builtin "sum") (rSum X.K):=by
 intro ad s σ H xs us Q I r h
 obtain⟨p,ns,rfl,hq,q⟩:=h
 obtain⟨u,rfl,rx⟩:=r.one
 cases rx
 obtain⟨its,r',pl,hz⟩:=I.list hq
 have hlen:=r'.length
 rw[ab] at hlen
 refine call_sum_walkG (fe pl.isList ?_)
 have hne:p≠s.heap.objs.size:=by
  obtain⟨o,ho,_⟩:=pl.isList
  exact aV (aE ho)
 refine⟨s.heap.objs.size,_,_,_,_,_,fun i=>ns.getD i 0,rfl,Walks.list (by simpa using I.ok.hd hc) _ p hne its.toArray,⟨⟨_,aJ _ rfl,rfl,rfl⟩,pl.isList.push _⟩,(fun b hb=>?_),(fun i v hP=>?_),fun h' tk t' hk=>?_⟩
 ·show b<(s.heap.push _).objs.size
  rw[cq]
  obtain⟨o,ho,_⟩:=pl.isList
  have:=aE ho
  rcases aM.mp hb with rfl | hb
  ·exact dJ _
  ·rcases aM.mp hb with rfl | hb
   ·exact bJ this
   ·cases hb
 ·have hi:its[i]?=some v:=by simpa using hP
  have hb:i<ns.length:=by
   rw[hlen]
   exact(am.mp hi).1
  obtain⟨u,hu,ru⟩:=r'.get (i:=i) (x:= .int (ns[i])) (by simp [hb])
  rw[hi] at hu
  cases hu
  obtain⟨t,rfl⟩:=ru
  exact⟨t,by simp [List.getD,hb]⟩
 ·have e:preSum (fun i=>ns.getD i 0) its.toArray.size=ns.sum:=by
   rw[jDM,aK,<- hlen,bP]
  rw[e]
  exact⟨.int _,H,I.kept (t':=tk) fun b o e=>hk b o (by
   intro z
   have z:b=s.heap.objs.size:=by simpa using z
   exact absurd (aE e) (by rw[z]; exact da _)) (ae _ e),⟨_,rfl⟩,q⟩
variable {sc:Scope}{cl:List (Str×Addr)}{C:Addr}{Nc:List Str}{fp:List Addr}{s:Shared}{H:Hp}
end
theorem jK9 (a b:Nat):Builtin.bitAnd (a:Int) (b:Int)=((a&&&b:Nat):Int):=by
 unfold Builtin.bitAnd
 rw[aw (fS a),aw (fS b)]
 rfl
theorem jAQ (a b:Nat):Builtin.bitOr (a:Int) (b:Int)=((a|||b:Nat):Int):=by
 unfold Builtin.bitOr
 have ha:Builtin.bitNot (a:Int)= -(a:Int) - 1:=by unfold Builtin.bitNot; lia
 have hb:Builtin.bitNot (b:Int)= -(b:Int) - 1:=by unfold Builtin.bitNot; lia
 have na:¬ (0<=Builtin.bitNot (a:Int)):=by rw[ha]; lia
 have nb:¬ (0<=Builtin.bitNot (b:Int)):=by rw[hb]; lia
 unfold Builtin.bitAnd
 rw[aH na,aH nb]
 have ea:Builtin.bitNot (Builtin.bitNot (a:Int))=(a:Int):=by rw[ha]; unfold Builtin.bitNot; lia
 have eb:Builtin.bitNot (Builtin.bitNot (b:Int))=(b:Int):=by rw[hb]; unfold Builtin.bitNot; lia
 show Builtin.bitNot (Builtin.bitNot _)=_
 rw[ea,eb]
 unfold Builtin.bitNot
 simp
 lia
def maskN (ts:List Int):Nat:=(ts.map fun t=>2 ^ t.toNat).sum
theorem jIV:∀ (ts:List Int) (lo:Nat),ts.Pairwise (· < ·)->(∀ t∈ts,(lo:Int)<=t)->maskN ts % 2 ^ lo=0
 | [],_,_,_=>by simp [maskN]
 | t::r,lo,hp,hl=>by
  have ih:=jIV r lo (dO.mp hp).2 fun x hx=>hl x (az _ hx)
  have h0:=hl t (ar ..)
  have e:maskN (t::r)=2 ^ t.toNat+maskN r:=by simp [maskN]
  have d:2 ^ t.toNat % 2 ^ lo=0:=Nat.mod_eq_zero_of_dvd (Nat.pow_dvd_pow 2 (by lia))
  rw[e,Nat.add_mod,ih,d]
  simp
theorem jBT:∀ (ts:List Int) (n:Nat),ts.Pairwise (· < ·)->(∀ t∈ts,0<=t)->(maskN ts).testBit n=decide ((n:Int)∈ts)
 | [],n,_,_=>by simp [maskN]
 | t::r,n,hp,h0=>by
  obtain⟨h1,h2⟩:=dO.mp hp
  have ih:=jBT r n h2 fun x hx=>h0 x (az _ hx)
  have ht:=h0 t (ar ..)
  obtain⟨k,rfl⟩:∃ k:Nat,t=(k:Int):=⟨t.toNat,by lia⟩
  have e:maskN ((k:Int)::r)=2 ^ k+maskN r:=by simp [maskN]
  have m0:maskN r % 2 ^ (k+1)=0:=jIV r (k+1) h2 fun x hx=>by have:=h1 x hx; lia
  obtain⟨c,hc⟩:∃ c,maskN r=2 ^ (k+1)*c:=(Nat.dvd_of_mod_eq_zero m0)
  have hor:2 ^ k+maskN r=maskN r|||2 ^ k:=by
   rw[hc,gf,<- Nat.shiftLeft_eq,Nat.shiftLeft_add_eq_or_of_lt (b:=2 ^ k) (i:=k+1) (gB (by decide) (by lia)) c |>.symm,iU]
  rw[e,hor,cJ,ih,eE]
  by_cases hk:k=n
  ·subst hk
   simp
  ·have:¬ ((n:Int)=(k:Int)):=by lia
   simp [hk,this]
end L2
namespace L2
open PySem
variable {X:Cx}
section
variable {tg iter elt:Expr}{ifs:List Expr}{sc:Scope}{pos:Pos}{wi:TI}{g:TG}{tt:TT}{te:TE}{m:List (Option Nat)}{Nc:List Str}
theorem jOK (hc:X.calm=true)(hi:PI X tg iter wi)(hkind:sc.kind= .function)(hcell:∀ y∈sc.names,y.2≠ .cell)(hnames:∀ y∈sc.names,y.2= .local->sc.names.lookup y.1=some .local)
  (hfree:∀ y∈sc.names,y.2= .free->X.env.scope.names.lookup y.1=some .cell\/X.env.scope.names.lookup y.1=some .free) (hm:jD0 X sc Nc m)
  (hg:∀ cl C fp s H,PG (blk X sc cl C Nc fp s H) tg g) (ht:∀ cl C fp s H,PTs (blk X sc cl C Nc fp s H) ifs tt) (he:∀ cl C fp s H,PE (blk X sc cl C Nc fp s H) elt te)
  (hs:∀ x,foldedSetIterable iter X.env x=pure x) {fpos:Pos}{use:Option (Value->Sem Unit)}{R:Value->Shared->Prop}{ad:List (Addr×Obj)}{s:Shared}{σ:St}{H:Hp}{Q:VK}(I:Inv X ad σ H s) (h:tComp m wi g tt te σ H Q)
  (fin:∀ (D C:Addr) (H5:Hp) (z1:Shared) (r:Flow),(∃ mm,z1.heap.Ns C mm)->FpOk X ad H5 C->(∀ h',Heap.SameBut C z1.heap h'->Inv X ad σ H5 { z1 with heap:=h'})->Q (.ref D) H5->compPost (model X.prog X.w) X.A X.xe use R (.ref D) C (.ok r) z1):
  wpAny (model X.prog X.w) X.A (comprehension (.ListComp elt [⟨tg,iter,ifs,0⟩] sc pos) sc X.env fpos (newList []) false (eval iter X.env) use) R X.xe s:=
 jJA (tf:=fun _=>te) hc hi hkind hcell hnames hfree hm hg ht (fun cl C fp s H _ _ _ _=>he cl C fp s H) hs I h fin
theorem jQ4 {i:Nat}{x:Str}{pos' spos:Pos}(hN:X.N.Nodup)(hi':X.N[i]?=some x)(hx:Loc X.env.scope x)(hf:X.fn x=true\/X.env.scope.names.lookup x=some .local)(hsw:swapsWith (.ListComp elt [⟨tg,iter,ifs,0⟩] sc pos) (some (.Name x pos')) spos.line X.env=pure true)
  (hc:X.calm=true) (hi:PI X tg iter wi) (hkind:sc.kind= .function) (hcell:∀ y∈sc.names,y.2≠ .cell) (hnames:∀ y∈sc.names,y.2= .local->sc.names.lookup y.1=some .local)
  (hfree:∀ y∈sc.names,y.2= .free->X.env.scope.names.lookup y.1=some .cell\/X.env.scope.names.lookup y.1=some .free) (hm:jD0 X sc Nc m)
  (hg:∀ cl C fp s H,PG (blk X sc cl C Nc fp s H) tg g) (ht:∀ cl C fp s H,PTs (blk X sc cl C Nc fp s H) ifs tt) (he:∀ cl C fp s H,PE (blk X sc cl C Nc fp s H) elt te)
  (hs:∀ x,foldedSetIterable iter X.env x=pure x):PS X (.Assign [.Name x pos'] (.ListComp elt [⟨tg,iter,ifs,0⟩] sc pos) spos) (tAsg (tComp m wi g tt te) (kQ i)):=by
 intro ad s σ H D I h
 rw[exec_Assign_Name_used _ _ _ _ hsw]
 refine aa (iF (aa ?_))
 show wpAny _ _ (do let _ <- comprehension (.ListComp elt [⟨tg,iter,ifs,0⟩] sc pos) sc X.env _ (newList []) false (eval iter X.env) (some (assign (.Name x pos') X.env))) _ _ _
 refine aa (bX (jOK (R:=fun _ s'=>SP X ad D .next s') hc hi hkind hcell hnames hfree hm hg ht he hs ⟨I.ok,I.os,I.bare,I.base,I.loc,I.cell,I.free,I.freeC,I.pin,I.hok,I.len⟩ h ?_) (fun _ s' hq=>ah (ah hq)) fun _ _ e=>e)
 intro D' C H5 z1 r ⟨mm,hn⟩ fC sb q
 have I1:=sb _ (Heap.SameBut.refl C z1.heap)
 refine wpAny_assign_Name (jFY (v:= .ref D') I1 hN hi' hx rfl (fun s2 I2 ⟨a,sa,ha⟩=>?_) hf)
 obtain⟨f0,f1,f2,f3,f4,f5⟩:=fC
 have hCa:C≠a:=by
  rcases ha with rfl | ha
  ·exact f1
  ·exact(f4 _ _ ha).symm
 refine⟨mm,hn.sameBut sa hCa,fun h' sb2=>⟨_,H5,?_,q⟩⟩
 refine I2.call' (s':= { s2 with heap:=h'}) (ch:=[C]) rfl ?_ (I2.hok.sameBut sb2 f0) I2.bare (fun b hb=>?_)
 ·have ne:∀ {b:Addr},b∉ [C]->b≠C:=fun h e=>h (by rw[e]; exact aO.mpr rfl)
  refine⟨fun b o e n hf hx=>(sb2.2 b (ne hx)).trans e,fun b o e n hf hx=>⟨o.slots,(sb2.2 b (ne hx)).trans e⟩,fun b o e n hx=>n,fun b o e hx=>⟨o,(sb2.2 b (ne hx)).trans e⟩,fun b xs e=>e,fun b o u e=>e,fun b ps e=>⟨#[],by rw[Array.append_empty]; exact e⟩⟩
 ·cases aO.mp hb
  exact⟨f3,f1,f4,f5⟩
end
structure SwC (e:Expr)(x:Str)(pos' spos:Pos)(X:Cx):Prop where
 h:swapsWith e (some (.Name x pos')) spos.line X.env=pure true
theorem jAX {i:Nat}{x:Str}{pos' spos pos:Pos}{tg iter elt:Expr}{ifs:List Expr}{sc:Scope}{wi:TI}{g:TG}{tt:TT}{te:TE}{m:List (Option Nat)}{Nc:List Str}(hN:X.N.Nodup)(hi':X.N[i]?=some x)(hx:Loc1 X x)(hsw:SwC (.ListComp elt [⟨tg,iter,ifs,0⟩] sc pos) x pos' spos X)
  (hc:X.calm=true) (hi:JI X tg iter wi) (hkind:sc.kind= .function) (hcell:∀ y∈sc.names,y.2≠ .cell) (hnames:∀ y∈sc.names,y.2= .local->sc.names.lookup y.1=some .local)
  (hfree:∀ y∈sc.names,y.2= .free->X.env.scope.names.lookup y.1=some .cell\/X.env.scope.names.lookup y.1=some .free) (hm:jD0 X sc Nc m)
  (hg:∀ cl C fp s H,JG (blk X sc cl C Nc fp s H) tg g) (ht:∀ cl C fp s H,JTs (blk X sc cl C Nc fp s H) ifs tt) (he:∀ cl C fp s H,JE (blk X sc cl C Nc fp s H) elt te)
  (hs:FoOk iter):JS X (.Assign [.Name x pos'] (.ListComp elt [⟨tg,iter,ifs,0⟩] sc pos) spos) (tAsg (tComp m wi g tt te) (kQ i)):=
 ⟨jQ4 hN hi' hx.a hx.b hsw.h hc hi.h hkind hcell hnames hfree hm (fun cl C fp s H=>(hg cl C fp s H).h) (fun cl C fp s H=>(ht cl C fp s H).h) (fun cl C fp s H=>(he cl C fp s H).h) (hs.h _)⟩
end L2
namespace L2
open PySem PySem.Spec PyProof.Rows
variable {prog:Program}{w:World}{A:Around}{E:Value->Shared->Prop}
variable {X:Cx}
variable {s:Shared}
variable {x:Str}{C:Addr}{e:Expr}{t:TA}{np cpos pos:Pos}
section
variable {W:Hp->Prop}
end
variable {M:Model}{h:Heap}
section
variable {g:Array GenState}{d:Drawn}{tk:Nat}{os:OsState}
end
variable {ad:List (Addr×Obj)}{H H':Hp}
section
variable {σ:List (Option V)}{h':Heap}
end
variable {T:Addr}
section
variable {σ:St}{h2:Heap}{x T':Addr}
end
section
variable {σ:St}{x:Addr}
end
section
variable {x:Addr}{Q:Unit->Shared->Prop}
end
variable {n c:Str}{i j:Nat}{f B:Addr}{fd:FuncData}{ps:List Str}{sp:Sp}{es:List Expr}{yp gp cp ap rp hp tp:Pos}
section
variable {y g:Str}{k:Nat}{r:Expr}{te:Addr->TE}
end
variable {tg:Expr}
variable {g:TG}{iter elt:Expr}{ifs:List Expr}{sc:Scope}{wi:TI}{tt:TT}{te:TE}{m:List (Option Nat)}{Nc:List Str}
variable {a:Addr}{p:Pos}
section
variable {k:Nat}{sp:Addr->Sp}
end
variable {P:Program}{mg:Str->Option Value}{base:Heap}{N:List Str}{qual:Str}{outer:List Env}
section
variable {CX:CXT}{K:W.Frag}{cdv:Value}{E:XK}
end
section
variable {y g:Str}{k:Nat}{te t1:TEX}
end
def ncP (q:Str)(c:Addr):Heap->Prop:=fun h=>h.CodeRec (.ref c) q
noncomputable abbrev onePs (pos:Pos)(c:Addr):Array Value:=#[rawInt pos.line,rawInt pos.col, .ref c]
def TabOk (H:Hp)(T:Addr)(pos:Pos)(q:Str):Prop:=H T=some (.tbl #[])\/∃ c,H T=some (.tbl (onePs pos c))/\H c=some (.ext (ncP q c))
def ExtT (T:Addr)(H H':Hp):Prop:=∀ b o,H b=some o->b≠T->H' b=some o
def BltAt (base:Heap)(mg:Str->Option Value):Prop:=∃ bm o,mg "__builtins__" =some (.ref bm)/\bm≠builtinsNs/\bm≠mainGlobals/\base.get? bm=some o/\o.cls= .type "module" /\o.dict=some builtinsNs/\o.data= .plain
theorem ncP.stay {q:Str}{c:Addr}(h1 h2:Heap)(p:ncP q c h1)(k:∀ o,h1.get? c=some o->h2.get? c=some o):ncP q c h2:=by
 obtain⟨c',o,vs,t,e,g,r⟩:=p
 cases e
 exact⟨c,o,vs,t,rfl,k _ g,r⟩
theorem ncP.is {q:Str}{c:Addr}{h:Heap}(p:ncP q c h):∃ o,h.get? c=some o:=by
 obtain⟨c',o,vs,t,e,g,r⟩:=p
 cases e
 exact⟨o,g⟩
section
variable {σ:St}
theorem Inv.laidX {h':Heap}{t':Nat}{φ:Heap->Prop}{a:Addr}(I:Inv X ad σ H s)(k:∀ b u,s.heap.get? b=some u->h'.get? b=some u)(hp:s.heap.objs.size<=a)(p:φ h')(ho:∃ o,h'.get? a=some o)(st:∀ h1 h2:Heap,φ h1->(∀ o,h1.get? a=some o->h2.get? a=some o)->φ h2):Inv X ad σ (upd H a (.ext φ)) { s with heap:=h',toks:=t'} :=
 I.laid k hp ⟨p,ho,st⟩
theorem Inv.grown {h':Heap}{t':Nat}{T c:Addr}{ps more:Array Value}{φ:Heap->Prop}(I:Inv X ad σ H s)(hT:H T=some (.tbl ps))(k:Heap.ExtBut T s.heap h')(e:h'.get? T=some { cls:= .none,data:= .fields (ps++more)})
  (hc:s.heap.objs.size<=c) (p:φ h') (ho:∃ o,h'.get? c=some o) (st:∀ h1 h2:Heap,φ h1->(∀ o,h1.get? c=some o->h2.get? c=some o)->φ h2):Inv X ad σ (upd (upd H T (.tbl (ps++more))) c (.ext φ)) { s with heap:=h',toks:=t'} :=by
 have hcn:H c=none:=I.hok.fresh hc
 have nT:∀ {b:Addr},H b=none->b≠T:=fun n z=>by rw[z,hT] at n; cases n
 have cT:T≠c:=fun z=>by rw[z,hcn] at hT; cases hT
 have nc:∀ {b:Addr}{o:Obj},s.heap.get? b=some o->b≠c:=fun q z=>absurd (aE q) (by rw[z]; exact Nat.not_lt.mpr hc)
 have mc:∀ {b:Addr}{o:HO},H b=some o->b≠c:=fun q=>jA q hcn
 refine I.un ⟨fun b o q n _ _=>k b o (nT n) q,fun b o q n _ _=>⟨o.slots,k b o (nT n) q⟩,fun b o q n _=>by rw[j7 (nc q),j7 (nT n)]; exact n,fun b o q _=>?_,fun b xs q=>?_,fun b o u q=>?_,fun b qs q=>?_⟩ fun b o q=>?_
 ·by_cases hb:b=T
  ·rw[hb]; exact⟨_,e⟩
  ·exact⟨o,k b o hb q⟩
 ·rw[j7 (mc q),j7 (fun z=>by rw[z,hT] at q; cases q)]; exact q
 ·rw[j7 (mc q),j7 (fun z=>by rw[z,hT] at q; cases q)]; exact q
 ·by_cases hb:b=T
  ·subst hb
   rw[hT] at q
   cases q
   exact⟨more,by rw[j7 cT,j5]⟩
  ·exact⟨#[],by rw[j7 (mc q),j7 hb,q]; simp⟩
 ·by_cases hb1:b=c
  ·subst hb1
   rw[j5] at q
   cases q
   exact⟨p,ho,st⟩
  rw[j7 hb1] at q
  by_cases hb:b=T
  ·subst hb
   rw[j5] at q
   cases q
   exact e
  ·rw[j7 hb] at q
   refine(I.hok b o q).stay (fun d u hd z=>k d u ?_ z) (fun d z=>?_) fun d xs z=>?_
   ·rcases hd with rfl | hd
    ·exact hb
    ·exact fun y=>by rw[y,hT] at hd; cases hd
   ·rw[j7 (mc z),j7 (fun y=>by rw[y,hT] at z; cases z)]; exact z
   ·rw[j7 (mc z),j7 (fun y=>by rw[y,hT] at z; cases z)]; exact z
end
theorem jGH {β:Type}{x:Str} :∀ {l:List (Str×β)},(∀ v,(x,v)∉l)->l.lookup x=none
 | [],_=>rfl
 | (y,v)::r,h=>by
  rw[bE,dB.mpr (fun e=>h v (by rw[e]; exact ar))]
  exact jGH fun w hw=>h w (az _ hw)
theorem jCE {β:Type}{x:Str} :∀ {l m:List (Str×β)},(l++m).lookup x=(l.lookup x).or (m.lookup x)
 | [],_=>rfl
 | (y,v)::r,m=>by
  rw[List.cons_append,bE,bE,jCE]
  cases x==y <;> rfl
theorem jE6:∀ {ps:List Str}{us:List Value}{i:Nat}{x:Str}{u:Value},ps.Nodup->ps[i]?=some x->us[i]?=some u->(ps.zip us).reverse.lookup x=some u
 | [],_,_,_,_,_,h,_=>by simp at h
 | _::_,[],_,_,_,_,_,h=>by simp at h
 | p::ps,w::us,0,x,u,nd,h1,h2=>by
  simp at h1 h2
  subst h1 h2
  rw[fU,List.reverse_cons,jCE,jGH fun v hv=>(cL.mp nd).1 (dw (List.mem_reverse.mp hv)).1,bE,beq_self_eq_true]
  rfl
 | p::ps,w::us,i+1,x,u,nd,h1,h2=>by
  rw[fU,List.reverse_cons,jCE,jE6 (i:=i) (cL.mp nd).2 (by simpa using h1) (by simpa using h2)]
  rfl
noncomputable def cxN (P:Program)(w:World)(K:W.Frag)(mg:Str->Option Value)(base:Heap)(N:List Str)(qual:Str)(scope:Scope)(f:Addr)(cd:Value)(cl:List (Str×Addr))(A:Around)(outer:List Env)(s:Shared)(H:Hp):Cx where
 prog:=P
 w:=w
 K:=K
 mg:=mg
 base:=base
 A:=A.deeper (envX qual scope s.heap.objs.size f cd cl)
 N:=N
 s₀:=s
 H₀:=H
 env:=envX qual scope s.heap.objs.size f cd cl
 outer:=outer
 stack:=envX qual scope s.heap.objs.size f cd cl::outer
 ex:=[]
 calm:=true
 fn:=fun _=>false
 pn:=[]
 xe:=fun _ _=>False
structure ClOk (cl:List (Str×Addr))(s:Shared)(H:Hp):Prop where
 inj:∀ x y c,cl.lookup x=some c->cl.lookup y=some c->x=y
 cell:∀ x c,cl.lookup x=some c->(∃ v,s.heap.IsCell c v)/\H c=none
def FvOk (fs:List Str)(fv:List V)(cl:List (Str×Addr))(s:Shared):Prop:=fv.length=fs.length/\∀ (i:Nat) (x:Str) (v:V),fs[i]?=some x->fv[i]?=some v->∃ c u,cl.lookup x=some c/\RelV v u/\s.heap.IsCell c (some u)
structure NScope (N ps fs:List Str)(sc:Scope):Prop where
 kind:sc.kind= .function
 co:sc.isCoroutine=false
 gen:sc.isGenerator=false
 nd:N.Nodup
 pre:N.take (ps.length+fs.length)=ps++fs
 par:∀ x∈ps,sc.names.lookup x=some .local
 fre:∀ x∈fs,sc.names.lookup x=some .free
 all:∀ x,sc.names.lookup x=some .free->x∈fs
 nocell:∀ y∈sc.names,y.2≠ .cell
def jDJ (N:List Str)(vs fv:List V):St:=kZ N (vs++fv)
variable {scope:Scope}{cd:Value}{cl:List (Str×Addr)}{fv:List V}
section
variable {K:W.Frag}{fs:List Str}{us:List Value}{vs:List V}
theorem jK2 {h1:Heap}{tk:Nat}(S:NScope N ps fs scope)(hd:A.handled=none)(e0:Env0 P w K mg base A outer s H)(hl:us.length=ps.length)(r:Vals vs us)(C:ClOk cl s H)(Fv:FvOk fs fv cl s)
  (ns:h1.Ns s.heap.objs.size fun x=>(ps.zip us).reverse.lookup x) (hk:∀ b o,s.heap.get? b=some o->h1.get? b=some o):
  Inv (cxN P w K mg base N qual scope f cd cl A outer s H) [] (jDJ N vs fv) H { s with heap:=h1,toks:=tk} :=by
 have hpl:ps.length+fs.length<=N.length:=by have:=bA List.length S.pre; rw[bq,aG] at this; lia
 have noA:∀ b:Addr,b∉(cxN P w K mg base N qual scope f cd cl A outer s H).ex:=fun b z=>absurd (show b∈([]:List Addr) from z) (by simp)
 have vl:vs.length=ps.length:=r.length.trans hl
 refine⟨⟨e0.mod,S.kind,rfl,rfl,ai _,C.inj,fun y hy=>?_,fun y c z=>(nomatch z),fun _=>hd,Around.frames_deeper e0.frames, .inr ⟨rfl,rfl⟩,fun b z=>absurd z (noA b),e0.bs,e0.bsz,fun b _ _=>noA b,fun b z=>absurd z (noA b),e0.funs,e0.frf⟩,
  rfl,e0.bare,Un.kept hk,⟨_,ns,fun i y v h1' h2 h3=>?_⟩,fun y c h=>?_,e0.hok.fresh (ai _),fun y c h=>(C.cell y c h).2,fun p hp=>absurd (show p∈([]:List (Addr×Obj)) from hp) (by simp),e0.hok.kept hk,?_⟩
 ·have hy:scope.names.lookup y=some .cell\/scope.names.lookup y=some .free:=hy
  rcases hy with hy | hy
  ·exact absurd rfl (S.nocell _ (cD hy))
  ·have m:=S.all y hy
   obtain⟨i,hi⟩:=bI m
   have hi2:i<fv.length:=by rw[Fv.1]; exact(am.mp hi).1
   obtain⟨c,u,e,_⟩:=Fv.2 i y fv[i] hi (by simp [hi2])
   exact⟨c,e⟩
 ·have h1':N[i]?=some y:=h1'
  have hlen:(vs++fv).length=ps.length+fs.length:=by rw[aG,vl,Fv.1]
  have hi:i<(vs++fv).length:=by
   unfold jDJ kZ at h2
   by_cases hi:i<(vs++fv).length
   ·exact hi
   ·rw[bh (by simpa using hi)] at h2
    rw[eJ] at h2
    split at h2 <;> cases h2
  have hv:(vs++fv)[i]?=some v:=by
   unfold jDJ kZ at h2
   rw[bQ (by simpa using hi),aY] at h2
   cases e:(vs++fv)[i]? with
   | none=>rw[e] at h2; cases h2
   | some a=>rw[e] at h2; cases h2; rfl
  have hy:(ps++fs)[i]?=some y:=by
   rw[<- S.pre,ci (by lia)]
   exact h1'
  by_cases hi1:i<ps.length
  ·rw[bQ hi1] at hy
   rw[bQ (by lia)] at hv
   obtain⟨u,hu,rv⟩:=r.get hv
   have ndP:ps.Nodup:=by
    have:(ps++fs).Nodup:=by rw[<- S.pre]; exact S.nd.sublist (d0 _ _)
    exact(iy.mp this).1
   exact⟨u,rv, .inl ⟨S.par y (aC hy),jE6 ndP hy hu⟩⟩
  ·rw[bh (by lia)] at hy
   rw[bh (by lia),vl] at hv
   obtain⟨c,u,e,rv,o,ho,hd⟩:=Fv.2 _ y v hy hv
   exact⟨u,rv, .inr ⟨.inr (S.fre y (aC hy)),c,e,o,hk _ _ ho,hd⟩⟩
 ·obtain⟨⟨v,o,ho,hd⟩,_⟩:=C.cell y c h
  exact⟨v,o,hk _ _ ho,hd⟩
 ·unfold jDJ kZ
  show _=N.length
  rw[aG,ab,cX,aG,vl,Fv.1]
  lia
end
def jIH (σ:St)(is:List Nat)(fv:List V):Prop:=is.map (fun i=>(σ[i]?).getD none)=fv.map some
section
variable {σ:St}{fs:List Str}{is:List Nat}
def FsAt (X:Cx)(fs:List Str)(is:List Nat):Prop:=is.length=fs.length/\∀ (k:Nat) (x:Str),fs[k]?=some x->∃ i,is[k]?=some i/\X.N[i]?=some x/\(X.env.scope.names.lookup x=some .cell\/X.env.scope.names.lookup x=some .free)
theorem Inv.clOk (I:Inv X ad σ H s)(hfree:∀ y∈scope.names,y.2= .free->X.env.scope.names.lookup y.1=some .cell\/X.env.scope.names.lookup y.1=some .free):ClOk (kE X.env.cells scope.names []) s H:=by
 have sub:∀ x c,(kE X.env.cells scope.names []).lookup x=some c->X.env.cells.lookup x=some c:=jAN scope.names [] (fun y hy hf=>I.ok.has y.1 (hfree y hy hf)) (fun x c e=>by cases e)
 exact⟨fun x y c h1 h2=>I.ok.inj x y c (sub x c h1) (sub y c h2),fun x c h=>⟨I.cell x c (sub x c h),I.freeC x c (sub x c h)⟩⟩
theorem Inv.fvOk (I:Inv X ad σ H s)(hfree:∀ y∈scope.names,y.2= .free->X.env.scope.names.lookup y.1=some .cell\/X.env.scope.names.lookup y.1=some .free)(hfs:∀ x∈fs,scope.names.lookup x=some .free)(ha:FsAt X fs is)(hs:jIH σ is fv):FvOk fs fv (kE X.env.cells scope.names []) s:=by
 have hl:fv.length=fs.length:=by
  have:=bA List.length hs
  rw[ab,ab] at this
  rw[<- this,ha.1]
 refine⟨hl,fun k x v h1 h2=>?_⟩
 obtain⟨i,hi,hN,hk⟩:=ha.2 k x h1
 have e:(σ[i]?).getD none=some v:=by
  have:=bA (fun l=>l[k]?) hs
  simp only [aY,hi,h2,Option.map_some] at this
  exact br this
 have e2:σ[i]?=some (some v):=by
  cases q:σ[i]? with
  | none=>rw[q] at e; cases e
  | some z=>rw[q] at e; exact bA some e
 obtain⟨m,hn,hl⟩:=I.loc
 obtain⟨u,r,l⟩:=hl i x v hN e2 (.inr hk)
 obtain⟨c,hc⟩:=jAO (cells:=X.env.cells) (x:=x) scope.names [] (.inl (jAL (hfs x (aC h1))))
 have sub:=jAN (cells:=X.env.cells) scope.names [] (fun y hy hf=>I.ok.has y.1 (hfree y hy hf)) (fun x c e=>by cases e) x c hc
 rcases l with ⟨lk,_⟩ | ⟨_,c',hc',z⟩
 ·have lk':X.env.scope.names.lookup x=some .local:=lk
  rcases hk with z | z <;> rw[lk'] at z <;> cases z
 ·rw[sub] at hc'
  cases hc'
  exact⟨c,u,hc,r,z⟩
end
section
variable {k:Nat}{q:Str}{args:Arguments}{body:List Stmt}{fs:List Str}{is:List Nat}{sp:List V->Sp}
end
section
variable {te:St->TE}
end
def jU1 (Ts:List Addr)(H:Hp):Prop:=∀ b,H b=none\/(∃ o xs,H b=some (.frz o (.lst xs)))\/b∈Ts
theorem jK0 {cts:List (Addr×Addr)}{P:Program}{w:World}{K:W.Frag}{mg mb:Str->Option Value}{CX:CXT}{k:Nat}{fa a:Addr}{fd:FuncData}{x:Str}{sp:Sp}{s₁:Shared}{vs:List Value}{ns:List Int}
  (KX:K.In s₁.heap) (hns:s₁.heap.Ns mainGlobals mg) (hb:s₁.heap.Ns builtinsNs mb) (hbb:∀ x:Str,x≠ "__name__" ->mb x=bootBuiltins x) (hlim:s₁.heap.NoLimit) (hg:s₁.gens=#[])
  (ha:s₁.heap.get? a=some { cls:= .type "list",data:= .seq vs.toArray}) (hi:IntsAre vs ns) (hl:ns.length<=sizeLine) (hr:Room k callerA) (hT:∀ T∈cts.map (·.2),s₁.heap.get? T=some (tabObj #[])) (CH:∀ p∈cts,PySem.W.CodeHd s₁.heap p.1 p.2) (hKT:∀ T∈cts.map (·.2),K.lookup T=none)
  (F:∀ base:Heap,K.In base->base.Ns mainGlobals mg->FnOk P w K mg base CX k fa fd [x] sp) (hbind:∀ (s:Shared) (u:Value),BindsTo s fd ⟨[u],[]⟩ [(x,u)])
  (hsp:∀ H:Hp,(∀ T∈cts.map (·.2),H T=some (.tbl #[]))->SqL K H a (ns.map V.int)->sp [.ref a] H (fun v _=>v= .bl true) fun _ _ _=>False)
  (hCX:∀ H e s',CX [] H s₁ (fun _ _ _=>False) e s'->False):
  codeAny (model P w) callerA (.call (.ref fa) ⟨[.ref a],[]⟩) (fun r s'=>r= .ok (.ret (.bool true))/\OldK s₁.heap s'.heap/\s'.os=s₁.os/\AllBare s'.gens) s₁:=by
 have rv:=jFT hi
 have lenV:=hi.length
 have core:∀ H:Hp,jU1 (cts.map (·.2)) H->(∀ T∈cts.map (·.2),H T=some (.tbl #[]))->SqL K H a (ns.map V.int)->HOk P w H s₁.heap->(∀ b,H b≠none->b=a\/b∈cts.map (·.2))->(H a≠none->K.lookup a=none)->
   codeAny (model P w) callerA (.call (.ref fa) ⟨[.ref a],[]⟩) (fun r s'=>r= .ok (.ret (.bool true))/\OldK s₁.heap s'.heap/\s'.os=s₁.os/\AllBare s'.gens) s₁:=by
  intro H hO hHT hS hok hA hK
  have base_of:∀ {b:Addr}{o:Obj},s₁.heap.get? b=some o->H b=none->(hidT s₁.heap H).get? b=some o:=fun e n=>jOE e n
  have noA:∀ {b:Addr}{o:Obj}{es:Array DictEntry}{ep:Nat},s₁.heap.get? b=some o->o.data= .dict es ep->H b=none:=fun {b o es ep} e d=>by
   cases q:H b with
   | none=>rfl
   | some u=>
    rcases hA b (by rw[q]; simp) with e' | e'
    ·subst e'
     rw[ha] at e; cases e
     have d':Data.seq vs.toArray _=Data.dict es ep:=d
     cases d'
    ·rw[hT b e'] at e; cases e
     have d':Data.fields _=Data.dict es ep:=d
     cases d'
  have nsK:∀ {b:Addr}{m:Str->Option Value},s₁.heap.Ns b m->(hidT s₁.heap H).Ns b m:=fun {b m} ⟨o,es,ep,e,d,r⟩=>⟨o,es,ep,base_of e (noA e d),d,r⟩
  have hKb:K.In (hidT s₁.heap H):=fun b o e=>base_of (KX b o e) (by
   cases q:H b with
   | none=>rfl
   | some u=>
    rcases hA b (by rw[q]; simp) with e' | e'
    ·subst e'
     rw[hK (by rw[q]; simp)] at e; cases e
    ·rw[hKT b e'] at e; cases e)
  have hM:Mod K mg (hidT s₁.heap H):=⟨hKb,nsK hns,⟨mb,nsK hb,hbb⟩,let ⟨mc,h1,h2⟩:=hlim; ⟨mc,nsK h1,h2⟩⟩
  have e0:Env0 P w K mg (hidT s₁.heap H) callerA [] s₁ H:=⟨rfl,hM,fun b o e=>jR0 e,Nat.le_of_eq (jMB _ _),trivial,fun b hb=>absurd (show b∈([]:List Addr) from hb) (by simp),hok, .of_eq hg⟩
  refine eQ ((F _ hKb (nsK hns)).run callerA [] s₁ H ⟨[.ref a],[]⟩ [.ref a] [.ref a] _ _ hr e0 (hbind s₁ (.ref a)) (.cons rfl .nil) (hsp H hHT hS)) fun r s' h=>?_
  cases r with
  | error e=>exact(hCX H e s' h).elim
  | ok fl=>
   cases fl with
   | next=>exact False.elim h
   | brk=>exact False.elim h
   | cont=>exact False.elim h
   | ret u=>
    obtain⟨v,H',os,bare,un,hok',r',q⟩:=h
    have q':v= .bl true:=q
    subst q'
    obtain rfl:u=Value.bool true:=r'
    have gr:∀ T∈cts.map (·.2),∃ more,s'.heap.get? T=some (tabObj (#[]++more)):=fun T hTm=>by
     obtain⟨more,z⟩:=un.tbls T _ (hHT T hTm)
     exact⟨more,hok' T _ z⟩
    have kp:∀ b o,b∉cts.map (·.2)->s₁.heap.get? b=some o->s'.heap.get? b=some o:=fun b o hbT e=>?_
    ·refine⟨rfl,⟨fun b o e=>?_,fun b o e=>?_⟩,os,bare⟩
     ·by_cases hb:b∈cts.map (·.2)
      ·obtain⟨p,hp,rfl⟩:=aZ.mp hb
       have q:=hT _ hb
       rw[q] at e
       cases e
       obtain⟨more,z⟩:=gr _ hb
       exact .inr (.inl ⟨((CH p hp).tab q).isCodeTable,rfl,#[],more,rfl,z⟩)
      ·exact .inl (kp b o hb e)
     ·by_cases hb:b∈cts.map (·.2)
      ·obtain⟨more,z⟩:=gr _ hb
       exact⟨_,z⟩
      ·exact⟨o,kp b o hb e⟩
    cases q:H b with
    | none=>exact un.keep b o e q (by intro z; exact absurd (show b∈([]:List Addr) from z) (by simp)) (by simp)
    | some u=>
     rcases hO b with z | ⟨ob,xs,z⟩ | z
     ·rw[q] at z; cases z
     ·have z2:=un.frzs b ob _ z
      obtain⟨e1,_⟩:=hok b _ z
      obtain⟨e2,_⟩:=hok' b _ z2
      rw[e] at e1; cases e1
      exact e2
     ·exact absurd z hbT
 have aT:a∉cts.map (·.2):=fun z=>by rw[hT a z] at ha; cases ha
 cases hk:K.lookup a with
 | some o=>
  have e:=KX a o hk
  rw[ha] at e
  cases e
  refine core (fun b=>if b∈cts.map (·.2) then some (.tbl #[]) else none) (fun b=>?_) (fun T hm=>ak hm) (.inr ⟨_,vs.toArray,_,hk,rfl,rfl,rfl,by rw[aK,lenV]; exact hl,by simpa using rv⟩) (fun b u z=>?_) (fun b z=>?_) fun z=>absurd (aj aT) z
  ·by_cases hb:b∈cts.map (·.2)
   ·exact .inr (.inr hb)
   ·exact .inl (aj hb)
  ·by_cases hb:b∈cts.map (·.2)
   ·have z':=(ak hb).symm.trans z
    cases z'
    exact hT b hb
   ·have z':=(aj hb).symm.trans z
    cases z'
  ·by_cases hb:b∈cts.map (·.2)
   ·exact .inr hb
   ·exact absurd (aj hb) z
 | none=>
  refine core (fun b=>if b∈cts.map (·.2) then some (.tbl #[]) else if b=a then some (.frz { cls:= .type "list",data:= .seq vs.toArray} (.lst (ns.map V.int))) else none) (fun b=>?_) (fun T hm=>ak hm) (.inl (.inr ⟨{ cls:= .type "list",data:= .seq vs.toArray},by dsimp only; rw[aj aT,ak rfl]⟩)) (fun b u z=>?_) (fun b z=>?_) fun _=>hk
  ·by_cases hT':b∈cts.map (·.2)
   ·exact .inr (.inr hT')
   ·by_cases hb:b=a
    ·exact .inr (.inl ⟨_,_,by dsimp only; rw[aj hT',ak hb]⟩)
    ·exact .inl (by dsimp only; rw[aj hT',aj hb])
  ·dsimp only at z
   by_cases hT':b∈cts.map (·.2)
   ·rw[ak hT'] at z
    cases z
    exact hT b hT'
   ·rw[aj hT'] at z
    by_cases hb:b=a
    ·rw[ak hb] at z
     cases z
     subst hb
     exact⟨ha,by rw[ab]; exact hl,vs,_,rv,ha⟩
    ·rw[aj hb] at z
     cases z
  ·replace z:(if b∈cts.map (·.2) then some (HO.tbl #[]) else if b=a then some (HO.frz { cls:= .type "list",data:= .seq vs.toArray} (.lst (ns.map V.int))) else none)≠none:=z
   by_cases hT':b∈cts.map (·.2)
   ·exact .inr hT'
   ·by_cases hb:b=a
    ·exact .inl hb
    ·rw[aj hT',aj hb] at z
     exact absurd rfl z
theorem walk_ofTs {cts:List (Addr×Addr)}{l:PySem.W.OpenLaw}{n k:Nat}{q:Program}{loose:List Str}{XP:(Str->Option Value)->Heap->Prop}{YP:World->Heap->Prop}{d:DefRec}{K:Params->W.Frag}{CX:World->CXT}{sp:World->Sp}{x:Str}
  (hn:l.most=some n) (hn2:n<=sizeLine) (hdf:d.params.defaults=[]) (hr:Room k callerA)
  (hY:∀ (w:World) (h:Heap),YP w h->(K w.params).In h/\∀ T∈cts.map (·.2),h.get? T=some (tabObj #[])) (hcd:∀ w:World,∀ p∈cts,codeHdIn (K w.params) p.1 p.2=true) (hKT:∀ w:World,∀ T∈cts.map (·.2),(K w.params).lookup T=none)
  (F:∀ (w:World) (mg:Str->Option Value) (fa:Addr) (h:Heap),(K w.params).In h->h.Ns mainGlobals mg->mg d.name=some (.ref fa)->
   ∃ fd:FuncData,(∀ (s:Shared) (u:Value),BindsTo s fd ⟨[u],[]⟩ [(x,u)])/\
    ∀ base:Heap,(K w.params).In base->base.Ns mainGlobals mg->FnOk l.prog w (K w.params) mg base (CX w) k fa fd [x] (sp w))
  (hsp:∀ (w:World) (H:Hp) (a:Addr) (ns:List Int),ns.length<=n->(∀ T∈cts.map (·.2),H T=some (.tbl #[]))->SqL (K w.params) H a (ns.map V.int)->sp w [.ref a] H (fun v _=>v= .bl true) fun _ _ _=>False)
  (hCX:∀ (w:World) (H:Hp) (s:Shared) (e:Value) (s':Shared),CX w [] H s (fun _ _ _=>False) e s'->False):
  PySem.W.WalkO q loose XP YP l.row.toRowW d [] (fun f vs=>PySem.call f vs):=by
 refine Att.attach_call hn hdf fun w s₀ s₁ mg mb fa o pm cd doc a vs ns G Y ho hd _ hmg hobj hints hlen hg=>?_
 obtain⟨KX,hT⟩:=hY w _ Y
 obtain⟨fd,hb,hF⟩:=F w mg fa _ KX G.T.g hmg
 exact jK0 KX G.T.g G.T.b G.T.builtins G.T.nolimit hg hobj hints (aX hlen hn2) hr hT (fun p hp=>gW KX (hcd w p hp)) (hKT w) hF hb (fun H hO hS=>hsp w H a ns hlen hO hS) fun H e s'=>hCX w H s₁ e s'
open PySem.AutoSeq1 (wpAny_loadPart')
theorem jOH {tp:Bool}{e it l:Addr}{i:Nat}{xs:Array Value}{x old:Value}{Q:Value->Shared->Prop}(ee:IsEnum s.heap e it i old)(g1:ItAt tp s.heap it l i)(o1:ObAt tp s.heap l xs)(hx:xs[i]?=some x)(ne:e≠it)
  (k:∀ h',IsEnumOut h' e it ((i:Int)+1) x s.heap.objs.size->ItAt tp h' it l (i+1)->h'.get? s.heap.objs.size=some { cls:= .type "tuple",data:= .seq #[.int i s.toks,x]} ->h'.objs.size=s.heap.objs.size+1->
   (∀ c o,c≠e->c≠it->s.heap.get? c=some o->h'.get? c=some o)->Q (.ref s.heap.objs.size) { s with heap:=h',toks:=s.toks+1}):
  wpAny (model prog w) A (Builtin.«enumerate.__next__» ⟨[.ref e],[]⟩) (fun fin s'=>∃ v,fin= .done (.ret v)/\Q v s') E s:=by
 obtain⟨hp,g,d,tk,os⟩:=s
 show wpAny (model prog w) A (field (.ref e) 2 >>= _) _ _ _
 refine aa (ce ee rfl (x:= .ref it) rfl (aa (next1 g1 o1 hx fun p1 r1 q1=>?_)))
 have q1:Heap.SameBut it hp p1:=q1
 have e1:IsEnum p1 e it i old:=(q1.2 e ne).trans ee
 show wpAny (model prog w) A (field (.ref e) 3 >>= _) _ _ ⟨p1,g,d,tk,os⟩
 refine aa (ce e1 rfl (x:=rawInt i) rfl (?_:wpAny (model prog w) A (field (.ref e) 4 >>= _) _ _ ⟨p1,g,d,tk,os⟩))
 refine aa (ce e1 rfl (x:= .none) rfl (?_:wpAny (model prog w) A (mkInt i >>= _) _ _ ⟨p1,g,d,tk,os⟩))
 refine aa (wpAny_mkInt (?_:wpAny (model prog w) A (setField (.ref e) 3 (rawInt ((i:Int)+1)) >>= _) _ _ ⟨p1,g,d,tk+1,os⟩))
 refine aa (bH e1 (by simp) fun p2 e2 q2=>?_)
 have q2:Heap.SameBut e p1 p2:=q2
 have e2:IsEnum p2 e it ((i:Int)+1) old:=e2
 show wpAny (model prog w) A (setField (.ref e) 4 .none >>= _) _ _ ⟨p2,g,d,tk+1,os⟩
 refine aa (bH e2 (by simp) fun p3 e3 q3=>?_)
 have q3:Heap.SameBut e p2 p3:=q3
 have e3:IsEnum p3 e it ((i:Int)+1) old:=e3
 show wpAny (model prog w) A (newTuple [.int i tk,x] >>= _) _ _ ⟨p3,g,d,tk+1,os⟩
 refine aa (g9 ?_)
 have e4:IsEnum (p3.push { cls:= .type "tuple",data:= .seq #[.int i tk,x]}) e it ((i:Int)+1) old:=ae _ e3
 have sz:p3.objs.size=hp.objs.size:=by rw[q3.1,q2.1,q1.1]
 have lt:e<hp.objs.size:=aE ee
 have t4:(p3.push { cls:= .type "tuple",data:= .seq #[.int i tk,x]}).get? hp.objs.size=some { cls:= .type "tuple",data:= .seq #[.int i tk,x]} :=by rw[<- sz]; exact aJ _ rfl
 have z4:(p3.push { cls:= .type "tuple",data:= .seq #[.int i tk,x]}).objs.size=hp.objs.size+1:=by rw[cq,sz]
 have k4:∀ c o,c≠e->c≠it->hp.get? c=some o->(p3.push { cls:= .type "tuple",data:= .seq #[.int i tk,x]}).get? c=some o:=fun c o n1 n2 v=>ae _ (q3.extBut c o n1 (q2.extBut c o n1 (q1.extBut c o n2 v)))
 have r4:ItAt tp (p3.push { cls:= .type "tuple",data:= .seq #[.int i tk,x]}) it l (i+1):=((r1.but q2.extBut ne.symm).but q3.extBut ne.symm).at fun o v=>ae _ v
 generalize p3.push { cls:= .type "tuple",data:= .seq #[.int i tk,x]} =p4 at e4 t4 z4 k4 r4 ⊢
 show wpAny (model prog w) A (Builtin.SmallTypes.ownedTupleIsFree (.ref e) >>= _) _ _ ⟨p4,g,d,tk+1,os⟩
 rw[sz]
 refine aa (by
  unfold Builtin.SmallTypes.ownedTupleIsFree
  refine aa (ce e4 rfl (x:= .none) rfl (ah ?_))
  simp only [io]
  refine aa (cS (aa (ce e4 rfl (x:=old) rfl (aa (bH e4 (by simp) fun p5 e5 q5=>?_)))))
  have q5:Heap.SameBut e p4 p5:=q5
  have e5:IsEnum p5 e it ((i:Int)+1) x:=e5
  refine aa (m:=Builtin.SmallTypes.ownedTupleHandOut (.ref e) (.ref hp.objs.size)) ?_
  unfold Builtin.SmallTypes.ownedTupleHandOut
  refine aa (bH e5 (by simp) fun p6 e6 q6=>?_)
  have q6:Heap.SameBut e p5 p6:=q6
  have e6:IsEnumOut p6 e it ((i:Int)+1) x hp.objs.size:=e6
  refine bH e6 (by simp) fun p7 e7 q7=>?_
  have q7:Heap.SameBut e p6 p7:=q7
  have e7:IsEnumOut p7 e it ((i:Int)+1) x hp.objs.size:=e7
  have up:∀ c o,c≠e->p4.get? c=some o->p7.get? c=some o:=fun c o n v=>q7.extBut _ _ n (q6.extBut _ _ n (q5.extBut _ _ n v))
  exact aa (iw (ah ⟨_,rfl,k p7 e7 (r4.at fun o v=>up _ o ne.symm v) (up _ _ (cK lt) t4) (by rw[q7.1,q6.1,q5.1,z4]) fun c o n1 n2 v=>up c o n1 (k4 c o n1 n2 v)⟩)))
theorem jJL {tp:Bool}{e it l:Addr}{i:Nat}{xs:Array Value}{x old:Value}{Q:Option Value->Shared->Prop}(ee:IsEnum s.heap e it i old)(g1:ItAt tp s.heap it l i)(o1:ObAt tp s.heap l xs)(hx:xs[i]?=some x)(ne:e≠it)
  (k:∀ h',IsEnumOut h' e it ((i:Int)+1) x s.heap.objs.size->ItAt tp h' it l (i+1)->h'.get? s.heap.objs.size=some { cls:= .type "tuple",data:= .seq #[.int i s.toks,x]} ->h'.objs.size=s.heap.objs.size+1->
   (∀ c o,c≠e->c≠it->s.heap.get? c=some o->h'.get? c=some o)->Q (some (.ref s.heap.objs.size)) { s with heap:=h',toks:=s.toks+1}):
  wpAny (model prog w) A (pyNext (.ref e)) Q E s:=by
 have ty:s.TypeIs (.ref e) "enumerate" :=⟨_,ee,rfl⟩
 unfold pyNext
 exact aa (dH (bZ (name:=Str.ofString "__next__") ty F.slot_enumerate_next (cj F.slot_enumerate_next ty F.entry_enumerate_next (jOH ee g1 o1 hx ne fun h' b1 b2 b3 b4 b5=>ah (k h' b1 b2 b3 b4 b5)) (F.args_enumerate_next_1 _))))
theorem jJM {tp:Bool}{e it l:Addr}{i:Nat}{xs:Array Value}{old:Value}{Q:Option Value->Shared->Prop}(hh:A.handled=none)(ee:IsEnum s.heap e it i old)(g1:ItAt tp s.heap it l i)(o1:ObAt tp s.heap l xs)(hx:xs[i]?=none)
  (k:∀ h',(∀ c o,c≠e->c≠it->s.heap.get? c=some o->h'.get? c=some o)->Q none { s with heap:=h'}):wpAny (model prog w) A (pyNext (.ref e)) Q E s:=by
 have ty:s.TypeIs (.ref e) "enumerate" :=⟨_,ee,rfl⟩
 unfold pyNext
 refine aa (dH (bZ (name:=Str.ofString "__next__") ty F.slot_enumerate_next (cj F.slot_enumerate_next ty F.entry_enumerate_next (?_:wpAny (model prog w) _ (field (.ref e) 2 >>= _) _ _ _) (F.args_enumerate_next_1 _))))
 refine aa (ce ee rfl (x:= .ref it) rfl (aa (next0 hh g1 o1 hx fun h' x kp ⟨u,eu,cu⟩=>?_)))
 exact aa (gt (T:= "StopIteration") (b:=true) ⟨u,eu,cu⟩ jp (ah (k _ fun c o _ n v=>kp c o n v)))
set_option maxHeartbeats 2000000 in
theorem jLO (tp:Bool)(l:Addr)(xs:Array Value)(u:Obj):
  Meets (Builtin.«enumerate.__new__» ⟨[.type "enumerate", .ref l],[]⟩) (fun _ R s=>s.heap.get? l=some u/\ObAt tp s.heap l xs/\
   R (.ok (.ret (.ref (s.heap.push (yY tp l)).objs.size))) { s with heap:=(s.heap.push (yY tp l)).push { cls:= .type "enumerate",data:= .fields #[.none, .bool false, .ref s.heap.objs.size,rawInt 0, .none, .none]}}):=
 .of_wp fun prog w A R s h=>by
  obtain⟨hp,g,d,tk,os⟩:=s
  obtain⟨a0,a1,q⟩:=h
  have sub:=sub_enumerate
  have e1:ObAt tp (Shared.heap ⟨hp,g,d,tk,os⟩) l xs:=a1
  obtain⟨c,dct,dt,sl⟩:=u
  obtain⟨n,hc,hd⟩:∃ n,c=(if tp then .type "tuple" else .type "list")/\dt= .seq xs n:=by
   cases tp with
   | false=>obtain⟨o,e,hc,n,hd⟩:=a1; cases (a0.symm.trans e); exact⟨n,hc,hd⟩
   | true=>obtain⟨o,e,hc,n,hd⟩:=a1; cases (a0.symm.trans e); exact⟨n,hc,hd⟩
  subst hd
  cases tp with
  | false=>
   subst hc
   wp_walk using cW a0
   refine wpAny_stack_any fun _=>ah ?_
   split
   ·rename_i c _ _ _ _ _
    cases hcc:(c==Value.type "enumerate")
    all_goals (wp_walk using cW a0,jCC e1; exact⟨_,rfl,q⟩)
   ·wp_walk using cW a0,jCC e1
    exact⟨_,rfl,q⟩
  | true=>
   subst hc
   wp_walk using cW a0
   refine wpAny_stack_any fun _=>ah ?_
   split
   ·rename_i c _ _ _ _ _
    cases hcc:(c==Value.type "enumerate")
    all_goals (wp_walk using cW a0,jCC e1; exact⟨_,rfl,q⟩)
   ·wp_walk using cW a0,jCC e1
    exact⟨_,rfl,q⟩
theorem jOO {prog:Program}{w:World}{A:Around}{E:Value->Shared->Prop}{s:Shared}{tp:Bool}{l:Addr}{xs:Array Value}{Q:Value->Shared->Prop}(a1:ObAt tp s.heap l xs)
  (k:∀ h',IsEnum h' (s.heap.objs.size+1) s.heap.objs.size 0 .none->ItAt tp h' s.heap.objs.size l 0->(∀ c o,s.heap.get? c=some o->h'.get? c=some o)->Q (.ref (s.heap.objs.size+1)) { s with heap:=h'}):
  wpAny (model prog w) A (call (.type "enumerate") [.ref l]) Q E s:=by
 obtain⟨u,eu⟩:∃ u,s.heap.get? l=some u:=by
  cases tp with
  | false=>obtain⟨o,e,_⟩:=a1; exact⟨o,e⟩
  | true=>obtain⟨o,e,_⟩:=a1; exact⟨o,e⟩
 refine callType_new F.called_enumerate (by decide) (F.typeCall_enumerate_1 _) (F.newCall_enumerate_1 _) (fun obj=>F.args_object_init_2 obj _) F.entry_enumerate_new (jLO tp l xs u) ⟨eu,a1,?_⟩
 have z1:(s.heap.push (yY tp l)).objs.size=s.heap.objs.size+1:=cq ..
 have y2:IsEnum ((s.heap.push (yY tp l)).push { cls:= .type "enumerate",data:= .fields #[.none, .bool false, .ref s.heap.objs.size,rawInt 0, .none, .none]}) (s.heap.push (yY tp l)).objs.size s.heap.objs.size 0 .none:=aJ _ rfl
 have y1:((s.heap.push (yY tp l)).push { cls:= .type "enumerate",data:= .fields #[.none, .bool false, .ref s.heap.objs.size,rawInt 0, .none, .none]}).get? s.heap.objs.size=some (yY tp l):=ae _ (aJ _ (jCG _ _))
 show _/\_
 rw[z1] at y2 ⊢
 exact⟨⟨_,y2,rfl⟩,k _ y2 (.new tp y1) fun c o e=>ae _ (ae _ e)⟩
def Ite (tp:Bool)(K:W.Frag)(l:Addr):It:=
 ⟨fun i H=>∃ xs x,Sq tp K H l xs/\xs[i]?=some x,
  fun i H v H'=>∃ T x,H T=none/\v= .ref T/\H'=upd H T (.tup [.int (i:Int),x])/\∀ xs,Sq tp K H l xs->xs[i]?=some x,
  fun i H=>∃ xs,Sq tp K H l xs/\xs.length<=i⟩
theorem jKJ {P:Program}{w:World}{K:W.Frag}{elts:List Expr}{x1:Nat}{tps:Pos}(tp:Bool)(l e it:Addr)(ne:e≠it):
  Turn P w K (.Tuple elts x1 tps) (Ite tp K l) [e,it] e (fun i h=>(∃ old,IsEnum h e it ((i:Nat):Int) old)/\ItAt tp h it l i) where
 mem:=by simp
 obj:=fun i h st b hb=>by
  obtain⟨⟨old,he⟩,y1⟩:=st
  simp only [aM,bF,dE] at hb
  rcases hb with rfl | rfl
  ·exact⟨_,he,fun v q=>by cases q⟩
  ·exact y1.obj
 keep:=fun i h h' st k=>by
  obtain⟨⟨old,he⟩,h1⟩:=st
  exact⟨⟨old,k e (by simp) _ he⟩,h1.at fun o z=>k it (by simp) o z⟩
 item:=by
  intro X hP hw hK hc i ad s σ H E I hf st hg
  subst hP hw hK
  obtain⟨xs,x,hq1,hx⟩:=hg
  obtain⟨⟨old,he⟩,h1⟩:=st
  obtain⟨its1,r1,p1,_⟩:=I.sq hq1
  obtain⟨u,hu,ru⟩:=r1.get hx
  refine jJL he h1 p1 (x:=u) (by simpa using hu) ne fun h' a1 a2 a3 a4 a5=>?_
  refine⟨_,rfl,wpAny_letOwnedTupleGo_enum (s:= { s with heap:=h',toks:=s.toks+1}) a1 fun h'' b1 sb=>?_⟩
  have fresh:H s.heap.objs.size=none:=I.fresh
  have ntr:∀ b o,H b=some o->b∉([e,it]:List Addr):=fun b o z hb=>by
   have:=(hf b hb).1
   rw[z] at this; cases this
  have kp:∀ b o,b∉([e,it]:List Addr)->s.heap.get? b=some o->h''.get? b=some o:=fun b o hb z=>by
   simp only [aM,bF,dE,lw] at hb
   exact(sb.2 b hb.1).trans (a5 b o hb.1 hb.2 z)
  have nz:s.heap.objs.size≠e:=cK (aE he)
  have hT2:h''.get? s.heap.objs.size=some { cls:= .type "tuple",data:= .seq #[.int i s.toks,u]} :=(sb.2 _ nz).trans a3
  have I2:Inv X ad σ (upd H s.heap.objs.size (.tup [.int (i:Int),x])) { s with heap:=h'',toks:=s.toks+1} :=by
   refine I.step (g':=s.gens) (d':=s.drawn) (t':=s.toks+1) (ch:=[e,it]) (fun b hb=>?_) (fun b o _ _ hb z _=>kp b o hb z) (fun b o _ _ hb z _=>⟨o.slots,kp b o hb z⟩)
    (fun b o _ z n=>by rw[j7 (aV (aE z))]; exact n) (fun b o hb z=>⟨o,kp b o hb z⟩) (fun b ws z=>by rw[j7 (jA z fresh)]; exact z) (fun b o ws z=>by rw[j7 (jA z fresh)]; exact z)
    (fun b ps z=>⟨#[],by rw[j7 (jA z fresh),z]; simp⟩) (fun m hm=>?_) (fun b o z=>?_) I.bare
   ·obtain⟨f0,f1,f2,f3,f4,f5⟩:=hf b hb
    exact⟨f3,f1,f4,f5⟩
   ·obtain⟨o,es,ep,ho,r⟩:=hm
    exact⟨o,es,ep,kp _ o (fun hb=>(hf _ hb).2.1 rfl) ho,r⟩
   ·by_cases hb:b=s.heap.objs.size
    ·subst hb
     rw[j5] at z
     cases z
     exact⟨by rw[fY]; show 2<=_; decide,[.int i s.toks,u], .cons ⟨_,rfl⟩ (.cons ru .nil),0,hT2⟩
    ·rw[j7 hb] at z
     refine(I.hok b o z).stay (fun c w hc q=>kp c w ?_ q) (fun c q=>by rw[j7 (jA q fresh)]; exact q) (fun c ws q=>by rw[j7 (jA q fresh)]; exact q)
     rcases hc with rfl | hc
     ·exact ntr _ _ z
     ·exact ntr _ _ hc
  refine⟨.ref s.heap.objs.size,_,I2,rfl,⟨_,x,fresh,rfl,rfl,fun xs' q1=>by rw[I.sq_inj q1 hq1]; exact hx⟩,⟨⟨_,b1⟩,?_⟩,fun b hb=>?_⟩
  ·exact a2.at fun o z=>(sb.2 it ne.symm).trans z
  ·rw[j7 (fun q=>by
    obtain⟨o,eo⟩:∃ o,s.heap.get? b=some o:=by
     simp only [aM,bF,dE] at hb
     rcases hb with rfl | rfl
     ·exact⟨_,he⟩
     ·obtain⟨o,z,_⟩:=h1.obj; exact⟨o,z⟩
    exact absurd (aE eo) (by rw[q]; exact da _))]
   exact(hf b hb).1
 done:=by
  intro X hP hw hK hc i ad s σ H E I hf st hg
  subst hP hw hK
  obtain⟨xs,hq1,hend⟩:=hg
  obtain⟨⟨old,he⟩,h1⟩:=st
  obtain⟨its1,r1,p1,_⟩:=I.sq hq1
  have e1:=r1.length
  refine jJM (I.ok.hd hc) he h1 p1 (by simp; lia) fun h' kp=>⟨rfl,?_⟩
  have kp2:∀ b o,b∉([e,it]:List Addr)->s.heap.get? b=some o->h'.get? b=some o:=fun b o hb z=>by
   simp only [aM,bF,dE,lw] at hb
   exact kp b o hb.1 hb.2 z
  have ntr:∀ b o,H b=some o->b∉([e,it]:List Addr):=fun b o z hb=>by
   have:=(hf b hb).1
   rw[z] at this; cases this
  refine I.step (g':=s.gens) (d':=s.drawn) (t':=s.toks) (ch:=[e,it]) (fun b hb=>?_) (fun b o _ _ hb z _=>kp2 b o hb z) (fun b o _ _ hb z _=>⟨o.slots,kp2 b o hb z⟩)
   (fun b o _ z n=>n) (fun b o hb z=>⟨o,kp2 b o hb z⟩) (fun b ws z=>z) (fun b o ws z=>z) (fun b ps z=>⟨#[],by rw[z]; simp⟩) (fun m hm=>?_) (fun b o z=>?_) I.bare
  ·obtain⟨f0,f1,f2,f3,f4,f5⟩:=hf b hb
   exact⟨f3,f1,f4,f5⟩
  ·obtain⟨o,es,ep,ho,r⟩:=hm
   exact⟨o,es,ep,kp2 _ o (fun hb=>(hf _ hb).2.1 rfl) ho,r⟩
  ·refine(I.hok b o z).stay (fun c w hc q=>kp2 c w ?_ q) (fun _ q=>q) fun _ _ q=>q
   rcases hc with rfl | hc
   ·exact ntr _ _ z
   ·exact ntr _ _ hc
 self:=fun _ _ _ _ _ st h=>wpAny_pyIter_enum st.1.choose_spec h
def iEnum (K:W.Frag)(ta:TA):TI:=fun σ H R=>ta σ H fun vs H1=>∃ tp l,vs=[.ref l]/\(∃ xs,Sq tp K H1 l xs)/\R (Ite tp K l) H1
theorem jQD {a:Expr}{ta:TA}{p pos:Pos}{elts:List Expr}{x1:Nat}{tp:Pos}(hg:Gl X "enumerate")(hm:X.mg "enumerate" =none)(ha:PA X [a] ta)(hv:bootBuiltins "enumerate" =some (.type "enumerate"):=by decide+kernel)
  (he:starEach [a] X.env=(false,eval a X.env)::starEach [] X.env:=by rfl) (hpl:(backTo pos (starEach [] X.env)).any (·.1)=false:=by rfl):
  PI X (.Tuple elts x1 tp) (.Call (.Name "enumerate" p) [a] [] pos) (iEnum X.K ta):=by
 intro ad s σ H R I h
 refine Call_ (jBV I hg hm hv (cP (lC (ha pos ad s σ H _ I h) fun us s1 ⟨vs,H1,I1,r1,q1⟩=>?_) he hpl))
 obtain⟨t1,l1,rfl,⟨xs,hq1⟩,q⟩:=q1
 obtain⟨u,rfl,ru⟩:=r1.one
 cases ru
 obtain⟨its1,_,p1,_⟩:=I1.sq hq1
 refine jOO p1 fun h' a1 a2 kp=>?_
 have I2:Inv X ad σ H1 { s1 with heap:=h'} :=I1.kept (t':=s1.toks) kp
 refine wpAny_pyIter_enum a1 ⟨s1.heap.objs.size+1,[s1.heap.objs.size+1,s1.heap.objs.size],_,Ite t1 X.K l1,H1,rfl,I2,jKJ t1 l1 _ _ (Nat.succ_ne_self _),⟨⟨_,a1⟩,a2⟩,fun b hb=>?_,q⟩
 have hge:s1.heap.objs.size<=b:=by
  simp only [aM,bF,dE] at hb
  rcases hb with rfl | rfl
  ·exact dL _ 1
  ·exact ai _
 exact I1.fpOk hge (I1.hok.fresh hge)
theorem jM2 {a:Expr}{t:TA}{p pos:Pos}{elts:List Expr}{x1:Nat}{tp:Pos}(hg:Gl1 X "enumerate")(hm:X.mg "enumerate" =none)(ha:JA X [a] t)(he:starEach [a] X.env=(false,eval a X.env)::starEach [] X.env)(hv:bootBuiltins "enumerate" =some (.type "enumerate"):=by decide+kernel)
  (hpl:(backTo pos (starEach [] X.env)).any (·.1)=false:=by rfl):JI X (.Tuple elts x1 tp) (.Call (.Name "enumerate" p) [a] [] pos) (iEnum X.K t):=⟨jQD hg.a hm ha.h hv he hpl⟩
variable {H1:Hp}{Q:VK}
section
variable {K:W.Frag}{σ:St}
end
section
variable {κ:Type} [DecidableEq κ]
def valV (kvs:List (κ×V))(k:κ):Option V:=(kvs.find? fun kv=>decide (kv.1=k)).map (·.2)
def putK (kvs:List (κ×V))(k:κ)(v:V):List (κ×V):=
 if (kvs.any fun kv=>decide (kv.1=k))=true then kvs.map (fun kv=>if kv.1=k then (kv.1,v) else kv) else kvs++[(k,v)]
theorem jBK {p:κ×V}{r:List (κ×V)}{k:κ}(e:p.1=k):valV (p::r) k=some p.2:=by simp [valV,eW,e]
theorem jB2 {p:κ×V}{r:List (κ×V)}{k:κ}(e:¬ p.1=k):valV (p::r) k=valV r k:=by simp [valV,eW,e]
theorem jEI (k:κ):∀ kvs:List (κ×V),(kvs.any fun kv=>decide (kv.1=k))=(valV kvs k).isSome
 | []=>rfl
 | p::r=>by
  rw[gw]
  by_cases e:p.1=k
  ·simp only [jBK e,aw e,Bool.true_or,Option.isSome_some]
  ·rw[jB2 e,aH e,ka]; exact jEI k r
theorem jBG (kvs:List (κ×V))(k:κ)(v:V):(putK kvs k v).length<=kvs.length+1:=by
 unfold putK
 split
 ·rw[ab]; lia
 ·rw[aG,aW,dY]; lia
theorem jIK {kvs:List (κ×V)}{k:κ}(v:V)(h:valV kvs k=none):putK kvs k v=kvs++[(k,v)]:=by
 unfold putK
 rw[jEI,h]
 exact aj (by decide)
theorem RelO.isSome_eq {o:Option V}{u:Option Value}(r:RelO o u):o.isSome=u.isSome:=by
 cases o with
 | none=>cases u with
  | none=>rfl
  | some _=>exact(show False from r).elim
 | some _=>cases u with
  | none=>exact(show False from r).elim
  | some _=>rfl
theorem KV.val {kvs:List (κ×V)}{vs:List (κ×Value)}(r:KV kvs vs)(k:κ):RelO (valV kvs k) (valueAt vs k):=by
 unfold KV at r
 induction r with
 | nil=>exact True.intro
 | @cons p q ps qs h t ih=>
  obtain⟨h1,h2⟩:=h
  by_cases e:p.1=k
  ·have e':q.1=k:=h1.symm.trans e
   have b:valueAt (q::qs) k=some q.2:=by simp [valueAt,eW,e']
   rw[jBK e,b]; exact h2
  ·have e':¬ q.1=k:=fun z=>e (h1.trans z)
   have b:valueAt (q::qs) k=valueAt qs k:=by simp [valueAt,eW,e']
   rw[jB2 e,b]; exact ih
theorem KV.any {kvs:List (κ×V)}{vs:List (κ×Value)}(r:KV kvs vs)(k:κ):(kvs.any fun kv=>decide (kv.1=k))=vs.any fun kv=>decide (kv.1=k):=by
 unfold KV at r
 induction r with
 | nil=>rfl
 | cons h t ih=>rw[gw,gw,ih,h.1]
theorem KV.repl {kvs:List (κ×V)}{vs:List (κ×Value)}(r:KV kvs vs)(k:κ){y:V}{u:Value}(ry:RelV y u):
  KV (kvs.map fun kv=>if kv.1=k then (kv.1,y) else kv) (vs.map fun kv=>if kv.1=k then (kv.1,u) else kv):=by
 unfold KV at r ⊢
 induction r with
 | nil=>exact .nil
 | @cons p q ps qs h t ih=>
  rw[bi,bi]
  refine .cons ?_ ih
  obtain⟨h1,h2⟩:=h
  by_cases e:p.1=k
  ·rw[ak e,ak (h1.symm.trans e)]; exact⟨h1,ry⟩
  ·rw[aj e,aj (fun z=>e (h1.trans z))]; exact⟨h1,h2⟩
theorem KV.put {kvs:List (κ×V)}{vs:List (κ×Value)}(r:KV kvs vs)(k:κ){y:V}{u:Value}(ry:RelV y u):KV (putK kvs k y) (stored vs k u):=by
 unfold putK stored
 rw[r.any k]
 by_cases e:(vs.any fun kv=>decide (kv.1=k))=true
 ·rw[ak e,ak e]; exact r.repl k ry
 ·rw[aj e,aj e]; exact Paired.snoc r ⟨rfl,ry⟩
theorem KV.keys {kvs:List (κ×V)}{vs:List (κ×Value)}(r:KV kvs vs):kvs.map (·.1)=vs.map (·.1):=by
 unfold KV at r
 induction r with
 | nil=>rfl
 | cons h t ih=>rw[bi,bi,ih,h.1]
theorem KV.length {kvs:List (κ×V)}{vs:List (κ×Value)}(r:KV kvs vs):kvs.length=vs.length:=gu r
end
theorem kV_is {P:Program}{w:World}{k:Key}{u:Value}(r:RelV (kV k) u):(kW P w).is k u=true:=by
 cases k with
 | inl i=>obtain⟨t,e⟩:=(show ∃ t,u=Value.int i t from r); subst e; exact jHR P w i t
 | inr x=>obtain⟨t,e⟩:=(show ∃ t,u=Value.str x t from r); subst e; exact jHQ P w x t
theorem jGO {P:Program}{w:World} :∀ {ks:List Key}{us:List Value},Vals (ks.map kV) us->ItemsAre (kW P w) ks us
 | [],_,r=>by rw[kx] at r; cases r; exact .nil
 | k::ks,_,r=>by
  rw[bi] at r
  cases r with
  | cons h t=>exact .cons (kV_is h) (jGO t)
abbrev KT (H:Hp):List (List Key×V)->List (List Key×Addr×Value)->Prop:=Paired fun p q=>p.1=q.1/\H q.2.1=some (.tup (p.1.map kV))/\RelV p.2 q.2.2
theorem KT.val {H:Hp}{kvs:List (List Key×V)}{xs:List (List Key×Addr×Value)}(r:KT H kvs xs)(k:List Key):RelO (valV kvs k) ((atKey xs k).map (·.2)):=by
 induction r with
 | nil=>exact True.intro
 | @cons p q ps qs h t ih=>
  obtain⟨h1,_,h2⟩:=h
  by_cases e:p.1=k
  ·have e':q.1=k:=h1.symm.trans e
   have b:atKey (q::qs) k=some q.2:=by simp [atKey,eW,e']
   rw[jBK e,b]; exact h2
  ·have e':¬ q.1=k:=fun z=>e (h1.trans z)
   have b:atKey (q::qs) k=atKey qs k:=by simp [atKey,eW,e']
   rw[jB2 e,b]; exact ih
theorem KT.repl {H:Hp}{kvs:List (List Key×V)}{xs:List (List Key×Addr×Value)}(r:KT H kvs xs)(k:List Key){y:V}{u:Value}(ry:RelV y u):
  KT H (kvs.map fun kv=>if kv.1=k then (kv.1,y) else kv) (xs.map (putAt k u)):=by
 induction r with
 | nil=>exact .nil
 | @cons p q ps qs h t ih=>
  rw[bi,bi]
  refine .cons ?_ ih
  obtain⟨h1,h2,h3⟩:=h
  unfold putAt
  by_cases e:p.1=k
  ·rw[ak e,ak (h1.symm.trans e)]; exact⟨h1,h2,ry⟩
  ·rw[aj e,aj (fun z=>e (h1.trans z))]; exact⟨h1,h2,h3⟩
theorem KT.put {H:Hp}{kvs:List (List Key×V)}{xs:List (List Key×Addr×Value)}(r:KT H kvs xs)(k:List Key){b:Addr}{y:V}{u:Value}(hb:H b=some (.tup (k.map kV)))(ry:RelV y u):
  KT H (putK kvs k y) (storedH xs k b u):=by
 have e:(kvs.any fun kv=>decide (kv.1=k))=(atKey xs k).isSome:=by
  rw[jEI,(r.val k).isSome_eq,isSome_map]
 unfold putK storedH
 rw[e]
 by_cases q:(atKey xs k).isSome=true
 ·rw[ak q,ak q]; exact r.repl k ry
 ·rw[aj q,aj q]; exact Paired.snoc r ⟨rfl,hb,ry⟩
theorem KT.keeps {H H':Hp}{kvs:List (List Key×V)}{xs:List (List Key×Addr×Value)}(r:KT H kvs xs)(ht:∀ b ys,H b=some (.tup ys)->H' b=some (.tup ys)):KT H' kvs xs:=
 Paired.mapP r fun _ _ z=>⟨z.1,ht _ _ z.2.1,z.2.2⟩
theorem rd_of {u:HO}(ok:HOk P w H h)(e:Rd H a u):ObjOk P w H h a u:=e.ok ok
theorem dk_rd {kvs:List (Key×V)}(ok:HOk P w H h)(e:Rd H a (.dK kvs)):kvs.length<=sizeLine/\(a==sysModules)=false/\∃ vs,KV kvs vs/\h.DictOf (kW P w) a vs:=
 show ObjOk P w H h a (.dK kvs) from rd_of ok e
theorem dk_of {kvs:List (Key×V)}(ok:HOk P w H h)(e:H a=some (.dK kvs)):kvs.length<=sizeLine/\(a==sysModules)=false/\∃ vs,KV kvs vs/\h.DictOf (kW P w) a vs:=dk_rd ok (.inl e)
theorem jIW {ks:List Key}(ok:HOk P w H h)(e:H a=some (.tup (ks.map kV))):(tupleKind (kW P w)).is h ks a:=by
 obtain⟨_,its,r,p⟩:=(show ObjOk P w H h a (.tup (ks.map kV)) from ok a _ e)
 obtain⟨o,h1,h2,n,h3⟩:=p.isTup
 exact⟨o,its.toArray,n,h1,h2,h3,by simpa using jGO r⟩
theorem dt_rd {kvs:List (List Key×V)}(ok:HOk P w H h)(e:Rd H a (.dT kvs)):kvs.length<=sizeLine/\(a==sysModules)=false/\
  ∃ xs,KT H kvs xs/\h.DictOfH (tupleKind (kW P w)) a xs:=by
 obtain⟨z,y,xs,r,o,es,ep,h1,h2,h3,h4,h5⟩:=(show ObjOk P w H h a (.dT kvs) from rd_of ok e)
 refine⟨z,y,xs,r,o,es,ep,h1,h2,h3,h4,fun x hx=>?_,h5⟩
 have all:∀ {l:List (List Key×V)}{m:List (List Key×Addr×Value)},KT H l m->∀ x∈m,(tupleKind (kW P w)).is h x.1 x.2.1:=by
  intro l m q
  induction q with
  | nil=>intro x hx; exact nomatch hx
  | @cons p q ps qs hq t ih=>
   intro x hx
   rcases aM.mp hx with e | hx
   ·subst e
    exact jIW ok (by rw[<- hq.1]; exact hq.2.1)
   ·exact ih x hx
 exact all r x hx
theorem dt_of {kvs:List (List Key×V)}(ok:HOk P w H h)(e:H a=some (.dT kvs)):kvs.length<=sizeLine/\(a==sysModules)=false/\
  ∃ xs,KT H kvs xs/\h.DictOfH (tupleKind (kW P w)) a xs:=dt_rd ok (.inl e)
def DGet (H:Hp)(a:Addr)(y:V)(r:Option V):Prop:=
 (∃ kvs k,Rd H a (.dK kvs)/\y=kV k/\r=valV kvs k)\/∃ kvs k b,Rd H a (.dT kvs)/\y= .ref b/\H b=some (.tup (k.map kV))/\r=valV kvs k
def DPut (H:Hp)(a:Addr)(y v:V)(H':Hp):Prop:=
 (∃ kvs k,H a=some (.dK kvs)/\y=kV k/\kvs.length<sizeLine/\H'=upd H a (.dK (putK kvs k v)))\/
 ∃ kvs k b,H a=some (.dT kvs)/\y= .ref b/\H b=some (.tup (k.map kV))/\kvs.length<sizeLine/\H'=upd H a (.dT (putK kvs k v))
theorem DGet.k {H:Hp}{a:Addr}{kvs:List (Key×V)}{k:Key}(e:H a=some (.dK kvs)):DGet H a (kV k) (valV kvs k):= .inl ⟨kvs,k, .inl e,rfl,rfl⟩
theorem DPut.k {H:Hp}{a:Addr}{kvs:List (Key×V)}{k:Key}{v:V}(e:H a=some (.dK kvs))(hl:kvs.length<sizeLine):DPut H a (kV k) v (upd H a (.dK (putK kvs k v))):= .inl ⟨kvs,k,e,rfl,hl,rfl⟩
variable {y:V}{u r:Value}
section
variable {σ:St}{v:V}{o:Option V}
theorem Inv.big (I:Inv X ad σ H s):sysModules<s.heap.objs.size:=by
 have h:mainGlobals<s.heap.objs.size:=(I.mod.glob.keeps I.bk).lt
 exact gX (by decide) h
theorem jML {Q:Value->Shared->Prop}(hu:A.units+1<cLine)(I:Inv X ad σ H s)(g:DGet H a y (some v))(ry:RelV y u)(h:∀ w' s',Inv X ad σ H s'->RelV v w'->Q w' s'):
  wpAny (model X.prog X.w) A (getItem (.ref a) u) Q E s:=by
 rcases g with ⟨kvs,k,e,ey,l⟩ | ⟨kvs,k,b,e,ey,eb,l⟩
 ·subst ey
  obtain⟨z,hd,vs,rel,dd⟩:=dk_rd I.hok e
  obtain⟨w',hw,rw'⟩:=RelO.some_of (v:=v) (o:=valueAt vs k) (by rw[l]; exact rel.val k)
  exact wpAny_getItem_of (kV_is ry) dd.mapOf hw (h w' _ (I.tok _) rw')
 ·subst ey
  cases (show u=Value.ref b from ry)
  obtain⟨z,hd,xs,rel,dd⟩:=dt_rd I.hok e
  obtain⟨w',hw,rw'⟩:=RelO.some_of (v:=v) (o:=(atKey xs k).map (·.2)) (by rw[l]; exact rel.val k)
  obtain⟨p,hp,hp2⟩:=Option.map_eq_some_iff.mp hw
  refine wpAny_getItem_heap (hG hu) (jIW I.hok eb) dd hp ?_
  rw[hp2]
  exact h w' _ (I.tok _) rw'
theorem jRM {Q:Value->Shared->Prop}(hu:A.units+1<cLine)(I:Inv X ad σ H s)(g:DGet H a y o)(ry:RelV y u)(h:∀ s',Inv X ad σ H s'->Q (.bool (!o.isSome)) s'):
  wpAny (model X.prog X.w) A (compareOp .NotIn u (.ref a)) Q E s:=by
 rcases g with ⟨kvs,k,e,ey,l⟩ | ⟨kvs,k,b,e,ey,eb,l⟩
 ·subst ey
  obtain⟨z,hd,vs,rel,dd⟩:=dk_rd I.hok e
  refine wpAny_notIn_of (kV_is ry) hd dd.mapOf ?_
  rw[<- (rel.val k).isSome_eq,<- l]
  exact h _ (I.tok _)
 ·subst ey
  cases (show u=Value.ref b from ry)
  obtain⟨z,hd,xs,rel,dd⟩:=dt_rd I.hok e
  refine wpAny_notIn_heap (hG hu) (jIW I.hok eb) hd dd ?_
  have q:=(rel.val k).isSome_eq
  rw[isSome_map] at q
  rw[<- q,<- l]
  exact h _ (I.tok _)
theorem jI2 {h':Heap}{t':Nat}{ob:HO}(I:Inv X ad σ H s)(mu:Mut (H a))(hs:Heap.SameBut a s.heap h')(he:∃ q,h'.get? a=some q)(new:ObjOk X.prog X.w (upd H a ob) h' a ob):
  Inv X ad σ (upd H a ob) { s with heap:=h',toks:=t'} :=
 I.write (x:=a) (e:=a) mu (.inl rfl) (fun b q hb z=>(hs.2 b hb).trans z) he new
theorem jPI {P:Program}{w:World}{H':Hp}{h':Heap}{kvs:List (Key×V)}{vs:List (Key×Value)}(z:kvs.length<=sizeLine)(hd:(a==sysModules)=false)(rel:KV kvs vs)(dd:h'.DictOf (kW P w) a vs):
  ObjOk P w H' h' a (.dK kvs):=⟨z,hd,vs,rel,dd⟩
theorem jMK {H':Hp}{Q:Unit->Shared->Prop}(hu:A.units+1<cLine)(I:Inv X ad σ H s)(g:DPut H a y v H')(ry:RelV y u)(rv:RelV v r)(h:∀ s',Inv X ad σ H' s'->Q () s'):
  wpAny (model X.prog X.w) A (setItem (.ref a) u r) Q E s:=by
 rcases g with ⟨kvs,k,e,ey,l,eH⟩ | ⟨kvs,k,b,e,ey,eb,l,eH⟩
 ·subst ey eH
  obtain⟨z,hd,vs,rel,dd⟩:=dk_of I.hok e
  have hz:vs.length<=sizeLine:=by rw[<- rel.length]; exact z
  have hl:(putK kvs k v).length<=sizeLine:=by have:=jBG kvs k v; lia
  refine wpAny_setItem_pairs (hsz:=hz) (kV_is ry) dd fun h' dd' hs=>h _ ?_
  have he:∃ q,h'.get? a=some q:=let ⟨q,_,_,hq,_⟩:=dd'; ⟨q,hq⟩
  exact jI2 I (by rw[e]; exact True.intro) hs he (jPI hl hd (rel.put k rv) dd')
 ·subst ey eH
  cases (show u=Value.ref b from ry)
  obtain⟨z,hd,xs,rel,dd⟩:=dt_of I.hok e
  have hz:xs.length<=sizeLine:=by rw[<- gu rel]; exact z
  have hl:(putK kvs k v).length<=sizeLine:=by have:=jBG kvs k v; lia
  refine wpAny_setItem_heap (hsz:=hz) (hG hu) (jIW I.hok eb) dd fun h' dd' hs=>h _ ?_
  obtain⟨q,es,ep,hq,h2,h3,h4,_,h5⟩:=dd'
  refine jI2 I (by rw[e]; exact True.intro) hs ⟨q,hq⟩ ⟨hl,hd,_,(rel.put k eb rv).keeps fun c ys ec=>?_,q,es,ep,hq,h2,h3,h4,h5⟩
  rw[j7 (ne_of ec e (fun z=>nomatch z))]
  exact ec
end
variable {kvs:List (Key×V)}
section
variable {σ:St}{k:Key}
end
def NoSl (i:Expr):Prop:=∀ ov iv,subscripted i false ov iv=operate [ov,iv] (getItem ov iv)
theorem jPW {prog:Program}{w:World}{A:Around}{E:Value->Shared->Prop}{s:Shared}{env:Env}{value slice:Expr}{pos:Pos}{T id:String}{Q:Value->Shared->Prop}
  (hl:typeLookup (.type T) "__getitem__" =pure (some (.builtin id))) (hs:NoSl slice)
  (h:wpAny (model prog w) A (eval value env) (fun o s₁=>wpAny (model prog w) A (eval slice env) (fun i s₂=>s₂.TypeIs o T/\wpAny (model prog w) A (getItem o i) Q E s₂) E s₁) E s):
  wpAny (model prog w) A (eval (.Subscript value slice pos) env) Q E s:=by
 refine Subscript_ (bX h (fun o s₁ h₁=>bX h₁ (fun i s₂ h₂=>?_) fun _ _ x=>x) fun _ _ x=>x)
 obtain⟨hT,h₂⟩:=h₂
 unfold subscriptTail
 refine aa ?_
 rw[getitemInPython_of_ne hT.not_modules]
 refine aa (wpAny_specialOf hT hl ?_)
 have fin:wpAny (model prog w) A (subscripted slice false o i) (fun r s₃=>wpAny (model prog w) A (letTemporaryGo value o r >>= fun _=>pure r) Q E s₃) E s₂:=by
  rw[hs o i]
  exact wpAny_operating (bX h₂ (fun r s₃ h₃=>aa (wpAny_letTemporaryGo (ah h₃))) fun _ _ x=>x)
 first
  | exact ah (aa fin)
  | exact aa (ah (aa fin))
  | exact aa fin
theorem jI1 {X:Cx}{ad:List (Addr×Obj)}{σ:St}{H:Hp}{s:Shared}{a:Addr}{y:V}{o:Option V}(I:Inv X ad σ H s)(g:DGet H a y o):s.TypeIs (.ref a) "dict" :=by
 rcases g with ⟨kvs,k,e,_,_⟩ | ⟨kvs,k,b,e,_,_,_⟩
 ·obtain⟨_,_,vs,_,dd⟩:=dk_rd I.hok e
  exact dd.typeIs
 ·obtain⟨_,_,xs,_,dd⟩:=dt_rd I.hok e
  exact dd.typeIs
def tDGet (td ty:TE):TE:=fun σ H Q=>td σ H fun x H1=>ty σ H1 fun y H2=>∃ a v,x= .ref a/\DGet H2 a y (some v)/\Q v H2
def jKP (ty td:TE):TE:=fun σ H Q=>ty σ H fun y H1=>td σ H1 fun x H2=>∃ a o,x= .ref a/\DGet H2 a y o/\Q (.bl (!o.isSome)) H2
def sDPut (td ty tv:TE):TS:=fun D σ H=>tv σ H fun v H1=>td σ H1 fun x H2=>ty σ H2 fun y H3=>∃ a H4,x= .ref a/\DPut H3 a y v H4/\D.nx σ H4
variable {o value:Expr}{pos':Pos}{td tv:TE}
section
variable {i:Expr}{tpos:Pos}{ty:TE}
theorem jQG (hu:X.A.units+1<cLine)(ho:PE X o td)(hi:PE X i ty)(hs:NoSl i):PE X (.Subscript o i pos) (tDGet td ty):=by
 intro ad s σ H Q I h
 refine jPW PySem.F.slot_dict_getitem.lookup hs (lC (ho ad s σ H _ I h) fun u s1 ⟨x,H1,I1,rx,q1⟩=>lC (hi ad s1 σ H1 _ I1 q1) fun iv s2 ⟨y,H2,I2,ry,a,v,ex,g,q2⟩=>?_)
 subst ex
 obtain rfl:u=Value.ref a:=rx
 exact⟨jI1 I2 g,jML hu I2 g ry fun w' s3 I3 rw'=>⟨v,H2,I3,rw',q2⟩⟩
theorem jL4 (hu:X.A.units+1<cLine)(hi:PE X i ty)(ho:PE X o td):PC X .NotIn i o (jKP ty td):=by
 intro ad s σ H Q I h
 refine lC (hi ad s σ H _ I h) fun iv s1 ⟨y,H1,I1,ry,q1⟩=>lC (ho ad s1 σ H1 _ I1 q1) fun u s2 ⟨x,H2,I2,rx,a,ov,ex,g,q2⟩=>?_
 subst ex
 obtain rfl:u=Value.ref a:=rx
 exact jRM hu I2 g ry fun s3 I3=>⟨.bl (!ov.isSome),H2,I3,rfl,q2⟩
theorem jQ6 (hu:X.A.units+1<cLine)(ho:PE X o td)(hi:PE X i ty)(hv:PE X value tv)(hs:swapsWith value (some (.Subscript o i pos')) pos.line X.env=pure false):
  PS X (.Assign [.Subscript o i pos'] value pos) (sDPut td ty tv):=by
 intro ad s σ H D I h
 refine wpAny_Assign_Subscript (lC (hv ad s σ H _ I h) fun r s1 ⟨v,H1,I1,rv,q1⟩=>lC (ho ad s1 σ H1 _ I1 q1) fun u s2 ⟨x,H2,I2,rx,q2⟩=>lC (hi ad s2 σ H2 _ I2 q2) fun iv s3 ⟨y,H3,I3,ry,a,H4,ex,g,q3⟩=>?_) hs
 subst ex
 obtain rfl:u=Value.ref a:=rx
 exact jMK hu I3 g ry rv fun s4 I4=>⟨σ,H4,I4,q3⟩
end
theorem jOI {P:Program}{w:World}{H:Hp}(h:Heap)(hb:sysModules<h.objs.size):ObjOk P w H (h.push { cls:= .type "dict",data:= .dict #[]}) h.objs.size (.dK []):=
 ⟨ba _,dB.mpr (dZ (aV hb)),[], .nil,Heap.DictOf.new h⟩
def jKO:List (TE×TE)->St->Hp->(List (V×V)->Hp->Prop)->Prop
 | [],_,H,Q=>Q [] H
 | (tk,tv)::r,σ,H,Q=>tk σ H fun x H1=>tv σ H1 fun y H2=>jKO r σ H2 fun ps H3=>Q ((x,y)::ps) H3
abbrev VV:List (V×V)->List (Value×Value)->Prop:=Paired fun p q=>RelV p.1 q.1/\RelV p.2 q.2
def PPs (X:Cx)(pos:Pos)(keys:List (Option Expr))(values:List Expr)(trs:List (TE×TE)):Prop:=
 ∀ (ad:List (Addr×Obj)) (s:Shared) (σ:St) (H:Hp) (Q:List (V×V)->Hp->Prop),Inv X ad σ H s->jKO trs σ H Q->
  wpAny (model X.prog X.w) X.A (evalPairs (pairTrees keys values X.env pos)) (fun vs s'=>∃ ps H',Inv X ad σ H' s'/\VV ps vs/\Q ps H') X.xe s
theorem jQ7 {X:Cx}{pos:Pos} :PPs X pos [] [] []:=fun ad s σ H Q I h=>pairTrees_nil_walk ⟨[],H,I, .nil,h⟩
theorem jNO {X:Cx}{pos:Pos}{k v:Expr}{ks:List (Option Expr)}{vs:List Expr}{tk tv:TE}{trs:List (TE×TE)}(hk:PE X k tk)(hv:PE X v tv)(hr:PPs X pos ks vs trs):
  PPs X pos (some k::ks) (v::vs) ((tk,tv)::trs):=fun ad s σ H Q I h=>
 pairTrees_cons_walk (lC (hk ad s σ H _ I h) fun u s1 ⟨x,H1,I1,rx,q1⟩=>lC (hv ad s1 σ H1 _ I1 q1) fun w2 s2 ⟨y,H2,I2,ry,q2⟩=>
  lC (hr ad s2 σ H2 _ I2 q2) fun ws s3 ⟨ps,H3,I3,rel,q3⟩=>⟨(x,y)::ps,H3,I3, .cons ⟨rx,ry⟩ rel,q3⟩)
def jGE (kvs more:List (Key×V)):List (Key×V):=more.foldl (fun acc kv=>putK acc kv.1 kv.2) kvs
theorem KV.merge:∀ {more:List (Key×V)}{rs:List (Key×Value)}{kvs:List (Key×V)}{vs:List (Key×Value)},KV more rs->KV kvs vs->KV (jGE kvs more) (merged vs rs):=by
 intro more rs kvs vs r
 unfold KV at r
 induction r generalizing kvs vs with
 | nil=>intro q; exact q
 | @cons p q ps qs h t ih=>
  intro r0
  have e:KV (putK kvs p.1 p.2) (stored vs q.1 q.2):=by
   have:=r0.put p.1 h.2
   rw[<- h.1]; exact this
  exact ih e
theorem jBU:∀ (more kvs:List (Key×V)),(jGE kvs more).length<=kvs.length+more.length
 | [],kvs=>by show kvs.length<=kvs.length+0; lia
 | p::r,kvs=>by
  have h1:=jBU r (putK kvs p.1 p.2)
  have h2:=jBG kvs p.1 p.2
  show (jGE (putK kvs p.1 p.2) r).length<=_
  rw[aW]; lia
theorem jEF {P:Program}{w:World} :∀ {kvs:List (Key×V)}{ws:List (Value×Value)},VV (kvs.map fun kv=>(kV kv.1,kv.2)) ws->∃ rs,Carries (kW P w) ws rs/\KV kvs rs
 | [],_,r=>by rw[kx] at r; cases r; exact⟨[],True.intro, .nil⟩
 | p::kvs,_,r=>by
  rw[bi] at r
  cases r with
  | @cons a b as bs h t=>
   obtain⟨rs,c,q⟩:=jEF (P:=P) (w:=w) t
   obtain⟨b1,b2⟩:=b
   exact⟨(p.1,b2)::rs,⟨kV_is h.1,rfl,c⟩, .cons ⟨rfl,h.2⟩ q⟩
def tDisp (trs:List (TE×TE)):TE:=fun σ H Q=>∀ p,H p=none->jKO trs σ (upd H p (.dK [])) fun ps H2=>H2 p=some (.dK [])/\∃ kvs:List (Key×V),ps=kvs.map (fun kv=>(kV kv.1,kv.2))/\kvs.length<=15/\Q (.ref p) (upd H2 p (.dK (jGE [] kvs)))
theorem jQF {X:Cx}{pos:Pos}{keys:List (Option Expr)}{values:List Expr}{trs:List (TE×TE)}(h:PPs X pos keys values trs)(hall:keys.all (·.isSome)=true)(hl:keys.length=values.length)(h0:keys≠ [])
  (h15:keys.length<=15):PE X (.Dict keys values pos) (tDisp trs):=by
 intro ad s σ H Q I q
 have hn:=I.hok.fresh (ai s.heap.objs.size)
 have I1:=I.laid (a:=s.heap.objs.size) (o:= .dK []) (h':=s.heap.push { cls:= .type "dict",data:= .dict #[]}) (t':=s.toks) (fun _ _ q=>ae _ q) (ai _) (jOI s.heap I.big)
 refine wpAny_Dict_walk (knd:=kW X.prog X.w) hall hl h0 h15 (lC (h ad _ σ _ _ I1 (q _ hn)) fun ws s2 ⟨ps,H2,I2,rel,e,kvs,ep,lk,q2⟩=>?_)
 subst ep
 obtain⟨rs,c,rk⟩:=jEF (P:=X.prog) (w:=X.w) rel
 obtain⟨z,hd,vs0,r0,dd⟩:=dk_of I2.hok e
 cases r0
 refine⟨rs,c,dd,fun h' dd' hs=>⟨.ref s.heap.objs.size,_,?_,rfl,q2⟩⟩
 have hz:(jGE [] kvs).length<=sizeLine:=by
  have h1:=jBU kvs []
  rw[dY] at h1
  rw[fY]; lia
 have he:∃ q,h'.get? s.heap.objs.size=some q:=let ⟨q,_,_,hq,_⟩:=dd'; ⟨q,hq⟩
 exact jI2 I2 (by rw[e]; exact True.intro) hs he (jPI hz hd (rk.merge .nil) dd')
section
variable {σ:St}{d:V}{o:Option V}
end
variable {apos:Pos}{tx:TE}
section
variable {f:Expr}{ty:TE}
end
section
variable {σ:St}
end
section
variable {σ:St}
end
section
variable {κ:Type} [DecidableEq κ]
end
section
variable {d:Addr}{kvs:List (Key×Value)}
theorem jI5 {T:String}{r d:Addr}{n:Nat}{P:Nat->Value->Prop}{OK:Heap->Prop}{R:List Value->Shared->Prop}(K:PySem.W.KdlSrc prog w T r d n P OK)(hh:A.handled=none)(hok:OK s.heap)(hn:n<=sizeLine)
  (h:∀ (h':Heap) (tk:Nat) (acc:Array Value),(∀ b o,s.heap.get? b=some o->h'.get? b=some o)->s.heap.objs.size<h'.objs.size->ItemsOf P acc n->R acc.toList { s with heap:=h',toks:=tk}):
  wpAny (model prog w) A (collect (.ref r)) R E s:=by
 have hlt:=K.there _ hok
 unfold collect
 refine aa (jm (dy entry_proto_collect' ?_))
 rw[cM gY _]
 show wpAny _ A.in1 (newList [] >>= fun l=>again (.builtin "list.__iadd__" ⟨[l, .ref r],[]⟩)) _ _ s
 refine aa (cR ?_)
 refine ah ⟨gx eL _,dy entry_list_iadd' ?_⟩
 rw[cM eL _]
 have hS:(s.heap.push { cls:= .type "list",data:= .seq ([]:List Value).toArray}).get? s.heap.objs.size=some { cls:= .type "list",data:= .seq #[]} :=aJ _ rfl
 show wpAny _ A.in1 (Builtin.List.listExtendWith (.ref s.heap.objs.size) (.ref r) (.ref s.heap.objs.size)) _ _ _
 refine bX (PySem.W.kdl_extend (A:=A) (s:= { s with heap:=s.heap.push { cls:= .type "list",data:= .seq ([]:List Value).toArray}})
  (R:=fun (q:Result) (s':Shared)=>∃ (h':Heap) (tk:Nat) (acc:Array Value) (c:Nat),q= .ok (.ret (.ref s.heap.objs.size))/\s'= { s with heap:=h',toks:=tk} /\
   (∀ b o,s.heap.get? b=some o->h'.get? b=some o)/\h'.get? s.heap.objs.size=some { cls:= .type "list",dict:=none,data:= .seq acc c,slots:=#[]} /\ItemsOf P acc n)
  K hh (K.keep _ _ hok fun b _ o e=>ae _ e) s.heap.objs.size (cK hlt.1) (cK hlt.2) (.ref s.heap.objs.size) 0 hS
  (fun h' tk acc c hk hS' hacc=>⟨h',tk,acc,c,rfl,rfl,fun b o e=>hk b o (aV (aE e)) (ae _ e),hS',hacc⟩) hn) (fun fin s' x=>?_) fun e s' x=>?_
 ·cases fin with
  | done f=>
   obtain⟨h',tk,acc,c,e,rfl,hk,hS',hacc⟩:=x
   cases e
   show wpAny _ A (load s.heap.objs.size >>= _) _ _ _
   exact aa (g5 hS' (ah (h h' tk acc hk (aE hS') hacc)))
  | again c1=>
   refine⟨x.1,eQ x.2 fun q s2 y=>?_⟩
   obtain⟨h',tk,acc,c,rfl,rfl,hk,hS',hacc⟩:=y
   show wpAny _ A (load s.heap.objs.size >>= _) _ _ _
   exact aa (g5 hS' (ah (h h' tk acc hk (aE hS') hacc)))
 ·obtain⟨_,_,_,_,e',_⟩:=x
  cases e'
end
section
variable {i f:Expr}{ty:TE}
theorem jDR (hu:X.A.units+1<cLine)(ho:JE X o td)(hi:JE X i ty)(hs:jB0 i):JE X (.Subscript o i pos) (tDGet td ty):=⟨jQG hu ho.h hi.h hs⟩
theorem jHW (hu:X.A.units+1<cLine)(ho:JE X o td)(hi:JE X i ty)(hv:JE X value tv)(hs:SwOk value (some (.Subscript o i pos'))):JS X (.Assign [.Subscript o i pos'] value pos) (sDPut td ty tv):=⟨jQ6 hu ho.h hi.h hv.h (hs.h _ _)⟩
end
section
variable {prog:Program}{w:World}{K:Type} [DecidableEq K]{knd:KeyKind prog w K}{A:Around}{R:Result->Shared->Prop}{I:Addr}{fp wr:List Addr}{n:Nat}{P:Nat->Value->Prop}{St:Nat->Shared->Prop}
end
section
variable {prog:Program}{w:World}{K:Type} [DecidableEq K]{knd:KeyKind prog w K}{A:Around}{E:Value->Shared->Prop}{s:Shared}
end
section
variable {K:W.Frag}
theorem gl_n (h:sc.names.lookup x=some .globalImplicit):Gl1 (cxN P w K mg base N qual sc f cd cl A outer s H) x:=⟨h⟩
theorem vis_n (h:sc.names.lookup x=some .local):Vis1 (cxN P w K mg base N qual sc f cd cl A outer s H) x:=⟨.inl h⟩
theorem jRY (h:sc.names.lookup x=some .free):Vis1 (cxN P w K mg base N qual sc f cd cl A outer s H) x:=⟨.inr (.inr h)⟩
end
def AtS (tp:Bool)(H:Hp)(a:Addr)(xs:List V):Prop:=match tp with
 | false=>H a=some (.lst xs)
 | true=>H a=some (.tup xs)
section
variable {K:W.Frag}{σ:St}
theorem jGS {a:Addr}{xs:List V}(hn:xs.length<sizeLine)(Pv:Addr->Nat->St->Hp->List V->Prop)(h0:∀ D,H1 D=none->Pv D 0 (blkσ m σ) (upd H1 D (.lst [])) [])
  (hD:∀ D i σ' H' zs,H1 D=none->Pv D i σ' H' zs->H' a=some (.lst xs)/\H' D=some (.lst zs)/\zs.length<=i)
  (hs:∀ D i σ' H' zs x,H1 D=none->xs[i]?=some x->Pv D i σ' H' zs->g x σ' H' fun σ2 H2=>tt σ2 H2 fun b H3=>if b=true then te σ2 H3 fun v H4=>H4 D=some (.lst zs)/\Pv D (i+1) σ2 (upd H4 D (.lst (zs++[v]))) (zs++[v]) else Pv D (i+1) σ2 H3 zs)
  (hd:∀ D σ' H' zs,H1 D=none->Pv D xs.length σ' H' zs->Q (.ref D) H'):qB m g tt te σ Q (Itl K a) H1:=by
 intro D hDn
 refine⟨fun i k σ' H' zs=>k=xs.length - i/\i<=xs.length/\Pv D i σ' H' zs,⟨_,rfl,ba _,h0 D hDn⟩,?_⟩
 rintro i k σ' H' zs ⟨rfl,hi,p⟩
 obtain⟨s1,q1,q2⟩:=hD D i σ' H' zs hDn p
 refine⟨q1,by lia,?_⟩
 by_cases hlt:i<xs.length
 ·refine .inr ⟨⟨xs,xs[i],SqL.of s1,by simp [hlt]⟩,Pv D (i+1),fun σ2 H2 zs z=>⟨xs.length - (i+1),by lia,rfl,hlt,z⟩,fun v H'' y=>?_⟩
  obtain⟨e1,e2⟩:=y
  subst e1
  exact hs D i σ' _ zs v hDn (e2 xs (SqL.of s1)) p
 ·have e:i=xs.length:=by lia
  subst e
  exact .inl ⟨⟨xs,SqL.of s1,ai _⟩,hd D σ' H' zs hDn p⟩
end
theorem ExtT.of {T:Addr}{H H':Hp}(e:Ext H H'):ExtT T H H':=fun b o h _=>e b o h
theorem ExtT.trans {T:Addr}{H H' H'':Hp}(a:ExtT T H H')(b:ExtT T H' H''):ExtT T H H'':=fun c o h n=>b c o (a c o h n) n
theorem TabOk.is {H:Hp}{T:Addr}{pos:Pos}{q:Str}(t:TabOk H T pos q):∃ ps,H T=some (.tbl ps):=by
 rcases t with h | ⟨c,h,_⟩
 ·exact⟨_,h⟩
 ·exact⟨_,h⟩
theorem TabOk.ne {H:Hp}{T:Addr}{pos:Pos}{q:Str}(t:TabOk H T pos q){b:Addr}{o:HO}(h:H b=some o)(ho:∀ ps,o≠ .tbl ps):b≠T:=fun e=>by
 obtain⟨ps,z⟩:=t.is
 rw[e,z] at h
 cases h
 exact ho ps rfl
theorem TabOk.ext {H H':Hp}{T:Addr}{pos:Pos}{q:Str}(t:TabOk H T pos q)(e:Ext H H'):TabOk H' T pos q:=by
 rcases t with h | ⟨c,h,h2⟩
 ·exact .inl (e _ _ h)
 ·exact .inr ⟨c,e _ _ h,e _ _ h2⟩
theorem ExtT.at {T:Addr}{H H':Hp}(e:ExtT T H H'){pos:Pos}{q:Str}(t:TabOk H T pos q){b:Addr}{o:HO}(h:H b=some o)(ho:∀ ps,o≠ .tbl ps:=by intro _ z; cases z):H' b=some o:=e b o h (t.ne h ho)
structure FunC (K:W.Frag)(x qual:Str)(st:Stmt)(f:Addr)(fd:FuncData)(c0:Addr):Prop where
 ex:∃ (oc:Value) (od:Option Addr) (kV doc pm:Value) (an:Option Addr) (ct:Value) (osl:Array (Option Value)),fd=PySem.W.fnOf x qual (yC st) (jC st) (j8 st) .none kV doc pm an (.ref c0) ct/\K.lookup f=some ⟨oc,od, .func fd,osl⟩/\PySem.W.codeIn K (.ref c0) qual=true
theorem FunC.ok {P:Program}{w:World}{K:W.Frag}{mg:Str->Option Value}{base:Heap}{x qual:Str}{st:Stmt}{f c0:Addr}{fd:FuncData}{N ps:List Str}{k:Nat}{sp:Sp}(F:FunC K x qual st f fd c0)(S:FnScope N ps (j8 st))(len:∀ vs H Q E,sp vs H Q E->vs.length=ps.length)
  (hbody:∀ (A:Around) (outer:List Env) (s:Shared) (H:Hp) (vs:List V) (Q:VK) (E:XK),Room k (A.deeper (envOfC qual (j8 st) s.heap.objs.size f (.ref c0)))->sp vs H Q E->
   ∃ t,PSs (cxOf CX0 P w K mg base N qual (j8 st) f (.ref c0) A outer s H E).nox (jC st) t/\t { nx:=fun _ H'=>Q .non H',rt:=Q} (kZ N vs) H):FnOk P w K mg base CX0 (k+1) f fd ps sp:=by
 obtain⟨oc,od,kV,doc,pm,an,ct,osl,rfl,lk,hcd⟩:=F.ex
 refine fn_of lk hcd S len fun A outer s H vs Q E hr hsp=>?_
 obtain⟨t,ht,hq⟩:=hbody A outer s H vs Q E hr hsp
 exact⟨t,ht.nox,hq⟩
variable {fp:List Addr}
section
variable {sc2:Scope}{cl2:List (Str×Addr)}{C2:Addr}{Nc2:List Str}{fp2:List Addr}{s2:Shared}{H2:Hp}
end
theorem jTJ {X:Cx}{st:Stmt} :JS X st (fun _ _ _=>False):=⟨fun _ _ _ _ _ _ h=>h.elim⟩
section
variable {K:W.Frag}{σ:St}
abbrev TupsK (H H':Hp):Prop:=∀ b xs,H b=some (.tup xs)->H' b=some (.tup xs)
structure ZOk (Z:Hp->List V->Nat->Prop):Prop where
 z0:∀ H,Z H [] 0
 mono:∀ H H' zs j,TupsK H H'->Z H zs j->Z H' zs j
 len:∀ H zs j,Z H zs j->zs.length<=j
theorem jFV {H:Hp}{D:Addr}{zs:List V}(h:H D=some (.lst zs))(o:HO):TupsK H (upd H D o):=fun b xs hb=>by
 rw[j7 (fun e=>by rw[e,h] at hb; cases hb)]
 exact hb
def TurnZ (g:TG)(tt:TT)(te:TE)(σP:St->Prop)(Z:Hp->List V->Nat->Prop)(x:V)(j:Nat)(σ':St)(H':Hp)(zs:List V):Prop:=
 ∀ (R:St->V->Hp->Prop) (S:St->Hp->Prop),(∀ σ2 v H2,σP σ2->Ext H' H2->Z H2 (zs++[v]) (j+1)->R σ2 v H2)->(∀ σ2 H2,σP σ2->Ext H' H2->Z H2 zs (j+1)->S σ2 H2)->
  g x σ' H' fun σ2 H2=>tt σ2 H2 fun b H3=>if b=true then te σ2 H3 (R σ2) else S σ2 H3
theorem jMQ {tp:Bool}{a:Addr}{xs:List V}(σP:St->Prop)(Z:Hp->List V->Nat->Prop)(zo:ZOk Z)(ha:AtS tp H a xs)(hn:xs.length<sizeLine)(h0:σP (blkσ m σ))
  (step:∀ j x σ' H' zs,xs[j]?=some x->σP σ'->Ext H H'->Z H' zs j->TurnZ g tt te σP Z x j σ' H' zs)
  (hd:∀ D H' zs,H' D=some (.lst zs)->Ext H H'->H D=none->Z H' zs xs.length->Q (.ref D) H'):qB m g tt te σ Q (match tp with | false=>Itl K a | true=>Itt K a) H:=by
 have turn:∀ D j σ' H' zs x,H D=none->xs[j]?=some x->(σP σ'/\Ext H H'/\H' D=some (.lst zs)/\H D=none/\Z H' zs j)->g x σ' H' fun σ2 H2=>tt σ2 H2 fun b H3=>if b=true then te σ2 H3 fun v H4=>H4 D=some (.lst zs)/\(σP σ2/\Ext H (upd H4 D (.lst (zs++[v])))/\(upd H4 D (.lst (zs++[v]))) D=some (.lst (zs++[v]))/\H D=none/\Z (upd H4 D (.lst (zs++[v]))) (zs++[v]) (j+1)) else (σP σ2/\Ext H H3/\H3 D=some (.lst zs)/\H D=none/\Z H3 zs (j+1)):=by
  rintro D j σ' H' zs x hD hx ⟨p,e,h2,hn,hz⟩
  exact step j x σ' H' zs hx p e hz _ _ (fun σ2 v H2 p2 e2 z2=>⟨e2 _ _ h2,p2,(e.trans e2).updNew hn _,j5,hn,zo.mono _ _ _ _ (jFV (e2 _ _ h2) _) z2⟩) fun σ2 H2 p2 e2 z2=>⟨p2,e.trans e2,e2 _ _ h2,hn,z2⟩
 cases tp with
 | false=>exact jGS (xs:=xs) hn (fun D j σ' H' zs=>σP σ'/\Ext H H'/\H' D=some (.lst zs)/\H D=none/\Z H' zs j) (fun D hD=>⟨h0,(Ext.refl _).new hD _,j5,hD,zo.z0 _⟩) (fun D j σ' H' zs hD ⟨_,e,h2,_,hz⟩=>⟨e _ _ ha,h2,zo.len _ _ _ hz⟩) turn fun D σ' H' zs hD ⟨_,e,h2,hn,hz⟩=>hd D H' zs h2 e hn hz
 | true=>exact jFL (xs:=xs) hn (fun D j σ' H' zs=>σP σ'/\Ext H H'/\H' D=some (.lst zs)/\H D=none/\Z H' zs j) (fun D hD=>⟨h0,(Ext.refl _).new hD _,j5,hD,zo.z0 _⟩) (fun D j σ' H' zs hD ⟨_,e,h2,_,hz⟩=>⟨e _ _ ha,h2,zo.len _ _ _ hz⟩) turn fun D σ' H' zs hD ⟨_,e,h2,hn,hz⟩=>hd D H' zs h2 e hn hz
theorem jOL {a:Addr}{xs:List V}(σP:St->Prop)(Z:Hp->List V->Nat->Prop)(zo:ZOk Z)(ha:H a=some (.tup xs))(hn:xs.length<sizeLine)(h0:σP (blkσ m σ))
  (step:∀ j x σ' H' zs,xs[j]?=some x->σP σ'->Ext H H'->Z H' zs j->TurnZ g tt te σP Z x j σ' H' zs)
  (hd:∀ D H' zs,H' D=some (.lst zs)->Ext H H'->H D=none->Z H' zs xs.length->Q (.ref D) H'):qB m g tt te σ Q (Itt K a) H:=jMQ (tp:=true) σP Z zo ha hn h0 step hd
theorem jA8 {a:Addr}{xs:List V}(σP:St->Prop)(Z:Hp->List V->Nat->Prop)(zo:ZOk Z)(ha:H a=some (.lst xs))(hn:xs.length<sizeLine)(h0:σP (blkσ m σ))
  (step:∀ j x σ' H' zs,xs[j]?=some x->σP σ'->Ext H H'->Z H' zs j->TurnZ g tt te σP Z x j σ' H' zs)
  (hd:∀ D H' zs,H' D=some (.lst zs)->Ext H H'->H D=none->Z H' zs xs.length->Q (.ref D) H'):qB m g tt te σ Q (Itl K a) H:=jMQ (tp:=false) σP Z zo ha hn h0 step hd
theorem jFM {n:Nat}(σP:St->Prop)(Z:Hp->List V->Nat->Prop)(zo:ZOk Z)(hn:n<sizeLine)(h0:σP (blkσ m σ))
  (step:∀ j σ' H' zs,j<n->σP σ'->Ext H H'->Z H' zs j->TurnZ g tt te σP Z (.int (0+j)) j σ' H' zs)
  (hd:∀ D H' zs,H' D=some (.lst zs)->Ext H H'->H D=none->Z H' zs n->Q (.ref D) H'):qB m g tt te σ Q (Itr 0 n) H:=by
 refine jB8 (lo:=0) (n:=n) hn (fun D j σ' H' zs=>σP σ'/\Ext H H'/\H' D=some (.lst zs)/\H D=none/\Z H' zs j) (fun D hD=>⟨h0,(Ext.refl _).new hD _,j5,hD,zo.z0 _⟩) (fun D j σ' H' zs hD hj ⟨_,e,h2,_,hz⟩=>⟨h2,zo.len _ _ _ hz⟩) ?_ fun D σ' H' zs hD ⟨_,e,h2,hn,hz⟩=>hd D H' zs h2 e hn hz
 rintro D j σ' H' zs hD hj ⟨p,e,h2,hn,hz⟩
 exact step j σ' H' zs hj p e hz _ _ (fun σ2 v H2 p2 e2 z2=>⟨e2 _ _ h2,p2,(e.trans e2).updNew hn _,j5,hn,zo.mono _ _ _ _ (jFV (e2 _ _ h2) _) z2⟩) fun σ2 H2 p2 e2 z2=>⟨p2,e.trans e2,e2 _ _ h2,hn,z2⟩
end
def outZ {α:Type}(l:List α)(p:α->Bool)(f:α->V):Hp->List V->Nat->Prop:=fun _ zs j=>zs=((l.take j).filter p).map f
theorem outZ.ok {α:Type}(l:List α)(p:α->Bool)(f:α->V):ZOk (outZ l p f):=⟨fun _=>rfl,fun _ _ _ _ _ h=>h,fun _ zs j h=>by
 rw[show zs=_ from h,ab]
 exact aX (bL _ _) (eF _ _)⟩
theorem outZ.yes {α:Type}{l:List α}{p:α->Bool}{f:α->V}{H H':Hp}{zs:List V}{j:Nat}{x:α}(h:outZ l p f H zs j)(hx:l[j]?=some x)(hp:p x=true):outZ l p f H' (zs++[f x]) (j+1):=by
 show _=_
 rw[be,hx,cf,aQ,<- show zs=_ from h]
 simp [hp]
theorem outZ.no {α:Type}{l:List α}{p:α->Bool}{f:α->V}{H H':Hp}{zs:List V}{j:Nat}{x:α}(h:outZ l p f H zs j)(hx:l[j]?=some x)(hp:p x=false):outZ l p f H' zs (j+1):=by
 show _=_
 rw[be,hx,cf,aQ,<- show zs=_ from h]
 simp [hp]
theorem outZ.all {α:Type}{l:List α}{p:α->Bool}{f:α->V}{H:Hp}{zs:List V}{n:Nat}(h:outZ l p f H zs n)(hn:l.length<=n):zs=(l.filter p).map f:=by
 rw[show zs=_ from h,bC hn]
def mapZ {α:Type}(l:List α)(f:α->V):Hp->List V->Nat->Prop:=fun _ zs j=>zs=(l.take j).map f
theorem mapZ.ok {α:Type}(l:List α)(f:α->V):ZOk (mapZ l f):=⟨fun _=>rfl,fun _ _ _ _ _ h=>h,fun _ zs j h=>by
 rw[show zs=_ from h,ab]
 exact eF _ _⟩
theorem mapZ.yes {α:Type}{l:List α}{f:α->V}{H H':Hp}{zs:List V}{j:Nat}{x:α}(h:mapZ l f H zs j)(hx:l[j]?=some x):mapZ l f H' (zs++[f x]) (j+1):=by
 show _=_
 rw[be,hx,aQ,<- show zs=_ from h]
 rfl
theorem mapZ.all {α:Type}{l:List α}{f:α->V}{H:Hp}{zs:List V}{n:Nat}(h:mapZ l f H zs n)(hn:l.length<=n):zs=l.map f:=by
 rw[show zs=_ from h,bC hn]
theorem int_at {l:List Int}{j:Nat}{x:V}(h:(l.map V.int)[j]?=some x):∃ z:Int,l[j]?=some z/\x=V.int z:=by
 rw[aY] at h
 cases hq:l[j]? with
 | none=>rw[hq] at h; cases h
 | some z=>rw[hq] at h; cases h; exact⟨z,rfl,rfl⟩
section
variable {st:Stmt}{sts:List Stmt}{t:TS}
end
end L2
namespace L2
open PySem
end L2
namespace L2
open PySem PySem.Spec PyProof.Rows
section
variable {m:List (Option Nat)}{g:TG}{tt:TT}{te:TE}{σ:St}{H1:Hp}{Q:VK}
end
open PySem.AutoSeq1 (wpAny_loadPart')
variable {w:World}{s:Shared}
section
variable {prog:Program}{A:Around}{E:Value->Shared->Prop}
end
variable {X:Cx}
section
variable {sc:Scope}{cl:List (Str×Addr)}{C:Addr}{Nc:List Str}{fp:List Addr}{H:Hp}
end
structure FnZ (P:Program)(w:World)(K:W.Frag)(mg:Str->Option Value)(base:Heap)(CX:CXT)(Z:Shared->Hp->Prop)(k:Nat)(f:Addr)(fd:FuncData)(ps:List Str)(sp:Sp):Prop where
 len:∀ vs H Q E,sp vs H Q E->vs.length=ps.length
 run:∀ (A:Around) (outer:List Env) (s:Shared) (H:Hp) (args:Args) (us:List Value) (vs:List V) (Q:VK) (E:XK),Room k A->Env0 P w K mg base A outer s H->BindsTo s fd args (ps.zip us)->Vals vs us->Z s H->sp vs H Q E->
  codeAny (model P w) A (.call (.ref f) args) (CR CX outer P w H s Q E) s
theorem jTU {Z:Shared->Hp->Prop}{CX:CXT}{P:Program}{w:World}{K:W.Frag}{mg:Str->Option Value}{base:Heap}{k:Nat}{f:Addr}{name qual:Str}{params:Arguments}{body:List Stmt}{scope:Scope}{dV kV doc pm cdv ct oc:Value}{an od:Option Addr}
  {osl:Array (Option Value)}{N ps:List Str}{sp:Sp}(lk:K.lookup f=some ⟨oc,od, .func (PySem.W.fnOf name qual params body scope dV kV doc pm an cdv ct),osl⟩) (hcd:PySem.W.codeIn K cdv qual=true) (S:FnScope N ps scope)
  (len:∀ vs H Q E,sp vs H Q E->vs.length=ps.length)
  (hbody:∀ (A:Around) (outer:List Env) (s:Shared) (H:Hp) (vs:List V) (Q:VK) (E:XK),Room k (A.deeper (envOfC qual scope s.heap.objs.size f cdv))->Z s H->sp vs H Q E->
   ∃ t,PSs (cxOf CX P w K mg base N qual scope f cdv A outer s H E) body t/\t { nx:=fun _ H'=>Q .non H',rt:=Q} (kZ N vs) H):
  FnZ P w K mg base CX Z (k+1) f (PySem.W.fnOf name qual params body scope dV kV doc pm an cdv ct) ps sp:=by
 refine⟨len,fun A outer s H args us vs Q E hr e0 hb r hz hsp=>?_⟩
 have hl:=len _ _ _ _ hsp
 have KX:K.In s.heap:=e0.mod.kin.keeps fun b o e=>(e0.bs b o e).1
 have lim:s.heap.NoLimit:=e0.mod.nolimit.keeps fun b o e=>(e0.bs b o e).1
 have hkind:∀ y∈ps.zip us,scope.names.lookup y.1=some .local\/(scope.names.lookup y.1=some .cell/\((cellsFrom (s.heap.objs.size+1) scope.names []).lookup y.1).isSome=true):=fun ⟨n,v⟩ hy=>by
  rcases S.par n (dw hy).1 with q | q
  ·exact .inl q
  ·exact .inr ⟨q,gc _ _ _ (.inl q)⟩
 refine codeAny_call_function hr.depth (KX _ _ lk) rfl S.co S.gen rfl (ki KX hcd) (hb _ _ _ _ ?_)
 refine g7 S.kind hkind fun env he s1 x=>?_
 subst he
 refine⟨lim.keeps x.toInCall.keep,codeAny_func ?_⟩
 obtain⟨t,ht,hq⟩:=hbody A outer s H vs Q E (hr.deeper _) hz hsp
 have I:Inv (cxOf CX P w K mg base N qual scope f cdv A outer s H E) [] (kZ N vs) H s1:=jGP S hr.hd e0 hl r x
 refine bX (ht [] s1 (kZ N vs) H _ I hq) (fun fl s' hs=>?_) fun e s' hs=>hs
 have fin:∀ {σ':St}{H':Hp}{v:V}{u:Value},Inv (cxOf CX P w K mg base N qual scope f cdv A outer s H E) [] σ' H' s'->RelV v u->Q v H'->CE outer P w H s Q u s':=
  fun {σ' H' v u} J rv q=>⟨v,H',J.os,J.bare,J.base,J.hok,rv,q⟩
 cases fl with
 | ret u=>
  obtain⟨v,σ',H',J,rv,q⟩:=hs
  exact fin J rv q
 | next=>
  obtain⟨σ',H',J,q⟩:=hs
  exact fin (v:=V.non) (u:=Value.none) J rfl q
 | brk=>
  obtain⟨_,_,_,q⟩:=hs
  exact False.elim q
 | cont=>
  obtain⟨_,_,_,q⟩:=hs
  exact False.elim q
def ZSt (Z:Shared->Hp->Prop):Prop:=∀ (fs:List Addr) (s s':Shared) (H H':Hp),Un fs [] H H' s.heap s'.heap->Z s H->Z s' H'
abbrev ZT:Shared->Hp->Prop:=fun _ _=>True
theorem ZT.st:ZSt ZT:=fun _ _ _ _ _ _ _=>trivial
theorem FnZ.ok {P:Program}{w:World}{K:W.Frag}{mg:Str->Option Value}{base:Heap}{CX:CXT}{k:Nat}{f:Addr}{fd:FuncData}{ps:List Str}{sp:Sp}(F:FnZ P w K mg base CX ZT k f fd ps sp):FnOk P w K mg base CX k f fd ps sp:=
 ⟨F.len,fun A outer s H args us vs Q E hr he hb hv hs=>F.run A outer s H args us vs Q E hr he hb hv trivial hs⟩
section
variable {P:Program}{K:W.Frag}{mg:Str->Option Value}{base:Heap}
theorem Fun.okZ {Z:Shared->Hp->Prop}{x qual:Str}{st:Stmt}{f:Addr}{fd:FuncData}{N ps:List Str}{k:Nat}{sp:Sp}(F:Fun K x qual st f fd)(S:FnScope N ps (j8 st))(len:∀ vs H Q E,sp vs H Q E->vs.length=ps.length)
  (hbody:∀ (cdv:Value) (A:Around) (outer:List Env) (s:Shared) (H:Hp) (vs:List V) (Q:VK) (E:XK),Room k (A.deeper (envOfC qual (j8 st) s.heap.objs.size f cdv))->Z s H->sp vs H Q E->
   ∃ t,PSs (cxOf CX0 P w K mg base N qual (j8 st) f cdv A outer s H E).nox (jC st) t/\t { nx:=fun _ H'=>Q .non H',rt:=Q} (kZ N vs) H):FnZ P w K mg base CX0 Z (k+1) f fd ps sp:=by
 obtain⟨_,_,_,_,_,_,cdv,_,_,rfl,lk,hcd⟩:=F.ex
 refine jTU lk hcd S len fun A outer s H vs Q E hr hz hsp=>?_
 obtain⟨t,h,q⟩:=hbody cdv A outer s H vs Q E hr hz hsp
 exact⟨t,h.nox,q⟩
end
structure Callee (P:Program)(w:World)(K:W.Frag)(mg:Str->Option Value)(base:Heap)(Z:Shared->Hp->Prop)(zh:Hp->Prop)(k:Nat)(a:Addr)(sp:Sp):Prop where
 fn:∀ (A:Around) (outer:List Env) (s:Shared) (H:Hp),Env0 P w K mg base A outer s H->zh H->PySem.W.FnAt a s.heap
 run:∀ (A:Around) (outer:List Env) (s:Shared) (H:Hp) (us:List Value) (vs:List V) (Q:VK) (E:XK),Room k A->Env0 P w K mg base A outer s H->Z s H->zh H->Vals vs us->sp vs H Q E->codeAny (model P w) A (.call (.ref a) ⟨us,[]⟩) (CR CX0 outer P w H s Q E) s
def jS4 (a:Addr)(zh:Hp->Prop)(sp:Sp)(j:Nat)(t:TA):TE:=fun σ H Q=>σ[j]?=some (some (.ref a))/\t σ H fun vs H1=>zh H1/\sp vs H1 Q E0
section
variable {Z:Shared->Hp->Prop}{zh:Hp->Prop}{k:Nat}{a:Addr}{sp:Sp}{x:Str}{p pos:Pos}{e:Expr}{es:List Expr}{t:TA}{j:Nat}
theorem jOB (F:Callee X.prog X.w X.K X.mg X.base Z zh k a sp)(hr:Room k X.A)(st:ZSt Z)(hz:Z X.s₀ X.H₀)(hex:X.ex=[])(hN:X.N[j]?=some x)(hv:Vis1 X x)
  (ha:JA X (e::es) t) (he:starEach (e::es) X.env=(false,eval e X.env)::starEach es X.env) (hdb:(x==("__debug__" :Str))=false:=by decide) (hcd:(x==("__classdict__" :Str))=false:=by decide) (hpl:(backTo pos (starEach es X.env)).any (·.1)=false:=by rfl):
  JE X (.Call (.Name x p) (e::es) [] pos) (jS4 a zh sp j t):=by
 refine⟨fun ad s σ H Q I h=>?_⟩
 obtain⟨hj,h⟩:=h
 refine dM (lC (jL3 (pos:=p) hN hv.a hdb hcd ad s σ H (fun v H'=>v= .ref a/\H'=H) I ⟨_,hj,rfl,rfl⟩) fun v s1 ⟨v',H1,I1,r1,q1,q2⟩=>?_)
 subst q1 q2
 cases (show v=Value.ref a from r1)
 have hX:=lC (ha.h pos ad s1 σ H1 _ I1 h) fun us s2 (z:AP X ad σ _ us s2)=>show PySem.W.FnAt a s2.heap/\wpAny (model X.prog X.w) X.A (call (.ref a) ([]++us)) (EP X ad σ Q) X.xe s2 from by
  obtain⟨vs,H2,I2,r,h1,h2⟩:=z
  have un:=I2.base
  rw[hex] at un
  refine⟨F.fn _ _ _ _ I2.env0 h1,kh (eQ (F.run X.A X.stack s2 H2 us vs Q E0 hr I2.env0 (st _ _ _ _ _ un hz) h1 r h2) fun r s' hq=>?_)⟩
  cases r with
  | error e=>exact hq.elim
  | ok fl=>
   cases fl with
   | ret u=>exact I2.after hq
   | next=>exact False.elim hq
   | brk=>exact False.elim hq
   | cont=>exact False.elim hq
 rw[he] at hX ⊢
 exact PySem.W.callWith_of (by show ((false || (backTo pos (starEach es X.env)).any (·.1)) || false)=false; rw[hpl]; rfl) PySem.W.keeps_F (Calls.evalArgs_plain hX)
end
def nlP (q:Str)(args:Arguments)(body:Expr)(scope:Scope)(cl:List (Str×Addr))(a c:Addr):Heap->Prop:=fun h=>∃ pm ctv,h.get? a=some (kla_obj "<lambda>" q args body scope cl pm c ctv)
theorem nlP.stay {q:Str}{args:Arguments}{body:Expr}{scope:Scope}{cl:List (Str×Addr)}{a c:Addr}(h1 h2:Heap)(p:nlP q args body scope cl a c h1)(k:∀ o,h1.get? a=some o->h2.get? a=some o):nlP q args body scope cl a c h2:=by
 obtain⟨m,t,e⟩:=p
 exact⟨m,t,k _ e⟩
def tLam (q:Str)(args:Arguments)(body:Expr)(scope:Scope)(cl:List (Str×Addr))(T:Addr)(pos:Pos):TE:=fun _ H Q=>TabOk H T pos q/\∀ a c H',H' a=some (.ext (nlP q args body scope cl a c))->H' c=some (.ext (ncP q c))->H' T=some (.tbl (onePs pos c))->ExtT T H H'->H a=none->Q (.ref a) H'
theorem jPE {X:Cx}{args:Arguments}{body:Expr}{scope:Scope}{pos:Pos}{c0 T:Addr}(hcode:X.env.code= .ref c0)(CH:PySem.W.CodeHd X.base c0 T)(hbm:BltAt X.base X.mg)
  (hfree:∀ y∈scope.names,y.2= .free->X.env.scope.names.lookup y.1=some .cell\/X.env.scope.names.lookup y.1=some .free) (hdf:defaultsOf args X.env=([],[])):
  JE X (.Lambda args body scope pos) (tLam (X.env.qual++ "<lambda>") args body scope (kE X.env.cells scope.names []) T pos):=by
 refine⟨fun ad s σ H Q I h=>?_⟩
 obtain⟨tab,h⟩:=h
 refine PySem.W.kla_eval hdf ?_
 have hcl:closureFor scope X.env=pure (kE X.env.cells scope.names []):=jMT fun y hy hz=>I.ok.has y.1 (hfree y hy hz)
 have hg:s.heap.Ns mainGlobals X.mg:=I.mod.glob.keeps I.bk
 have C:=CH.keeps I.bk
 have gT:∀ {ps:Array Value},H T=some (.tbl ps)->mainGlobals≠T:=fun hT z=>by
  obtain⟨o,es,ep,e,_⟩:=I.mod.glob
  have:=(I.bs _ _ e).2
  rw[z,hT] at this
  cases this
 have bT:∀ {ps:Array Value},H T=some (.tbl ps)->s.heap.BuiltinsAt X.mg T:=fun hT=>by
  obtain⟨bm,o,h1,h2,h3,h4,h5,h6,h7⟩:=hbm
  refine⟨bm,o,h1,h2,h3,fun z=>?_,(I.bs _ _ h4).1,h5,h6,h7⟩
  have:=(I.bs _ _ h4).2
  rw[z,hT] at this
  cases this
 rcases tab with hT | ⟨c,hT,hc⟩
 ·refine PySem.W.kla_makeFunction hcl I.ok.glob hg hcode C (I.hok T _ hT) trivial rfl (gT hT) (bT hT) fun c ctv h' tk k1 k2 k3 k4 k5=>?_
  obtain⟨oc,hoc⟩:=ncP.is (q:=X.env.qual++ "<lambda>") k4
  have I1:Inv X ad σ (upd (upd H T (.tbl (#[]++onePs pos c))) c (.ext (ncP (X.env.qual++ "<lambda>") c))) { s with heap:=h',toks:=tk} :=I.grown hT k1 k5 k2 k4 ⟨oc,hoc⟩ ncP.stay
  have I2:=I1.laidX (t':=tk) (a:=h'.objs.size) (φ:=nlP (X.env.qual++ "<lambda>") args body scope (kE X.env.cells scope.names []) h'.objs.size c) (h':=h'.push (kla_obj "<lambda>" (X.env.qual++ "<lambda>") args body scope (kE X.env.cells scope.names []) ((X.mg "__name__").getD .none) c ctv)) (fun b u q=>ae _ q) (ai _) ⟨_,ctv,aJ _ rfl⟩ ⟨_,aJ _ rfl⟩ nlP.stay
  have hcn:H c=none:=I.hok.fresh k2
  have han:H h'.objs.size=none:=I.hok.fresh (aX k2 (dF k3))
  have ca:c≠h'.objs.size:=aV k3
  have Tc:T≠c:=fun z=>by rw[z,hcn] at hT; cases hT
  have Ta:T≠h'.objs.size:=fun z=>by rw[z,han] at hT; cases hT
  refine⟨.ref _,_,I2,rfl,h _ c _ j5 (by rw[j7 ca,j5]) (by rw[j7 Ta,j7 Tc,j5,Array.empty_append]) (fun b o e n=>?_) han⟩
  rw[j7 (jA e han),j7 (jA e hcn),j7 n]
  exact e
 ·refine PySem.W.kla_makeFunctionHit (cv:= .ref c) hcl I.ok.glob hg hcode C (I.hok T _ hT) (by exact trivial) (by simp [codeAmong,rawInt]) (bT hT) fun ctv h' tk k1 k2=>?_
  have I2:=I.laidX (t':=tk) (a:=h'.objs.size) (φ:=nlP (X.env.qual++ "<lambda>") args body scope (kE X.env.cells scope.names []) h'.objs.size c) (h':=h'.push (kla_obj "<lambda>" (X.env.qual++ "<lambda>") args body scope (kE X.env.cells scope.names []) ((X.mg "__name__").getD .none) c ctv)) (fun b u q=>ae _ (k1 b u q)) k2 ⟨_,ctv,aJ _ rfl⟩ ⟨_,aJ _ rfl⟩ nlP.stay
  have han:H h'.objs.size=none:=I.hok.fresh k2
  refine⟨.ref _,_,I2,rfl,h _ c _ j5 (by rw[j7 (jA hc han)]; exact hc) (by rw[j7 (jA hT han)]; exact hT) (fun b o e n=>?_) han⟩
  rw[j7 (jA e han)]
  exact e
theorem jPG {P:Program}{w:World}{K:W.Frag}{mg:Str->Option Value}{base:Heap}{k:Nat}{q:Str}{args:Arguments}{body:Expr}{scope:Scope}{N ps fs:List Str}{sp:Sp}{cl:List (Str×Addr)}{fv:List V}{a c:Addr}(S:NScope N ps fs scope)(len:∀ vs H Q E,sp vs H Q E->vs.length=ps.length)
  (hb:∀ pm ctv (us:List Value),us.length=ps.length->bindArgs (PySem.W.kla_fn "<lambda>" q args body scope cl pm (.ref c) ctv) ⟨us,[]⟩=pure (ps.zip us))
  (hbody:∀ (A:Around) (outer:List Env) (s:Shared) (H:Hp) (vs:List V) (Q:VK) (E:XK),Room k (A.deeper (envX q scope s.heap.objs.size a (.ref c) cl))->sp vs H Q E->
   ∃ t,PE (cxN P w K mg base N q scope a (.ref c) cl A outer s H) body t/\t (jDJ N vs fv) H Q):
  Callee P w K mg base (fun s H=>ClOk cl s H/\FvOk fs fv cl s) (fun H=>H a=some (.ext (nlP q args body scope cl a c))/\H c=some (.ext (ncP q c))) (k+1) a sp:=by
 refine⟨fun A outer s H e z=>?_,fun A outer s H us vs Q E hr e0 hz zh r hsp=>?_⟩
 ·obtain⟨⟨m,t,g⟩,_,_⟩:=(show ObjOk P w H s.heap a (.ext _) from e.hok a _ z.1)
  exact⟨_,_,_,_,g⟩
 obtain⟨C,Fv⟩:=hz
 obtain⟨⟨pm,ctv,ho⟩,_,_⟩:=(show ObjOk P w H s.heap a (.ext _) from e0.hok a _ zh.1)
 obtain⟨hc,_,_⟩:=(show ObjOk P w H s.heap c (.ext _) from e0.hok c _ zh.2)
 have hl:us.length=ps.length:=r.length.symm.trans (len _ _ _ _ hsp)
 have lim:s.heap.NoLimit:=e0.mod.nolimit.keeps fun b o e=>(e0.bs b o e).1
 refine PySem.W.kla_callFunE hr.depth ho rfl S.co S.gen rfl hc ?_
 rw[hb pm ctv us hl]
 refine ah (wpAny_newFunctionEnv S.nocell (fun y hy=>S.par y.1 (dw hy).1) (fun h₁ hns hsb=>⟨lim.fresh _ hsb,?_⟩) S.kind)
 show codeAny _ _ (.expr body (envX q scope s.heap.objs.size a (.ref c) cl)) _ _
 have hk:∀ b o,s.heap.get? b=some o->h₁.get? b=some o:=fun b o e=>hsb.extBut b o (aV (aE e)) (ae _ e)
 obtain⟨t,ht,hq⟩:=hbody A outer s H vs Q E (hr.deeper _) hsp
 have I:Inv (cxN P w K mg base N q scope a (.ref c) cl A outer s H) [] (jDJ N vs fv) H { s with heap:=h₁,toks:=s.toks+(ps.zip us).length} :=jK2 S hr.hd e0 hl r C Fv hns hk
 refine PySem.W.kla_codeExpr (bX (ht [] _ (jDJ N vs fv) H _ I hq) (fun u s' hs=>?_) fun e s' hs=>False.elim hs)
 obtain⟨v,H',J,rv,q⟩:=hs
 exact⟨v,H',J.os,J.bare,J.base,J.hok,rv,q⟩
end L2
namespace TM
open PySem PyProof.Rows
class Od where
 kd:SortKind
 ky:Keyed->Int
 is:Keyed->Prop
abbrev key [Od]:Keyed->Int:=Od.ky
abbrev IsI [Od]:Keyed->Prop:=Od.is
class LtOk (prog:Program) (w:World) (A:Around) (s:Shared) [Od]:Prop where
 lt:∀ {E:Value->Shared->Prop}{st:SortSt}{x y:Keyed}{Q:Option Bool->SortSt->Prop},kindOf st=Od.kd->IsI x->IsI y->Q (some (decide (key x<key y))) st->wpS (model prog w) A E s (lt' x y) Q st
variable [Od]
abbrev AllI (l:List Keyed):Prop:=∀ p∈l,IsI p
abbrev LE (x y:Keyed):Prop:=key x<=key y
def jBI:Bool->Keyed->Array Keyed->Nat->Nat->Nat->StateT SortSt Sem (Option Nat):=sortPriv% PySem.Builtin.gallop
def gallopB: { g:Bool->Keyed->Array Keyed->Nat->Nat->Nat->StateT SortSt Sem (Option Nat) // jBI=g} :=⟨fun _ _ _ _ _ _=>bind _ _,rfl⟩
theorem elP:(sortPriv% PySem.Builtin.elem)=elem':=rfl
theorem ltP:(sortPriv% PySem.Builtin.lt)=lt':=rfl
theorem ltAtP:(sortPriv% PySem.Builtin.ltAt)=ltAt':=rfl
theorem jI0:(sortPriv% PySem.Builtin.gallop)=jBI:=rfl
section
variable {prog:Program}{w:World}{A:Around}{E:Value->Shared->Prop}{s:Shared}
theorem jFR [LtOk prog w A s]{st:SortSt}{x y:Keyed}{Q:Option Bool->SortSt->Prop}(hk:kindOf st=Od.kd)(hx:IsI x)(hy:IsI y)(h:Q (some (decide (key x<key y))) st):wpS (model prog w) A E s (lt' x y) Q st:=LtOk.lt hk hx hy h
theorem jU {st:SortSt}{arr:Array Keyed}{i:Nat}{p:Keyed}{Q:Keyed->SortSt->Prop}(hi:arr[i]?=some p)(h:Q p st):wpS (model prog w) A E s (elem' arr i) Q st:=by
 rw[elem'_eq,hi]
 exact aN h
end
section
variable {prog:Program}{w:World}{A:Around}{E:Value->Shared->Prop}{s:Shared} [LtOk prog w A s]
theorem jB1 {left:Bool}{ky:Keyed}{arr:Array Keyed}{base n hint:Nat}{st:SortSt}{Q:Option Nat->SortSt->Prop}(hk:kindOf st=Od.kd)(hky:IsI ky)(hI:∀ i,i<n->∃ p,arr[base+i]?=some p/\IsI p)(hh:hint<n)(B:Nat->Bool)
  (hB:∀ i p,i<n->arr[base+i]?=some p->B i=(if left=true then decide (key p<key ky) else !decide (key ky<key p))) (mono:∀ i j,i<=j->j<n->B j=true->B i=true)
  (h:∀ k,k<=n->(∀ i,i<k->B i=true)->(∀ i,k<=i->i<n->B i=false)->Q (some k) st):wpS (model prog w) A E s (jBI left ky arr base n hint) Q st:=by
 rw[gallopB.2]
 delta gallopB
 dsimp only
 simp only [elP,ltP]
 have bey:∀ i (R:Option Bool->SortSt->Prop),i<n->R (some (B i)) st->wpS (model prog w) A E s (do
   let x <- elem' arr (base+i)
   if left=true then lt' x ky else do
    let r <- lt' ky x
    pure (r.map (!·))) R st:=fun i R hi hR=>by
  obtain⟨p,hp,ip⟩:=hI i hi
  refine aL (jU hp ?_)
  have e:=hB i p hi hp
  cases left with
  | true=>
   rw[ak rfl] at e ⊢
   rw[e] at hR
   exact jFR hk ip hky hR
  | false=>
   rw[aj ao] at e ⊢
   rw[e] at hR
   exact aL (jFR hk hky ip (aN hR))
 have down:∀ i j,i<=j->j<n->B i=false->B j=false:=fun i j hij hj hi=>by
  cases hb:B j with
  | false=>rfl
  | true=>rw[mono i j hij hj hb] at hi; cases hi
 refine aL (bey hint _ hh ?_)
 dsimp only
 cases hb:B hint with
 | true=>
  rw[ak rfl]
  refine aL (df (bU (I:=fun x c st'=>st'=st/\∃ l o,c=(none,l,o)/\l<o/\x+1<=o/\hint+l<n/\B (hint+l)=true)
   (Q:=fun c st'=>st'=st/\∃ l o,c=(none,l,o)/\l<o/\hint+l<n/\B (hint+l)=true/\(n - hint<=o\/(hint+o<n/\B (hint+o)=false))) ?step ?fin ⟨rfl,0,1,rfl,by lia,by lia,by lia,by rw[kz]; exact hb⟩) ?post)
  case post=>
   rintro c st' ⟨rfl,l,o,rfl,a1,a2,a3,a4⟩
   dsimp only
   have p3:∀ i,i<hint+l+1->B i=true:=fun i hi=>mono i (hint+l) (by lia) a2 a3
   have p4:∀ i,hint+min o (n - hint)<=i->i<n->B i=false:=fun i h1 h2=>by
    rcases a4 with a4 | ⟨a4,a5⟩
    ·lia
    ·exact down (hint+o) i (by lia) h2 a5
   refine aL (df (bU (I:=fun x c st''=>st''=st'/\∃ lo hi,c=(none,lo,hi)/\lo<=hi/\hi<=n/\hi - lo<=n - x/\(∀ i,i<lo->B i=true)/\(∀ i,hi<=i->i<n->B i=false))
    (Q:=fun c st''=>st''=st'/\∃ k,c=(none,k,k)/\k<=n/\(∀ i,i<k->B i=true)/\(∀ i,k<=i->i<n->B i=false)) ?step2 ?fin2 ⟨rfl,hint+l+1,hint+min o (n - hint),rfl,by lia,by lia,by lia,p3,p4⟩) ?post2)
   case post2=>
    rintro c st'' ⟨rfl,k,rfl,k1,k2,k3⟩
    exact aN (h k k1 k2 k3)
   case fin2=>
    rintro c st'' ⟨rfl,lo,hi,rfl,a1,a2,a3,a4,a5⟩
    have:lo=hi:=by lia
    subst this
    exact⟨rfl,lo,rfl,a2,a4,a5⟩
   case step2=>
    rintro x c st'' _ hx ⟨rfl,lo,hi,rfl,a1,a2,a3,a4,a5⟩
    dsimp only
    by_cases hge:lo ≥ hi
    ·rw[ak hge]
     have:lo=hi:=by lia
     subst this
     exact aN ⟨rfl,lo,rfl,a2,a4,a5⟩
    ·rw[aj hge]
     refine aL (bey _ _ (by lia) ?_)
     dsimp only
     cases hb:B (lo+(hi - lo) / 2) with
     | true=>
      rw[ak rfl]
      exact aN ⟨rfl,lo+(hi - lo) / 2+1,hi,rfl,by lia,a2,by lia,fun i hi'=>mono i _ (by lia) (by lia) hb,a5⟩
     | false=>
      rw[aj ao]
      exact aN ⟨rfl,lo,lo+(hi - lo) / 2,rfl,by lia,by lia,by lia,a4,fun i h1 h2=>down _ i h1 h2 hb⟩
  case fin=>
   rintro c st' ⟨rfl,l,o,rfl,a1,a2,a3,a4⟩
   exact⟨rfl,l,o,rfl,a1,a3,a4, .inl (by lia)⟩
  case step=>
   rintro x c st' _ hx ⟨rfl,l,o,rfl,a1,a2,a3,a4⟩
   dsimp only
   by_cases hge:o ≥ n - hint
   ·rw[ak hge]
    exact aN ⟨rfl,l,o,rfl,a1,a3,a4, .inl hge⟩
   ·rw[aj hge]
    refine aL (bey _ _ (by lia) ?_)
    dsimp only
    cases hb2:B (hint+o) with
    | true=>
     rw[aj (by decide)]
     exact aN ⟨rfl,o,2*o+1,rfl,by lia,by lia,by lia,hb2⟩
    | false=>
     rw[ak (by decide)]
     exact aN ⟨rfl,l,o,rfl,a1,a3,a4, .inr ⟨by lia,hb2⟩⟩
 | false=>
  rw[aj ao]
  refine aL (df (bU (I:=fun x c st'=>st'=st/\∃ l o,c=(none,l,o)/\l<o/\x+1<=o/\l<=hint/\B (hint - l)=false)
   (Q:=fun c st'=>st'=st/\∃ l o,c=(none,l,o)/\l<o/\l<=hint/\B (hint - l)=false/\(hint+1<=o\/(o<=hint/\B (hint - o)=true))) ?step ?fin ⟨rfl,0,1,rfl,by lia,by lia,by lia,by rw[lg]; exact hb⟩) ?post)
  case post=>
   rintro c st' ⟨rfl,l,o,rfl,a1,a2,a3,a4⟩
   dsimp only
   have p3:∀ i,i<hint+1 - min o (hint+1)->B i=true:=fun i hi=>by
    rcases a4 with a4 | ⟨a4,a5⟩
    ·lia
    ·exact mono i (hint - o) (by lia) (by lia) a5
   have p4:∀ i,hint - l<=i->i<n->B i=false:=fun i h1 h2=>down (hint - l) i (by lia) h2 a3
   refine aL (df (bU (I:=fun x c st''=>st''=st'/\∃ lo hi,c=(none,lo,hi)/\lo<=hi/\hi<=n/\hi - lo<=n - x/\(∀ i,i<lo->B i=true)/\(∀ i,hi<=i->i<n->B i=false))
    (Q:=fun c st''=>st''=st'/\∃ k,c=(none,k,k)/\k<=n/\(∀ i,i<k->B i=true)/\(∀ i,k<=i->i<n->B i=false)) ?step2 ?fin2 ⟨rfl,hint+1 - min o (hint+1),hint - l,rfl,by lia,by lia,by lia,p3,p4⟩) ?post2)
   case post2=>
    rintro c st'' ⟨rfl,k,rfl,k1,k2,k3⟩
    exact aN (h k k1 k2 k3)
   case fin2=>
    rintro c st'' ⟨rfl,lo,hi,rfl,a1,a2,a3,a4,a5⟩
    have:lo=hi:=by lia
    subst this
    exact⟨rfl,lo,rfl,a2,a4,a5⟩
   case step2=>
    rintro x c st'' _ hx ⟨rfl,lo,hi,rfl,a1,a2,a3,a4,a5⟩
    dsimp only
    by_cases hge:lo ≥ hi
    ·rw[ak hge]
     have:lo=hi:=by lia
     subst this
     exact aN ⟨rfl,lo,rfl,a2,a4,a5⟩
    ·rw[aj hge]
     refine aL (bey _ _ (by lia) ?_)
     dsimp only
     cases hb:B (lo+(hi - lo) / 2) with
     | true=>
      rw[ak rfl]
      exact aN ⟨rfl,lo+(hi - lo) / 2+1,hi,rfl,by lia,a2,by lia,fun i hi'=>mono i _ (by lia) (by lia) hb,a5⟩
     | false=>
      rw[aj ao]
      exact aN ⟨rfl,lo,lo+(hi - lo) / 2,rfl,by lia,by lia,by lia,a4,fun i h1 h2=>down _ i h1 h2 hb⟩
  case fin=>
   rintro c st' ⟨rfl,l,o,rfl,a1,a2,a3,a4⟩
   exact⟨rfl,l,o,rfl,a1,a3,a4, .inl (by lia)⟩
  case step=>
   rintro x c st' _ hx ⟨rfl,l,o,rfl,a1,a2,a3,a4⟩
   dsimp only
   by_cases hge:o ≥ hint+1
   ·rw[ak hge]
    exact aN ⟨rfl,l,o,rfl,a1,a3,a4, .inl hge⟩
   ·rw[aj hge]
    refine aL (bey _ _ (by lia) ?_)
    dsimp only
    cases hb2:B (hint - o) with
    | true=>
     rw[ak rfl]
     exact aN ⟨rfl,l,o,rfl,a1,a3,a4, .inr ⟨by lia,hb2⟩⟩
    | false=>
     rw[aj ao]
     exact aN ⟨rfl,o,2*o+1,rfl,by lia,by lia,by lia,hb2⟩
end
abbrev jG5 (st:SortSt)(g:Nat):SortSt:=SortSt.mk' (kindOf st) (arrOf st) (pendingOf st) g (failedOf st)
def jBN:Nat->StateT SortSt Sem Unit:=sortPriv% PySem.Builtin.setMinGallop
theorem jKV:(sortPriv% PySem.Builtin.setMinGallop)=jBN:=rfl
theorem jA3 (g:Nat):jBN g=modify fun s=>jG5 s g:=rfl
def jF6:Array Keyed->Array Keyed->StateT SortSt Sem (Array Keyed):=sortPriv% PySem.Builtin.mergeLo
def mergeLoB: { g:Array Keyed->Array Keyed->StateT SortSt Sem (Array Keyed) // jF6=g} :=⟨fun _ _=>bind _ _,rfl⟩
theorem jO0:(sortPriv% PySem.Builtin.mergeLo)=jF6:=rfl
def jF7:Array Keyed->Array Keyed->StateT SortSt Sem (Array Keyed):=sortPriv% PySem.Builtin.mergeHi
def mergeHiB: { g:Array Keyed->Array Keyed->StateT SortSt Sem (Array Keyed) // jF7=g} :=⟨fun _ _=>bind _ _,rfl⟩
theorem jO1:(sortPriv% PySem.Builtin.mergeHi)=jF7:=rfl
abbrev Srt (l:List Keyed):Prop:=l.Pairwise LE
structure ML (a b out:List Keyed)(ia ib:Nat):Prop where
 perm:(out++(a.drop ia++b.drop ib)).Perm (a++b)
 srt:Srt out
 le:∀ x∈out,∀ y∈a.drop ia++b.drop ib,LE x y
theorem Srt.drop {l:List Keyed}(h:Srt l)(i:Nat):Srt (l.drop i):=h.sublist (iq _ _)
theorem Srt.take {l:List Keyed}(h:Srt l)(i:Nat):Srt (l.take i):=h.sublist (d0 _ _)
theorem yM {l m:List Keyed}(h1:Srt l)(h2:Srt m)(h:∀ x∈l,∀ y∈m,LE x y):Srt (l++m):=bO.mpr ⟨h1,h2,h⟩
theorem ML.takeA {a b out:List Keyed}{ia ib:Nat}(h:ML a b out ia ib)(sa:Srt a)(k:Nat)(hc:∀ x∈(a.drop ia).take k,∀ y∈b.drop ib,LE x y):ML a b (out++(a.drop ia).take k) (ia+k) ib:=by
 have e:a.drop (ia+k)=(a.drop ia).drop k:=by rw[hV]
 refine⟨?_,yM h.srt ((sa.drop ia).take k) fun x hx y hy=>h.le x hx y (ax _ (cO hy)),fun x hx y hy=>?_⟩
 ·refine List.Perm.trans ?_ h.perm
  rw[e]
  refine i9 ?_
  rw[aU,<- aU ((a.drop ia).take k),bo]
 ·rcases ay.mp hx with q | q
  ·refine h.le x q y ?_
   rcases ay.mp hy with z | z
   ·rw[e] at z
    exact ax _ (cr z)
   ·exact aq _ z
  ·rcases ay.mp hy with z | z
   ·rw[e] at z
    have s:=sa.drop ia
    rw[<- bo k (a.drop ia)] at s
    exact(bO.mp s).2.2 x q y z
   ·exact hc x q y z
theorem ML.takeB {a b out:List Keyed}{ia ib:Nat}(h:ML a b out ia ib)(sb:Srt b)(k:Nat)(hc:∀ x∈(b.drop ib).take k,∀ y∈a.drop ia,LE x y):ML a b (out++(b.drop ib).take k) ia (ib+k):=by
 have e:b.drop (ib+k)=(b.drop ib).drop k:=by rw[hV]
 refine⟨?_,yM h.srt ((sb.drop ib).take k) fun x hx y hy=>h.le x hx y (aq _ (cO hy)),fun x hx y hy=>?_⟩
 ·refine List.Perm.trans ?_ h.perm
  rw[e,aU]
  refine cY out ?_
  refine dR.trans ?_
  rw[aU]
  refine cY _ ?_
  refine dR.trans ?_
  rw[bo]
 ·rcases ay.mp hx with q | q
  ·refine h.le x q y ?_
   rcases ay.mp hy with z | z
   ·exact ax _ z
   ·rw[e] at z
    exact aq _ (cr z)
  ·rcases ay.mp hy with z | z
   ·exact hc x q y z
   ·rw[e] at z
    have s:=sb.drop ib
    rw[<- bo k (b.drop ib)] at s
    exact(bO.mp s).2.2 x q y z
theorem ML.outA {a b out:List Keyed}{ia ib:Nat}(h:ML a b out ia ib)(sa:Srt a)(hb:b.length<=ib):(out++a.drop ia++b.drop ib).Perm (a++b)/\Srt (out++a.drop ia++b.drop ib):=by
 refine⟨by rw[aU]; exact h.perm,?_⟩
 rw[iX hb,bg]
 exact yM h.srt (sa.drop ia) fun x hx y hy=>h.le x hx y (ax _ hy)
theorem ML.outB {a b out:List Keyed}{ia ib:Nat}(h:ML a b out ia ib)(sb:Srt b)(ha:a.length<=ia):(out++a.drop ia++b.drop ib).Perm (a++b)/\Srt (out++a.drop ia++b.drop ib):=by
 refine⟨by rw[aU]; exact h.perm,?_⟩
 rw[iX ha,bg]
 exact yM h.srt (sb.drop ib) fun x hx y hy=>h.le x hx y (aq _ hy)
theorem ML.last {a b out:List Keyed}{ia ib:Nat}(h:ML a b out ia ib)(sa:Srt a)(sb:Srt b)(ha:∀ x∈b,∀ y∈a.drop ia,LE x y):(out++b.drop ib++a.drop ia).Perm (a++b)/\Srt (out++b.drop ib++a.drop ia):=by
 refine⟨?_,?_⟩
 ·rw[aU]
  exact(cY out dR).trans h.perm
 ·refine yM (yM h.srt (sb.drop ib) fun x hx y hy=>h.le x hx y (aq _ hy)) (sa.drop ia) fun x hx y hy=>?_
  rcases ay.mp hx with q | q
  ·exact h.le x q y (ax _ hy)
  ·exact ha x (cr q) y hy
theorem jA7 {l:List Keyed}{i:Nat}{p:Keyed}(h:l[i]?=some p):(l.drop i).take 1=[p]:=by
 obtain⟨hi,e⟩:=am.mp h
 rw[<- List.getElem_cons_drop (h:=hi),e]
 rfl
theorem jE3 {l:List Keyed}(h:Srt l){i j:Nat}{x y:Keyed}(hx:l[i]?=some x)(hy:l[j]?=some y)(hij:i<=j):LE x y:=by
 obtain⟨h1,rfl⟩:=am.mp hx
 obtain⟨h2,rfl⟩:=am.mp hy
 by_cases e:i=j
 ·subst e; exact ev _
 ·exact cB.mp h i j h1 h2 (by lia)
theorem jDA {l:List Keyed}{i:Nat}{y:Keyed}(h:y∈l.drop i):∃ j,i<=j/\l[j]?=some y:=by
 obtain⟨k,hk⟩:=bI h
 rw[fX] at hk
 exact⟨i+k,by lia,hk⟩
theorem jA4 {l:List Keyed}{i k:Nat}{y:Keyed}(h:y∈(l.drop i).take k):∃ j,i<=j/\j<i+k/\l[j]?=some y:=by
 obtain⟨n,hn⟩:=bI h
 have hlt:n<k:=by
  have:=(am.mp hn).1
  rw[bq] at this
  lia
 rw[ci hlt,fX] at hn
 exact⟨i+n,by lia,by lia,hn⟩
theorem jCK {a:Array Keyed}{i:Nat} :(a.extract i a.size).toList=a.toList.drop i:=by
 rw[fh,dU]
 exact bC (by rw[dI,aR]; exact ai _)
theorem ext_k {a:Array Keyed}{i k:Nat} :(a.extract i (i+k)).toList=(a.toList.drop i).take k:=by
 rw[fh,dU,b0]
structure Two (a b:Array Keyed):Prop where
 ia:AllI a.toList
 ib:AllI b.toList
 sa:Srt a.toList
 sb:Srt b.toList
 na:0<a.size
 nb:0<b.size
 last:∀ x∈b.toList,∀ y,a.toList[a.size - 1]?=some y->key x<key y
 first:∀ y∈a.toList,∀ p,b.toList[0]?=some p->key p<key y
def yI (a b r:Array Keyed):Prop:=r.toList.Perm (a.toList++b.toList)/\Srt r.toList
structure SG (st st':SortSt):Prop where
 k:kindOf st'=kindOf st
 a:arrOf st'=arrOf st
 p:pendingOf st'=pendingOf st
 f:failedOf st'=failedOf st
theorem SG.refl (st:SortSt):SG st st:=⟨rfl,rfl,rfl,rfl⟩
theorem SG.gal {st st':SortSt}(h:SG st st')(g:Nat):SG st (jG5 st' g):=⟨h.k,h.a,h.p,h.f⟩
abbrev MA (a b out:Array Keyed)(ia ib:Nat):Prop:=ML a.toList b.toList out.toList ia ib
variable {a b:Array Keyed}{i j:Nat}
section
variable {out:Array Keyed}{k:Nat}
theorem at_list {p:Keyed} :a[i]?=some p↔a.toList[i]?=some p:=by rw[bK]
theorem yZ (h:i<a.size):∃ p,a[i]?=some p/\a.toList[i]?=some p:=⟨a[i],by simp [h],by simp [h]⟩
theorem MA.doneA (T:Two a b)(h:MA a b out i j)(hj:b.size<=j):yI a b (out++a.extract i a.size++b.extract j b.size):=by
 unfold yI
 rw[bu,bu,jCK,jCK]
 exact ML.outA h T.sa (by rw[aR]; exact hj)
theorem MA.doneB (T:Two a b)(h:MA a b out i j)(hi:a.size<=i):yI a b (out++a.extract i a.size++b.extract j b.size):=by
 unfold yI
 rw[bu,bu,jCK,jCK]
 exact ML.outB h T.sb (by rw[aR]; exact hi)
theorem MA.doneL (T:Two a b)(h:MA a b out i j)(hi:i+1=a.size):yI a b (out++b.extract j b.size++a.extract i a.size):=by
 unfold yI
 rw[bu,bu,jCK,jCK]
 refine ML.last h T.sa T.sb fun x hx y hy=>?_
 obtain⟨n,h1,h2⟩:=jDA hy
 have:n=a.size - 1:=by
  have:=(am.mp h2).1
  rw[aR] at this
  lia
 subst this
 exact cz (T.last x hx y h2)
theorem MA.pushB (T:Two a b)(h:MA a b out i j){p q:Keyed}(hp:b[j]?=some p)(hc:∀ y∈a.toList.drop i,LE p y):MA a b (out.push p) i (j+1):=by
 have:=ML.takeB h T.sb 1 (by
  rw[jA7 (at_list.mp hp)]
  intro x hx
  rw[aO.mp hx]
  exact hc)
 rw[jA7 (at_list.mp hp)] at this
 unfold MA
 rw[eg]
 exact this
theorem MA.pushA (T:Two a b)(h:MA a b out i j){p q:Keyed}(hp:a[i]?=some p)(hc:∀ y∈b.toList.drop j,LE p y):MA a b (out.push p) (i+1) j:=by
 have:=ML.takeA h T.sa 1 (by
  rw[jA7 (at_list.mp hp)]
  intro x hx
  rw[aO.mp hx]
  exact hc)
 rw[jA7 (at_list.mp hp)] at this
 unfold MA
 rw[eg]
 exact this
theorem MA.appA (T:Two a b)(h:MA a b out i j)(k:Nat)(hc:∀ n x,i<=n->n<i+k->a.toList[n]?=some x->∀ y∈b.toList.drop j,LE x y):MA a b (out++a.extract i (i+k)) (i+k) j:=by
 unfold MA
 rw[bu,ext_k]
 exact ML.takeA h T.sa k fun x hx y hy=>by
  obtain⟨n,h1,h2,h3⟩:=jA4 hx
  exact hc n x h1 h2 h3 y hy
theorem MA.appB (T:Two a b)(h:MA a b out i j)(k:Nat)(hc:∀ n x,j<=n->n<j+k->b.toList[n]?=some x->∀ y∈a.toList.drop i,LE x y):MA a b (out++b.extract j (j+k)) i (j+k):=by
 unfold MA
 rw[bu,ext_k]
 exact ML.takeB h T.sb k fun x hx y hy=>by
  obtain⟨n,h1,h2,h3⟩:=jA4 hx
  exact hc n x h1 h2 h3 y hy
theorem Two.atA (T:Two a b)(h:i<a.size):∃ p,a[i]?=some p/\IsI p:=by
 obtain⟨p,h1,h2⟩:=yZ h
 exact⟨p,h1,T.ia p (aC h2)⟩
theorem Two.atB (T:Two a b)(h:i<b.size):∃ p,b[i]?=some p/\IsI p:=by
 obtain⟨p,h1,h2⟩:=yZ h
 exact⟨p,h1,T.ib p (aC h2)⟩
theorem jFB (s:Srt a.toList){p q:Keyed}(hp:a[i]?=some p)(h:LE q p):∀ y∈a.toList.drop i,LE q y:=fun y hy=>by
 obtain⟨n,h1,h2⟩:=jDA hy
 exact dG h (jE3 s (at_list.mp hp) h2 h1)
end
section
variable {prog:Program}{w:World}{A:Around}{E:Value->Shared->Prop}{s:Shared} [LtOk prog w A s]
theorem jRF {st:SortSt}{a:Array Keyed}{i:Nat}{p:Keyed}{Q:Option Nat->SortSt->Prop}(hk:kindOf st=Od.kd)(hp:IsI p)(ha:AllI a.toList)(sa:Srt a.toList)(hi:i<a.size)
  (h:∀ k,i+k<=a.size->(∀ n x,i<=n->n<i+k->a.toList[n]?=some x->LE x p)->(∀ n x,i+k<=n->a.toList[n]?=some x->key p<key x)->Q (some k) st):
  wpS (model prog w) A E s (jBI false p a i (a.size - i) 0) Q st:=by
 refine jB1 hk hp (fun n hn=>?_) (by lia) (fun n=>match a[i+n]? with | some x=>!decide (key p<key x) | none=>false) (fun n x hn hx=>?_) (fun n m hnm hm hb=>?_) fun k hk1 hk2 hk3=>h k (by lia) (fun n x h1 h2 h3=>?_) fun n x h1 h2=>?_
 ·obtain⟨q,q1,q2⟩:=yZ (a:=a) (i:=i+n) (by lia)
  exact⟨q,q1,ha q (aC q2)⟩
 ·rw[hx,aj ao]
 ·obtain⟨x,x1,x2⟩:=yZ (a:=a) (i:=i+n) (by lia)
  obtain⟨y,y1,y2⟩:=yZ (a:=a) (i:=i+m) (by lia)
  rw[y1] at hb
  rw[x1]
  have:=jE3 sa x2 y2 (by lia)
  have hb:¬ key p<key y:=by simpa using hb
  show (!decide (key p<key x))=true
  rw[gh,dq]
  have:key x<=key y:=this
  lia
 ·have:=hk2 (n - i) (by lia)
  rw[show i+(n - i)=n by lia,at_list.mpr h3] at this
  have this:¬ key p<key x:=by simpa using this
  show key x<=key p
  lia
 ·have hn:=(am.mp h2).1
  rw[aR] at hn
  have:=hk3 (n - i) (by lia) (by lia)
  rw[show i+(n - i)=n by lia,at_list.mpr h2] at this
  simpa using this
theorem jRG {st:SortSt}{a:Array Keyed}{i:Nat}{p:Keyed}{Q:Option Nat->SortSt->Prop}(hk:kindOf st=Od.kd)(hp:IsI p)(ha:AllI a.toList)(sa:Srt a.toList)(hi:i<a.size)
  (h:∀ k,i+k<=a.size->(∀ n x,i<=n->n<i+k->a.toList[n]?=some x->key x<key p)->(∀ n x,i+k<=n->a.toList[n]?=some x->LE p x)->Q (some k) st):
  wpS (model prog w) A E s (jBI true p a i (a.size - i) 0) Q st:=by
 refine jB1 hk hp (fun n hn=>?_) (by lia) (fun n=>match a[i+n]? with | some x=>decide (key x<key p) | none=>false) (fun n x hn hx=>?_) (fun n m hnm hm hb=>?_) fun k hk1 hk2 hk3=>h k (by lia) (fun n x h1 h2 h3=>?_) fun n x h1 h2=>?_
 ·obtain⟨q,q1,q2⟩:=yZ (a:=a) (i:=i+n) (by lia)
  exact⟨q,q1,ha q (aC q2)⟩
 ·rw[hx,ak rfl]
 ·obtain⟨x,x1,x2⟩:=yZ (a:=a) (i:=i+n) (by lia)
  obtain⟨y,y1,y2⟩:=yZ (a:=a) (i:=i+m) (by lia)
  rw[y1] at hb
  rw[x1]
  have:=jE3 sa x2 y2 (by lia)
  have hb:key y<key p:=aP hb
  show decide (key x<key p)=true
  rw[bW]
  have:key x<=key y:=this
  lia
 ·have:=hk2 (n - i) (by lia)
  rw[show i+(n - i)=n by lia,at_list.mpr h3] at this
  exact aP this
 ·have hn:=(am.mp h2).1
  rw[aR] at hn
  have:=hk3 (n - i) (by lia) (by lia)
  rw[show i+(n - i)=n by lia,at_list.mpr h2] at this
  have this:¬ key x<key p:=eS this
  show key p<=key x
  lia
end
section
variable {prog:Program}{w:World}{A:Around}{E:Value->Shared->Prop}{s:Shared} [LtOk prog w A s]
theorem bp {a b:Nat}(h:a=b):(a==b)=true:=kj.mpr h
theorem bn {a b:Nat}(h:¬ a=b):¬ (a==b)=true:=fun z=>h (kj.mp z)
structure LoI (a b:Array Keyed)(st:SortSt)(out:Array Keyed)(ia ib:Nat)(st':SortSt):Prop where
 m:MA a b out ia ib
 i:ia+1<a.size
 j:ib<b.size
 s:SG st st'
theorem jH7 {a b:Array Keyed}{st:SortSt}{Q:Array Keyed->SortSt->Prop}(hk:kindOf st=Od.kd)(T:Two a b)(h:∀ r st',yI a b r->SG st st'->Q r st'):wpS (model prog w) A E s (jF6 a b) Q st:=by
 rw[mergeLoB.2]
 delta mergeLoB
 dsimp only
 simp only [elP,ltP,jI0,jKV]
 have na:=T.na
 have nb:=T.nb
 refine aL (h8 (cS ⟨rfl,?_⟩))
 obtain⟨p0,hp0,ip0⟩:=T.atB nb
 refine aL (jU hp0 ?_)
 have M0:MA a b #[p0] 0 1:=by
  have z:MA a b #[] 0 0:=⟨by show (([]:List Keyed)++(a.toList.drop 0++b.toList.drop 0)).Perm _; rw[gL,jr,jr],List.Pairwise.nil,fun x hx=>by cases hx⟩
  have:=MA.pushB (q:=p0) T z hp0 fun y hy=>cz (T.first y (cr hy) p0 (at_list.mp hp0))
  exact this
 by_cases e1:1=b.size
 ·rw[ak (bp e1)]
  exact aN (h _ _ (MA.doneA T M0 (by lia)) (SG.refl _))
 rw[aj (bn e1)]
 by_cases e2:0+1=a.size
 ·rw[ak (bp e2)]
  exact aN (h _ _ (MA.doneL T M0 e2) (SG.refl _))
 rw[aj (bn e2)]
 refine aL (gz ?_)
 refine aL (df (bU (I:=fun x c st'=>∃ out ia ib mg,c=(none,out,ia,ib,mg)/\LoI a b st out ia ib st'/\x+1<=ia+ib)
  (Q:=fun c st'=>∃ r,c.1=some r/\yI a b r/\SG st st') ?step ?fin ⟨_,0,1,_,rfl,⟨M0,by lia,by lia,SG.refl _⟩,by lia⟩) ?post)
 case post=>
  rintro ⟨r0,c⟩ st' ⟨r,hr,d,g⟩
  have hr:r0=some r:=hr
  subst hr
  exact aN (h r st' d g)
 case fin=>
  rintro c st' ⟨out,ia,ib,mg,rfl,I0,hx⟩
  have:=I0.i
  have:=I0.j
  lia
 case step=>
  rintro x c st1 _ hx ⟨out,ia,ib,mg,rfl,I0,hxx⟩
  dsimp only
  refine aL (df (bU (I:=fun y c st'=>∃ out' ia' ib' ac bc,c=(none,out',ia',ib',ac,bc)/\LoI a b st out' ia' ib' st'/\ia+ib<=ia'+ib'/\(y=0\/ia+ib<ia'+ib'))
   (Q:=fun c st'=>(∃ r,c.1=some r/\yI a b r/\SG st st')\/∃ out' ia' ib' ac bc,c=(none,out',ia',ib',ac,bc)/\LoI a b st out' ia' ib' st'/\ia+ib<ia'+ib') ?step1 ?fin1 ⟨_,_,_,_,_,rfl,I0,by lia, .inl rfl⟩) ?post1)
  case fin1=>
   rintro c st' ⟨out',ia',ib',ac,bc,rfl,I1,h1,h2⟩
   exact .inr ⟨_,_,_,_,_,rfl,I1,by lia⟩
  case step1=>
   rintro y c st2 _ hy ⟨out',ia',ib',ac,bc,rfl,I1,h1,h2⟩
   dsimp only
   obtain⟨pb,hpb,ipb⟩:=T.atB I1.j
   obtain⟨pa,hpa,ipa⟩:=T.atA (i:=ia') (by have:=I1.i; lia)
   have ii:=I1.i
   have jj:=I1.j
   refine aL (jU hpb (aL (jU hpa (aL (jFR (I1.s.k.trans hk) ipb ipa ?_)))))
   dsimp only
   by_cases hlt:key pb<key pa
   ·rw[aw hlt,ak rfl]
    refine aL (jU hpb ?_)
    have M2:=MA.pushB (q:=pb) T I1.m hpb (jFB T.sa hpa (cz hlt))
    by_cases f1:ib'+1=b.size
    ·rw[ak (bp f1)]
     exact aN (.inl ⟨_,rfl,MA.doneA T M2 (by lia),I1.s⟩)
    rw[aj (bn f1)]
    split
    ·exact aN (.inr ⟨_,_,_,_,_,rfl,⟨M2,ii,by lia,I1.s⟩,by lia⟩)
    ·exact aN ⟨_,_,_,_,_,rfl,⟨M2,ii,by lia,I1.s⟩,by lia, .inr (by lia)⟩
   ·rw[aH hlt,aj ao]
    refine aL (jU hpa ?_)
    have M2:=MA.pushA (q:=pa) T I1.m hpa (jFB T.sb hpb (by show key pa<=key pb; lia))
    by_cases f1:ia'+1+1=a.size
    ·rw[ak (bp f1)]
     exact aN (.inl ⟨_,rfl,MA.doneL T M2 f1,I1.s⟩)
    rw[aj (bn f1)]
    split
    ·exact aN (.inr ⟨_,_,_,_,_,rfl,⟨M2,by lia,jj,I1.s⟩,by lia⟩)
    ·exact aN ⟨_,_,_,_,_,rfl,⟨M2,by lia,jj,I1.s⟩,by lia, .inr (by lia)⟩
  case post1=>
   rintro c st2 (⟨r,hr,d,g⟩ | ⟨out1,ia1,ib1,ac,bc,rfl,I1,h1⟩)
   ·obtain⟨r0,c⟩:=c
    have hr:r0=some r:=hr
    subst hr
    exact aN ⟨r,rfl,d,g⟩
   dsimp only
   refine aL (h8 (cS ⟨rfl,?_⟩))
   refine aL (df (bU (I:=fun y c st'=>∃ out' ia' ib' mg' ac bc,c=(none,out',ia',ib',mg',ac,bc)/\LoI a b st out' ia' ib' st'/\ia+ib<ia'+ib')
    (Q:=fun c st'=>(∃ r,c.1=some r/\yI a b r/\SG st st')\/∃ out' ia' ib' mg' ac bc,c=(none,out',ia',ib',mg',ac,bc)/\LoI a b st out' ia' ib' st'/\ia+ib<ia'+ib') ?step2 ?fin2 ⟨_,_,_,_,_,_,rfl,I1,h1⟩) ?post2)
   case fin2=>
    rintro c st' ⟨out',ia',ib',mg',ac,bc,rfl,I2,h2⟩
    exact .inr ⟨_,_,_,_,_,_,rfl,I2,h2⟩
   case post2=>
    rintro c st3 (⟨r,hr,d,g⟩ | ⟨out2,ia2,ib2,mg2,ac,bc,rfl,I2,h2⟩)
    ·obtain⟨r0,c⟩:=c
     have hr:r0=some r:=hr
     subst hr
     exact aN ⟨r,rfl,d,g⟩
    dsimp only
    rw[jA3]
    exact aL (eU (aN ⟨_,_,_,_,rfl,⟨I2.m,I2.i,I2.j,I2.s.gal _⟩,by lia⟩))
   case step2=>
    clear I0 I1
    rintro y c st2 _ hy ⟨out,ia,ib,mg',ac,bc,rfl,I0,h2⟩
    dsimp only
    obtain⟨pb,hpb,ipb⟩:=T.atB I0.j
    by_cases hg:mg'>1
    case' pos=>
     rw[ak hg]
     generalize hgg:mg' - 1=gg
    case' neg=>
     rw[aj hg]
     generalize hgg:mg'=gg
    all_goals
     rw[jA3]
     refine aL (eU ?_)
     have G1:=I0.s.gal gg
     refine aL (jU hpb ?_)
     refine aL (jRF (G1.k.trans hk) ipb T.ia T.sa (by have:=I0.i; lia) fun k1 g1 g2 g3=>?_)
     dsimp only
     have M1:=MA.appA T I0.m k1 (fun n x h1 h2 h3=>jFB T.sb hpb (g2 n x h1 h2 h3))
     have hgt:∀ y∈a.toList.drop (ia+k1),LE pb y:=fun y hy=>by
      obtain⟨n,h1,h2⟩:=jDA hy
      exact cz (g3 n y h1 h2)
     have jb:=I0.j
     by_cases e0:k1>0
     case' pos=>
      rw[ak e0]
      by_cases f1:ia+k1+1=a.size
      ·rw[ak (bp f1)]
       exact aN (.inl ⟨_,rfl,MA.doneL T M1 f1,G1⟩)
      rw[aj (bn f1)]
      by_cases f2:ia+k1=a.size
      ·rw[ak (bp f2)]
       exact aN (.inl ⟨_,rfl,MA.doneB T M1 (by lia),G1⟩)
      rw[aj (bn f2)]
      obtain⟨pa,hpa,ipa⟩:=T.atA (i:=ia+k1) (by lia)
      have hz:ia+k1<a.size:=by lia
      generalize hiz:ia+k1=iz at*
     case' neg=>
      rw[aj e0]
      have e0':k1=0:=by lia
      subst e0'
      have M1:=I0.m
      obtain⟨pa,hpa,ipa⟩:=T.atA (i:=ia) (by have:=I0.i; lia)
      have hz:ia<a.size:=by have:=I0.i; lia
      rw[kz] at hgt
      have hia:=I0.i
      generalize hiz:ia=iz at*
     all_goals
      refine aL (jU hpb ?_)
      have M2:=MA.pushB (q:=pb) T M1 hpb hgt
      by_cases e1:ib+1=b.size
      ·rw[ak (bp e1)]
       exact aN (.inl ⟨_,rfl,MA.doneA T M2 (by lia),G1⟩)
      rw[aj (bn e1)]
      refine aL (jU hpa ?_)
      refine aL (jRG (G1.k.trans hk) ipa T.ib T.sb (by lia) fun k2 l1 l2 l3=>?_)
      dsimp only
      have M3:=MA.appB T M2 k2 (fun n x h1 h2 h3=>jFB T.sa hpa (cz (l2 n x h1 h2 h3)))
      have fin3:∀ y∈b.toList.drop (ib+1+k2),LE pa y:=fun y hy=>by
       obtain⟨n,h1,h2⟩:=jDA hy
       exact l3 n y h1 h2
      by_cases e2:k2>0
      ·rw[ak e2]
       by_cases e3:ib+1+k2=b.size
       ·rw[ak (bp e3)]
        exact aN (.inl ⟨_,rfl,MA.doneA T M3 (by lia),G1⟩)
       rw[aj (bn e3)]
       refine aL (jU hpa ?_)
       have M4:=MA.pushA (q:=pa) T M3 hpa fin3
       by_cases e4:iz+1+1=a.size
       ·rw[ak (bp e4)]
        exact aN (.inl ⟨_,rfl,MA.doneL T M4 e4,G1⟩)
       rw[aj (bn e4)]
       split
       ·exact aN (.inr ⟨_,_,_,_,_,_,rfl,⟨M4,by lia,by lia,G1⟩,by lia⟩)
       ·exact aN ⟨_,_,_,_,_,_,rfl,⟨M4,by lia,by lia,G1⟩,by lia⟩
      ·rw[aj e2]
       have e0:k2=0:=by lia
       subst e0
       refine aL (jU hpa ?_)
       have M4:=MA.pushA (q:=pa) T M2 hpa fin3
       by_cases e4:iz+1+1=a.size
       ·rw[ak (bp e4)]
        exact aN (.inl ⟨_,rfl,MA.doneL T M4 e4,G1⟩)
       rw[aj (bn e4)]
       split
       ·exact aN (.inr ⟨_,_,_,_,_,_,rfl,⟨M4,by lia,by lia,G1⟩,by lia⟩)
       ·exact aN ⟨_,_,_,_,_,_,rfl,⟨M4,by lia,by lia,G1⟩,by lia⟩
end
structure MHL (tot xa xb o:List Keyed):Prop where
 perm:(xa++xb++o).Perm tot
 srt:Srt o
 le:∀ x∈o,∀ y∈xa++xb,LE y x
theorem MHL.takeA {tot u v xb o:List Keyed}(h:MHL tot (u++v) xb o)(s:Srt (u++v))(hc:∀ x∈v,∀ y∈xb,LE y x):MHL tot u xb (v++o):=by
 have sp:=bO.mp s
 refine⟨?_,yM sp.2.1 h.srt fun x hx y hy=>h.le y hy x (ax _ (aq _ hx)),fun x hx y hy=>?_⟩
 ·refine List.Perm.trans ?_ h.perm
  rw[aU,aU,aU]
  refine cY u ?_
  rw[<- aU,<- aU]
  exact gj o dR
 ·rcases ay.mp hx with q | q
  ·rcases ay.mp hy with z | z
   ·exact sp.2.2 y z x q
   ·exact hc x q y z
  ·refine h.le x q y ?_
   rcases ay.mp hy with z | z
   ·exact ax _ (ax _ z)
   ·exact aq _ z
theorem MHL.takeB {tot u v xa o:List Keyed}(h:MHL tot xa (u++v) o)(s:Srt (u++v))(hc:∀ x∈v,∀ y∈xa,LE y x):MHL tot xa u (v++o):=by
 have sp:=bO.mp s
 refine⟨?_,yM sp.2.1 h.srt fun x hx y hy=>h.le y hy x (aq _ (aq _ hx)),fun x hx y hy=>?_⟩
 ·refine List.Perm.trans (i9 ?_) h.perm
  simp only [aU]
 ·rcases ay.mp hx with q | q
  ·rcases ay.mp hy with z | z
   ·exact hc x q y z
   ·exact sp.2.2 y z x q
  ·refine h.le x q y ?_
   rcases ay.mp hy with z | z
   ·exact ax _ z
   ·exact aq _ (ax _ z)
theorem MHL.out {tot xa xb o:List Keyed}(h:MHL tot xa xb o)(s:Srt (xa++xb)):(xa++xb++o).Perm tot/\Srt (xa++xb++o):=
 ⟨h.perm,yM s h.srt fun x hx y hy=>h.le y hy x hx⟩
theorem MHL.outF {tot xa xb o:List Keyed}(h:MHL tot xa xb o)(s:Srt (xb++xa)):(xb++xa++o).Perm tot/\Srt (xb++xa++o):=
 ⟨(gj o dR).trans h.perm,yM s h.srt fun x hx y hy=>h.le y hy x (by
  rcases ay.mp hx with z | z
  ·exact aq _ z
  ·exact ax _ z)⟩
theorem jID {l:List Keyed}{n:Nat}{p:Keyed}(hn:0<n)(h:l[n - 1]?=some p):l.take n=l.take (n - 1)++[p]:=by
 obtain⟨m,rfl⟩:∃ m,n=m+1:=⟨n - 1,by lia⟩
 rw[Nat.add_sub_cancel] at h ⊢
 rw[List.take_succ,h]
 rfl
theorem jIC {l:List Keyed}{k n:Nat}(hk:k<=n):l.take n=l.take k++(l.drop k).take (n - k):=by
 obtain⟨m,rfl⟩:∃ m,n=k+m:=⟨n - k,by lia⟩
 rw[b0,List.take_add]
theorem jAH {a:Array Keyed}{k n:Nat} :(a.extract k n).toList=(a.toList.drop k).take (n - k):=by
 rw[fh,dU]
theorem jB7 {a:Array Keyed}{n:Nat} :(a.extract 0 n).toList=a.toList.take n:=by
 rw[jAH,jr,lg]
abbrev MH (a b out:Array Keyed)(na nb:Nat):Prop:=MHL (a.toList++b.toList) (a.toList.take na) (b.toList.take nb) out.toList.reverse
theorem jD9 {l:List Keyed}{n:Nat}{y:Keyed}(h:y∈l.take n):∃ j,j<n/\l[j]?=some y:=by
 obtain⟨k,hk⟩:=bI h
 have hlt:k<n:=by
  have:=(am.mp hk).1
  rw[bq] at this
  lia
 rw[ci hlt] at hk
 exact⟨k,hlt,hk⟩
section
variable {out:Array Keyed}{k:Nat}
theorem jD5 (s:Srt a.toList){p q:Keyed}(hp:a[i - 1]?=some p)(h:LE p q):∀ y∈a.toList.take i,LE y q:=fun y hy=>by
 obtain⟨n,h1,h2⟩:=jD9 hy
 exact dG (jE3 s h2 (at_list.mp hp) (by lia)) h
theorem MH.pushA (T:Two a b)(h:MH a b out i j){p:Keyed}(hi:0<i)(hp:a[i - 1]?=some p)(hc:∀ y∈b.toList.take j,LE y p):MH a b (out.push p) (i - 1) j:=by
 have e:=jID hi (at_list.mp hp)
 have s:=T.sa.take i
 unfold MH at h ⊢
 rw[e] at h s
 rw[eg,ft]
 exact h.takeA s fun x hx=>by rw[aO.mp hx]; exact hc
theorem MH.pushB (T:Two a b)(h:MH a b out i j){p:Keyed}(hj:0<j)(hp:b[j - 1]?=some p)(hc:∀ y∈a.toList.take i,LE y p):MH a b (out.push p) i (j - 1):=by
 have e:=jID hj (at_list.mp hp)
 have s:=T.sb.take j
 unfold MH at h ⊢
 rw[e] at h s
 rw[eg,ft]
 exact h.takeB s fun x hx=>by rw[aO.mp hx]; exact hc
theorem MH.appA (T:Two a b)(h:MH a b out i j)(hk:k<=i)(hc:∀ n x,k<=n->n<i->a.toList[n]?=some x->∀ y∈b.toList.take j,LE y x):MH a b (out++(a.extract k i).reverse) k j:=by
 have e:=jIC (l:=a.toList) hk
 have s:=T.sa.take i
 unfold MH at h ⊢
 rw[e] at h s
 rw[bu,dh,ft,jt,jAH]
 exact h.takeA s fun x hx y hy=>by
  obtain⟨n,h1,h2,h3⟩:=jA4 hx
  exact hc n x h1 (by lia) h3 y hy
theorem MH.appB (T:Two a b)(h:MH a b out i j)(hk:k<=j)(hc:∀ n x,k<=n->n<j->b.toList[n]?=some x->∀ y∈a.toList.take i,LE y x):MH a b (out++(b.extract k j).reverse) i k:=by
 have e:=jIC (l:=b.toList) hk
 have s:=T.sb.take j
 unfold MH at h ⊢
 rw[e] at h s
 rw[bu,dh,ft,jt,jAH]
 exact h.takeB s fun x hx y hy=>by
  obtain⟨n,h1,h2,h3⟩:=jA4 hx
  exact hc n x h1 (by lia) h3 y hy
theorem MH.doneA (T:Two a b)(h:MH a b out 0 j):yI a b (a.extract 0 0++b.extract 0 j++out.reverse):=by
 unfold yI
 rw[bu,bu,jB7,jB7,dh]
 exact h.out (by rw[ju]; exact T.sb.take j)
theorem MH.doneB (T:Two a b)(h:MH a b out i 0):yI a b (a.extract 0 i++b.extract 0 0++out.reverse):=by
 unfold yI
 rw[bu,bu,jB7,jB7,dh]
 exact h.out (by rw[ju,bg]; exact T.sa.take i)
theorem MH.doneF (T:Two a b)(h:MH a b out i 1):yI a b (b.extract 0 1++a.extract 0 i++out.reverse):=by
 unfold yI
 rw[bu,bu,jB7,jB7,dh]
 refine h.outF (yM (T.sb.take 1) (T.sa.take i) fun x hx y hy=>?_)
 obtain⟨n,h1,h2⟩:=jD9 hx
 have:n=0:=by lia
 subst this
 exact cz (T.first y (cO hy) x h2)
end
section
variable {prog:Program}{w:World}{A:Around}{E:Value->Shared->Prop}{s:Shared} [LtOk prog w A s]
theorem jJ3 {st:SortSt}{a:Array Keyed}{i len hint:Nat}{p:Keyed}{Q:Option Nat->SortSt->Prop}(hk:kindOf st=Od.kd)(hp:IsI p)(ha:AllI a.toList)
  (sa:∀ n m x y,i<=n->n<=m->m<i+len->a[n]?=some x->a[m]?=some y->LE x y) (hh:hint<len) (hl:i+len<=a.size)
  (h:∀ k,k<=len->(∀ n x,i<=n->n<i+k->a[n]?=some x->LE x p)->(∀ n x,i+k<=n->n<i+len->a[n]?=some x->key p<key x)->Q (some k) st):
  wpS (model prog w) A E s (jBI false p a i len hint) Q st:=by
 refine jB1 hk hp (fun n hn=>?_) hh (fun n=>match a[i+n]? with | some x=>!decide (key p<key x) | none=>false) (fun n x hn hx=>?_) (fun n m hnm hm hb=>?_) fun k hk1 hk2 hk3=>h k (by lia) (fun n x h1 h2 h3=>?_) fun n x h1 h2 h3=>?_
 ·obtain⟨q,q1,q2⟩:=yZ (a:=a) (i:=i+n) (by lia)
  exact⟨q,q1,ha q (aC q2)⟩
 ·rw[hx,aj ao]
 ·obtain⟨x,x1,x2⟩:=yZ (a:=a) (i:=i+n) (by lia)
  obtain⟨y,y1,y2⟩:=yZ (a:=a) (i:=i+m) (by lia)
  rw[y1] at hb
  rw[x1]
  have:=sa (i+n) (i+m) x y (by lia) (by lia) (by lia) x1 y1
  have hb:¬ key p<key y:=by simpa using hb
  show (!decide (key p<key x))=true
  rw[gh,dq]
  have:key x<=key y:=this
  lia
 ·have:=hk2 (n - i) (by lia)
  rw[show i+(n - i)=n by lia,h3] at this
  have this:¬ key p<key x:=by simpa using this
  show key x<=key p
  lia
 ·have:=hk3 (n - i) (by lia) (by lia)
  rw[show i+(n - i)=n by lia,h3] at this
  simpa using this
theorem jJ4 {st:SortSt}{a:Array Keyed}{i len hint:Nat}{p:Keyed}{Q:Option Nat->SortSt->Prop}(hk:kindOf st=Od.kd)(hp:IsI p)(ha:AllI a.toList)
  (sa:∀ n m x y,i<=n->n<=m->m<i+len->a[n]?=some x->a[m]?=some y->LE x y) (hh:hint<len) (hl:i+len<=a.size)
  (h:∀ k,k<=len->(∀ n x,i<=n->n<i+k->a[n]?=some x->key x<key p)->(∀ n x,i+k<=n->n<i+len->a[n]?=some x->LE p x)->Q (some k) st):
  wpS (model prog w) A E s (jBI true p a i len hint) Q st:=by
 refine jB1 hk hp (fun n hn=>?_) hh (fun n=>match a[i+n]? with | some x=>decide (key x<key p) | none=>false) (fun n x hn hx=>?_) (fun n m hnm hm hb=>?_) fun k hk1 hk2 hk3=>h k (by lia) (fun n x h1 h2 h3=>?_) fun n x h1 h2 h3=>?_
 ·obtain⟨q,q1,q2⟩:=yZ (a:=a) (i:=i+n) (by lia)
  exact⟨q,q1,ha q (aC q2)⟩
 ·rw[hx,ak rfl]
 ·obtain⟨x,x1,x2⟩:=yZ (a:=a) (i:=i+n) (by lia)
  obtain⟨y,y1,y2⟩:=yZ (a:=a) (i:=i+m) (by lia)
  rw[y1] at hb
  rw[x1]
  have:=sa (i+n) (i+m) x y (by lia) (by lia) (by lia) x1 y1
  have hb:key y<key p:=aP hb
  show decide (key x<key p)=true
  rw[bW]
  have:key x<=key y:=this
  lia
 ·have:=hk2 (n - i) (by lia)
  rw[show i+(n - i)=n by lia,h3] at this
  exact aP this
 ·have:=hk3 (n - i) (by lia) (by lia)
  rw[show i+(n - i)=n by lia,h3] at this
  have this:¬ key x<key p:=eS this
  show key p<=key x
  lia
end
section
variable {prog:Program}{w:World}{A:Around}{E:Value->Shared->Prop}{s:Shared} [LtOk prog w A s]
structure HiI (a b:Array Keyed)(st:SortSt)(out:Array Keyed)(na nb:Nat)(st':SortSt):Prop where
 m:MH a b out na nb
 i:0<na
 ia:na<=a.size
 j:1<nb
 jb:nb<=b.size
 s:SG st st'
theorem whole {a:Array Keyed}(s:Srt a.toList){len:Nat} :∀ n m x y,0<=n->n<=m->m<0+len->a[n]?=some x->a[m]?=some y->LE x y:=fun n m x y _ h _ hx hy=>jE3 s (at_list.mp hx) (at_list.mp hy) h
theorem jH8 {a b:Array Keyed}{st:SortSt}{Q:Array Keyed->SortSt->Prop}(hk:kindOf st=Od.kd)(T:Two a b)(h:∀ r st',yI a b r->SG st st'->Q r st'):wpS (model prog w) A E s (jF7 a b) Q st:=by
 rw[mergeHiB.2]
 delta mergeHiB
 dsimp only
 simp only [elP,ltP,jI0,jKV]
 have na:=T.na
 have nb:=T.nb
 refine aL (h8 (cS ⟨rfl,?_⟩))
 obtain⟨p0,hp0,ip0⟩:=T.atA (i:=a.size - 1) (by lia)
 refine aL (jU hp0 ?_)
 have M0:MH a b #[p0] (a.size - 1) b.size:=by
  have z:MH a b #[] a.size b.size:=⟨by
   rw[show a.toList.take a.size=a.toList from bC (by simp),show b.toList.take b.size=b.toList from bC (by simp)]
   show ((a.toList++b.toList)++([]:List Keyed)).Perm _
   rw[bg],List.Pairwise.nil,fun x hx=>by cases hx⟩
  have:=MH.pushA T z (by lia) hp0 fun y hy=>cz (T.last y (cO hy) p0 (at_list.mp hp0))
  exact this
 by_cases e1:a.size - 1=0
 ·rw[ak (bp e1)]
  rw[e1] at M0 ⊢
  exact aN (h _ _ (MH.doneA T M0) (SG.refl _))
 rw[aj (bn e1)]
 by_cases e2:b.size=1
 ·rw[ak (bp e2)]
  rw[e2] at M0 ⊢
  exact aN (h _ _ (MH.doneF T M0) (SG.refl _))
 rw[aj (bn e2)]
 refine aL (gz ?_)
 refine aL (df (bU (I:=fun x c st'=>∃ out na nb mg,c=(none,na,nb,out,mg)/\HiI a b st out na nb st'/\x+1<=a.size - na+(b.size - nb))
  (Q:=fun c st'=>∃ r,c.1=some r/\yI a b r/\SG st st') ?step ?fin ⟨_,_,_,_,rfl,⟨M0,by lia,by lia,by lia,by lia,SG.refl _⟩,by lia⟩) ?post)
 case post=>
  rintro ⟨r0,c⟩ st' ⟨r,hr,d,g⟩
  have hr:r0=some r:=hr
  subst hr
  exact aN (h r st' d g)
 case fin=>
  rintro c st' ⟨out,na,nb,mg,rfl,I0,hx⟩
  have:=I0.i
  have:=I0.j
  lia
 case step=>
  rintro x c st1 _ hx ⟨out,na,nb,mg,rfl,I0,hxx⟩
  dsimp only
  refine aL (df (bU (I:=fun y c st'=>∃ out' na' nb' ac bc,c=(none,na',nb',out',ac,bc)/\HiI a b st out' na' nb' st'/\na'+nb'<=na+nb/\(y=0\/na'+nb'<na+nb))
   (Q:=fun c st'=>(∃ r,c.1=some r/\yI a b r/\SG st st')\/∃ out' na' nb' ac bc,c=(none,na',nb',out',ac,bc)/\HiI a b st out' na' nb' st'/\na'+nb'<na+nb) ?step1 ?fin1 ⟨_,_,_,_,_,rfl,I0,by lia, .inl rfl⟩) ?post1)
  case fin1=>
   rintro c st' ⟨out',na',nb',ac,bc,rfl,I1,h1,h2⟩
   exact .inr ⟨_,_,_,_,_,rfl,I1,by lia⟩
  case step1=>
   rintro y c st2 _ hy ⟨out',na',nb',ac,bc,rfl,I1,h1,h2⟩
   dsimp only
   have i0:=I1.i
   have i1:=I1.ia
   have j0:=I1.j
   have j1:=I1.jb
   obtain⟨pb,hpb,ipb⟩:=T.atB (i:=nb' - 1) (by lia)
   obtain⟨pa,hpa,ipa⟩:=T.atA (i:=na' - 1) (by lia)
   refine aL (jU hpb (aL (jU hpa (aL (jFR (I1.s.k.trans hk) ipb ipa ?_)))))
   dsimp only
   by_cases hlt:key pb<key pa
   ·rw[aw hlt,ak rfl]
    refine aL (jU hpa ?_)
    have M2:=MH.pushA T I1.m i0 hpa (jD5 T.sb hpb (cz hlt))
    by_cases f1:na' - 1=0
    ·rw[ak (bp f1)]
     rw[f1] at M2 ⊢
     exact aN (.inl ⟨_,rfl,MH.doneA T M2,I1.s⟩)
    rw[aj (bn f1)]
    split
    ·exact aN (.inr ⟨_,_,_,_,_,rfl,⟨M2,by lia,by lia,j0,j1,I1.s⟩,by lia⟩)
    ·exact aN ⟨_,_,_,_,_,rfl,⟨M2,by lia,by lia,j0,j1,I1.s⟩,by lia, .inr (by lia)⟩
   ·rw[aH hlt,aj ao]
    refine aL (jU hpb ?_)
    have M2:=MH.pushB T I1.m (by lia) hpb (jD5 T.sa hpa (by show key pa<=key pb; lia))
    by_cases f1:nb' - 1=1
    ·rw[ak (bp f1)]
     rw[f1] at M2 ⊢
     exact aN (.inl ⟨_,rfl,MH.doneF T M2,I1.s⟩)
    rw[aj (bn f1)]
    split
    ·exact aN (.inr ⟨_,_,_,_,_,rfl,⟨M2,i0,i1,by lia,by lia,I1.s⟩,by lia⟩)
    ·exact aN ⟨_,_,_,_,_,rfl,⟨M2,i0,i1,by lia,by lia,I1.s⟩,by lia, .inr (by lia)⟩
  case post1=>
   rintro c st2 (⟨r,hr,d,g⟩ | ⟨out1,na1,nb1,ac,bc,rfl,I1,h1⟩)
   ·obtain⟨r0,c⟩:=c
    have hr:r0=some r:=hr
    subst hr
    exact aN ⟨r,rfl,d,g⟩
   dsimp only
   refine aL (h8 (cS ⟨rfl,?_⟩))
   refine aL (df (bU (I:=fun y c st'=>∃ out' na' nb' mg' ac bc,c=(none,na',nb',out',mg',ac,bc)/\HiI a b st out' na' nb' st'/\na'+nb'<na+nb)
    (Q:=fun c st'=>(∃ r,c.1=some r/\yI a b r/\SG st st')\/∃ out' na' nb' mg' ac bc,c=(none,na',nb',out',mg',ac,bc)/\HiI a b st out' na' nb' st'/\na'+nb'<na+nb) ?step2 ?fin2 ⟨_,_,_,_,_,_,rfl,I1,h1⟩) ?post2)
   case fin2=>
    rintro c st' ⟨out',na',nb',mg',ac,bc,rfl,I2,h2⟩
    exact .inr ⟨_,_,_,_,_,_,rfl,I2,h2⟩
   case post2=>
    have q1:=I0.ia
    have q2:=I0.jb
    rintro c st3 (⟨r,hr,d,g⟩ | ⟨out2,na2,nb2,mg2,ac,bc,rfl,I2,h2⟩)
    ·obtain⟨r0,c⟩:=c
     have hr:r0=some r:=hr
     subst hr
     exact aN ⟨r,rfl,d,g⟩
    dsimp only
    rw[jA3]
    have q3:=I2.ia
    have q4:=I2.jb
    exact aL (eU (aN ⟨_,_,_,_,rfl,⟨I2.m,I2.i,I2.ia,I2.j,I2.jb,I2.s.gal _⟩,by lia⟩))
   case step2=>
    clear I0 I1
    rename_i na00 nb00
    generalize hbd:na+nb=bd
    clear hxx h1
    rintro y c st2 _ hy ⟨out,na,nb,mg',ac,bc,rfl,I0,h2⟩
    dsimp only
    obtain⟨pb,hpb,ipb⟩:=T.atB (i:=nb - 1) (by have:=I0.j; have:=I0.jb; lia)
    by_cases hg:mg'>1
    case' pos=>
     rw[ak hg]
     generalize hgg:mg' - 1=gg
    case' neg=>
     rw[aj hg]
     generalize hgg:mg'=gg
    all_goals
     rw[jA3]
     refine aL (eU ?_)
     have G1:=I0.s.gal gg
     have na0:=I0.i
     have na1:=I0.ia
     have nb0:=I0.j
     have nb1:=I0.jb
     refine aL (jU hpb ?_)
     refine aL (jJ3 (G1.k.trans hk) ipb T.ia (whole T.sa) (by lia) (by lia) fun k1 g1 g2 g3=>?_)
     dsimp only
     have M1:=MH.appA T I0.m g1 (fun n x h1 h2 h3=>jD5 T.sb hpb (cz (g3 n x (by lia) (by lia) (at_list.mpr h3))))
     have hle:∀ y∈a.toList.take k1,LE y pb:=fun y hy=>by
      obtain⟨n,h1,h2⟩:=jD9 hy
      exact g2 n y (by lia) (by lia) (at_list.mpr h2)
     by_cases e0:na - k1>0
     case' pos=>
      rw[ak e0]
      by_cases f1:k1=0
      ·rw[ak (bp f1)]
       rw[f1] at M1 ⊢
       exact aN (.inl ⟨_,rfl,MH.doneA T M1,G1⟩)
      rw[aj (bn f1)]
      obtain⟨pa,hpa,ipa⟩:=T.atA (i:=k1 - 1) (by lia)
      have hz:0<k1:=by lia
      generalize hiz:k1=iz at*
     case' neg=>
      rw[aj e0]
      have e0':k1=na:=by lia
      subst e0'
      have M1:=I0.m
      obtain⟨pa,hpa,ipa⟩:=T.atA (i:=k1 - 1) (by lia)
      have hz:0<k1:=by lia
      generalize hiz:k1=iz at*
     all_goals
      refine aL (jU hpb ?_)
      have M2:=MH.pushB T M1 (by lia) hpb hle
      by_cases e1:nb - 1=1
      ·rw[ak (bp e1)]
       rw[e1] at M2 ⊢
       exact aN (.inl ⟨_,rfl,MH.doneF T M2,G1⟩)
      rw[aj (bn e1)]
      refine aL (jU hpa ?_)
      refine aL (jJ4 (G1.k.trans hk) ipa T.ib (whole T.sb) (by lia) (by lia) fun k2 l1 l2 l3=>?_)
      dsimp only
      have M3:=MH.appB T M2 l1 (fun n x h1 h2 h3=>jD5 T.sa hpa (l3 n x (by lia) (by lia) (at_list.mpr h3)))
      have fin3:∀ y∈b.toList.take k2,LE y pa:=fun y hy=>by
       obtain⟨n,h1,h2⟩:=jD9 hy
       exact cz (l2 n y (by lia) (by lia) (at_list.mpr h2))
      by_cases e2:nb - 1 - k2>0
      ·rw[ak e2]
       by_cases e3:k2=1
       ·rw[ak (bp e3)]
        rw[e3] at M3 ⊢
        exact aN (.inl ⟨_,rfl,MH.doneF T M3,G1⟩)
       rw[aj (bn e3)]
       by_cases e5:k2=0
       ·rw[ak (bp e5)]
        rw[e5] at M3 ⊢
        exact aN (.inl ⟨_,rfl,MH.doneB T M3,G1⟩)
       rw[aj (bn e5)]
       refine aL (jU hpa ?_)
       have M4:=MH.pushA T M3 hz hpa fin3
       by_cases e4:iz - 1=0
       ·rw[ak (bp e4)]
        rw[e4] at M4 ⊢
        exact aN (.inl ⟨_,rfl,MH.doneA T M4,G1⟩)
       rw[aj (bn e4)]
       split
       ·exact aN (.inr ⟨_,_,_,_,_,_,rfl,⟨M4,by lia,by lia,by lia,by lia,G1⟩,by lia⟩)
       ·exact aN ⟨_,_,_,_,_,_,rfl,⟨M4,by lia,by lia,by lia,by lia,G1⟩,by lia⟩
      ·rw[aj e2]
       have e0:k2=nb - 1:=by lia
       subst e0
       refine aL (jU hpa ?_)
       have M4:=MH.pushA T M2 hz hpa fin3
       by_cases e4:iz - 1=0
       ·rw[ak (bp e4)]
        rw[e4] at M4 ⊢
        exact aN (.inl ⟨_,rfl,MH.doneA T M4,G1⟩)
       rw[aj (bn e4)]
       split
       ·exact aN (.inr ⟨_,_,_,_,_,_,rfl,⟨M4,by lia,by lia,by lia,by lia,G1⟩,by lia⟩)
       ·exact aN ⟨_,_,_,_,_,_,rfl,⟨M4,by lia,by lia,by lia,by lia,G1⟩,by lia⟩
end
def KI (xs:Array Keyed)(i:Nat):Int:=match xs[i]? with
 | some p=>key p
 | none=>0
def STo (xs:Array Keyed)(k:Nat):Prop:=∀ i j,i<=j->j<k->KI xs i<=KI xs j
structure SB (a₀:Array Keyed)(st:SortSt):Prop where
 perm:(arrOf st).Perm a₀
 kind:kindOf st=Od.kd
 failed:failedOf st=none
 pend:pendingOf st=#[]
theorem SB.size {a₀:Array Keyed}{st:SortSt}(h:SB a₀ st):(arrOf st).size=a₀.size:=h.perm.size_eq
theorem jB9 {xs ys:Array Keyed}{i j:Nat}(h:xs[i]?=ys[j]?):KI xs i=KI ys j:=by unfold KI; rw[h]
theorem jN9 {xs:Array Keyed}{src d:Nat}(hs:src<xs.size)(hd:d<=src)(k:Nat):
  KI (bubble xs src d) k=if k=src - d then KI xs src else if src - d<k/\k<=src then KI xs (k - 1) else KI xs k:=by
 have e:=getElem?_bubble hs d hd k
 by_cases h1:k=src - d
 ·rw[ak h1] at e ⊢; exact jB9 e
 ·rw[aj h1] at e ⊢
  by_cases h2:src - d<k/\k<=src
  ·rw[ak h2] at e ⊢; exact jB9 e
  ·rw[aj h2] at e ⊢; exact jB9 e
theorem jC3 {xs:Array Keyed}{i j:Nat}(hj:j<=xs.size)(k:Nat):
  KI (mirror xs i j ((j - i) / 2)) k=if i<=k/\k<j then KI xs (i+j - 1 - k) else KI xs k:=by
 have e:=getElem?_mirror_all (i:=i) hj k
 by_cases h1:i<=k/\k<j
 ·rw[ak h1] at e
  rw[ak h1]
  exact jB9 e
 ·rw[aj h1] at e
  rw[aj h1]
  exact jB9 e
theorem jA1 {xs:Array Keyed}{i j:Nat}(hj:j<=xs.size)(heq:∀ k,i<=k->k<j->KI xs k=KI xs (j - 1))(k:Nat):
  KI (mirror xs i j ((j - i) / 2)) k=KI xs k:=by
 rw[jC3 hj]
 split
 ·rename_i h
  rw[heq _ (by lia) (by lia),heq k h.1 h.2]
 ·rfl
def Up (xs:Array Keyed)(lo n:Nat):Prop:=∀ i j,lo<=i->i<=j->j<lo+n->KI xs i<=KI xs j
def Dn (xs:Array Keyed)(lo n:Nat):Prop:=∀ i j,lo<=i->i<=j->j<lo+n->KI xs j<=KI xs i
structure BB (a₀:Array Keyed)(p:Array (Nat×Nat×Nat))(F:Nat->Int)(lo:Nat)(st:SortSt):Prop where
 perm:(arrOf st).Perm a₀
 kind:kindOf st=Od.kd
 failed:failedOf st=none
 pend:pendingOf st=p
 low:∀ k,k<lo->KI (arrOf st) k=F k
theorem jP9 {a₀ xs:Array Keyed}(hp:xs.Perm a₀)(h0:AllI a₀.toList){i:Nat}(hi:i<a₀.size):∃ q,xs[i]?=some q/\IsI q/\key q=KI xs i:=by
 have hi':i<xs.size:=by rw[hp.size_eq]; exact hi
 have hm:xs[i]∈a₀.toList:=(cx.mp hp).mem_iff.mp (by simp)
 have e:xs[i]?=some xs[i]:=lh _ i hi'
 exact⟨xs[i],e,h0 _ hm,by unfold KI; rw[e]⟩
section
variable {prog:Program}{w:World}{A:Around}{E:Value->Shared->Prop}{s:Shared} [LtOk prog w A s]{a₀:Array Keyed}{p:Array (Nat×Nat×Nat)}{F:Nat->Int}{lo:Nat}
theorem BB.sz {st:SortSt}(h:BB a₀ p F lo st):(arrOf st).size=a₀.size:=h.perm.size_eq
theorem BB.arr {st:SortSt}(h:BB a₀ p F lo st){xs:Array Keyed}(hp:xs.Perm (arrOf st))(hl:∀ k,k<lo->KI xs k=KI (arrOf st) k):BB a₀ p F lo (setArr st xs):=
 ⟨hp.trans h.perm,h.kind,h.failed,h.pend,fun k hk=>(hl k hk).trans (h.low k hk)⟩
theorem jC4 {st:SortSt}{i j:Nat}{Q:Option Bool->SortSt->Prop}(hB:BB a₀ p F lo st)(h0:AllI a₀.toList)(hi:i<a₀.size)(hj:j<a₀.size)
  (h:Q (some (decide (KI (arrOf st) i<KI (arrOf st) j))) st):wpS (model prog w) A E s (ltAt' i j) Q st:=by
 obtain⟨x,e1,i1,k1⟩:=jP9 hB.perm h0 hi
 obtain⟨y,e2,i2,k2⟩:=jP9 hB.perm h0 hj
 rw[ltAt'_eq]
 refine aL (gz ?_)
 show wpS _ _ _ _ (do let x <- elem' (arrOf st) i; let y <- elem' (arrOf st) j; lt' x y) Q st
 rw[elem'_eq,elem'_eq,e1,e2]
 refine aL (aN (aL (aN (jFR hB.kind i1 i2 ?_))))
 rw[k1,k2]
 exact h
theorem Up.one {xs:Array Keyed} :Up xs lo 1:=fun i j h1 h2 h3=>by
 have:i=j:=by lia
 rw[this]
 exact ev _
theorem Dn.one {xs:Array Keyed} :Dn xs lo 1:=fun i j h1 h2 h3=>by
 have:i=j:=by lia
 rw[this]
 exact ev _
theorem Up.more {xs:Array Keyed}{n:Nat}(h:Up xs lo n)(hn:0<n)(hc:KI xs (lo+n - 1)<=KI xs (lo+n)):Up xs lo (n+1):=fun i j h1 h2 h3=>by
 by_cases e:j<lo+n
 ·exact h i j h1 h2 e
 ·have ej:j=lo+n:=by lia
  subst ej
  by_cases ei:i=lo+n
  ·rw[ei]
   exact ev _
  ·exact dG (h i (lo+n - 1) h1 (by lia) (by lia)) hc
theorem Dn.more {xs:Array Keyed}{n:Nat}(h:Dn xs lo n)(hn:0<n)(hc:KI xs (lo+n)<=KI xs (lo+n - 1)):Dn xs lo (n+1):=fun i j h1 h2 h3=>by
 by_cases e:j<lo+n
 ·exact h i j h1 h2 e
 ·have ej:j=lo+n:=by lia
  subst ej
  by_cases ei:i=lo+n
  ·rw[ei]
   exact ev _
  ·exact dG hc (h i (lo+n - 1) h1 (by lia) (by lia))
theorem Dn.congr {xs ys:Array Keyed}{n:Nat}(h:Dn xs lo n)(e:∀ k,KI ys k=KI xs k):Dn ys lo n:=fun i j h1 h2 h3=>by
 rw[e i,e j]
 exact h i j h1 h2 h3
theorem jEH {st:SortSt}{nrem:Nat}{Q:Option Nat->SortSt->Prop}(h0:AllI a₀.toList)(hn:lo+nrem<=a₀.size)(hn1:1<=nrem)(hB:BB a₀ p F lo st)
  (h:∀ m st',BB a₀ p F lo st'->1<=m->m<=nrem->Up (arrOf st') lo m->Q (some m) st'):wpS (model prog w) A E s (countRun' lo nrem) Q st:=by
 rw[countRun'_eq]
 dsimp only
 refine aL (df (bU (I:=fun x c st'=>st'=st/\c=(none,x)/\Up (arrOf st) lo x)
  (Q:=fun c st'=>st'=st/\∃ n,c=(none,n)/\1<=n/\n<=nrem/\Up (arrOf st) lo n/\(n=nrem\/KI (arrOf st) (lo+n)<KI (arrOf st) (lo+n - 1))) ?step ?fin ⟨rfl,rfl,Up.one⟩) ?post)
 case fin=>
  rintro c st' ⟨rfl,rfl,hu⟩
  rw[show max 1 nrem=nrem by lia] at hu ⊢
  exact⟨rfl,nrem,rfl,hn1,ai _,hu, .inl rfl⟩
 case step=>
  rintro x c st' h1 h2 ⟨rfl,rfl,hu⟩
  dsimp only
  refine aL (jC4 hB h0 (by lia) (by lia) ?_)
  dsimp only
  by_cases hl:KI (arrOf st') (lo+x)<KI (arrOf st') (lo+x - 1)
  ·rw[aw hl,ak rfl]
   exact aN ⟨rfl,x,rfl,by lia,by lia,hu, .inr hl⟩
  ·rw[aH hl,aj ao]
   exact aN ⟨rfl,rfl,hu.more (by lia) (by lia)⟩
 case post=>
  rintro c st' ⟨rfl,n,rfl,n1,n2,hu,hor⟩
  dsimp only
  by_cases hnn:n=nrem
  ·rw[ak (bp hnn)]
   exact aN (h n st' hB n1 n2 hu)
  rw[aj (bn hnn)]
  have hlt:=hor.resolve_left hnn
  have hz:lo+n<=(arrOf st').size:=by rw[hB.sz]; lia
  by_cases hgt:n>1
  case' pos=>
   rw[ak hgt]
   refine aL (jC4 hB h0 (by lia) (by lia) ?_)
   dsimp only
   by_cases hr:KI (arrOf st') lo<KI (arrOf st') (lo+n - 1)
   ·rw[aw hr,ak rfl]
    exact aN (h n st' hB n1 n2 hu)
   rw[aH hr,aj ao]
   have hall:∀ k,lo<=k->k<lo+n->KI (arrOf st') k=KI (arrOf st') (lo+n - 1):=fun k h1 h2=>by
    have a1:=hu lo k (by lia) h1 h2
    have a2:=hu k (lo+n - 1) h1 (by lia) (by lia)
    lia
   refine aL (wpS_reverse ?_)
   have hB1:=hB.arr (xs:=mirror (arrOf st') lo (lo+n) ((lo+n - lo) / 2)) (mirror_perm _ _ _ _) fun k _=>jA1 hz hall k
   have hs0:Dn (arrOf st') lo n:=fun i j h1 h2 h3=>by
    rw[hall i h1 (by lia),hall j (by lia) h3]
    exact ev _
   have hs1:Dn (arrOf (setArr st' (mirror (arrOf st') lo (lo+n) ((lo+n - lo) / 2)))) lo (n+1):=(hs0.more (by lia) (cz hlt)).congr (jA1 hz hall)
   generalize setArr st' (mirror (arrOf st') lo (lo+n) ((lo+n - lo) / 2))=st1 at*
  case' neg=>
   rw[aj hgt]
   have en:n=1:=by lia
   have hB1:=hB
   have hs1:Dn (arrOf st') lo (n+1):=by
    rw[en] at hlt ⊢
    exact Dn.one.more (by lia) (cz hlt)
  all_goals
   refine aL (h8 (cS ⟨rfl,?_⟩))
   refine aL (df (bU (I:=fun x c st'=>∃ q,c=(none,x,q)/\BB a₀ p F lo st'/\Dn (arrOf st') lo x/\q+1<=x/\∀ i,lo+x - (q+1)<=i->i<lo+x->KI (arrOf st') i=KI (arrOf st') (lo+x - 1))
    (Q:=fun c st'=>∃ m q,c=(none,m,q)/\1<=m/\m<=nrem/\BB a₀ p F lo st'/\Dn (arrOf st') lo m/\q+1<=m/\∀ i,lo+m - (q+1)<=i->i<lo+m->KI (arrOf st') i=KI (arrOf st') (lo+m - 1)) ?dstep ?dfin ⟨0,rfl,hB1,hs1,by lia,fun i h1 h2=>by congr 1; lia⟩) ?dpost)
   case dfin=>
    rintro c st' ⟨q,rfl,hb,hd,hq,he⟩
    rw[show max (n+1) nrem=nrem by lia] at hd hq he ⊢
    exact⟨nrem,q,rfl,by lia,by lia,hb,hd,hq,he⟩
   case dstep=>
    rintro x c st' h1 h2 ⟨q,rfl,hb,hd,hq,he⟩
    dsimp only
    have hz:lo+x<=(arrOf st').size:=by rw[hb.sz]; lia
    refine aL (jC4 hb h0 (by lia) (by lia) ?_)
    dsimp only
    by_cases hl:KI (arrOf st') (lo+x)<KI (arrOf st') (lo+x - 1)
    ·rw[aw hl,ak rfl]
     have d1:=hd.more (by lia) (cz hl)
     by_cases hq0:q>0
     ·rw[ak hq0]
      refine aL (wpS_reverse (aN ⟨0,rfl,hb.arr (mirror_perm _ _ _ _) fun k _=>jA1 hz he k,d1.congr (jA1 hz he),by lia,fun i h1 h2=>by congr 1; lia⟩))
     ·rw[aj hq0]
      exact aN ⟨0,rfl,hb,d1,by lia,fun i h1 h2=>by congr 1; lia⟩
    ·rw[aH hl,aj ao]
     refine aL (jC4 hb h0 (by lia) (by lia) ?_)
     dsimp only
     by_cases hg:KI (arrOf st') (lo+x - 1)<KI (arrOf st') (lo+x)
     ·rw[aw hg,ak rfl]
      exact aN ⟨x,q,rfl,by lia,by lia,hb,hd,hq,he⟩
     ·rw[aH hg,aj ao]
      have ex:KI (arrOf st') (lo+x)=KI (arrOf st') (lo+x - 1):=by lia
      refine aN ⟨q+1,rfl,hb,hd.more (by lia) (by lia),by lia,fun i h1 h2=>?_⟩
      rw[show lo+(x+1) - 1=lo+x by lia]
      by_cases hix:i=lo+x
      ·rw[hix]
      ·rw[ex]
       exact he i (by lia) (by lia)
   case dpost=>
    rintro c st2 ⟨m,q,rfl,m1,m2,hB2,hs2,hq,he⟩
    dsimp only
    have hz2:lo+m<=(arrOf st2).size:=by rw[hB2.sz]; lia
    by_cases hq0:q>0
    case' pos=>
     rw[ak hq0]
     refine aL (wpS_reverse ?_)
     have hB3:=hB2.arr (xs:=mirror (arrOf st2) (lo+m - (q+1)) (lo+m) ((lo+m - (lo+m - (q+1))) / 2)) (mirror_perm _ _ _ _) fun k _=>jA1 hz2 he k
     have hs3:Dn (arrOf (setArr st2 (mirror (arrOf st2) (lo+m - (q+1)) (lo+m) ((lo+m - (lo+m - (q+1))) / 2)))) lo m:=hs2.congr (jA1 hz2 he)
     generalize setArr st2 (mirror (arrOf st2) (lo+m - (q+1)) (lo+m) ((lo+m - (lo+m - (q+1))) / 2))=st3 at*
    case' neg=>
     rw[aj hq0]
     have hB3:=hB2
     have hs3:=hs2
     generalize st2=st3 at*
    all_goals
     have hz3:lo+m<=(arrOf st3).size:=by rw[hB3.sz]; lia
     refine aL (wpS_reverse ?_)
     have hB4:=hB3.arr (xs:=mirror (arrOf st3) lo (lo+m) ((lo+m - lo) / 2)) (mirror_perm _ _ _ _) fun k hk=>by
      rw[jC3 hz3,aj (by lia)]
     have hU:Up (mirror (arrOf st3) lo (lo+m) ((lo+m - lo) / 2)) lo m:=fun i j h1 h2 h3=>by
      rw[jC3 hz3,jC3 hz3,ak ⟨h1,by lia⟩,ak ⟨by lia,h3⟩]
      exact hs3 _ _ (by lia) (by lia) (by lia)
     generalize mirror (arrOf st3) lo (lo+m) ((lo+m - lo) / 2)=xs4 at*
     refine aL (df (bU (I:=fun x c st'=>st'=setArr st3 xs4/\c=(none,x)/\Up xs4 lo x)
      (Q:=fun c st'=>st'=setArr st3 xs4/\∃ n,c=(none,n)/\1<=n/\n<=nrem/\Up xs4 lo n) ?tstep ?tfin ⟨rfl,rfl,hU⟩) ?tpost)
     case tfin=>
      rintro c st' ⟨rfl,rfl,hu⟩
      rw[show max m nrem=nrem by lia] at hu ⊢
      exact⟨rfl,nrem,rfl,by lia,by lia,hu⟩
     case tstep=>
      rintro x c st' h1 h2 ⟨rfl,rfl,hu⟩
      dsimp only
      refine aL (jC4 hB4 h0 (by lia) (by lia) ?_)
      dsimp only
      by_cases hl:KI xs4 (lo+x)<KI xs4 (lo+x - 1)
      ·rw[aw hl,ak rfl]
       exact aN ⟨rfl,x,rfl,by lia,by lia,hu⟩
      ·rw[aH hl,aj ao]
       exact aN ⟨rfl,rfl,hu.more (by lia) (by lia)⟩
     case tpost=>
      rintro c st' ⟨rfl,n,rfl,n1,n2,hu⟩
      exact aN (h n _ hB4 n1 n2 hu)
theorem jDF {st:SortSt}{n ok:Nat}{Q:Bool->SortSt->Prop}(h0:AllI a₀.toList)(hn:lo+n<=a₀.size)(hok:ok<=n)(hB:BB a₀ p F lo st)(hs:Up (arrOf st) lo ok)
  (h:∀ st',BB a₀ p F lo st'->Up (arrOf st') lo n->Q true st'):wpS (model prog w) A E s (binarySort' lo n ok) Q st:=by
 rw[binarySort'_eq]
 dsimp only
 refine aL (df (bU (I:=fun k c st'=>c=(none,())/\BB a₀ p F lo st'/\Up (arrOf st') lo (min k n))
  (Q:=fun c st'=>c=(none,())/\BB a₀ p F lo st'/\Up (arrOf st') lo n) ?step ?fin ⟨rfl,hB,?init⟩) ?post)
 case post=>
  rintro c st' ⟨rfl,hb,hu⟩
  exact aN (h st' hb hu)
 case init=>
  by_cases e:ok=0
  ·intro i j h1 h2 h3
   have:i=j:=by lia
   rw[this]
   exact ev _
  ·exact fun i j h1 h2 h3=>hs i j h1 h2 (by lia)
 case fin=>
  rintro c st' ⟨hc,hb,hu⟩
  rw[show min (max (max ok 1) n) n=n by lia] at hu
  exact⟨hc,hb,hu⟩
 case step=>
  rintro k c st1 hk1 hk2 ⟨rfl,hb,hu⟩
  rw[show min k n=k by lia] at hu
  refine aL (df (bU (I:=fun x c st'=>st'=st1/\∃ l r,c=(none,l,r)/\l<=r/\r<=k/\r - l<=k - x/\
    (∀ i,i<l->KI (arrOf st1) (lo+i)<=KI (arrOf st1) (lo+k))/\∀ i,r<=i->i<k->KI (arrOf st1) (lo+k)<KI (arrOf st1) (lo+i))
   (Q:=fun c st'=>st'=st1/\∃ l r,c=(none,l,r)/\l<=k/\
    (∀ i,i<l->KI (arrOf st1) (lo+i)<=KI (arrOf st1) (lo+k))/\∀ i,l<=i->i<k->KI (arrOf st1) (lo+k)<KI (arrOf st1) (lo+i)) ?step1 ?fin1 ⟨rfl,0,k,rfl,by lia,by lia,by lia,fun i hi=>by lia,fun i h1 h2=>by lia⟩) ?post1)
  case fin1=>
   rintro c st' ⟨rfl,l,r,rfl,b1,b2,b3,b4,b5⟩
   have:l=r:=by lia
   subst this
   exact⟨rfl,l,l,rfl,b2,b4,b5⟩
  case step1=>
   rintro x c st' _ hx ⟨rfl,l,r,rfl,b1,b2,b3,b4,b5⟩
   dsimp only
   by_cases hge:l ≥ r
   ·rw[ak hge]
    have:l=r:=by lia
    subst this
    exact aN ⟨rfl,l,l,rfl,b2,b4,b5⟩
   rw[aj hge]
   refine aL (jC4 hb h0 (by lia) (by lia) ?_)
   dsimp only
   by_cases hl:KI (arrOf st') (lo+k)<KI (arrOf st') (lo+(l+r) / 2)
   ·rw[aw hl,ak rfl]
    exact aN ⟨rfl,l,(l+r) / 2,rfl,by lia,by lia,by lia,b4,fun i h1 h2=>Int.lt_of_lt_of_le hl (hu _ _ (by lia) (by lia) (by lia))⟩
   ·rw[aH hl,aj ao]
    exact aN ⟨rfl,(l+r) / 2+1,r,rfl,by lia,by lia,by lia,fun i h1=>dG (hu (lo+i) (lo+(l+r) / 2) (by lia) (by lia) (by lia)) (Int.not_lt.mp hl),b5⟩
  case post1=>
   rintro c st' ⟨rfl,l,r,rfl,hlk,b4,b5⟩
   dsimp only
   rw[moveDown'_eq]
   have hks:lo+k<(arrOf st').size:=by rw[hb.sz]; lia
   have kb:∀ x,KI (bubble (arrOf st') (lo+k) (lo+k - (lo+l))) x=if x=lo+l then KI (arrOf st') (lo+k) else if lo+l<x/\x<=lo+k then KI (arrOf st') (x - 1) else KI (arrOf st') x:=fun x=>by
    have:=jN9 hks (d:=lo+k - (lo+l)) (by lia) x
    rw[show lo+k - (lo+k - (lo+l))=lo+l by lia] at this
    exact this
   refine aL (eU (aN ⟨rfl,hb.arr (bubble_perm _ _ _) fun x hx=>?_,?_⟩))
   ·rw[kb,aj (by lia),aj (by lia)]
   rw[show min (k+1) n=k+1 by lia]
   intro i j h1 h2 h3
   show KI (bubble _ _ _) i<=KI (bubble _ _ _) j
   rw[kb,kb]
   have lo1:∀ i,lo<=i->i<lo+l->KI (arrOf st') i<=KI (arrOf st') (lo+k):=fun i h1 h2=>by
    have:=b4 (i - lo) (by lia)
    rw[show lo+(i - lo)=i by lia] at this
    exact this
   have hi1:∀ i,lo+l<=i->i<lo+k->KI (arrOf st') (lo+k)<=KI (arrOf st') i:=fun i h1 h2=>by
    have:=b5 (i - lo) (by lia) (by lia)
    rw[show lo+(i - lo)=i by lia] at this
    exact cz this
   repeat' split
   all_goals first
    | (exfalso; lia)
    | exact ev _
    | exact lo1 _ (by lia) (by lia)
    | exact hi1 _ (by lia) (by lia)
    | exact hu _ _ (by lia) (by lia) (by lia)
end
def mergeAtB: { g:Nat->StateT SortSt Sem Bool // mergeAt'=g} :=⟨fun _=>bind _ _,rfl⟩
theorem KI_key {xs:Array Keyed}{i:Nat}{p:Keyed}(h:xs[i]?=some p):KI xs i=key p:=by
 unfold KI
 rw[h]
theorem jIJ (s1:Nat):∀ (l:List Keyed) (j0:Nat) (a:Array Keyed) (P M S:List Keyed),P.length=s1+j0->M.length=l.length->a.toList=P++(M++S)->
  ((l.zipIdx j0).foldl (fun (a:Array Keyed) (x:Keyed×Nat)=>a.setIfInBounds (s1+x.2) x.1) a).toList=P++(l++S)
 | [],j0,a,P,M,S,h1,h2,h3=>by
  rw[gC h2] at h3
  exact h3
 | q::l,j0,a,P,[],S,h1,h2,h3=>by cases h2
 | q::l,j0,a,P,m::M,S,h1,h2,h3=>by
  rw[iN,List.foldl_cons]
  have:=jIJ s1 l (j0+1) (a.setIfInBounds (s1+j0) q) (P++[q]) M S (by rw[aG,h1]; rfl) (Nat.succ.inj h2) (by
   rw[h9,h3,<- h1,jg _ _ (ai _),gZ,aU]
   rfl)
  rw[this,aU]
  rfl
theorem jR4 {P m1 m2 S:List Keyed}(e:m1.length=m2.length){k:Nat}(h:k<P.length\/P.length+m1.length<=k):(P++(m1++S))[k]?=(P++(m2++S))[k]?:=by
 rcases h with h | h
 ·rw[bQ h,bQ h]
 ·rw[bh (by lia),bh (by lia),bh (by lia),bh (by lia),e]
theorem jTC {P m S:List Keyed}{k:Nat}(h1:P.length<=k)(h2:k<P.length+m.length):(P++(m++S))[k]?=m[k - P.length]?:=by
 rw[bh h1,bQ (by lia)]
theorem jJ8 {xs:Array Keyed}{i j t:Nat}(h:t<j - i):(xs.extract i j).toList[t]?=xs[i+t]?:=by
 rw[jAH,ci h,fX,bK]
theorem jCJ {xs:Array Keyed}{i j:Nat}{p:Keyed}(h:p∈(xs.extract i j).toList):∃ t,i<=t/\t<j/\xs[t]?=some p:=by
 rw[jAH] at h
 obtain⟨t,h1,h2,h3⟩:=jA4 h
 exact⟨t,h1,by lia,at_list.mpr h3⟩
theorem jDV {xs:Array Keyed}{i j:Nat}(h:j<=xs.size):(xs.extract i j).size=j - i:=by
 rw[Array.size_extract]
 lia
theorem jMG {xs:Array Keyed}{i j:Nat}(h:∀ n m x y,i<=n->n<=m->m<j->xs[n]?=some x->xs[m]?=some y->LE x y):Srt (xs.extract i j).toList:=by
 refine cB.mpr fun a b ha hb hab=>?_
 have hl:(xs.extract i j).toList.length<=j - i:=by rw[jAH,bq]; lia
 have e1:=jJ8 (xs:=xs) (i:=i) (j:=j) (t:=a) (by lia)
 have e2:=jJ8 (xs:=xs) (i:=i) (j:=j) (t:=b) (by lia)
 rw[ag ha] at e1
 rw[ag hb] at e2
 exact h (i+a) (i+b) _ _ (by lia) (by lia) (by lia) e1.symm e2.symm
theorem KI_at {xs ys:Array Keyed}{i j:Nat}(h:xs.toList[i]?=ys.toList[j]?):KI xs i=KI ys j:=jB9 (by rw[<- bK,<- bK]; exact h)
theorem jJT {xs r R:Array Keyed}{sa na sb nb k1 k2:Nat}(hsb:sb=sa+na)(hk1:k1<na)(hk2:0<k2)(hk2':k2<=nb)(hz:sb+nb<=xs.size)
  (u1:Up xs sa na) (u2:Up xs sb nb) (g2:∀ t,sa<=t->t<sa+k1->KI xs t<=KI xs sb) (l3:∀ t,sb+k2<=t->t<sb+nb->KI xs (sb - 1)<=KI xs t)
  (D:yI (xs.extract (sa+k1) sb) (xs.extract sb (sb+k2)) r)
  (hR:R.toList=xs.toList.take (sa+k1)++(r.toList++xs.toList.drop (sb+k2))):
  R.Perm xs/\(∀ k,k<sa\/sa+(na+nb)<=k->KI R k=KI xs k)/\Up R sa (na+nb):=by
 have lr:r.toList.length=sb+k2 - (sa+k1):=by
  rw[D.1.length_eq,aG,aR,aR,jDV (by lia),jDV (by lia)]
  lia
 have lP:(xs.toList.take (sa+k1)).length=sa+k1:=by rw[bq,aR]; lia
 have hX:xs.toList=xs.toList.take (sa+k1)++(((xs.extract (sa+k1) sb).toList++(xs.extract sb (sb+k2)).toList)++xs.toList.drop (sb+k2)):=by
  have a1:=bo (sa+k1) xs.toList
  have a2:=bo (sb - (sa+k1)) (xs.toList.drop (sa+k1))
  have a3:=bo k2 (xs.toList.drop sb)
  rw[hV] at a2 a3
  rw[show sa+k1+(sb - (sa+k1))=sb by lia] at a2
  rw[jAH,jAH,b0,aU,a3,a2,a1]
 have lm:((xs.extract (sa+k1) sb).toList++(xs.extract sb (sb+k2)).toList).length=r.toList.length:=D.1.length_eq.symm
 have out:∀ k,k<sa+k1\/sb+k2<=k->KI R k=KI xs k:=fun k hk=>KI_at (by
  have:=jR4 (P:=xs.toList.take (sa+k1)) (S:=xs.toList.drop (sb+k2)) lm.symm (k:=k) (by rw[lP,lr]; lia)
  exact(bA (·[k]?) hR).trans (this.trans (bA (·[k]?) hX).symm))
 have inn:∀ k,sa+k1<=k->k<sb+k2->R.toList[k]?=r.toList[k - (sa+k1)]?:=fun k h1 h2=>by
  rw[hR,jTC (by rw[lP]; exact h1) (by rw[lP,lr]; lia),lP]
 have mem:∀ k,sa+k1<=k->k<sb+k2->∃ t,sa+k1<=t/\t<sb+k2/\KI R k=KI xs t:=fun k h1 h2=>by
  have hk:k - (sa+k1)<r.toList.length:=by lia
  have e:=inn k h1 h2
  rw[ag hk] at e
  have hm:=D.1.mem_iff.mp (bS hk)
  rcases ay.mp hm with q | q
  ·obtain⟨t,t1,t2,t3⟩:=jCJ q
   exact⟨t,t1,by lia,(KI_key (at_list.mpr e)).trans (KI_key t3).symm⟩
  ·obtain⟨t,t1,t2,t3⟩:=jCJ q
   exact⟨t,by lia,t2,(KI_key (at_list.mpr e)).trans (KI_key t3).symm⟩
 have srt:∀ i j,sa+k1<=i->i<=j->j<sb+k2->KI R i<=KI R j:=fun i j h1 h2 h3=>by
  have hi:i - (sa+k1)<r.toList.length:=by lia
  have hj:j - (sa+k1)<r.toList.length:=by lia
  have e1:=inn i h1 (by lia)
  have e2:=inn j (by lia) h3
  rw[ag hi] at e1
  rw[ag hj] at e2
  rw[KI_key (at_list.mpr e1),KI_key (at_list.mpr e2)]
  exact jE3 D.2 (ag hi) (ag hj) (by lia)
 have low:∀ t u,sa<=t->t<sa+k1->t<=u->u<sb+nb->KI xs t<=KI xs u:=fun t u h1 h2 h3 h4=>by
  by_cases e:u<sb
  ·exact u1 t u h1 h3 (by lia)
  ·exact dG (g2 t h1 h2) (u2 sb u (ai _) (by lia) h4)
 have high:∀ t u,sa<=t->t<=u->sb+k2<=u->u<sb+nb->KI xs t<=KI xs u:=fun t u h1 h2 h3 h4=>by
  by_cases e:t<sb
  ·exact dG (u1 t (sb - 1) h1 (by lia) (by lia)) (l3 u h3 h4)
  ·exact u2 t u (by lia) h2 h4
 refine⟨?_,fun k hk=>out k (by lia),fun i j h1 h2 h3=>?_⟩
 ·refine cx.mpr ?_
  rw[hR]
  refine List.Perm.trans ?_ (i9 hX.symm)
  exact cY _ (gj _ D.1)
 ·have h3:j<sb+nb:=by lia
  by_cases i1:i<sa+k1
  ·rw[out i (.inl i1)]
   by_cases j1:j<sa+k1
   ·rw[out j (.inl j1)]
    exact low i j h1 i1 h2 h3
   by_cases j2:j<sb+k2
   ·obtain⟨t,t1,t2,t3⟩:=mem j (by lia) j2
    rw[t3]
    exact low i t h1 i1 (by lia) (by lia)
   ·rw[out j (.inr (by lia))]
    exact low i j h1 i1 h2 h3
  by_cases i2:i<sb+k2
  ·by_cases j2:j<sb+k2
   ·exact srt i j (by lia) h2 j2
   ·obtain⟨t,t1,t2,t3⟩:=mem i (by lia) i2
    rw[t3,out j (.inr (by lia))]
    exact high t j (by lia) (by lia) (by lia) h3
  ·rw[out i (.inr (by lia)),out j (.inr (by lia))]
   exact high i j h1 h2 (by lia) h3
section
variable {prog:Program}{w:World}{A:Around}{E:Value->Shared->Prop}{s:Shared} [LtOk prog w A s]
theorem jPP {st st':SortSt}{Q:PUnit->SortSt->Prop}(h:Q ⟨⟩ st'):wpS (model prog w) A E s (set st':StateT SortSt Sem PUnit) Q st:=eU (f:=fun _=>st') h
theorem jKD {α:Type}{a b:α}{Q:α->SortSt->Prop}{st:SortSt}(e:a=b)(h:Q b st):wpS (model prog w) A E s (pure a:StateT SortSt Sem α) Q st:=aN (e ▸ h)
structure Merged (st st':SortSt)(i sa na sb nb pw:Nat):Prop where
 perm:(arrOf st').Perm (arrOf st)
 kind:kindOf st'=Od.kd
 failed:failedOf st'=none
 pend:pendingOf st'=((pendingOf st).setIfInBounds i (sa,na+nb,pw)).eraseIdxIfInBounds (i+1)
 out:∀ k,k<sa\/sa+(na+nb)<=k->KI (arrOf st') k=KI (arrOf st) k
 up:Up (arrOf st') sa (na+nb)
theorem jH9 {st:SortSt}{i sa na pw sb nb w2:Nat}{Q:Bool->SortSt->Prop}(hk:kindOf st=Od.kd)(hf:failedOf st=none)(hI:AllI (arrOf st).toList)
  (h1:(pendingOf st)[i]?=some (sa,na,pw)) (h2:(pendingOf st)[i+1]?=some (sb,nb,w2)) (hsb:sb=sa+na) (hna:0<na) (hnb:0<nb) (hz:sb+nb<=(arrOf st).size)
  (u1:Up (arrOf st) sa na) (u2:Up (arrOf st) sb nb) (h:∀ st',Merged st st' i sa na sb nb pw->Q true st'):wpS (model prog w) A E s (mergeAt' i) Q st:=by
 rw[mergeAtB.2]
 delta mergeAtB
 dsimp only
 simp only [elP,ltP,ltAtP,jI0,jO0,jO1]
 refine aL (gz ?_)
 rw[h1,h2]
 dsimp only
 refine aL (jPP ?_)
 generalize hpp:((pendingOf st).setIfInBounds i (sa,na+nb,pw)).eraseIdxIfInBounds (i+1)=pp
 show wpS _ _ _ _ _ _ (SortSt.mk' (kindOf st) (arrOf st) pp (gallopOf st) (failedOf st))
 generalize hst1:SortSt.mk' (kindOf st) (arrOf st) pp (gallopOf st) (failedOf st)=st1
 have G1:kindOf st1=kindOf st/\arrOf st1=arrOf st/\pendingOf st1=pp/\failedOf st1=failedOf st:=by rw[<- hst1]; exact⟨rfl,rfl,rfl,rfl⟩
 have at_:∀ t,t<(arrOf st).size->∃ q,(arrOf st)[t]?=some q/\IsI q:=fun t ht=>by
  obtain⟨q,q1,q2⟩:=yZ ht
  exact⟨q,q1,hI q (aC q2)⟩
 have m1:∀ n m x y,sa<=n->n<=m->m<sa+na->(arrOf st)[n]?=some x->(arrOf st)[m]?=some y->LE x y:=fun n m x y a1 a2 a3 hx hy=>by
  have:=u1 n m a1 a2 a3
  rw[KI_key hx,KI_key hy] at this
  exact this
 have m2:∀ n m x y,sb<=n->n<=m->m<sb+nb->(arrOf st)[n]?=some x->(arrOf st)[m]?=some y->LE x y:=fun n m x y a1 a2 a3 hx hy=>by
  have:=u2 n m a1 a2 a3
  rw[KI_key hx,KI_key hy] at this
  exact this
 obtain⟨pb,hpb,ipb⟩:=at_ sb (by lia)
 refine aL (jU hpb ?_)
 refine aL (jJ3 (G1.1.trans hk) ipb hI m1 hna (show sa+na<=(arrOf st).size by lia) fun k1 g1 g2 g3=>?_)
 dsimp only
 have g2:∀ t,sa<=t->t<sa+k1->KI (arrOf st) t<=KI (arrOf st) sb:=fun t t1 t2=>by
  obtain⟨q,hq,_⟩:=at_ t (by lia)
  rw[KI_key hq,KI_key hpb]
  exact g2 t q t1 t2 hq
 by_cases e1:na - k1=0
 ·rw[ak (bp e1)]
  refine aN (h _ ⟨?_,G1.1.trans hk,G1.2.2.2.trans hf,G1.2.2.1.trans hpp.symm,fun k _=>?_,?_⟩)
  ·rw[G1.2.1]
  ·rw[G1.2.1]
  ·rw[G1.2.1]
   intro i j i1 i2 i3
   by_cases a:i<sb
   ·by_cases b:j<sb
    ·exact u1 i j i1 i2 (by lia)
    ·exact dG (g2 i i1 (by lia)) (u2 sb j (ai _) (by lia) (by lia))
   ·exact u2 i j (by lia) i2 (by lia)
 rw[aj (bn e1)]
 obtain⟨pa,hpa,ipa⟩:=at_ (sa+k1+(na - k1) - 1) (by lia)
 refine aL (jU hpa ?_)
 refine aL (jJ4 (G1.1.trans hk) ipa hI m2 (by lia) (show sb+nb<=(arrOf st).size by lia) fun k2 l1 l2 l3=>?_)
 dsimp only
 have epa:sa+k1+(na - k1) - 1=sb - 1:=by lia
 rw[epa] at hpa
 have l3':∀ t,sb+k2<=t->t<sb+nb->KI (arrOf st) (sb - 1)<=KI (arrOf st) t:=fun t t1 t2=>by
  obtain⟨q,hq,_⟩:=at_ t (by lia)
  rw[KI_key hq,KI_key hpa]
  exact l3 t q t1 t2 hq
 by_cases e2:k2=0
 ·rw[ak (bp e2)]
  refine aN (h _ ⟨?_,G1.1.trans hk,G1.2.2.2.trans hf,G1.2.2.1.trans hpp.symm,fun k _=>?_,?_⟩)
  ·rw[G1.2.1]
  ·rw[G1.2.1]
  ·rw[G1.2.1]
   intro i j i1 i2 i3
   by_cases a:i<sb
   ·by_cases b:j<sb
    ·exact u1 i j i1 i2 (by lia)
    ·exact dG (u1 i (sb - 1) i1 (by lia) (by lia)) (l3' j (by lia) (by lia))
   ·exact u2 i j (by lia) i2 (by lia)
 rw[aj (bn e2)]
 have T:Two ((arrOf st).extract (sa+k1) sb) ((arrOf st).extract sb (sb+k2)):=by
  refine⟨fun q hq=>?_,fun q hq=>?_,jMG fun n m x y a1 a2 a3=>m1 n m x y (by lia) a2 (by lia),jMG fun n m x y a1 a2 a3=>m2 n m x y (by lia) a2 (by lia),?_,?_,fun x hx y hy=>?_,fun y hy q hq=>?_⟩
  ·obtain⟨t,_,_,t3⟩:=jCJ hq
   exact hI q (aC (at_list.mp t3))
  ·obtain⟨t,_,_,t3⟩:=jCJ hq
   exact hI q (aC (at_list.mp t3))
  ·rw[jDV (by lia)]; lia
  ·rw[jDV (by lia)]; lia
  ·obtain⟨t,t1,t2,t3⟩:=jCJ hx
   rw[jDV (by lia),jJ8 (by lia),show sa+k1+(sb - (sa+k1) - 1)=sb - 1 by lia,hpa] at hy
   cases hy
   exact l2 t x t1 t2 t3
  ·obtain⟨t,t1,t2,t3⟩:=jCJ hy
   rw[jJ8 (by lia),kz,hpb] at hq
   cases hq
   exact g3 t y t1 (by lia) t3
 by_cases e3:na - k1<=k2
 case' pos=>
  rw[ak e3]
  refine aL (jH7 (G1.1.trans hk) T fun r st2 D G0=>?_)
  have G:SG (SortSt.mk' (kindOf st) (arrOf st) pp (gallopOf st) (failedOf st)) st2:=by rw[hst1]; exact G0
  subst hpp
 case' neg=>
  rw[aj e3]
  refine aL (jH8 (G1.1.trans hk) T fun r st2 D G0=>?_)
  have G:SG (SortSt.mk' (kindOf st) (arrOf st) pp (gallopOf st) (failedOf st)) st2:=by rw[hst1]; exact G0
  subst hpp
 all_goals
  refine aL (eU (aL (gz ?_)))
  have ea:arrOf st2=arrOf st:=G.a
  have W:=jJT (R:=((r.toList.zipIdx 0).foldl (fun (a:Array Keyed) (x:Keyed×Nat)=>a.setIfInBounds (sa+k1+x.2) x.1) (arrOf st))) hsb (by lia) (by lia) l1 hz u1 u2 g2 l3' D (jIJ (sa+k1) r.toList 0 (arrOf st) ((arrOf st).toList.take (sa+k1)) (((arrOf st).extract (sa+k1) sb).toList++((arrOf st).extract sb (sb+k2)).toList) ((arrOf st).toList.drop (sb+k2)) (by rw[bq,aR]; lia) D.1.length_eq.symm (by
   have a1:=bo (sa+k1) (arrOf st).toList
   have a2:=bo (sb - (sa+k1)) ((arrOf st).toList.drop (sa+k1))
   have a3:=bo k2 ((arrOf st).toList.drop sb)
   rw[hV] at a2 a3
   rw[show sa+k1+(sb - (sa+k1))=sb by lia] at a2
   rw[jAH,jAH,b0,aU,a3,a2,a1]))
  rw[<- ea] at W
  refine jKD (by show (failedOf st2).isNone=true; rw[G.f]; show (failedOf st).isNone=true; rw[hf]; rfl) (h _ ⟨?_,G.k.trans hk,G.f.trans hf,G.p,?_,?_⟩)
  ·rw[<- ea]
   exact W.1
  ·rw[<- ea]
   exact W.2.1
  ·exact W.2.2
end
def Runs (xs:Array Keyed):List (Nat×Nat×Nat)->Nat->Nat->Prop
 | [],a,b=>a=b
 | (s,n,_)::t,a,b=>s=a/\0<n/\Up xs s n/\Runs xs t (a+n) b
section
variable {xs ys:Array Keyed}
theorem Runs.le:∀ {l:List (Nat×Nat×Nat)}{a b:Nat},Runs xs l a b->a+l.length<=b
 | [],a,b,h=>by have:a=b:=h; rw[dY]; lia
 | (s,n,_)::t,a,b,⟨_,h2,_,h4⟩=>by
  have:=Runs.le h4
  rw[aW]
  lia
theorem Runs.app:∀ {l m:List (Nat×Nat×Nat)}{a b:Nat},Runs xs (l++m) a b->∃ c,Runs xs l a c/\Runs xs m c b
 | [],m,a,b,h=>⟨a,rfl,h⟩
 | (s,n,_)::t,m,a,b,⟨h1,h2,h3,h4⟩=>by
  obtain⟨c,c1,c2⟩:=Runs.app h4
  exact⟨c,⟨h1,h2,h3,c1⟩,c2⟩
theorem Runs.put:∀ {l m:List (Nat×Nat×Nat)}{a b c:Nat},Runs xs l a c->Runs xs m c b->Runs xs (l++m) a b
 | [],m,a,b,c,h,g=>by have:a=c:=h; subst this; exact g
 | (s,n,_)::t,m,a,b,c,⟨h1,h2,h3,h4⟩,g=>⟨h1,h2,h3,Runs.put h4 g⟩
theorem Up.same {lo n:Nat}(h:Up xs lo n)(e:∀ k,lo<=k->k<lo+n->KI ys k=KI xs k):Up ys lo n:=fun i j h1 h2 h3=>by
 rw[e i h1 (by lia),e j (by lia) h3]
 exact h i j h1 h2 h3
theorem Runs.same:∀ {l:List (Nat×Nat×Nat)}{a b:Nat},Runs xs l a b->(∀ k,a<=k->k<b->KI ys k=KI xs k)->Runs ys l a b
 | [],a,b,h,_=>h
 | (s,n,_)::t,a,b,⟨h1,h2,h3,h4⟩,e=>by
  have:=Runs.le h4
  exact⟨h1,h2,h3.same fun k k1 k2=>e k (by lia) (by lia),Runs.same h4 fun k k1 k2=>e k (by lia) k2⟩
theorem Runs.mod {f:Nat×Nat×Nat->Nat×Nat×Nat}(hf:∀ x,(f x).1=x.1/\(f x).2.1=x.2.1):∀ {l:List (Nat×Nat×Nat)}{i a b:Nat},Runs xs l a b->Runs xs (l.modify i f) a b
 | [],i,a,b,h=>by rw[List.modify_nil]; exact h
 | (s,n,w)::t,0,a,b,⟨h1,h2,h3,h4⟩=>by
  rw[List.modify_zero_cons]
  obtain⟨e1,e2⟩:=hf (s,n,w)
  generalize f (s,n,w)=v at e1 e2 ⊢
  obtain⟨s',n',w'⟩:=v
  have e1:s'=s:=e1
  have e2:n'=n:=e2
  subst e1 e2
  exact⟨h1,h2,h3,h4⟩
 | (s,n,w)::t,i+1,a,b,⟨h1,h2,h3,h4⟩=>by
  rw[List.modify_succ_cons]
  exact⟨h1,h2,h3,Runs.mod hf h4⟩
end
structure RI (a₀:Array Keyed)(lo:Nat)(st:SortSt):Prop where
 perm:(arrOf st).Perm a₀
 kind:kindOf st=Od.kd
 failed:failedOf st=none
 runs:Runs (arrOf st) (pendingOf st).toList 0 lo
theorem jFZ:∀ (l:List (Nat×Nat×Nat)) (i:Nat),i+1<l.length->∃ u x y t,l=u++x::y::t/\u.length=i
 | [],i,h=>absurd h (fJ _)
 | [x],i,h=>by rw[gn] at h; lia
 | x::y::t,0,h=>⟨[],x,y,t,rfl,rfl⟩
 | x::y::t,i+1,h=>by
  obtain⟨u,x',y',t',e,hu⟩:=jFZ (y::t) i (by rw[aW] at h; lia)
  exact⟨x::u,x',y',t',by rw[e]; rfl,by rw[aW,hu]⟩
theorem jRQ {a₀ xs:Array Keyed}(h0:AllI a₀.toList)(hp:xs.Perm a₀):AllI xs.toList:=fun p hp'=>h0 p ((cx.mp hp).mem_iff.mp hp')
section
variable {prog:Program}{w:World}{A:Around}{E:Value->Shared->Prop}{s:Shared} [LtOk prog w A s]{a₀:Array Keyed}
theorem jDE {st:SortSt}{i lo:Nat}{Q:Bool->SortSt->Prop}(h0:AllI a₀.toList)(R:RI a₀ lo st)(hlo:lo<=a₀.size)(hi:i+1<(pendingOf st).size)
  (h:∀ st',RI a₀ lo st'->(pendingOf st').size+1=(pendingOf st).size->(∀ k,lo<=k->KI (arrOf st') k=KI (arrOf st) k)->Q true st'):wpS (model prog w) A E s (mergeAt' i) Q st:=by
 obtain⟨u,⟨sa,na,pw⟩,⟨sb,nb,w2⟩,t,e,hu⟩:=jFZ (pendingOf st).toList i (by rw[aR]; exact hi)
 have rr:=R.runs
 rw[e] at rr
 obtain⟨c,r1,a1,a2,a3,a4,a5,a6,a7⟩:=Runs.app rr
 have r2:=Runs.le a7
 have r3:=Runs.le r1
 subst a1
 have e1:(pendingOf st)[i]?=some (sa,na,pw):=by
  rw[<- bK,e,bh (by lia),hu,gZ]
  rfl
 have e2:(pendingOf st)[i+1]?=some (sb,nb,w2):=by
  rw[<- bK,e,bh (by lia),hu,b0]
  rfl
 have z:=R.perm.size_eq
 refine jH9 R.kind R.failed (jRQ h0 R.perm) e1 e2 a4 a2 a5 (by lia) a3 a6 fun st' M=>?_
 have ep:(pendingOf st').toList=u++(sa,na+nb,pw)::t:=by
  rw[M.pend,Array.toList_eraseIdxIfInBounds,h9,e,jg _ _ (by lia),hu,gZ,List.set_cons_zero,List.eraseIdx_append_of_length_le (by lia),hu,b0]
  rfl
 refine h st' ⟨M.perm.trans R.perm,M.kind,M.failed,?_⟩ ?_ fun k hk=>M.out k (by lia)
 ·rw[ep]
  refine Runs.put (Runs.same r1 fun k k1 k2=>M.out k (by lia)) ⟨rfl,by lia,M.up,?_⟩
  have:=Runs.same (ys:=arrOf st') a7 fun k k1 k2=>M.out k (by lia)
  rw[Nat.add_assoc] at this
  exact this
 ·have q1:=bA List.length ep
  have q2:=bA List.length e
  rw[aR,aG,aW] at q1
  rw[aR,aG,aW,aW] at q2
  lia
theorem RI.of {st:SortSt}{F:Nat->Int}{lo:Nat}{p:Array (Nat×Nat×Nat)}{xs:Array Keyed}(h:BB a₀ p F lo st)(hr:Runs xs p.toList 0 lo)(hF:∀ k,F k=KI xs k):RI a₀ lo st:=
 ⟨h.perm,h.kind,h.failed,by rw[h.pend]; exact hr.same fun k _ hk=>(h.low k hk).trans (hF k)⟩
theorem wpS_sortRunsAny {st:SortSt}{Q:Unit->SortSt->Prop}(h0:AllI a₀.toList)(hB:SB a₀ st)(h1:1<=a₀.size)
  (h:∀ st',(arrOf st').Perm a₀->failedOf st'=none->STo (arrOf st') a₀.size->Q () st'):wpS (model prog w) A E s sortRuns' Q st:=by
 rw[sortRuns'_eq]
 refine aL (gz ?_)
 try dsimp only
 have hz:=hB.size
 rw[hz]
 generalize minRun' a₀.size a₀.size 0=mr
 refine aL (df (bU (I:=fun x c st'=>∃ lo,c=(none,lo)/\x<=lo/\lo<=a₀.size/\RI a₀ lo st')
  (Q:=fun c st'=>c=(none,a₀.size)/\RI a₀ a₀.size st') ?step ?fin ⟨0,rfl,ai _,ba _,hB.perm,hB.kind,hB.failed,by rw[hB.pend]; rfl⟩) ?post)
 case fin=>
  rintro c st' ⟨lo,rfl,l1,l2,R⟩
  have:lo=a₀.size:=by lia
  subst this
  exact⟨rfl,R⟩
 case step=>
  rintro x c st1 _ hx ⟨lo,rfl,l1,l2,R1⟩
  try dsimp only
  by_cases hl:lo ≥ a₀.size
  ·rw[ak hl]
   have:lo=a₀.size:=by lia
   subst this
   exact aN ⟨rfl,R1⟩
  rw[aj hl]
  refine aL (jEH (F:=fun k=>KI (arrOf st1) k) (p:=pendingOf st1) h0 (by lia) (by lia) ⟨R1.perm,R1.kind,R1.failed,rfl,fun _ _=>rfl⟩ fun m st2 B2 m1 m2 U2=>?_)
  try dsimp only
  by_cases hm:m<mr
  case' pos=>
   rw[ak hm]
   refine aL (h8 (cS ⟨rfl,?_⟩))
   refine aL (jDF h0 (by lia) (by lia) B2 U2 fun st4 B4 U4=>?_)
   have R4:=RI.of B4 R1.runs fun _=>rfl
   have n0:0<min (a₀.size - lo) mr:=by lia
   have n9:min (a₀.size - lo) mr<=a₀.size - lo:=by lia
   generalize min (a₀.size - lo) mr=n at*
  case' neg=>
   rw[aj hm]
   have R4:=RI.of B2 R1.runs fun _=>rfl
   have U4:=U2
   generalize st2=st4 at*
   generalize m=n at*
  all_goals
   refine aL (gz ?_)
   have last:∀ st5:SortSt,RI a₀ lo st5->Up (arrOf st5) lo n->∃ lo',(none,lo+n)=((none:Option PUnit),lo')/\x+1<=lo'/\lo'<=a₀.size/\RI a₀ lo' (setPending st5 ((pendingOf st5).push (lo,n,0))):=fun st5 R5 U5=>
    ⟨lo+n,rfl,by lia,by lia,R5.perm,R5.kind,R5.failed,by
     show Runs (arrOf st5) ((pendingOf st5).push (lo,n,0)).toList 0 (lo+n)
     rw[eg]
     exact R5.runs.put ⟨rfl,by lia,U5,rfl⟩⟩
   cases hb:(pendingOf st4).back? with
   | none=>
    try dsimp only
    exact aL (eU (aN (last st4 R4 U4)))
   | some v=>
    obtain⟨s1,n1,w1⟩:=v
    try dsimp only
    refine aL (df (bU (I:=fun _ c st'=>c=(none,())/\RI a₀ lo st'/\Up (arrOf st') lo n) (Q:=fun c st'=>c=(none,())/\RI a₀ lo st'/\Up (arrOf st') lo n) ?mstep (fun _ _ z=>z) ⟨rfl,R4,U4⟩) ?mpost)
    case mstep=>
     rintro y c st5 _ _ ⟨rfl,R5,U5⟩
     try dsimp only
     refine aL (gz ?_)
     by_cases hs:(pendingOf st5).size>1
     ·rw[ak hs]
      obtain⟨v,hv⟩:∃ v,(pendingOf st5)[(pendingOf st5).size - 2]?=some v:=⟨_,Array.getElem?_eq_getElem (by lia)⟩
      rw[hv]
      obtain⟨v1,v2,older⟩:=v
      try dsimp only
      by_cases ho:older<=power' a₀.size (2*s1+n1) (2*s1+n1+n1+n) a₀.size
      ·rw[ak ho]
       exact aN ⟨rfl,R5,U5⟩
      rw[aj ho]
      refine aL (jDE h0 R5 (by lia) (by lia) fun st6 R6 _ E6=>?_)
      exact aN ⟨rfl,R6,U5.same fun k k1 _=>E6 k k1⟩
     ·rw[aj hs]
      exact aN ⟨rfl,R5,U5⟩
    case mpost=>
     rintro c st5 ⟨rfl,R5,U5⟩
     try dsimp only
     refine aL (eU (aL (eU (aN (last (setPending st5 ((pendingOf st5).modify ((pendingOf st5).size - 1) fun x=>(x.1,x.2.1,power' a₀.size (2*s1+n1) (2*s1+n1+n1+n) a₀.size))) ⟨R5.perm,R5.kind,R5.failed,?_⟩ U5)))))
     show Runs (arrOf st5) (Array.modify _ _ _).toList 0 lo
     rw[Array.toList_modify]
     exact Runs.mod (f:=fun x=>(x.1,x.2.1,power' a₀.size (2*s1+n1) (2*s1+n1+n1+n) a₀.size)) (fun _=>⟨rfl,rfl⟩) R5.runs
 case post=>
  rintro c st1 ⟨rfl,R1⟩
  try dsimp only
  refine aL (df (bU (I:=fun x c st'=>c=(none,())/\RI a₀ a₀.size st'/\1<=(pendingOf st').size/\(pendingOf st').size+x<=a₀.size)
   (Q:=fun c st'=>c=(none,())/\RI a₀ a₀.size st'/\(pendingOf st').size=1) ?step2 ?fin2 ⟨rfl,R1,?a1,?a2⟩) ?post2)
  case a1=>
   have:=R1.runs
   cases hp:(pendingOf st1).toList with
   | nil=>
    rw[hp] at this
    have:0=a₀.size:=this
    lia
   | cons v t=>
    have:=bA List.length hp
    rw[aR,aW] at this
    lia
  case a2=>
   have:=R1.runs.le
   rw[aR] at this
   lia
  case fin2=>
   rintro c st2 ⟨_,_,h2,h3⟩
   lia
  case post2=>
   rintro c st2 ⟨rfl,R2,h2⟩
   try dsimp only
   refine aN (h st2 R2.perm R2.failed ?_)
   have rr:=R2.runs
   cases hp:(pendingOf st2).toList with
   | nil=>
    rw[<- aR,hp] at h2
    cases h2
   | cons v t=>
    have:=bA List.length hp
    rw[aR,h2,aW] at this
    have:t=[]:=gC (by lia)
    subst this
    rw[hp] at rr
    obtain⟨v1,v2,v3⟩:=v
    obtain⟨q1,q2,q3,q4⟩:=rr
    have q4:0+v2=a₀.size:=q4
    subst q1
    exact fun i j hij hj=>q3 i j (ba _) hij (by lia)
  case step2=>
   rintro x c st2 _ hx ⟨rfl,R2,h2,h3⟩
   try dsimp only
   refine aL (gz ?_)
   by_cases hs:(pendingOf st2).size<=1
   ·rw[ak hs]
    exact aN ⟨rfl,R2,by lia⟩
   rw[aj hs]
   refine aL (jDE h0 R2 (ai _) ?_ fun st3 R3 e3 _=>?_)
   ·have ite_le:∀ (c:Prop) [Decidable c] (a b:Nat),(if c then a else b)<=max a b:=fun c _ a b=>by
     by_cases z:c
     ·rw[ak z]; lia
     ·rw[aj z]; lia
    refine g8 (Nat.add_le_add_right (ite_le _ _ _) 1) ?_
    lia
   ·exact aN ⟨rfl,R3,by lia,by lia⟩
end
end TM
namespace TM
open PySem PySem.Spec PyProof.Rows
section
variable {prog:Program}{w:World}{A:Around}{E:Value->Shared->Prop}{s:Shared}
abbrev turned (b:Bool)(xs:Array Value):Array Value:=if b then xs.reverse else xs
theorem jHD {b:Bool}{xs:Array Value} :(turned b xs).size=xs.size:=by
 cases b
 ·rfl
 ·exact Array.size_reverse
theorem jC8 (b:Bool)(vs:List Value):(if b=true then (vs.toArray.zip vs.toArray).reverse else vs.toArray.zip vs.toArray).Perm (pairsOf vs):=by
 cases b with
 | false=>exact ja _
 | true=>exact cx.mpr (by show ((vs.toArray.zip vs.toArray).reverse).toList.Perm _; rw[dh]; exact List.reverse_perm _)
def AskOk [Od](prog:Program)(w:World)(A:Around)(s:Shared)(a:Addr)(vs:List Value):Prop:=
 ∀ h6:Heap,(∀ c o,s.heap.get? c=some o->c≠a->h6.get? c=some o)->
  (∀ (Q:SortKind->Shared->Prop) (E:Value->Shared->Prop),Q Od.kd { s with heap:=h6} ->wpAny (model prog w) A (keyKind' vs.toArray) Q E { s with heap:=h6})/\LtOk prog w A { s with heap:=h6}
theorem jNJ [Od]{a:Addr}{vs:List Value}{n:Nat}{b:Bool}{P:Fin->Shared->Prop}(ho:s.heap.get? a=some (seqObj "list" vs.toArray n))(hz:vs.length<=sizeLine)(hI:AllI (pairsOf vs).toList)(hk:2<=vs.length->AskOk prog w A s a vs)
  (h:∀ xs:Array Keyed,xs.Perm (pairsOf vs)->STo xs (pairsOf vs).size->P (.done (.ret .none)) { s with heap:=sortedHeap s.heap a vs (turned b (xs.map (·.2)))}):
  wpAny (model prog w) A (Builtin.«list.sort» ⟨[.ref a],[(Str.ofString "reverse", .bool b)]⟩) P E s:=by
 rw[list_sort_rev]
 have ha:=aE ho
 have hz':vs.toArray.size<=sizeLine:=by rw[aK]; exact hz
 refine aa (listItems_at ho rfl (aa (eY ho rfl ?_ hz' (ba _))))
 obtain⟨e1,ho1⟩:∃ e1,(s.heap.update a (Obj.mapSeq fun _=>#[])).get? a=some (seqObj "list" #[] e1):=⟨_,gO ho _⟩
 refine aa (iA ho1 rfl (aa (g9 ?_ hz)))
 refine aa (gy (cI ?_))
 generalize hh6:((s.heap.update a (Obj.mapSeq fun _=>#[])).push (seqObj "tuple" vs.toArray 0)).push (seqObj "list" #[] 0)=h6
 have ho6:h6.get? a=some (seqObj "list" #[] e1):=by
  rw[<- hh6]
  exact ae _ (ae _ ho1)
 have k6:∀ c o,s.heap.get? c=some o->c≠a->h6.get? c=some o:=fun c o q ne=>by
  rw[<- hh6]
  exact ae _ (ae _ ((bw _ _ (dZ ne)).trans q))
 have sh:∀ out,sortedHeap s.heap a vs out=h6.update a (Obj.mapSeq fun _=>out):=fun out=>by rw[<- hh6]; rfl
 have go:∀ X:Sem Fin,wpAny (model prog w) A X P E { s with heap:=h6} ->wpAny (model prog w) A (if b=true then (do let _ <- rule "list.sort.reverse"; X) else X) P E { s with heap:=h6} :=fun X hX=>by
  cases b with
  | false=>exact hX
  | true=>exact aa (cS hX)
 have hend:∀ st':SortSt,(arrOf st').Perm (pairsOf vs)->STo (arrOf st') (pairsOf vs).size->P (.done (.ret .none)) { s with heap:=h6.update a (Obj.mapSeq fun _=>turned b ((arrOf st').map (·.2)))} :=fun st' p1 p2=>by
  rw[<- sh]
  exact h _ p1 p2
 have hfit:∀ st':SortSt,(arrOf st').Perm (pairsOf vs)->(turned b ((arrOf st').map (·.2))).size<=sizeLine+1:=fun st' p1=>by
  rw[jHD,size_map,p1.size_eq,pairsOf_size]
  lia
 dsimp only
 refine go _ ?_
 by_cases few:vs.toArray.size<2
 ·rw[ak few,ak few]
  refine aa (ah ?_)
  rw[StateT.run_pure]
  refine aa (ah ?_)
  dsimp only
  refine aa (iA ho6 rfl (aa (eY ho6 rfl ?_ (ba _) (hfit (SortSt.mk' general' _ #[] 7 none) (jC8 b vs)))))
  rw[iB,aj ao]
  refine ah (hend (SortSt.mk' general' _ #[] 7 none) (jC8 b vs) fun i j hij hj=>?_)
  have:i=j:=by
   rw[pairsOf_size] at hj
   rw[aK] at few
   lia
  rw[this]
  exact ev _
 ·rw[aj few,aj few]
  rw[aK] at few
  obtain⟨kk,ll⟩:=hk (by lia) h6 k6
  refine aa (kk _ _ (aa (bX (wpS_sortRunsAny (a₀:=pairsOf vs) (st:=SortSt.mk' Od.kd _ #[] 7 none)
   (Q:=fun _ st'=>(arrOf st').Perm (pairsOf vs)/\failedOf st'=none/\STo (arrOf st') (pairsOf vs).size)
   hI ⟨jC8 b _,rfl,rfl,rfl⟩ (by rw[pairsOf_size]; lia) fun st' a1 a2 a3=>⟨a1,a2,a3⟩) ?_ fun _ _ e=>e)))
  rintro ⟨⟨⟩,st'⟩ s' ⟨rfl,p1,p2,p3⟩
  dsimp only
  refine aa (iA ho6 rfl (aa (eY ho6 rfl ?_ (ba _) (hfit st' p1))))
  rw[p2]
  dsimp only
  rw[iB,aj ao]
  exact ah (hend st' p1 p3)
abbrev odI:Od:=⟨oneType',fun p=>numOf p.1,fun p=>∃ n t,p.1=Value.int n t⟩
theorem ltI: @LtOk prog w A s odI:= @LtOk.mk prog w A s odI fun {E st x y Q} hk hx hy h=>by
 obtain⟨a,t,ha⟩:=hx
 obtain⟨b,u,hb⟩:=hy
 have e1: @key odI x=a:=by show numOf x.1=a; rw[ha]; rfl
 have e2: @key odI y=b:=by show numOf y.1=b; rw[hb]; rfl
 rw[e1,e2] at h
 rw[lt'_eq]
 refine aL (gz ?_)
 rw[show kindOf st=oneType' from hk,keyLt'_oneType,ha,hb]
 exact aL (h8 (dH (oneLt_int ⟨rfl,aN h⟩)))
theorem stoI {xs:Array Keyed}{k:Nat}(h: @STo odI xs k):SortedTo xs k:=h
theorem askI {a:Addr}{vs:List Value}{ns:List Int}(hI:IntsAre vs ns)(h2:2<=vs.length): @AskOk odI prog w A s a vs:=fun h6 _=>⟨fun Q E h=>by
 obtain⟨u,v,r,rfl⟩:∃ u v r,vs=u::v::r:=by
  match vs,h2 with
  | [_],few=>exact absurd few (show ¬ 2<=1 by decide)
  | u::v::r,_=>exact⟨u,v,r,rfl⟩
 rw[keyKind_ints hI]
 exact ah h,ltI⟩
theorem sort_rev_any {a:Addr}{vs:List Value}{ns:List Int}{n:Nat}{b:Bool}{P:Fin->Shared->Prop}(ho:s.heap.get? a=some (seqObj "list" vs.toArray n))(hI:IntsAre vs ns)(hz:vs.length<=sizeLine)
  (h:∀ (out:Array Value) (ns':List Int),IntsAre out.toList ns'->ns'.Perm ns->Ordered b ns'->P (.done (.ret .none)) { s with heap:=sortedHeap s.heap a vs out}):
  wpAny (model prog w) A (Builtin.«list.sort» ⟨[.ref a],[(Str.ofString "reverse", .bool b)]⟩) P E s:=
 @jNJ prog w A E s odI a vs n b P ho hz hI.intKeys (fun h2=>askI hI h2) fun xs p1 p2=>by
  obtain⟨ns',q1,q2,q3⟩:=sorted_out_rev hI p1 (stoI p2) b
  exact h _ ns' q1 q2 q3
end
end TM
namespace L2
open PySem PySem.Spec PyProof.Rows
section
variable {prog:Program}{w:World}{A:Around}{E:Value->Shared->Prop}{s:Shared}{d:Addr}{kvs:List (Key×Value)}
theorem jEB:∀ {vs:List Value}{ks:List Int},vs.length=ks.length->(∀ (j:Nat) (v:Value),vs[j]?=some v->∃ i t,ks[j]?=some i/\v=Value.int i t)->IntsAre vs ks
 | [],[],_,_=> .nil
 | [],_::_,h,_=>by cases h
 | _::_,[],h,_=>by cases h
 | v::vs,a::r,h,hat=>by
  obtain⟨i,t,e1,rfl⟩:=hat 0 v rfl
  cases e1
  exact .cons _ t (jEB (Nat.succ.inj h) fun j v e=>hat (j+1) v e)
theorem jG1 {Q:Value->Shared->Prop}{ks:List Int}{b:Bool}(hh:A.handled=none)(lo:(d==sysModules)=false)(D:s.heap.DictOf (kW prog w) d kvs)(hk:kvs.map (·.1)=ks.map Sum.inl)(hz:ks.length<=sizeLine)
  (h:∀ (hf:Heap) (tk:Nat) (l:Addr) (vs:List Value) (ns:List Int) (e:Nat),s.heap.objs.size<=l->(∀ b u,s.heap.get? b=some u->hf.get? b=some u)->
   hf.get? l=some { cls:= .type "list",data:= .seq vs.toArray e} ->IntsAre vs ns->ns.Perm ks->Ordered b ns->Q (.ref l) { s with heap:=hf,toks:=tk}):
  wpAny (model prog w) A (call (.builtin "sorted") [.ref d] [(Str.ofString "reverse", .bool b)]) Q E s:=by
 obtain⟨ep,hat⟩:=D.dictAt
 have hlen:kvs.length=ks.length:=by
  have:=bA List.length hk
  rwa [ab,ab] at this
 refine call_function_entry_kw kind_sorted plain_sorted entry_sorted (args_sorted_rev _ _) ?_
 unfold Builtin.«sorted»
 refine aa (m:=checkCount "sorted" 1 1 _) (ah ?_)
 refine aa (jI5 (A:=A.in1) (PySem.W.kdl_dict (knd:=kW prog w) (kvs:=kvs) (ep:=ep) lo) hh hat (by lia) fun h1 tk acc hk1 hlt1 hacc=>?_)
 have hal:acc.toList.length=ks.length:=by rw[aR,hacc.1,hlen]
 have hI:IntsAre acc.toList ks:=jEB hal fun j v e=>by
  obtain⟨k,x,hx,hv⟩:=hacc.2 j v (by rw[<- bK]; exact e)
  have e2:(kvs.map (·.1))[j]?=some k:=by rw[aY,hx]; rfl
  rw[hk,aY] at e2
  cases hq:ks[j]? with
  | none=>rw[hq] at e2; cases e2
  | some i=>
   rw[hq] at e2
   cases e2
   rcases jA0 (show keyIs (Sum.inl i) v=true from hv) with ⟨i',t,q1,q2⟩ | ⟨x,t,q1,q2⟩
   ·cases q1
    exact⟨i,t,rfl,q2⟩
   ·cases q1
 refine aa (gy ?_ (by lia))
 have hL:(h1.push (seqObj "list" acc.toList.toArray 0)).get? h1.objs.size=some (seqObj "list" acc.toList.toArray 0):=aJ _ rfl
 show wpAny _ _ _ _ _ { s with heap:=h1.push (seqObj "list" acc.toList.toArray 0),toks:=tk}
 refine aa (cI (wpAny_call_entry_kw slot_list_sort ⟨_,hL,rfl⟩ entry_list_sort (TM.sort_rev_any hL hI (by lia) fun out ns' a1 a2 a3=>⟨_,rfl,?_⟩) (args_list_sort_rev _ _)))
 obtain⟨e,he⟩:=sortedHeap_at (out:=out) hL
 have kept:∀ b u,s.heap.get? b=some u->(sortedHeap (h1.push (seqObj "list" acc.toList.toArray 0)) h1.objs.size acc.toList out).get? b=some u:=fun b u q=>by
  have q1:=hk1 b u q
  have hb:b<h1.objs.size:=aE q1
  rw[sortedHeap_old (aV hb) (by rw[iV]; exact bJ hb)]
  exact ae _ q1
 generalize sortedHeap (h1.push (seqObj "list" acc.toList.toArray 0)) h1.objs.size acc.toList out=hf at he kept ⊢
 exact ah ⟨_,rfl,h hf tk h1.objs.size out.toList ns' e (dF hlt1) kept (by rw[eh]; exact he) a1 a2 a3⟩
end
def jPO (X:Cx)(f:Value)(ks:List Str)(r:List V->List V->Hp->VK->Prop):Prop:=
 ∀ (ad:List (Addr×Obj)) (s:Shared) (σ:St) (H:Hp) (xs zs:List V) (us ws:List Value) (Q:VK),Inv X ad σ H s->Vals xs us->Vals zs ws->r xs zs H Q->
  wpAny (model X.prog X.w) X.A (call f us (ks.zip ws)) (EP X ad σ Q) X.xe s
def tCBK (r:List V->List V->Hp->VK->Prop)(t tk:TA):TE:=fun σ H Q=>t σ H fun vs H1=>tk σ H1 fun zs H2=>r vs zs H2 Q
structure JK (X:Cx)(kws:List Keyword)(t:TA):Prop where
 h:PK X kws t
variable {X:Cx}
section
variable {x:Str}{p pos kpos:Pos}{e:Expr}{es:List Expr}{kws:List Keyword}{t tk:TA}{te:TE}{nm:Option Str}{ks:List Str}{id:String}{r:List V->List V->Hp->VK->Prop}
theorem jPC:JK X [] tNil:=⟨jSJ⟩
theorem jM0 (ha:JE X e te)(hr:JK X kws t):JK X (⟨nm,e,kpos⟩::kws) (tCons te t):=⟨jQA ha.h hr.h⟩
theorem jM6 (hc:jPO X (.builtin id) ks r)(hg:Gl1 X x)(hm:X.mg x=none)(hv:bootBuiltins x=some (.builtin id))(ha:JA X (e::es) t)(hkw:JK X kws tk)(he:starEach (e::es) X.env=(false,eval e X.env)::starEach es X.env)
  (hn:x≠ "__name__" :=by decide) (hdb:(x==("__debug__" :Str))=false:=by decide) (hall:(backToKw pos (keywordEach kws X.env)).all (·.1.isSome)=true:=by rfl) (hks:(backToKw pos (keywordEach kws X.env)).filterMap (·.1)=ks:=by rfl)
  (hpl:(backTo pos (starEach es X.env)).any (·.1)=false:=by rfl) (hkn:(backToKw pos (keywordEach kws X.env)).any (·.1.isNone)=false:=by rfl):JE X (.Call (.Name x p) (e::es) kws pos) (tCBK r t tk):=by
 refine⟨fun ad s σ H Q I h=>?_⟩
 refine dM (jBV I hg.a hm hv ?_ hn hdb)
 refine callWith_kw (lC (ha.h pos ad s σ H _ I h) fun us s1 ⟨vs,H1,I1,r1,q1⟩=>lC (hkw.h pos ad s1 σ H1 _ I1 q1) fun ws s2 ⟨zs,H2,I2,rz,q2⟩=>?_) (by rw[he]; rfl) (by rw[he]; exact hpl) hall hkn
 rw[hks]
 exact hc ad s2 σ H2 vs zs us ws Q I2 r1 rz q2
theorem jFO (hc:X.calm=true):jPO X (.builtin "sorted") [Str.ofString "reverse"] (fun xs zs H Q=>∃ (p:Addr) (kvs:List (Key×V)) (ks:List Int) (b:Bool),xs=[.ref p]/\zs=[.bl b]/\H p=some (.dK kvs)/\kvs.map (·.1)=ks.map Sum.inl/\ks.length<=sizeLine/\
  ∀ (l:Addr) (ns:List Int),H l=none->Ordered b ns->ns.Perm ks->Q (.ref l) (upd H l (.lst (ns.map V.int)))):=by
 intro ad s σ H xs zs us ws Q I r rz h
 obtain⟨p,kvs,ks,b,rfl,rfl,hp,hk,hn,q⟩:=h
 obtain⟨u,rfl,rx⟩:=r.one
 obtain⟨v,rfl,ry⟩:=rz.one
 cases rx
 cases ry
 obtain⟨z,lo,vs,rel,dd⟩:=dk_of I.hok hp
 refine jG1 (I.ok.hd hc) lo dd (by rw[<- rel.keys]; exact hk) hn fun hf tk l vs ns e hl kp he hi pm srt=>?_
 have hz:(ns.map V.int).length<=sizeLine:=by rw[ab,pm.length_eq]; exact hn
 have I2:Inv X ad σ (upd H l (.lst (ns.map V.int))) { s with heap:=hf,toks:=tk} :=I.laid (t':=tk) kp hl ⟨hz,vs,e,jAC hi,he⟩
 exact⟨.ref l,_,I2,rfl,q l ns (I.hok.fresh hl) srt pm⟩
end
theorem jPF {o:Expr}{to:TE}{name:Str}{apos cpos:Pos}{T id:String}{r:V->List V->Hp->VK->Prop}(pa:PlainAttrs T)(slot:Slot T name id)(hty:typeOf (.builtin id)=pure (.type "method_descriptor"))(hm:MtR X id r)(ho:JE X o to)
  (hbase:attributeBase o name X.env (eval o X.env)=eval o X.env:=by rfl) (hline:(apos.endLine==cpos.line)=true:=by rfl):JE X (.Call (.Attribute o name apos) [] [] cpos) (tBM0 X.K T r to):=⟨jSS pa slot hty hm ho.h hbase hline⟩
def rBits:V->List V->Hp->VK->Prop:=fun x vs H Q=>∃ i,x= .int i/\vs=[]/\Q (.int (Builtin.Int.intBits i)) H
theorem jR3:MtR X "int.bit_length" rBits:=by
 intro ad s σ H x vs v us Q I rx rv h
 obtain⟨i,rfl,rfl,q⟩:=h
 obtain⟨t,rfl⟩:=rx
 have hus:=rv.zero
 subst hus
 exact call_int_bit_length ⟨.int _,H,I.tok _,⟨_,rfl⟩,q⟩
theorem jM5 {i o:Expr}{ty td:TE}{pos:Pos}(hu:X.A.units+1<cLine)(hi:JE X i ty)(ho:JE X o td)(h1:behindInMarks .NotIn o=false):JT X (.Compare i [.NotIn] [o] pos) (tB (jKP ty td)):=⟨jSH (jL4 hu hi.h ho.h) h1⟩
def jS2 (i:Int)(b:Bool):TE:=fun _ H Q=>∀ p H',H' p=some (.dK [(.inl i, .bl b)])->Ext H H'->H p=none->Q (.ref p) H'
theorem jO9 {i:Int}{b:Bool}{k1 k2:Nat}{p1 p2 pos:Pos} :JE X (.Dict [some (.Constant (.int i) k1 p1)] [.Constant (.bool b) k2 p2] pos) (jS2 i b):=
 ⟨fun ad s σ H Q I h=>jQF (jNO je_int.h je_bl.h jQ7) rfl rfl (by intro z; cases z) (by show 1<=15; decide) ad s σ H Q I fun p hp=>⟨j5,[(.inl i, .bl b)],rfl,by show 1<=15; decide,h p _ j5 (((Ext.refl H).new hp _).updNew hp _) hp⟩⟩
theorem jJ5 {K:W.Frag}{tp:Bool}{l:Addr}{xs:List V}{g:TG}{tb:TS}{D:Ends}{σ:St}{H:Hp}(Pv:Nat->St->Hp->Prop)(h0:Pv 0 σ H)(hl:∀ i σ H,Pv i σ H->Sq tp K H l xs)
  (hs:∀ i x T σ H,xs[i]?=some x->H T=none->Pv i σ H->g (.ref T) σ (upd H T (.tup [.int (i:Int),x])) fun σ2 H2=>tb { D with nx:=Pv (i+1),ct:=Pv (i+1),bk:=D.nx} σ2 H2) (hd:∀ σ H,Pv xs.length σ H->D.nx σ H):
  ∃ W:Nat->Nat->St->Hp->Prop,(∃ m,W 0 m σ H)/\∀ i m σ H,W i m σ H->
   ((Ite tp K l).stop i H/\D.nx σ H)\/((Ite tp K l).go i H/\∃ N:St->Hp->Prop,(∀ σ' H',N σ' H'->∃ m',m'<m/\W (i+1) m' σ' H')/\∀ x H',(Ite tp K l).yld i H x H'->g x σ H' fun σ2 H2=>tb { D with nx:=N,ct:=N,bk:=D.nx} σ2 H2):=by
 refine⟨fun i m σ H=>m=xs.length - i/\i<=xs.length/\Pv i σ H,⟨_,rfl,ba _,h0⟩,?_⟩
 rintro i m σ H ⟨rfl,hi,p⟩
 have s1:=hl i σ H p
 by_cases hlt:i<xs.length
 ·refine .inr ⟨⟨xs,xs[i],s1,by simp [hlt]⟩,Pv (i+1),fun σ' H' p'=>⟨xs.length - (i+1),by lia,rfl,hlt,p'⟩,fun v H'' y=>?_⟩
  obtain⟨T,x,e1,e2,e3,e4⟩:=y
  subst e2 e3
  exact hs i x T σ _ (e4 xs s1) e1 p
 ·have e:i=xs.length:=by lia
  subst e
  exact .inl ⟨⟨xs,s1,ai _⟩,hd σ H p⟩
def All2 {α β:Type}(R:α->β->Prop):List α->List β->Prop
 | [],[]=>True
 | a::as,b::bs=>R a b/\All2 R as bs
 | _,_=>False
section
variable {α β:Type}{R S:α->β->Prop}
theorem All2.len:∀ {as:List α}{bs:List β},All2 R as bs->as.length=bs.length
 | [],[],_=>rfl
 | _::_,_::_,h=>bA (· +1) (All2.len h.2)
theorem All2.imp (f:∀ a b,R a b->S a b):∀ {as:List α}{bs:List β},All2 R as bs->All2 S as bs
 | [],[],_=>trivial
 | _::_,_::_,h=>⟨f _ _ h.1,All2.imp f h.2⟩
theorem All2.snoc {a:α}{b:β} :∀ {as:List α}{bs:List β},All2 R as bs->R a b->All2 R (as++[a]) (bs++[b])
 | [],[],_,h=>⟨h,trivial⟩
 | _::_,_::_,h,k=>⟨h.1,All2.snoc h.2 k⟩
theorem All2.get:∀ {as:List α}{bs:List β}{i:Nat}{b:β},All2 R as bs->bs[i]?=some b->∃ a,as[i]?=some a/\R a b
 | [],[],i,b,_,h=>by simp at h
 | a::_,_::_,0,b,h,e=>by
  simp at e
  subst e
  exact⟨a,rfl,h.1⟩
 | _::_,_::_,i+1,b,h,e=>by
  obtain⟨a,h1,h2⟩:=All2.get h.2 (i:=i) (b:=b) (by simpa using e)
  exact⟨a,by simpa using h1,h2⟩
theorem All2.get':∀ {as:List α}{bs:List β}{i:Nat}{a:α},All2 R as bs->as[i]?=some a->∃ b,bs[i]?=some b/\R a b
 | [],[],i,b,_,h=>by simp at h
 | a::_,b::_,0,x,h,e=>by
  simp at e
  subst e
  exact⟨b,rfl,h.1⟩
 | _::_,_::_,i+1,x,h,e=>by
  obtain⟨b,h1,h2⟩:=All2.get' h.2 (i:=i) (a:=x) (by simpa using e)
  exact⟨b,by simpa using h1,h2⟩
theorem All2.append:∀ {as as':List α}{bs bs':List β},All2 R as bs->All2 R as' bs'->All2 R (as++as') (bs++bs')
 | [],_,[],_,_,h=>h
 | _::_,_,_::_,_,h,k=>⟨h.1,All2.append h.2 k⟩
theorem All2.of_get {as:List α}{bs:List β}(hl:as.length=bs.length)(h:∀ (i:Nat) a b,as[i]?=some a->bs[i]?=some b->R a b):All2 R as bs:=by
 induction as generalizing bs with
 | nil=>cases bs with
  | nil=>trivial
  | cons b bs=>cases hl
 | cons a as ih=>cases bs with
  | nil=>cases hl
  | cons b bs=>exact⟨h 0 a b rfl rfl,ih (by simpa using hl) fun i a b h1 h2=>h (i+1) a b (by simpa using h1) (by simpa using h2)⟩
end
def lowN (m:Nat):Nat:=if m % 2=1 then lowN (m / 2)+1 else 0
theorem jDQ {m:Nat}(h:m % 2=0):lowN m=0:=by
 unfold lowN
 rw[aj (by lia)]
theorem jFA {m:Nat}(h:m % 2=1):lowN m=lowN (m / 2)+1:=by
 rw[lowN,ak h]
theorem jRP (a b:Nat):a&&&b=2*((a / 2)&&&(b / 2))+(a % 2)*(b % 2):=by
 have h1:(a&&&b) / 2=(a / 2)&&&(b / 2):=Nat.and_div_two
 have h2:(a&&&b) % 2=(a % 2)*(b % 2):=by
  have t:=gP a b 0
  rw[fm,fm,fm] at t
  have t':((a&&&b) % 2=1)↔(a % 2=1/\b % 2=1):=by
   rw[<- gE.trans (and_congr bW bW),<- t,bW]
  rcases cU a with ha | ha <;> rcases cU b with hb | hb <;> rw[ha,hb] at t' ⊢ <;> lia
 lia
theorem jR5 (m:Nat):(m+1) - ((m+1)&&&m)=2 ^ lowN m:=by
 induction m using strongRecOn with
 | _ m ih=>
  rw[jRP]
  rcases cU m with h | h
  ·rw[jDQ h,show (m+1) / 2=m / 2 by lia,Nat.and_self,h]
   lia
  ·have:=ih (m / 2) (by lia)
   rw[jFA h,iY,show (m+1) / 2=m / 2+1 by lia,show (m+1) % 2=0 by lia]
   lia
theorem jO3 (m:Nat):Builtin.Int.intBits (Builtin.bitAnd (Builtin.bitNot (m:Int)) ((m:Int)+1))=lowN m+1:=by
 have e:Builtin.bitAnd (Builtin.bitNot (m:Int)) ((m:Int)+1)=((2 ^ lowN m:Nat):Int):=by
  unfold Builtin.bitAnd
  have h1:¬ (0<=Builtin.bitNot (m:Int)):=by unfold Builtin.bitNot; lia
  have h2:(0:Int)<=(m:Int)+1:=by lia
  have h3:(Builtin.bitNot (Builtin.bitNot (m:Int))).toNat=m:=by unfold Builtin.bitNot; lia
  rw[aH h1,aw h2]
  show ((m:Int)+1) - ((((m:Int)+1).toNat&&&(Builtin.bitNot (Builtin.bitNot (m:Int))).toNat:Nat):Int)=_
  rw[h3,show ((m:Int)+1).toNat=m+1 by lia,<- jR5 m]
  have:(m+1)&&&m<=m+1:=Nat.and_le_left
  lia
 rw[e]
 unfold Builtin.Int.intBits
 have hp:0<2 ^ lowN m:=eX _
 have h0:((((2 ^ lowN m:Nat):Int))==0)=false:=by
  rw[dB]
  lia
 rw[h0]
 simp [Nat.log2_two_pow]
theorem jDO (m:Nat):m.testBit (lowN m)=false:=by
 induction m using strongRecOn with
 | _ m ih=>
  rcases cU m with h | h
  ·rw[jDQ h,fm,h]
   rfl
  ·rw[jFA h,Nat.testBit_succ]
   exact ih _ (by lia)
theorem jF9 (m:Nat):∀ j,j<lowN m->m.testBit j=true:=by
 induction m using strongRecOn with
 | _ m ih=>
  intro j hj
  rcases cU m with h | h
  ·rw[jDQ h] at hj
   lia
  ·rw[jFA h] at hj
   cases j with
   | zero=>rw[fm,h]; rfl
   | succ j=>
    rw[Nat.testBit_succ]
    exact ih _ (by lia) j (by lia)
theorem jTD {m t:Nat}(h1:m.testBit t=false)(h2:∀ j,j<t->m.testBit j=true):lowN m=t:=by
 rcases Nat.lt_trichotomy (lowN m) t with h | h | h
 ·have:=h2 _ h
  rw[jDO] at this
  cases this
 ·exact h
 ·have:=jF9 m t h
  rw[h1] at this
  cases this
theorem jRH {m w:Nat}(h:m<2 ^ w)(a:∀ j,j<w->m.testBit j=true):m=2 ^ w - 1:=by
 apply gF
 intro i
 rw[cQ]
 by_cases hi:i<w
 ·rw[a i hi,aw hi]
 ·rw[aH hi]
  exact iZ (aS h (bV (by decide) (by lia)))
theorem jDP {m w:Nat}(h:m<2 ^ w)(hn:m≠2 ^ w - 1):lowN m<w:=by
 refine cC fun z=>hn (jRH h fun j hj=>jF9 m j (by lia))
abbrev Ch:=List (List (Int×Nat))
def fullN (ch:Ch):Nat:=2 ^ ch.length - 1
def chAt (ch:Ch)(m:Nat):List (Int×Nat):=(ch.getD (lowN m) []).filter fun c=>c.2&&&m==0
structure ChOk (ch:Ch):Prop where
 w:ch.length<=16
 len:∀ (t:Nat) (cs:List (Int×Nat)),ch[t]?=some cs->cs.length<=33
 it:∀ (t:Nat) (cs:List (Int×Nat)),ch[t]?=some cs->∀ c∈cs,c.2.testBit t=true/\c.2<2 ^ ch.length/\ -1<=c.1/\c.1<32
theorem ChOk.mem {ch:Ch}{m:Nat}{c:Int×Nat}(o:ChOk ch)(h:m<2 ^ ch.length)(hn:m≠fullN ch)(hc:c∈chAt ch m):c.2.testBit (lowN m)=true/\c.2<2 ^ ch.length/\c.2&&&m=0/\ -1<=c.1/\c.1<32:=by
 obtain⟨h1,h2⟩:=bf.mp hc
 have hl:=jDP h hn
 rw[af,ag hl] at h1
 obtain⟨a,b,c1,c2⟩:=o.it _ _ (ag hl) c h1
 exact⟨a,b,by simpa using h2,c1,c2⟩
theorem ChOk.up {ch:Ch}{m:Nat}{c:Int×Nat}(o:ChOk ch)(h:m<2 ^ ch.length)(hn:m≠fullN ch)(hc:c∈chAt ch m):m<m|||c.2/\m|||c.2<2 ^ ch.length:=by
 obtain⟨a,b,z,_⟩:=o.mem h hn hc
 refine⟨?_,Nat.or_lt_two_pow h b⟩
 refine Nat.lt_of_le_of_ne Nat.left_le_or fun e=>?_
 have t:m.testBit (lowN m)=(m|||c.2).testBit (lowN m):=bA (fun z=>z.testBit (lowN m)) e
 rw[cJ,a,lj,jDO] at t
 cases t
def gvN {α:Type}(ch:Ch)(e:α)(J:List (Int×α)->α):Nat->Nat->α
 | 0,_=>e
 | n+1,m=>if m=fullN ch then e else J ((chAt ch m).map fun c=>(c.1,gvN ch e J n (m|||c.2)))
def gv {α:Type}(ch:Ch)(e:α)(J:List (Int×α)->α)(m:Nat):α:=gvN ch e J (fullN ch - m) m
theorem jRD {α:Type}{ch:Ch}{e:α}{J:List (Int×α)->α}(o:ChOk ch):∀ (k n m:Nat),fullN ch - m<=k->fullN ch - m<=n->m<2 ^ ch.length->gvN ch e J n m=gvN ch e J k m:=by
 intro k
 induction k with
 | zero=>
  intro n m h1 h2 h3
  have:m=fullN ch:=by
   unfold fullN at h1 ⊢
   lia
  subst this
  cases n with
  | zero=>rfl
  | succ n=>show gvN ch e J (n+1) (fullN ch)=e; rw[gvN,ak rfl]
 | succ k ih=>
  intro n m h1 h2 h3
  by_cases hm:m=fullN ch
  ·subst hm
   cases n with
   | zero=>show e=gvN ch e J (k+1) (fullN ch); rw[gvN,ak rfl]
   | succ n=>
    have q:∀ i,gvN ch e J (i+1) (fullN ch)=e:=fun i=>by rw[gvN,ak rfl]
    rw[q,q]
  ·have hlt:m<fullN ch:=by
    unfold fullN at hm ⊢
    lia
   cases n with
   | zero=>lia
   | succ n=>
    rw[gvN,aj hm,gvN,aj hm]
    congr 1
    refine cG fun c hc=>?_
    obtain⟨u1,u2⟩:=o.up h3 hm hc
    rw[ih n (m|||c.2) (by lia) (by lia) u2]
theorem jRC {α:Type}{ch:Ch}{e:α}{J:List (Int×α)->α} :gv ch e J (fullN ch)=e:=by
 unfold gv
 rw[gZ,gvN]
theorem jRB {α:Type}{ch:Ch}{e:α}{J:List (Int×α)->α}{m:Nat}(o:ChOk ch)(h:m<2 ^ ch.length)(hn:m≠fullN ch):gv ch e J m=J ((chAt ch m).map fun c=>(c.1,gv ch e J (m|||c.2))):=by
 have hlt:m<fullN ch:=by
  unfold fullN at hn ⊢
  lia
 have:gv ch e J m=gvN ch e J ((fullN ch - m - 1)+1) m:=by
  unfold gv
  rw[show fullN ch - m - 1+1=fullN ch - m by lia]
 rw[this,gvN,aj hn]
 congr 1
 refine cG fun c hc=>?_
 obtain⟨u1,u2⟩:=o.up h hn hc
 unfold gv
 rw[jRD o (fullN ch - (m|||c.2)) _ _ (ai _) (by lia) u2]
end L2
namespace L2
open PySem
variable {X:Cx}
section
variable {tg iter elt:Expr}{ifs:List Expr}{sc:Scope}{pos:Pos}{wi:TI}{g:TG}{tt:TT}{te:TE}{m:List (Option Nat)}{Nc:List Str}
end
end L2
namespace L2
open PySem PySem.Spec PyProof.Rows
structure SeerK (P:Program)(K:W.Frag)(mg:Str->Option Value):Prop where
 tree:P.given.tree=none
 st:∃ o n,K.lookup cStatics=some o/\o.data= .dict #[] n
 md:∃ o es n,K.lookup sysModules=some o/\o.data= .dict es n/\StrKeys es/\nsFind es "_pylong" =none
 bm:∃ b o,mg "__builtins__" =some (.ref b)/\K.lookup b=some o/\o.cls= .type "module" /\o.dict=some builtinsNs
def Plain (l:List Env):Prop:=∃ e r,l=e::r/\e.scope.isGenerator=false/\e.scope.isCoroutine=false/\e.builtins=builtinsNs/\e.globals=mainGlobals
structure Pyl (X:Cx):Prop where
 k:SeerK X.prog X.K X.mg
 fr:Plain X.stack
 dp:X.A.depth+100<recursionLimit
section
variable {X:Cx}{ad:List (Addr×Obj)}{σ:List (Option V)}{H:Hp}{s:Shared}
theorem Pyl.room (h:Pyl X)(I:Inv X ad σ H s):PylongRoom (model X.prog X.w) X.A s:=by
 obtain⟨e,r,e1,e2,e3,e4,e5⟩:=h.fr
 have kin:=I.kIn
 refine PylongRoom.of I.nolimit h.dp (SeerAt.of (env:=e) (l:=r) ⟨?_,?_,?_,?_⟩ h.k.tree (by rw[I.ok.frames,e1]) e2 e3 e4 e5)
 ·obtain⟨o,n,a,b⟩:=h.k.st
  exact⟨fun _=>none,⟨o,_,n,kin _ _ a,b,(fun e he=>absurd he (by simp)),fun _=>rfl⟩,rfl,rfl⟩
 ·obtain⟨o,es,n,a,b,c,d⟩:=h.k.md
  exact⟨_,⟨o,_,n,kin _ _ a,b,c,fun _=>rfl⟩,d⟩
 ·obtain⟨mb,a,b⟩:=I.mod.blt
  exact⟨mb,a.keepsP I.bk,b⟩
 ·obtain⟨b,o,g,a,c,d⟩:=h.k.bm
  exact⟨X.mg,b,o,I.mod.glob.keepsP I.bk,g,kin _ _ a,c,d⟩
theorem Pyl.blk {sc:Scope}{cl:List (Str×Addr)}{C:Addr}{Nc:List Str}{fp:List Addr}{s':Shared}{H':Hp}(h:Pyl X):Pyl (L2.blk X sc cl C Nc fp s' H'):=⟨h.k,h.fr,h.dp⟩
theorem jD7 (h:Pyl X):OpR X (binaryOp .FloorDiv) (rI (fun _ j=>j≠0) fun i j=> .int (i.fdiv j)):=by
 intro ad s σ H x y v u Q I rx ry hq
 obtain⟨i,j,rfl,rfl,hj,q⟩:=hq
 obtain⟨t,rfl⟩:=rx
 obtain⟨t',rfl⟩:=ry
 exact floordiv_int hj ⟨.int _,H,I.tok _,⟨_,rfl⟩,q⟩ (.inr (h.room I))
def Bt (k:Nat)(x:Int):Prop:=x.natAbs<=2 ^ k
theorem Bt.bits {k:Nat}{x:Int}(h:Bt k x):Builtin.Int.intBits x<=k+1:=by
 unfold Builtin.Int.intBits
 split
 ·exact ba _
 ·rename_i hx
  have hx:x.natAbs≠0:=fun z=>hx (by rw[Int.natAbs_eq_zero.mp z]; rfl)
  have:x.natAbs.log2<k+1:=(Nat.log2_lt hx).mpr (g8 h (gB (by decide) (dJ k)))
  lia
theorem Bt.mulOk {a b:Nat}{x y:Int}(hx:Bt a x)(hy:Bt b y)(h:a+b<=134217000):IntMulOk x y:=by
 have h1:=hx.bits
 have h2:=hy.bits
 unfold IntMulOk
 intro z
 rw[bD] at z
 have z:=z.2
 unfold Builtin.Int.intTooBig at z
 have z:=aP z
 rw[bitsLine_eq] at z
 lia
theorem jF1:OpR X (binaryOp .Mult) (rI (fun i j=>∃ a b,Bt a i/\Bt b j/\a+b<=134217000) fun i j=> .int (i*j)):=by
 intro ad s σ H x y v u Q I rx ry hq
 obtain⟨i,j,rfl,rfl,⟨a,b,ha,hb,hl⟩,q⟩:=hq
 obtain⟨t,rfl⟩:=rx
 obtain⟨t',rfl⟩:=ry
 exact mul_int ⟨.int _,H,I.tok _,⟨_,rfl⟩,q⟩ (ha.mulOk hb hl)
end
end L2
namespace TM
open PySem PySem.Spec PyProof.Rows PySem.W
open HT (lexLt lexLt_cons)
open L2 (All2)
theorem jLT:∀ x:List Int,lexLt x x=false
 | []=>rfl
 | a::x=>by rw[lexLt_cons,ak rfl]; exact jLT x
theorem jLR:∀ {x y z:List Int},lexLt x y=true->lexLt y z=true->lexLt x z=true
 | [],[],_,h,_=>by cases h
 | [],_::_,[],_,h=>by cases h
 | [],_::_,_::_,_,_=>rfl
 | _::_,[],_,h,_=>by cases h
 | _::_,_::_,[],_,h=>by cases h
 | a::x,b::y,c::z,h,k=>by
  rw[lexLt_cons] at h k ⊢
  by_cases e1:a=b
  ·rw[ak e1] at h
   by_cases e2:b=c
   ·rw[ak e2] at k
    rw[ak (e1.trans e2)]
    exact jLR h k
   ·rw[aj e2] at k
    rw[aj (e1 ▸ e2),e1]
    exact k
  ·rw[aj e1] at h
   have h:=aP h
   by_cases e2:b=c
   ·rw[aj (e2 ▸ e1),<- e2]
    exact aw h
   ·rw[aj e2] at k
    have k:=aP k
    rw[aj (by lia)]
    exact aw (by lia)
theorem jLS:∀ {x y:List Int},lexLt x y=false->lexLt y x=false->x=y
 | [],[],_,_=>rfl
 | [],_::_,h,_=>by cases h
 | _::_,[],_,h=>by cases h
 | a::x,b::y,h,k=>by
  rw[lexLt_cons] at h k
  by_cases e:a=b
  ·rw[ak e] at h
   rw[ak e.symm] at k
   rw[e,jLS h k]
  ·rw[aj e] at h
   rw[aj (fun z=>e z.symm)] at k
   have:=eS h
   have:=eS k
   lia
def rk (ws:List (List Int))(x:List Int):Int:=((ws.countP fun z=>lexLt z x:Nat):Int)
theorem jFJ {p q:List Int->Bool}(h:∀ z,p z=true->q z=true):∀ ws:List (List Int),ws.countP p<=ws.countP q
 | []=>ai _
 | a::ws=>by
  have:=jFJ h ws
  rw[cZ,cZ]
  have:=h a
  cases hp:p a <;> cases hq:q a <;> simp_all <;> lia
theorem jJ9 {p q:List Int->Bool}(h:∀ z,p z=true->q z=true){x:List Int}(hp:p x=false)(hq:q x=true):∀ {ws:List (List Int)},x∈ws->ws.countP p<ws.countP q
 | a::ws,hx=>by
  rw[cZ,cZ]
  rcases aM.mp hx with e | hx
  ·have:=jFJ h ws
   rw[<- e,hp,hq]
   simp
   lia
  ·have:=jJ9 h hp hq hx
   have:=h a
   cases hpa:p a <;> cases hqa:q a <;> simp_all <;> lia
theorem rk_lt {ws:List (List Int)}{x y:List Int}(hx:x∈ws):decide (rk ws x<rk ws y)=lexLt x y:=by
 unfold rk
 cases h:lexLt x y with
 | true=>
  have:=jJ9 (p:=fun z=>lexLt z x) (q:=fun z=>lexLt z y) (fun z hz=>jLR hz h) (jLT x) h hx
  exact aw (by lia)
 | false=>
  refine aH ?_
  by_cases k:lexLt y x=true
  ·have:=jFJ (p:=fun z=>lexLt z y) (q:=fun z=>lexLt z x) (fun z hz=>jLR hz k) ws
   lia
  ·have:=jLS h (Bool.eq_false_iff.mpr k)
   rw[this]
   lia
variable {prog:Program}{w:World}{A:Around}{E:Value->Shared->Prop}{s:Shared}
section
variable {kd:SortKind}{f:Value->List Int}
end
end TM
namespace L2
open PySem PySem.Spec PyProof.Rows
variable {X:Cx}
noncomputable def refV:Value->V
 | .ref a=> .ref a
 | _=> .non
structure KeyS where
 TK:Heap->Value->List Int->Prop
 KR:Hp->V->List Int->Prop
 kd:List (List Int)->SortKind
 dc:Heap->Value->List Int
structure KeyOk (S:KeyS):Prop where
 of:∀ {P:Program}{w:World}{H:Hp}{h:Heap}{v:V}{u:Value}{l:List Int},HOk P w H h->RelV v u->S.KR H v l->S.TK h u l
 mono:∀ {H H':Hp}{v:V}{l:List Int},TupsK H H'->S.KR H v l->S.KR H' v l
 dec:∀ {h:Heap}{u:Value}{l:List Int},S.TK h u l->S.dc h u=l
 kind:∀ {prog:Program}{w:World}{A:Around}{E:Value->Shared->Prop}{s:Shared}{vs:List Value}{ws:List (List Int)}{Q:SortKind->Shared->Prop},All2 (S.TK s.heap) vs ws->vs≠ []->Q (S.kd ws) s->wpAny (model prog w) A (keyKind' vs.toArray) Q E s
 lt:∀ {prog:Program}{w:World}{A:Around}{E:Value->Shared->Prop}{s:Shared}{ws:List (List Int)}{u v:Value}{x y:List Int}{Q:Bool->Shared->Prop},S.TK s.heap u x->S.TK s.heap v y->A.units+2<cLine->Q (HT.lexLt x y) s->wpAny (model prog w) A (keyLt' (S.kd ws) u v) Q E s
variable {S:KeyS}
section
variable {prog:Program}{w:World}{A:Around}{E:Value->Shared->Prop}{s:Shared}
noncomputable abbrev odK (S:KeyS)(ws:List (List Int))(h:Heap)(ks:List Value):TM.Od:=⟨S.kd ws,fun p=>TM.rk (ks.map (S.dc h)) (S.dc h p.1),fun p=>p.1∈ks⟩
theorem ltK (ok:KeyOk S){ks:List Value}{ws:List (List Int)}(t:All2 (S.TK s.heap) ks ws)(room:A.units+2<cLine): @TM.LtOk prog w A s (odK S ws s.heap ks):= @TM.LtOk.mk prog w A s (odK S ws s.heap ks) fun {E st x y Q} hk hx hy h=>by
 have e:decide (@TM.key (odK S ws s.heap ks) x< @TM.key (odK S ws s.heap ks) y)=HT.lexLt (S.dc s.heap x.1) (S.dc s.heap y.1):=TM.rk_lt (cH hx)
 rw[e] at h
 rw[lt'_eq]
 refine aL (gz ?_)
 rw[show kindOf st=S.kd ws from hk]
 obtain⟨i,hi⟩:=bI hx
 obtain⟨j,hj⟩:=bI hy
 obtain⟨l1,_,t1⟩:=t.get' hi
 obtain⟨l2,_,t2⟩:=t.get' hj
 rw[ok.dec t1,ok.dec t2] at h
 exact aL (h8 (dH (ok.lt t1 t2 room ⟨rfl,aN h⟩)))
theorem jSD {α:Type}{R:α->α->Prop} :∀ {l:List α},l.length<=1->l.Pairwise R
 | [],_=> .nil
 | [_],_=>iR _ _
 | _::_::_,h=>absurd h (by simp)
theorem jLV (ok:KeyOk S){D kS:Addr}{its ks:List Value}{ws:List (List Int)}{e1 e:Nat}{P:PySem.Fin->Shared->Prop}(hl:ks.length=its.length)(hz:its.length<=sizeLine)(t:All2 (S.TK s.heap) ks ws)(room:A.units+2<cLine)
  (hD:s.heap.get? D=some (seqObj "list" #[] e1)) (hK:s.heap.get? kS=some (seqObj "list" ks.toArray e)) (ne:D≠kS)
  (h:∀ ps:List (Value×Value),ps.Perm (ks.zip its)->ps.Pairwise (fun p q=>HT.lexLt (S.dc s.heap q.1) (S.dc s.heap p.1)=false)->
   P (.done (.ret .none)) { s with heap:=(s.heap.update kS (Obj.mapSeq fun _=>#[])).update D (Obj.mapSeq fun _=>(ps.map Prod.snd).toArray)}):
  wpAny (model prog w) A (ksk_end D false its.toArray e1 (.ref kS) ks.toArray) P E s:=by
 have hpz:(ks.toArray.zip its.toArray).toList=ks.zip its:=by simp
 have hpn:(ks.toArray.zip its.toArray).size=its.length:=by rw[<- aR,hpz,gQ]; lia
 have hD2:(s.heap.update kS (Obj.mapSeq fun _=>(#[]:Array Value))).get? D=some (seqObj "list" #[] e1):=(bw _ _ (dZ ne)).trans hD
 have tail:∀ st:SortSt,failedOf st=none->(arrOf st).Perm (ks.toArray.zip its.toArray)->(arrOf st).toList.Pairwise (fun p q=>HT.lexLt (S.dc s.heap q.1) (S.dc s.heap p.1)=false)->wpAny (model prog w) A (ksk_tail D false e1 (.ref kS) st) P E s:=fun st hf hp hs=>by
  unfold ksk_tail
  dsimp only
  refine aa (eY hK rfl ?_ (by rw[aK]; lia) (ba _))
  refine aa (iw ?_)
  refine aa (iA hD2 rfl ?_)
  refine aa (eY hD2 rfl ?_ (ba _) ?_)
  ·rw[hf]
   simp only [iB,ic,kq]
   refine ah ?_
   have:=h (arrOf st).toList (by rw[<- hpz]; exact cx.mp hp) hs
   have e:∀ xs:Array Keyed,(xs.toList.map Prod.snd).toArray=xs.map (·.2):=fun xs=>by rw[<- Array.toList_map,eh]
   rw[e] at this
   exact this
  ·simp only [ic,kq]
   rw[size_map,hp.size_eq,hpn]
   lia
 unfold ksk_end
 dsimp only
 simp only [ic,kq]
 by_cases few:its.toArray.size<2
 ·rw[ak few,ak few]
  refine aa (ah ?_)
  rw[StateT.run_pure]
  refine aa (ah ?_)
  dsimp only
  refine tail (SortSt.mk' general' _ #[] 7 none) rfl (ja _) ?_
  show (ks.toArray.zip its.toArray).toList.Pairwise _
  rw[hpz]
  rw[aK] at few
  have:(ks.zip its).length<=1:=by rw[gQ]; lia
  exact jSD this
 ·rw[aj few,aj few]
  rw[aK] at few
  have nek:ks≠ []:=fun z=>by rw[z] at hl; simp at hl; lia
  have allk: @TM.AllI (odK S ws s.heap ks) (ks.toArray.zip its.toArray).toList:=fun p hp=>by
   rw[hpz] at hp
   exact(dw hp).1
  letI iO:TM.Od:=odK S ws s.heap ks
  haveI iL:TM.LtOk prog w A s:=ltK ok t room
  refine aa (ok.kind t nek (aa (bX (TM.wpS_sortRunsAny (a₀:=ks.toArray.zip its.toArray) (st:=SortSt.mk' (S.kd ws) _ #[] 7 none)
   (Q:=fun _ st'=>(arrOf st').Perm (ks.toArray.zip its.toArray)/\failedOf st'=none/\TM.STo (arrOf st') (ks.toArray.zip its.toArray).size)
   allk ⟨ja _,rfl,rfl,rfl⟩ (by rw[hpn]; lia) fun st' a1 a2 a3=>⟨a1,a2,a3⟩) ?_ fun _ _ e=>e)))
  rintro ⟨⟨⟩,st'⟩ s' ⟨rfl,p1,p2,p3⟩
  dsimp only at p1 p2 p3 ⊢
  refine tail st' p2 p1 ?_
  have pl:=cx.mp p1
  rw[cB]
  intro i j hi hj hij
  rw[aR] at hi hj
  have sz:=p1.size_eq
  have k:=p3 i j (dF hij) (by lia)
  have ei:(arrOf st')[i]?=some (arrOf st')[i]:=lh _ i hi
  have ej:(arrOf st')[j]?=some (arrOf st')[j]:=lh _ j hj
  have m2:(arrOf st')[j].1∈ks:=allk _ (pl.mem_iff.mp (by simp))
  rw[@TM.KI_key (odK S ws s'.heap ks) _ _ _ ei,@TM.KI_key (odK S ws s'.heap ks) _ _ _ ej] at k
  have e:decide (@TM.key (odK S ws s'.heap ks) (arrOf st')[j]< @TM.key (odK S ws s'.heap ks) (arrOf st')[i])=HT.lexLt (S.dc s'.heap (arrOf st')[j].1) (S.dc s'.heap (arrOf st')[i].1):=TM.rk_lt (cH m2)
  rw[jw,jw,<- e]
  exact aH (Int.not_lt.mpr k)
end
theorem Un.out {fs:List Addr}{H H':Hp}{h h1 h2:Heap}(u:Un fs [] H H' h h1)(k:∀ b,b<h.objs.size->h2.get? b=h1.get? b):Un fs [] H H' h h2 where
 keep b o e n f x:=(k b (aE e)).trans (u.keep b o e n f x)
 slot b o e n f x:=by obtain⟨sl,q⟩:=u.slot b o e n f x; exact⟨sl,(k b (aE e)).trans q⟩
 free:=u.free
 there b o e x:=by obtain⟨o',q⟩:=u.there b o e x; exact⟨o',(k b (aE e)).trans q⟩
 tups:=u.tups
 frzs:=u.frzs
 tbls:=u.tbls
theorem Un.track {P:Program}{w:World}{fs:List Addr}{H H':Hp}{h h1:Heap}{D:Addr}{o:HO}(ok:HOk P w H h)(u:Un fs [] H H' h h1)(hD:h.objs.size<=D):Un fs [] H (upd H' D o) h h1 where
 keep:=u.keep
 slot:=u.slot
 free b ob e n x:=by rw[j7 (aV (aS (aE e) hD))]; exact u.free b ob e n x
 there:=u.there
 tups b xs e:=by rw[j7 (aV (aS (ok.lt e) hD))]; exact u.tups b xs e
 frzs b ob q e:=by rw[j7 (aV (aS (ok.lt e) hD))]; exact u.frzs b ob q e
 tbls b ps e:=by rw[j7 (aV (aS (ok.lt e) hD))]; exact u.tbls b ps e
theorem HOk.adopt {P:Program}{w:World}{H:Hp}{h:Heap}{D:Addr}{o:HO}(ok:HOk P w H h)(hn:H D=none)(new:ObjOk P w (upd H D o) h D o):HOk P w (upd H D o) h:=fun b u e=>by
 by_cases hb:b=D
 ·subst hb; rw[j5] at e; cases e; exact new
 ·rw[j7 hb] at e
  exact(ok b u e).stay (fun c v _ q=>q) (fun c q=>by rw[j7 (jA q hn)]; exact q) fun c xs q=>by rw[j7 (jA q hn)]; exact q
theorem Inv.repin {ad:List (Addr×Obj)}{σ:St}{H:Hp}{s:Shared}{D kS:Addr}{oD oK oK':Obj}{f:Obj->Obj}(I:Inv X (ad++[(D,oD),(kS,oK)]) σ H s)(fk:FpOk X ad H kS)(ne:D≠kS)(e:(s.heap.update kS f).get? kS=some oK')(hc:∀ v,oK'.data≠ .cell v):
  Inv X (ad++[(D,oD),(kS,oK')]) σ H { s with heap:=s.heap.update kS f} :=by
 obtain⟨f0,f1,f2,f3,f4,f5⟩:=fk
 have I1:Inv X (ad++[(D,oD)]) σ H s:=I.pins_of fun p hp=>I.pin p (aq _ (by
  rcases ay.mp hp with z | z
  ·exact ax _ z
  ·exact aq _ (by rw[aO] at z; rw[z]; exact ar ..)))
 have I2:Inv X (ad++[(D,oD)]) σ H { s with heap:=s.heap.update kS f,toks:=s.toks} :=I1.turned (it:=kS) (fun b o hb q=>(bw _ _ (dZ hb)).trans q) f0 f1 f3 f4 fun p hp=>by
  rcases ay.mp hp with z | z
  ·exact f5 p (ax _ z)
  ·rcases ay.mp z with z | z
   ·exact f5 p (aq _ z)
   ·rw[aO] at z
    rw[z]
    exact ne
 refine I2.pins_of fun p hp=>?_
 rcases ay.mp hp with z | z
 ·exact I2.pin p (aq _ (ax _ z))
 ·rcases aM.mp z with z | z
  ·exact I2.pin p (aq _ (aq _ (by rw[z]; exact ar ..)))
  ·rw[aO] at z
   rw[z]
   exact⟨e,f0,f1,f2,hc⟩
theorem jP8 (ok:KeyOk S){P:Program}{w:World}{H:Hp}{h:Heap}(hk:HOk P w H h){KF:V->List Int} :∀ {kvs:List V}{ks:List Value}{us:List V},Vals kvs ks->All2 (fun kv v=>S.KR H kv (KF v)) kvs us->All2 (S.TK h) ks (us.map KF)
 | [],_,[], .nil,_=>trivial
 | _::_,_,_::_, .cons r rs,⟨t,ts⟩=>⟨ok.of hk r t,jP8 ok hk rs ts⟩
theorem jG9:∀ {us:List V}{its:List Value},Vals us its->(∀ v∈us,∃ a,v=V.ref a)->its.map refV=us
 | [],_, .nil,_=>rfl
 | v::us,_, .cons r rs,h=>by
  obtain⟨a,e⟩:=h v (ar ..)
  subst e
  cases r
  rw[bi,jG9 rs fun w hw=>h w (az _ hw)]
  rfl
theorem jG8:∀ {its:List Value},(∀ u∈its,∃ a,u=Value.ref a)->Vals (its.map refV) its
 | [],_=> .nil
 | u::its,h=>by
  obtain⟨a,e⟩:=h u (ar ..)
  subst e
  exact .cons rfl (jG8 fun w hw=>h w (az _ hw))
theorem jFS:∀ {us:List V}{its:List Value},Vals us its->(∀ v∈us,∃ a,v=V.ref a)->∀ u∈its,∃ a,u=Value.ref a
 | [],_, .nil,_,u,hu=>by cases hu
 | v::us,_, .cons r rs,h,u,hu=>by
  obtain⟨a,e⟩:=h v (ar ..)
  subst e
  cases r
  rcases aM.mp hu with z | z
  ·exact⟨a,z⟩
  ·exact jFS rs (fun w hw=>h w (az _ hw)) u z
theorem jKB {ks its:List Value}{f:Value->List Int}{g:Value->List Int} :∀ {ks its:List Value}{us:List V}{KF:V->List Int},ks.map f=us.map KF->its.map refV=us->∀ p∈ks.zip its,f p.1=KF (refV p.2)
 | [],_,_,_,_,_,p,hp=>by cases hp
 | _::_,[],_,_,_,_,p,hp=>by cases hp
 | k::ks,u::its,us,KF,e1,e2,p,hp=>by
  subst e2
  rw[bi,bi,bi] at e1
  injection e1 with q1 q2
  rw[fU] at hp
  rcases aM.mp hp with z | z
  ·rw[z]; exact q1
  ·exact jKB (ks:=ks) (its:=its) (f:=f) (g:=g) q2 rfl p z
theorem jOU (ok:KeyOk S){h:Heap} :∀ {ks:List Value}{ws:List (List Int)},All2 (S.TK h) ks ws->ks.map (S.dc h)=ws
 | [],[],_=>rfl
 | _::_,_::_,⟨t,r⟩=>by rw[bi,ok.dec t,jOU ok r]
end L2
namespace TM
open PySem PySem.Spec PyProof.Rows PySem.W
open L2 (All2)
section
variable {prog:Program}{w:World}{A:Around}{E:Value->Shared->Prop}{s:Shared}
end
end TM
namespace L2
open PySem PySem.Spec PyProof.Rows
variable {X:Cx}{S:KeyS}
def jPN (X:Cx)(f:Value)(ks:List Str)(r:St->List V->List V->Hp->VK->Prop):Prop:=
 ∀ (ad:List (Addr×Obj)) (s:Shared) (σ:St) (H:Hp) (xs zs:List V) (us ws:List Value) (Q:VK),Inv X ad σ H s->Vals xs us->Vals zs ws->r σ xs zs H Q->
  wpAny (model X.prog X.w) X.A (call f us (ks.zip ws)) (EP X ad σ Q) X.xe s
def tCBKS (r:St->List V->List V->Hp->VK->Prop)(t tk:TA):TE:=fun σ H Q=>t σ H fun vs H1=>tk σ H1 fun zs H2=>r σ vs zs H2 Q
section
variable {x:Str}{p pos kpos:Pos}{e:Expr}{es:List Expr}{kws:List Keyword}{t tk:TA}{te:TE}{nm:Option Str}{ks:List Str}{id:String}{r:St->List V->List V->Hp->VK->Prop}
theorem jK1 (hc:jPN X (.builtin id) ks r)(hg:Gl1 X x)(hm:X.mg x=none)(hv:bootBuiltins x=some (.builtin id))(ha:JA X (e::es) t)(hkw:JK X kws tk)(he:starEach (e::es) X.env=(false,eval e X.env)::starEach es X.env)
  (hn:x≠ "__name__" :=by decide) (hdb:(x==("__debug__" :Str))=false:=by decide) (hall:(backToKw pos (keywordEach kws X.env)).all (·.1.isSome)=true:=by rfl) (hks:(backToKw pos (keywordEach kws X.env)).filterMap (·.1)=ks:=by rfl)
  (hpl:(backTo pos (starEach es X.env)).any (·.1)=false:=by rfl) (hkn:(backToKw pos (keywordEach kws X.env)).any (·.1.isNone)=false:=by rfl):JE X (.Call (.Name x p) (e::es) kws pos) (tCBKS r t tk):=by
 refine⟨fun ad s σ H Q I h=>?_⟩
 refine dM (jBV I hg.a hm hv ?_ hn hdb)
 refine callWith_kw (lC (ha.h pos ad s σ H _ I h) fun us s1 ⟨vs,H1,I1,r1,q1⟩=>lC (hkw.h pos ad s1 σ H1 _ I1 q1) fun ws s2 ⟨zs,H2,I2,rz,q2⟩=>?_) (by rw[he]; rfl) (by rw[he]; exact hpl) hall hkn
 rw[hks]
 exact hc ad s2 σ H2 vs zs us ws Q I2 r1 rz q2
end
theorem jGJ (ok:KeyOk S){Z:Shared->Hp->Prop}{k:Nat}{q:Addr}{zh:Hp->Prop}{sp:Sp}(F:Callee X.prog X.w X.K X.mg X.base Z zh k q sp)(zo:∀ H H',Ext H H'->zh H->zh H')(hr:Room k X.A.in1.in1){ad:List (Addr×Obj)}{σ:St}{H:Hp}{s:Shared}{D kS:Addr}{oD:Obj}{us:List V}{KF:V->List Int}{E:Value->Shared->Prop}
  (hZ:∀ ad s H,Inv X ad σ H s->Z s H) (hkey:∀ v∈us,∀ (H1:Hp) (Q1:VK),Ext H H1->(∀ r H2,S.KR H2 r (KF v)->Ext H1 H2->Q1 r H2)->sp [v] H1 Q1 E0) (fk:FpOk X ad H kS) (ne:D≠kS) (hkS:s.heap.objs.size<=kS)
  {body:Value->PUnit->Sem (ForInStep PUnit)}(hb:∀ x (sj:Shared) (C:ForInStep PUnit->Shared->Prop),wpAny (model X.prog X.w) X.A.in1.in1 (call (.ref q) [x]) (fun kv s''=>∃ ks e,s''.heap.get? kS=some (seqObj "list" ks e)/\ks.size<sizeLine/\C (.yield ⟨⟩) { s'' with heap:=s''.heap.update kS (Obj.mapSeq (·.push kv))}) (fun _ _=>False) sj->wpAny (model X.prog X.w) X.A.in1.in1 (body x ⟨⟩) C E sj):
  ∀ (r:List Value) (rv:List V) (ks:List Value) (kvs dn:List V) (e:Nat) (sj:Shared) (Hj:Hp),Vals rv r->(∀ v∈rv,v∈us)->ks.length+r.length<=sizeLine->
   Inv X (ad++[(D,oD),(kS,seqObj "list" ks.toArray e)]) σ Hj sj->Un (frs X.stack) [] H Hj s.heap sj.heap->Ext H Hj->zh Hj->Vals kvs ks->All2 (fun kv v=>S.KR Hj kv (KF v)) kvs dn->
   wpAny (model X.prog X.w) X.A.in1.in1 (forIn r PUnit.unit body) (fun _ s'=>∃ ks' kvs' e' H',Inv X (ad++[(D,oD),(kS,seqObj "list" ks'.toArray e')]) σ H' s'/\Un (frs X.stack) [] H H' s.heap s'.heap/\Ext H H'/\Vals kvs' ks'/\All2 (fun kv v=>S.KR H' kv (KF v)) kvs' (dn++rv)) E sj
 | [],rv,ks,kvs,dn,e,sj,Hj,hv,hm,hz,I,u,ex,z,hk,al=>by
  rw[jq]
  cases hv
  exact ah ⟨ks,kvs,e,Hj,I,u,ex,hk,by rw[bg]; exact al⟩
 | x::r,rv,ks,kvs,dn,e,sj,Hj,hv,hm,hz,I,u,ex,z,hk,al=>by
  cases hv with
  | @cons v _ rv' _ rx rs=>
  rw[aW] at hz
  rw[gM]
  refine aa (hb x sj _ ?_)
  have sp1:=hkey v (hm v (ar ..)) Hj (fun r H2=>S.KR H2 r (KF v)/\Ext Hj H2) ex fun r H2 h1 h2=>⟨h1,h2⟩
  refine kh (eQ (F.run X.A.in1.in1 X.stack sj Hj [x] [v] _ E0 hr I.env0.in1.in1 (hZ _ _ _ I) z (.cons rx .nil) sp1) fun fr s' hq=>?_)
  cases fr with
  | error e=>exact hq.elim
  | ok fl=>
   cases fl with
   | ret kv=>
    obtain⟨v',H2,os,bare,un,hok,rel,kr,e2⟩:=hq
    have I2:=Inv.call' I os un hok bare fun b z=>absurd z (by simp)
    obtain⟨gk,nk,_,_,_⟩:=I2.pin (kS,seqObj "list" ks.toArray e) (aq _ (aq _ (az _ (ar ..))))
    have ea:ks.toArray.push kv=(ks++[kv]).toArray:=by simp
    obtain⟨c2,hc2⟩:∃ c2,(s'.heap.update kS (Obj.mapSeq (·.push kv))).get? kS=some (seqObj "list" (ks++[kv]).toArray c2):=⟨_,by rw[<- ea]; exact gO gk (·.push kv)⟩
    have I3:=I2.repin (oK':=seqObj "list" (ks++[kv]).toArray c2) ⟨nk,fk.2⟩ ne hc2 (by intro v q; cases q)
    refine⟨_,e,gk,by rw[aK]; lia,?_⟩
    show wpAny (model X.prog X.w) X.A.in1.in1 (forIn r PUnit.unit body) _ E _
    have u3:=(u.trans un).out (h2:=s'.heap.update kS (Obj.mapSeq (·.push kv))) fun b hb=>bw _ _ (cK (aS hb hkS))
    have:=jGJ ok F zo hr hZ hkey fk ne hkS hb r rv' (ks++[kv]) (kvs++[v']) (dn++[v]) c2 _ H2 rs (fun w hw=>hm w (az _ hw)) (by rw[aG,gn]; lia) I3 u3 (ex.trans e2) (zo _ _ e2 z) (hk.append (.cons rel .nil)) (All2.snoc (All2.imp (fun a b q=>ok.mono (fun c xs h=>e2 c _ h) q) al) kr)
    rw[aU] at this
    exact this
   | next=>exact False.elim hq
   | brk=>exact False.elim hq
   | cont=>exact False.elim hq
theorem jFN {ι:Type}(ok:KeyOk S){k:Nat}{Z:ι->Shared->Hp->Prop}{G:ι->St->Prop}{sp:ι->Sp}{zh:Addr->Addr->Hp->Prop}(F:∀ i q c,Callee X.prog X.w X.K X.mg X.base (Z i) (zh q c) k q (sp i))(hZ:∀ i ad s σ H,Inv X ad σ H s->G i σ->Z i s H)(zo:∀ q c H H',Ext H H'->zh q c H->zh q c H')(hr:Room (k+2) X.A):
  jPN X (.builtin "sorted") [Str.ofString "key"] (fun σ xs zs H Q=>∃ (p:Addr) (us:List V) (q c:Addr) (KF:V->List Int) (i:ι),G i σ/\xs=[.ref p]/\zs=[.ref q]/\SqL X.K H p us/\zh q c H/\(∀ v∈us,∃ a,v=V.ref a)/\
   (∀ v∈us,∀ (H1:Hp) (Q1:VK),Ext H H1->(∀ r H2,S.KR H2 r (KF v)->Ext H1 H2->Q1 r H2)->sp i [v] H1 Q1 E0)/\
   ∀ (l:Addr) (us':List V) (H':Hp),H l=none->us'.Perm us->us'.Pairwise (fun u v=>HT.lexLt (KF v) (KF u)=false)->Ext H H'->H' l=some (.lst us')->Q (.ref l) H'):=by
 intro ad s σ H xs zs us0 ws0 Q I r1 r2 h
 obtain⟨p,us,q,c,KF,i,gi,rfl,rfl,hp,hz,hrf,hkey,fin⟩:=h
 obtain⟨u,rfl,rx⟩:=r1.one
 cases rx
 obtain⟨u2,rfl,ry⟩:=r2.one
 cases ry
 obtain⟨its,rv,pl,hlen⟩:=I.list hp
 have rl:=rv.length
 show wpAny (model X.prog X.w) X.A (call (.builtin "sorted") [.ref p] [(Str.ofString "key", .ref q)]) (EP X ad σ Q) X.xe s
 refine call_function_entry_kw kind_sorted plain_sorted entry_sorted (ksk_s1 _ _) ?_
 unfold Builtin.«sorted»
 refine aa (m:=checkCount "sorted" 1 1 _) (ah ?_)
 refine aa (collect_list pl.isList ?_ (by lia))
 refine aa (gy ?_ (by lia))
 have hsz:((s.heap.push (seqObj "list" #[] 0)).update s.heap.objs.size (Obj.mapSeq (· ++its.toArray))).objs.size=s.heap.objs.size+1:=by
  rw[Heap.size_update,iV]
 have hoL:(((s.heap.push (seqObj "list" #[] 0)).update s.heap.objs.size (Obj.mapSeq (· ++its.toArray))).push (seqObj "list" its.toArray 0)).get? (s.heap.objs.size+1)=some (seqObj "list" its.toArray 0):=by
  rw[<- hsz]; exact aJ _ rfl
 have k5:∀ b o,s.heap.get? b=some o->(((s.heap.push (seqObj "list" #[] 0)).update s.heap.objs.size (Obj.mapSeq (· ++its.toArray))).push (seqObj "list" its.toArray 0)).get? b=some o:=fun b o q=>by
  refine ae _ ?_
  rw[bw _ _ (cK (aE q))]
  exact ae _ q
 have z5:(((s.heap.push (seqObj "list" #[] 0)).update s.heap.objs.size (Obj.mapSeq (· ++its.toArray))).push (seqObj "list" its.toArray 0)).objs.size=s.heap.objs.size+2:=by rw[iV,hsz]
 show wpAny _ _ _ _ _ { s with heap:=((s.heap.push (seqObj "list" #[] 0)).update s.heap.objs.size (Obj.mapSeq (· ++its.toArray))).push (seqObj "list" its.toArray 0)}
 rw[hsz]
 generalize ((s.heap.push (seqObj "list" #[] 0)).update s.heap.objs.size (Obj.mapSeq (· ++its.toArray))).push (seqObj "list" its.toArray 0)=h5 at hoL k5 z5
 have hD:s.heap.objs.size<=s.heap.objs.size+1:=iu _
 have hDk:s.heap.objs.size+1≠h5.objs.size+1:=by lia
 have hkS:s.heap.objs.size<=h5.objs.size+1:=by lia
 generalize s.heap.objs.size+1=D at hoL hD hDk
 refine aa (cI (wpAny_call_entry_kw slot_list_sort ⟨_,hoL,rfl⟩ entry_list_sort ?body (ksk_l1 _ _)))
 case body=>
  show wpAny (model X.prog X.w) X.A.in1.in1 (Builtin.«list.sort» ⟨[.ref D],[(Str.ofString "key", .ref q)]⟩) _ _ _
  rw[ksk_t1]
  unfold ksk_tree
  refine aa (listItems_at hoL rfl ?_)
  refine aa (eY hoL rfl ?_ (by rw[aK]; lia) (ba _))
  obtain⟨e1,ho1⟩:∃ e1,(h5.update D (Obj.mapSeq fun _=>(#[]:Array Value))).get? D=some (seqObj "list" #[] e1):=⟨_,gO hoL fun _=>#[]⟩
  refine aa (iA ho1 rfl ?_)
  refine aa (g9 ?_ (by show its.length<=_; lia))
  refine aa (gy ?_ (ba _))
  refine cI ?_
  have hkz:((h5.update D (Obj.mapSeq fun _=>(#[]:Array Value))).push (seqObj "tuple" its.toArray 0)).objs.size=h5.objs.size+1:=by rw[iV,Heap.size_update]
  have hoK:(((h5.update D (Obj.mapSeq fun _=>(#[]:Array Value))).push (seqObj "tuple" its.toArray 0)).push (seqObj "list" #[] 0)).get? (h5.objs.size+1)=some (seqObj "list" #[] 0):=by
   rw[<- hkz]; exact aJ _ rfl
  have hoD:(((h5.update D (Obj.mapSeq fun _=>(#[]:Array Value))).push (seqObj "tuple" its.toArray 0)).push (seqObj "list" #[] 0)).get? D=some (seqObj "list" #[] e1):=ae _ (ae _ ho1)
  have k6:∀ b o,s.heap.get? b=some o->(((h5.update D (Obj.mapSeq fun _=>(#[]:Array Value))).push (seqObj "tuple" its.toArray 0)).push (seqObj "list" #[] 0)).get? b=some o:=fun b o z=>by
   refine ae _ (ae _ ?_)
   rw[bw _ _ (cK (aS (aE z) hD))]
   exact k5 b o z
  show wpAny _ _ (ksk_rest D (.ref q) false its.toArray e1 (.ref ((h5.update D (Obj.mapSeq fun _=>(#[]:Array Value))).push (seqObj "tuple" its.toArray 0)).objs.size)) _ _ { s with heap:=((h5.update D (Obj.mapSeq fun _=>(#[]:Array Value))).push (seqObj "tuple" its.toArray 0)).push (seqObj "list" #[] 0)}
  rw[hkz]
  generalize ((h5.update D (Obj.mapSeq fun _=>(#[]:Array Value))).push (seqObj "tuple" its.toArray 0)).push (seqObj "list" #[] 0)=h6 at hoK hoD k6
  generalize h5.objs.size+1=kS at hoK hkS hDk
  have fD:FpOk X ad H D:=I.fpOk hD (I.hok.fresh hD)
  have fK:FpOk X ad H kS:=I.fpOk hkS (I.hok.fresh hkS)
  have I6:Inv X ad σ H { s with heap:=h6,toks:=s.toks} :=I.kept k6
  have I7:Inv X (ad++[(D,seqObj "list" #[] e1),(kS,seqObj "list" ([]:List Value).toArray 0)]) σ H { s with heap:=h6} :=I6.pins_of fun x hx=>by
   rcases ay.mp hx with z | z
   ·exact I6.pin x (aq _ z)
   ·rcases aM.mp z with z | z
    ·rw[z]; exact⟨hoD,fD.1,fD.2.1,fD.2.2.1,by intro v q; cases q⟩
    ·rw[aO] at z
     rw[z]; exact⟨hoK,fK.1,fK.2.1,fK.2.2.1,by intro v q; cases q⟩
  have u7:Un (frs X.stack) [] H H s.heap h6:=Un.kept k6
  unfold ksk_rest
  refine aa (cS ?_)
  rw[<- Array.forIn_toList]
  simp only [List.toList_toArray]
  refine aa (bX (jGJ ok (F i q c) (zo q c) hr.in1.in1 (fun _ _ _ J=>hZ i _ _ _ _ J gi) hkey fK hDk hkS (fun x sj C hx=>?_) its us [] [] [] 0 { s with heap:=h6} H rv (fun v hv=>hv) (by rw[dY]; lia) I7 u7 (Ext.refl _) hz .nil trivial) (fun _ s' hd=>?_) fun _ _ x=>x)
  ·refine aa (dH (bX hx (fun kv s'' hk=>?_) fun _ _ hF=>hF.elim))
   obtain⟨ks,e,gk,sz,hc⟩:=hk
   dsimp only
   refine aa (eY gk rfl ?_ (dF sz) (aX (Nat.le_of_eq (Array.size_push ..)) (by lia)))
   exact ah hc
  ·obtain⟨ks,kvs,e,HN,IN,uN,eN,vk,al⟩:=hd
   rw[gL] at al
   obtain⟨gD,nD,_,_,_⟩:=IN.pin (D,seqObj "list" #[] e1) (aq _ (aq _ (ar ..)))
   obtain⟨gK,nK,_,_,_⟩:=IN.pin (kS,seqObj "list" ks.toArray e) (aq _ (aq _ (az _ (ar ..))))
   refine aa (listItems_at gK rfl ?_)
   have tk:=jP8 ok IN.hok vk al
   have kl:ks.length=its.length:=by rw[<- vk.length,al.len]; exact rl
   have un:=hr.un
   refine jLV ok kl (by lia) tk (by rw[Around.in1_units,Around.in1_units]; lia) gD gK hDk fun ps pm pw=>⟨_,rfl,ah ⟨_,rfl,?_⟩⟩
   have bk:=jG9 rv hrf
   have dk:∀ x∈ks.zip its,S.dc s'.heap x.1=KF (refV x.2):=jKB (g:=fun _=> []) (ks:=[]) (its:=[]) (jOU ok tk) bk
   have pi:(ps.map Prod.snd).Perm its:=by
    have:=pm.map Prod.snd
    rw[List.map_snd_zip (by lia)] at this
    exact this
   have rf:∀ u∈ps.map Prod.snd,∃ a,u=Value.ref a:=fun u hu=>jFS rv hrf u (pi.mem_iff.mp hu)
   have p1:((ps.map Prod.snd).map refV).Perm us:=by rw[<- bk]; exact pi.map _
   have p2:((ps.map Prod.snd).map refV).Pairwise fun u v=>HT.lexLt (KF v) (KF u)=false:=by
    rw[dv,dv]
    exact(List.Pairwise.and_mem.mp pw).imp fun {a b} h=>by
     rw[<- dk a (pm.mem_iff.mp h.1),<- dk b (pm.mem_iff.mp h.2.1)]
     exact h.2.2
   obtain⟨e9,he9⟩:∃ e9,((s'.heap.update kS (Obj.mapSeq fun _=>(#[]:Array Value))).update D (Obj.mapSeq fun _=>(ps.map Prod.snd).toArray)).get? D=some (seqObj "list" (ps.map Prod.snd).toArray e9):=⟨_,gO ((bw _ _ (dZ hDk)).trans gD) fun _=>(ps.map Prod.snd).toArray⟩
   have oth:∀ b,b≠D->b≠kS->((s'.heap.update kS (Obj.mapSeq fun _=>(#[]:Array Value))).update D (Obj.mapSeq fun _=>(ps.map Prod.snd).toArray)).get? b=s'.heap.get? b:=fun b n1 n2=>(bw _ _ (dZ n1)).trans (bw _ _ (dZ n2))
   generalize (s'.heap.update kS (Obj.mapSeq fun _=>(#[]:Array Value))).update D (Obj.mapSeq fun _=>(ps.map Prod.snd).toArray)=hf at he9 oth
   have nt:∀ b o,HN b=some o->b≠D/\b≠kS:=fun b o z=>⟨fun y=>(by rw[y,nD] at z; cases z),fun y=>(by rw[y,nK] at z; cases z)⟩
   have ok1:HOk X.prog X.w HN hf:=fun b o z=>(IN.hok b o z).stay (fun c v hc y=>by
    have:c≠D/\c≠kS:=by
     rcases hc with e | e
     ·rw[e]; exact nt b o z
     ·exact nt c _ e
    rw[oth c this.1 this.2]
    exact y) (fun _ y=>y) fun _ _ y=>y
   have pz:((ps.map Prod.snd).map refV).length<=sizeLine:=by rw[ab,pi.length_eq]; lia
   have ok2:HOk X.prog X.w (upd HN D (.lst ((ps.map Prod.snd).map refV))) hf:=ok1.adopt nD ⟨pz,ps.map Prod.snd,e9,jG8 rf,he9⟩
   have u9:Un (frs X.stack) [] H (upd HN D (.lst ((ps.map Prod.snd).map refV))) s.heap hf:=(uN.out fun b hb=>oth b (aV (aS hb hD)) (aV (aS hb hkS))).track I.hok hD
   have I9:Inv X ad σ (upd HN D (.lst ((ps.map Prod.snd).map refV))) { s' with heap:=hf} :=Inv.call' I (IN.os.trans I.os.symm) u9 ok2 IN.bare fun b z=>absurd z (by simp)
   exact⟨.ref D,_,I9,rfl,fin D _ _ (I.hok.fresh hD) p1 p2 (fun b o z=>by rw[j7 (aV (aS (I.hok.lt z) hD))]; exact eN b o z) j5⟩
def IntK (u:Value)(l:List Int):Prop:=∃ i t,u=Value.int i t/\l=[i]
def decI:Value->List Int
 | .int i _=> [i]
 | _=> []
theorem jGQ:∀ {vs:List Value}{ws:List (List Int)},All2 IntK vs ws->∃ ns,IntsAre vs ns
 | [],[],_=>⟨[], .nil⟩
 | _::_,_::_,⟨⟨i,t,e,_⟩,r⟩=>by
  obtain⟨ns,h⟩:=jGQ r
  rw[e]
  exact⟨i::ns, .cons i t h⟩
theorem jO8 (i:Int)(t:Tok):keyKind' [Value.int i t].toArray=pure oneType':=by
 have hI:IntsAre [Value.int i t] [i]:= .cons i t .nil
 rw[keyKind'_eq,List.mapM_toArray,mapM_first_ints hI]
 simp [oneTypeOnly'_eq,List.mapM_toArray,mapM_typeOf_ints hI]
theorem jOC {prog:Program}{w:World}{A:Around}{E:Value->Shared->Prop}{s:Shared}{vs:List Value}{ws:List (List Int)}{Q:SortKind->Shared->Prop}(t:All2 IntK vs ws)(h2:vs≠ [])(h:Q oneType' s):wpAny (model prog w) A (keyKind' vs.toArray) Q E s:=by
 obtain⟨ns,hI⟩:=jGQ t
 match vs,hI,h2 with
 | [],_,h2=>exact absurd rfl h2
 | [_], .cons i t .nil,_=>
  rw[jO8]
  exact ah h
 | _::_::_,hI,_=>
  rw[keyKind_ints hI]
  exact ah h
def keyI:KeyS:=⟨fun _ u l=>IntK u l,fun _ v l=>∃ i:Int,v=V.int i/\l=[i],fun _=>oneType',fun _ u=>decI u⟩
theorem jR9:KeyOk keyI where
 of:=fun {P w H h v u l} _ r k=>by
  obtain⟨i,rfl,rfl⟩:=k
  obtain⟨t,rfl⟩:=r
  exact⟨i,t,rfl,rfl⟩
 mono:=fun _ k=>k
 dec:=fun {h u l} k=>by
  obtain⟨i,t,rfl,rfl⟩:=k
  rfl
 kind:=fun {prog w A E s vs ws Q} t h2 h=>jOC t h2 h
 lt:=fun {prog w A E s ws u v x y Q} hu hv room h=>by
  obtain⟨i,t,rfl,rfl⟩:=hu
  obtain⟨j,t',rfl,rfl⟩:=hv
  show wpAny (model prog w) A (keyLt' oneType' _ _) Q E s
  rw[keyLt'_oneType]
  refine oneLt_int ?_
  have e:HT.lexLt [i] [j]=decide (i<j):=by
   rw[HT.lexLt_cons]
   by_cases q:i=j
   ·rw[ak q,q]
    simp [HT.lexLt]
   ·rw[aj q]
  rw[e] at h
  exact h
def Itv (K:W.Frag)(a:Addr)(n:Nat):It:=⟨fun i H=>i<n/\∃ xs,SqL K H a xs/\xs.length=n,fun i H x H'=>H'=H/\∀ xs,SqL K H a xs->xs[n - 1 - i]?=some x,fun i _=>i=n⟩
theorem jNG {P:Program}{w:World}{K:W.Frag}{tg:Expr}(a it:Addr)(n:Nat):Turn P w K tg (Itv K a n) [it] it (fun i h=>h.IsRevIter it a ((n:Int) - 1 - (i:Int))) where
 mem:=by simp
 obj:=fun i h st b hb=>by
  have e:b=it:=by simpa using hb
  subst e
  obtain⟨o,e,c,d⟩:=st
  exact⟨o,e,fun v z=>by rw[d] at z; cases z⟩
 keep:=fun i h h' st k=>st.at fun o e=>k it (by simp) o e
 item:=by
  intro X hP hw hK hc i ad s σ H E I hf st hg
  subst hP hw hK
  obtain⟨hi,xs,hq,hx⟩:=hg
  obtain⟨its,rv,p,hz⟩:=I.list hq
  have hj:n - 1 - i<xs.length:=by lia
  obtain⟨u,hu,ru⟩:=rv.get (ag hj)
  obtain⟨f0,f1,f2,f3,f4,f5⟩:=hf it (by simp)
  have ei:(n:Int) - 1 - (i:Int)=((n - 1 - i:Nat):Int):=by lia
  have st0:s.heap.IsRevIter it a ((n - 1 - i:Nat):Int):=by rw[<- ei]; exact st
  refine wpAny_pyNext_rev_item st0 p.isList (x:=u) (by simpa using hu) fun h' st' sb=>?_
  have I1:Inv X ad σ H { s with heap:=h'} :=I.turned (t':=s.toks) (fun b o hb e=>(sb.2 b hb).trans e) f0 f1 f3 f4 f5
  have e2:((n - 1 - i:Nat):Int) - 1=(n:Int) - 1 - ((i+1:Nat):Int):=by lia
  rw[e2] at st'
  obtain⟨o,e,c,d⟩:=id st'
  exact⟨u,rfl,go_of (s:= { s with heap:=h'}) e c d (by decide) ⟨xs[n - 1 - i],H,I1,ru,⟨rfl,fun ys hy=>by rw[I.list_inj hy hq]; exact ag hj⟩,st',fun b hb=>(hf b hb).1⟩⟩
 done:=by
  intro X hP hw hK hc i ad s σ H E I hf st hg
  subst hP hw hK
  obtain⟨f0,f1,f2,f3,f4,f5⟩:=hf it (by simp)
  have hg:i=n:=hg
  subst hg
  have ei:(i:Int) - 1 - (i:Int)= -1:=by lia
  have st0:s.heap.IsRevIter it a (-1):=by rw[<- ei]; exact st
  exact wpAny_pyNext_rev_end (I.ok.hd hc) st0 fun h' eb=>⟨rfl,I.turned (t':=s.toks) (fun b o hb e=>eb b o hb e) f0 f1 f3 f4 f5⟩
 self:=fun _ _ _ _ _ st h=>wpAny_pyIter_revIter st h
section
variable {tg:Expr}
def iRev (K:W.Frag)(ta:TA):TI:=fun σ H R=>ta σ H fun vs H1=>∃ l xs,vs=[.ref l]/\SqL K H1 l xs/\R (Itv K l xs.length) H1
theorem jSM {a:Expr}{ta:TA}{p pos:Pos}(hg:Gl X "reversed")(hm:X.mg "reversed" =none)(ha:PA X [a] ta)(hv:bootBuiltins "reversed" =some (.type "reversed"):=by decide+kernel)
  (he:starEach [a] X.env=(false,eval a X.env)::starEach [] X.env:=by rfl) (hpl:(backTo pos (starEach [] X.env)).any (·.1)=false:=by rfl):
  PI X tg (.Call (.Name "reversed" p) [a] [] pos) (iRev X.K ta):=by
 intro ad s σ H R I h
 refine Call_ (jBV I hg hm hv (cP (lC (ha pos ad s σ H _ I h) fun us s1 ⟨vs,H1,I1,r1,q1⟩=>?_) he hpl))
 obtain⟨l,xs,rfl,hq,q⟩:=q1
 obtain⟨u,rfl,ru⟩:=r1.one
 cases ru
 obtain⟨its,rv,p1,_⟩:=I1.list hq
 refine call_reversed_list p1.isList ?_
 have e:((its.toArray.size:Nat):Int) - 1=(xs.length:Int) - 1 - ((0:Nat):Int):=by
  have:=rv.length
  rw[aK,this]
  simp
 rw[e]
 have hit:Heap.IsRevIter (s1.heap.push (revObj l ((xs.length:Int) - 1 - ((0:Nat):Int)))) s1.heap.objs.size l ((xs.length:Int) - 1 - ((0:Nat):Int)):=⟨_,aJ _ rfl,rfl,rfl⟩
 refine wpAny_pyIter_revIter (s:= { s1 with heap:=s1.heap.push (revObj l ((xs.length:Int) - 1 - ((0:Nat):Int)))}) hit ⟨s1.heap.objs.size,[s1.heap.objs.size],_,_,H1,rfl,I1.kept (t':=s1.toks) fun b o e=>ae _ e,jNG l _ xs.length,hit,fun b hb=>?_,q⟩
 have e:b=s1.heap.objs.size:=by simpa using hb
 subst e
 exact I1.fpOk (ai _) (I1.hok.fresh (ai _))
theorem jTK {a:Expr}{t:TA}{p pos:Pos}(hg:Gl1 X "reversed")(hm:X.mg "reversed" =none)(ha:JA X [a] t)(he:starEach [a] X.env=(false,eval a X.env)::starEach [] X.env)(hv:bootBuiltins "reversed" =some (.type "reversed"):=by decide+kernel)
  (hpl:(backTo pos (starEach [] X.env)).any (·.1)=false:=by rfl):JI X tg (.Call (.Name "reversed" p) [a] [] pos) (iRev X.K t):=⟨jSM hg.a hm ha.h hv he hpl⟩
end
theorem jRJ {K:W.Frag}{a:Addr}{xs:List V}{g:TG}{tb:TS}{D:Ends}{σ:St}{H:Hp}(Pv:Nat->St->Hp->Prop)(h0:Pv 0 σ H)(hl:∀ i σ H,i<=xs.length->Pv i σ H->SqL K H a xs)
  (hs:∀ i x σ H,i<xs.length->xs[xs.length - 1 - i]?=some x->Pv i σ H->g x σ H fun σ2 H2=>tb { D with nx:=Pv (i+1),ct:=Pv (i+1),bk:=D.nx} σ2 H2) (hd:∀ σ H,Pv xs.length σ H->D.nx σ H):
  ∃ W:Nat->Nat->St->Hp->Prop,(∃ m,W 0 m σ H)/\∀ i m σ H,W i m σ H->
   ((Itv K a xs.length).stop i H/\D.nx σ H)\/((Itv K a xs.length).go i H/\∃ N:St->Hp->Prop,(∀ σ' H',N σ' H'->∃ m',m'<m/\W (i+1) m' σ' H')/\∀ x H',(Itv K a xs.length).yld i H x H'->g x σ H' fun σ2 H2=>tb { D with nx:=N,ct:=N,bk:=D.nx} σ2 H2):=by
 refine⟨fun i m σ H=>m=xs.length - i/\i<=xs.length/\Pv i σ H,⟨xs.length,by simp,ba _,h0⟩,?_⟩
 rintro i m σ H ⟨rfl,hi,p⟩
 have q:=hl i σ H hi p
 by_cases hlt:i<xs.length
 ·refine .inr ⟨⟨hlt,xs,q,rfl⟩,Pv (i+1),fun σ' H' p'=>⟨xs.length - (i+1),by lia,rfl,hlt,p'⟩,fun x H' y=>?_⟩
  obtain⟨e,y⟩:=y
  subst e
  exact hs i x σ _ hlt (y xs q) p
 ·have e:i=xs.length:=by lia
  subst e
  exact .inl ⟨rfl,hd σ H p⟩
end L2
namespace L2
open PySem
theorem jRI {K:W.Frag}{t1 t2:Bool}{l1 l2:Addr}{xs ys:List V}{g:TG}{tb:TS}{D:Ends}{σ:St}{H:Hp}(Pv:Nat->St->Hp->Prop)(h0:Pv 0 σ H)(hl:∀ i σ H,Pv i σ H->Sq t1 K H l1 xs/\Sq t2 K H l2 ys)
  (hs:∀ i x y T σ H,xs[i]?=some x->ys[i]?=some y->H T=none->Pv i σ H->g (.ref T) σ (upd H T (.tup [x,y])) fun σ2 H2=>tb { D with nx:=Pv (i+1),ct:=Pv (i+1),bk:=D.nx} σ2 H2) (hd:∀ σ H,Pv (min xs.length ys.length) σ H->D.nx σ H):
  ∃ W:Nat->Nat->St->Hp->Prop,(∃ m,W 0 m σ H)/\∀ i m σ H,W i m σ H->
   ((Itz t1 t2 K l1 l2).stop i H/\D.nx σ H)\/((Itz t1 t2 K l1 l2).go i H/\∃ N:St->Hp->Prop,(∀ σ' H',N σ' H'->∃ m',m'<m/\W (i+1) m' σ' H')/\∀ x H',(Itz t1 t2 K l1 l2).yld i H x H'->g x σ H' fun σ2 H2=>tb { D with nx:=N,ct:=N,bk:=D.nx} σ2 H2):=by
 refine⟨fun i m σ H=>m=min xs.length ys.length - i/\i<=min xs.length ys.length/\Pv i σ H,⟨_,rfl,ba _,h0⟩,?_⟩
 rintro i m σ H ⟨rfl,hi,p⟩
 obtain⟨s1,s2⟩:=hl i σ H p
 by_cases hlt:i<min xs.length ys.length
 ·have a1:i<xs.length:=by lia
  have a2:i<ys.length:=by lia
  refine .inr ⟨⟨xs,ys,xs[i],ys[i],s1,s2,by simp [a1],by simp [a2]⟩,Pv (i+1),fun σ' H' p'=>⟨min xs.length ys.length - (i+1),by lia,rfl,hlt,p'⟩,fun v H'' y=>?_⟩
  obtain⟨T,x,y,e1,e2,e3,e4⟩:=y
  subst e2 e3
  obtain⟨z1,z2⟩:=e4 xs ys s1 s2
  exact hs i x y T σ _ z1 z2 e1 p
 ·have e:i=min xs.length ys.length:=by lia
  subst e
  exact .inl ⟨⟨xs,ys,s1,s2,by lia⟩,hd σ H p⟩
end L2
open PySem L2
variable {P:Program}{w:World}{K:W.Frag}{mg:Str->Option Value}{base:Heap}{f fT fL fW fR fG fM fF fA fC a c c0 tb fP fK fN:Addr}{fdT fdL fdW fdR fdG fdM fdF fdA fdC fdP fdK fdN:FuncData}{cdv:Value}{A:Around}{outer:List Env}{s:Shared}{H0:Hp}{E:XK}{ms:List Int}{lB:List (List Int×Int)}{cl:List (Str×Addr)}{m:Nat}{cs:List (List Int)}
namespace Eo
open PySem L2
def Keep (H H':Hp)(p:Addr):Prop:=∀ b o,H b=some o->b≠p->H' b=some o
structure Txt (mg:Str->Option Value):Prop where
 len:mg "len" =none
 range:mg "range" =none
 tuple:mg "tuple" =none
 sorted:mg "sorted" =none
 set:mg "set" =none
 list:mg "list" =none
 int:mg "int" =none
 isinstance:mg "isinstance" =none
 bool:mg "bool" =none
 str:mg "str" =none
 all:mg "all" =none
 zip:mg "zip" =none
 max:mg "max" =none
 min:mg "min" =none
 any:mg "any" =none
 abs:mg "abs" =none
 sum:mg "sum" =none
 enumerate:mg "enumerate" =none
 reversed:mg "reversed" =none
 dict:mg "dict" =none
structure Can (P:Program)(w:World)(K:W.Frag)(mg:Str->Option Value)(base:Heap)(x:Str)(k:Nat)(f:Addr)(fd:FuncData)(ps:List Str)(sp:Sp):Prop where
 G:FnOk P w K mg base CX0 k f fd ps sp
 m:mg x=some (.ref f)
 kp:keepIn K (.ref f)=true
 b:Binds K fd ps []
theorem Can.pe {X:Cx}{x:Str}{k:Nat}{f:Addr}{fd:FuncData}{ps:List Str}{sp:Sp}{e:Expr}{es:List Expr}{t:TA}{p pos:Pos}(C:Can X.prog X.w X.K X.mg X.base x k f fd ps sp)(hr:Room k X.A)(hg:Gl X x)(ha:PA X (e::es) t)(hdb:(x==("__debug__" :Str))=false:=by decide)
  (he:starEach (e::es) X.env=(false,eval e X.env)::starEach es X.env:=by rfl) (hpl:(backTo pos (starEach es X.env)).any (·.1)=false:=by rfl):PE X (.Call (.Name x p) (e::es) [] pos) (tCall sp [] E0 t):=
 jQK C.G hr hg C.m C.kp C.b .nil pass0 ha hdb he hpl
theorem Can.je {X:Cx}{x:Str}{k:Nat}{f:Addr}{fd:FuncData}{ps:List Str}{sp:Sp}{e:Expr}{es:List Expr}{t:TA}{p pos:Pos}(C:Can X.prog X.w X.K X.mg X.base x k f fd ps sp)(hr:Room k X.A)(hg:Gl1 X x)(ha:JA X (e::es) t)(he:starEach (e::es) X.env=(false,eval e X.env)::starEach es X.env)
  (hdb:(x==("__debug__" :Str))=false:=by decide) (hpl:(backTo pos (starEach es X.env)).any (·.1)=false:=by rfl):JE X (.Call (.Name x p) (e::es) [] pos) (tCall sp [] E0 t):=
 ⟨C.pe hr hg.a ha.h hdb he hpl⟩
def jKU (K:W.Frag):Sp:=fun vs H Q _=>∃ (a:Addr) (ns:List Int) (k:Int),vs=[.ref a, .int k]/\SqL K H a (ns.map V.int)/\0<=k/\∀ c:Int,Q (.int c) H
theorem jS9:FnScope ["script","k"] ["script","k"] (j8 sCell):= {}
theorem jQZ {f:Addr}{fd:FuncData}(F:Fun K "_law_cell_at" "_law_cell_at" sCell f fd)(T:Txt mg):FnOk P w K mg base CX0 1 f fd ["script","k"] (jKU K):=by
 refine F.ok jS9 (fun vs H Q E h=>?_) (fun cdv A outer s H vs Q E hr h=>?_)
 ·obtain⟨a,ns,k,rfl,_⟩:=h
  rfl
 ·obtain⟨a,ns,k,rfl,hS,h0,q⟩:=h
  refine⟨_,kR (ps_if (jDL op_lt (pv 1) (jF0 jO (by rfl) T.len PySem.boot_len (kB (pv 0) yE)) (jM _)) (jAT (jCV (pe_ix yB (pv 0) (pv 1) (fun _ _=>rfl)))) jEY) (jAT (jCV jP)),?_⟩
  refine⟨_,rfl,_,rfl,a,_,rfl, .inl hS,_,_,rfl,rfl,_,rfl,?_⟩
  refine ite2 (fun hlt=>?_) (fun _=>?_)
  ·have hlt:k<((ns.map V.int).length:Int):=aP hlt
   have hk:k.toNat<ns.length:=by rw[ab] at hlt; lia
   refine⟨_,rfl,_,rfl,a,_,k, .int (ns[k.toNat]),rfl,rfl,hS,?_,q _⟩
   have e:(k.toNat:Int)=k:=by lia
   have q2:=jCM (xs:=ns.map V.int) (j:=k.toNat) (v:=V.int ns[k.toNat]) (by simp [hk])
   rw[e] at q2
   exact q2
  ·exact q 0
def yL:Sp:=fun vs H Q _=>∃ (p:Addr) (N w:Int),vs=[.ref p, .int w]/\H p=some (.lst [.int N])/\0<=N/\0<w/\w<2 ^ 64/\∀ N' r:Int,0<=N'->0<=r->r<w->Q (.int r) (upd H p (.lst [.int N']))
theorem scTake:FnScope ["pot","wide","found"] ["pot","wide"] (j8 sTake):= {}
theorem jQR {f:Addr}{fd:FuncData}(F:Fun K "_law_take" "_law_take" sTake f fd):FnOk P w K mg base CX0 1 f fd ["pot","wide"] yL:=by
 refine F.ok scTake (fun vs H Q E h=>?_) (fun cdv A outer s H vs Q E hr h=>?_)
 ·obtain⟨a,ns,k,rfl,_⟩:=h
  rfl
 ·obtain⟨p,N,w,rfl,hp,h0,h1,h2,q⟩:=h
  refine⟨_,kR (yV (i:=2) scTake.nd rfl (Or.inl rfl) (kO jCY (pe_ix yB (pv 0) jP (fun _ _=>rfl)) (pv 1)))
   (kR (jP1 (kO jIP (pe_ix yB (pv 0) jP (fun _ _=>rfl)) (pv 1)) (jP2 (pv 0) jP jEV))
   (jAT (jCV (pv 2)))),?_⟩
  refine⟨_,rfl,p,_,0, .int N,rfl,rfl,SqL.of hp,rfl,_,rfl,_,_,rfl,rfl,h1,?_⟩
  refine⟨_,rfl,p,_,0, .int N,rfl,rfl,SqL.of hp,rfl,_,rfl,_,_,rfl,rfl,⟨h1,h2⟩,?_⟩
  refine⟨_,rfl,p,_,0,0,rfl,rfl,hp,rfl,_,rfl,?_⟩
  exact q _ _ (Int.ediv_nonneg h0 (by lia)) (jc _ (by lia)) (ie _ h1)
def spPot:Sp:=fun vs H Q _=>∃ c:Int,vs=[.int c]/\∀ (p:Addr) (N:Int),H p=none->0<=N->Q (.ref p) (upd H p (.lst [.int N]))
theorem scPot:FnScope ["cell","number","j","more"] ["cell"] (j8 sPot):= {}
theorem jSZ {f:Addr}{fd:FuncData}(F:Fun K "_law_pot" "_law_pot" sPot f fd)(T:Txt mg):FnOk P w K mg base CX0 1 f fd ["cell"] spPot:=by
 refine F.ok scPot (fun vs H Q E h=>?_) (fun cdv A outer s H vs Q E hr h=>?_)
 ·obtain⟨c,rfl,_⟩:=h
  rfl
 ·obtain⟨c,rfl,q⟩:=h
  have one: [V.int 0].length<=sizeLine:=by show 1<=sizeLine; decide
  refine⟨_,kR (ps_if (jDL op_ge (pv 0) (kO jL6 jP jP) (jM _)) (jAT (jCV (jIN (kB (kO jCX (pv 0) (kO jL6 jP jP)) yE)))) jEY)
   (kR (yV (i:=1) scPot.nd rfl (Or.inl rfl) jP)
   (kR (jP0 bx rfl (jBQ rfl T.range (kB jP yE)) (jEZ (i:=2) scPot.nd rfl (Or.inl rfl))
    (kR (yV (i:=3) scPot.nd rfl (Or.inl rfl) (kO jCY (kO yS (kO yF (kO yF (kO jCY (pv 0) jP) (kO yS jP (pv 2))) jP) jP) jP))
    (kR (yV (i:=3) scPot.nd rfl (Or.inl rfl) (kO jCY (kO yF (kO yF (kO yS (pv 3) (pv 3)) (kO yS jP (pv 2))) jP) jP))
    (jAT (yV (i:=1) scPot.nd rfl (Or.inl rfl) (kO yF (kO yS (pv 1) jP) (pv 3)))))))
   (jAT (jCV (jIN (kB (pv 1) yE)))))),?_⟩
  refine⟨_,rfl,_,_,rfl,rfl,⟨by decide,by decide,by decide⟩,_,_,rfl,rfl,_,rfl,?_⟩
  refine ite2 (fun hge=>?_) (fun _=>?_)
  ·refine⟨_,rfl,_,_,rfl,rfl,⟨by decide,by decide,by decide⟩,_,_,rfl,rfl,one,fun p hp=>q p _ hp ?_⟩
   exact Int.sub_nonneg_of_le (aP hge)
  ·refine⟨64,rfl,by decide,by decide,jAY (n:=64) (fun i σ H2=>∃ (num:Int) (v1 v2:Option V),σ=[some (.int c),some (.int num),v1,v2]/\0<=num/\H2=H) ⟨0,none,none,rfl,ev _,rfl⟩ ?_ ?_⟩
   ·rintro i σ H2 hi ⟨num,v1,v2,rfl,hn,rfl⟩
    refine⟨_,rfl,_,_,rfl,rfl,(by show (0:Int)<2147483629; decide),_,rfl,_,_,rfl,rfl, .inl ⟨by decide,by decide⟩,_,_,rfl,rfl,_,_,rfl,rfl,_,_,rfl,rfl, .inr ⟨by decide,by decide⟩,_,_,rfl,rfl,(by show (0:Int)<2147483647; decide),?_⟩
    refine⟨_,rfl,_,rfl,_,_,rfl,rfl, .inl ⟨?_,?_⟩,_,rfl,_,_,rfl,rfl, .inl ⟨by decide,by decide⟩,_,_,rfl,rfl,_,_,rfl,rfl,_,_,rfl,rfl,(by show (0:Int)<2147483587; decide),?_⟩
    ·lia
    ·lia
    ·refine⟨_,rfl,_,_,rfl,rfl, .inr ⟨by decide,by decide⟩,_,rfl,_,_,rfl,rfl,?_⟩
     refine⟨_,_,_,rfl,?_,rfl⟩
     lia
   ·rintro σ H2 ⟨num,v1,v2,rfl,hn,rfl⟩
    exact⟨_,rfl,one,fun p hp=>q p num hp hn⟩
theorem jC6 {H:Hp}{a:Addr}{o o':HO} :upd (upd H a o) a o'=upd H a o':=by
 funext b
 unfold upd
 by_cases h:b=a
 ·rw[ak h,ak h]
 ·rw[aj h,aj h,aj h]
theorem y6 {H:Hp}{a b:Addr}{o:HO}(h:upd H a o b=none):b≠a/\H b=none:=by
 have h1:b≠a:=fun e=>by rw[e,j5] at h; cases h
 exact⟨h1,by rw[j7 h1] at h; exact h⟩
theorem Keep.refl (H:Hp)(p:Addr):Keep H H p:=fun _ _ h _=>h
theorem Keep.trans {H H1 H2:Hp}{p:Addr}(a:Keep H H1 p)(b:Keep H1 H2 p):Keep H H2 p:=fun c o h n=>b c o (a c o h n) n
theorem Keep.upd {H H1:Hp}{p:Addr}(a:Keep H H1 p)(o:HO):Keep H (upd H1 p o) p:=fun c u h n=>by rw[j7 n]; exact a c u h n
theorem Keep.new {H H1:Hp}{p l:Addr}(a:Keep H H1 p)(hl:H1 l=none)(o:HO):Keep H (L2.upd H1 l o) p:=fun c u h n=>by
 have:=a c u h n
 rw[j7 (jA this hl)]
 exact this
theorem pw {w:Int}(h1:1<=w)(h2:w<=16):(2:Int)<=2 ^ w.toNat/\(2:Int) ^ w.toNat<=65536:=by
 have e:∀ n:Nat,n<17->1<=n->(2:Int)<=2 ^ n/\(2:Int) ^ n<=65536:=by decide+kernel
 exact e w.toNat (by lia) (by lia)
structure Lot (w:Int)(ts:List Int):Prop where
 ris:ts.Pairwise (· < ·)
 bnd:∀ z∈ts,0<=z/\z<w
 ne:ts≠ []
def bits (n:Int)(k:Nat):List Int:=((List.range k).filter fun t=>decide (Builtin.bitAnd (n / 2 ^ t) 1=1)).map fun (t:Nat)=>(t:Int)
theorem jGZ (n:Int)(k:Nat):bits n (k+1)=bits n k++(if decide (Builtin.bitAnd (n / 2 ^ k) 1=1)=true then [(k:Int)] else []):=by
 unfold bits
 rw[fQ,cf,aQ]
 congr 1
 rw[b8]
 split <;> rfl
theorem jOP {n w:Int}(h1:1<=n)(hw:0<=w)(h2:n<2 ^ w.toNat):Lot w (bits n w.toNat):=by
 refine⟨?_,fun z hz=>?_,?_⟩
 ·unfold bits
  rw[dv]
  have:=(i4 (n:=w.toNat)).filter (fun t=>decide (Builtin.bitAnd (n / 2 ^ t) 1=1))
  exact this.imp fun h=>by lia
 ·unfold bits at hz
  obtain⟨t,ht,rfl⟩:=aZ.mp hz
  have:=bM.mp (bf.mp ht).1
  lia
 ·obtain⟨m,rfl⟩:∃ m:Nat,n=(m:Int):=⟨n.toNat,by lia⟩
  have hm:m≠0:=by lia
  have hlt:m<2 ^ w.toNat:=by
   have:((m:Nat):Int)<((2 ^ w.toNat:Nat):Int):=by rw[Int.natCast_pow]; exact h2
   lia
  obtain⟨i,hi⟩:=Nat.exists_testBit_of_ne_zero hm
  have hiw:i<w.toNat:=by
   rcases ln i w.toNat with h | h
   ·exact h
   ·rw[iZ (aS hlt (bV (by lia) h))] at hi
    cases hi
  have hb:Builtin.bitAnd ((m:Int) / 2 ^ i) 1=1:=by
   have e:((m:Int) / 2 ^ i)=((m / 2 ^ i:Nat):Int):=by rw[Int.natCast_ediv,Int.natCast_pow]; rfl
   rw[e,PyProof.Rows.bitAnd_pp (fS _) (by decide)]
   have e2:(((m / 2 ^ i:Nat):Int).toNat&&&(1:Int).toNat)=1:=by
    rw[bB]
    show (m / 2 ^ i)&&&1=1
    rw[Nat.and_one_is_mod]
    have:=hi
    rw[Nat.testBit_eq_decide_div_mod_eq] at this
    exact aP this
   rw[e2]
   rfl
  intro z
  have hmem:(i:Int)∈bits (m:Int) w.toNat:=by
   unfold bits
   exact aZ.mpr ⟨i,bf.mpr ⟨bM.mpr hiw,aw hb⟩,rfl⟩
  rw[z] at hmem
  cases hmem
def qD:Sp:=fun vs H Q _=>∃ (p:Addr) (N w:Int),vs=[.ref p, .int w]/\H p=some (.lst [.int N])/\0<=N/\1<=w/\w<=16/\
 ∀ (q:Addr) (N':Int) (ts:List Int) (H':Hp),0<=N'->Lot w ts->H' q=some (.tup (ts.map V.int))->H' p=some (.lst [.int N'])->Keep H H' p->Q (.ref q) H'
theorem scLot:FnScope ["pot","wide","way","number","start","step","size"] ["pot","wide"] (j8 sLot):= {}
theorem jT1 {f fT:Addr}{fd fdT:FuncData}(F:Fun K "_law_lot" "_law_lot" sLot f fd)(T:Txt mg)(CT:Can P w K mg base "_law_take" 1 fT fdT ["pot","wide"] yL):FnOk P w K mg base CX0 2 f fd ["pot","wide"] qD:=by
 refine F.ok scLot (fun vs H Q E h=>?_) (fun cdv A outer s H vs Q E hr h=>?_)
 ·obtain⟨a,ns,k,rfl,_⟩:=h
  rfl
 ·obtain⟨p,N,w,rfl,hp,hN,h1,h2,q⟩:=h
  have hpw:=pw h1 h2
  have nd:=scLot.nd
  refine⟨_,kR (yV (i:=2) nd rfl (Or.inl rfl) (CT.pe hr rfl (kB (pv 0) (kB jP yE))))
   (kR (ps_if (jDL yW (pv 2) jP (jM _))
    (kR (yV (i:=3) nd rfl (Or.inr rfl) (kO yF jP (CT.pe hr rfl (kB (pv 0) (kB (kO jCX (kO jIO jP (pv 1)) jP) yE)))))
    (jAT (jCV (jBR jY rfl T.tuple (by decide+kernel) (kB
     (jHN (m:=[none,some 3]) (Nc:=["t","number"]) rfl (jBQ rfl T.range (kB (pv 1) yE)) rfl (by decide+kernel) (by decide+kernel) (jQ (psc:=j8 sLot))
      (jG (N:=["pot","wide","way","number","start","step","size"]) rfl rfl (by decide+kernel))
      (fun cl C fp s H=>jEZ (i:=0) (show (["t","number"]:List Str).Nodup by decide+kernel) rfl (Or.inl rfl))
      (fun cl C fp s H=>jKZ (jDL yW (kO jL9 (kO jSV (pv 1) (pv 0)) jP) jP (jM _)))
      (fun cl C fp s H=>pv 0)) yE)))))
    jEY)
   (kR (yV (i:=4) nd rfl (Or.inr rfl) (CT.pe hr rfl (kB (pv 0) (kB (pv 1) yE))))
   (kR (yV (i:=5) nd rfl (Or.inr rfl) (kO yF jP (CT.pe hr rfl (kB (pv 0) (kB jP yE)))))
   (kR (yV (i:=6) nd rfl (Or.inl rfl) (kO yF jP (CT.pe hr rfl (kB (pv 0) (kB (pe_ix yB (jIN (kB jP (kB jP (kB jP yE)))) (kO jCX (pv 2) jP) (fun _ _=>rfl)) yE)))))
   (jAT (jCV (jBR jY rfl T.tuple (by decide+kernel) (kB (jF0 (jDZ rfl) rfl T.sorted (by decide+kernel) (kB (jBR (jMW rfl) rfl T.set (by decide+kernel) (kB
     (jHN (m:=[none,some 4,some 5,some 1]) (Nc:=["j","start","step","wide"]) rfl (jBQ rfl T.range (kB (pv 6) yE)) rfl (by decide+kernel) (by decide+kernel) (jQ (psc:=j8 sLot))
      (jG (N:=["pot","wide","way","number","start","step","size"]) rfl rfl (by decide+kernel))
      (fun cl C fp s H=>jEZ (i:=0) (show (["j","start","step","wide"]:List Str).Nodup by decide+kernel) rfl (Or.inl rfl))
      (fun cl C fp s H=>jL0)
      (fun cl C fp s H=>kO jCY (kO yF (pv 1) (kO yS (pv 2) (pv 0))) (pv 3))) yE)) yE)) yE)))))))),?_⟩
  refine⟨_,rfl,p,N,4,rfl,hp,hN,by decide,by decide,fun N1 way b1 b2 b3=>?_⟩
  have hp1:∀ M,(upd H p (.lst [.int M])) p=some (.lst [.int M]):=fun _=>j5
  refine⟨_,rfl,rfl,_,rfl,?_⟩
  refine ite2 (fun _=>?_) (fun hw0=>?_)
  ·refine⟨_,rfl,_,rfl,_,_,rfl,rfl,⟨by lia,by lia,by decide⟩,_,_,rfl,rfl,p,N1,_,rfl,hp1 _,b1,by lia,by lia,fun N2 r2 c1 c2 c3=>⟨_,_,rfl,rfl,?_⟩⟩
   have hnum:1+r2<2 ^ w.toNat:=by lia
   refine⟨_,rfl,w,rfl,by lia,by lia,jB8 (n:=w.toNat) (by rw[aF]; lia) (fun D i σ' H' ys=>(∃ v,σ'=[v,some (.int (1+r2))])/\ys=(bits (1+r2) i).map V.int/\H'=upd (upd (upd H p (.lst [.int N1])) p (.lst [.int N2])) D (.lst ys)) ?_ ?_ ?_ ?_⟩
   ·intro D hD
    exact⟨⟨_,rfl⟩,rfl,rfl⟩
   ·rintro D i σ' H' ys hD hi ⟨_,e1,e2⟩
    refine⟨by rw[e2]; exact j5,?_⟩
    rw[e1,ab]
    unfold bits
    rw[ab]
    exact aX (bL _ _) (by rw[bv]; exact ai _)
   ·rintro D i σ' H' ys hD hi ⟨⟨v,rfl⟩,rfl,rfl⟩
    refine⟨_,rfl,_,rfl,_,_,rfl,rfl,(by show (0:Int)<=0+(i:Int); lia),_,_,rfl,rfl,rfl,_,rfl,?_⟩
    have ei:(0+(i:Int)).toNat=i:=by lia
    refine ite2 (fun hb=>?_) (fun hb=>?_)
    ·have hb:Builtin.bitAnd ((1+r2) / 2 ^ i) 1=1:=by
      have:=aP hb
      rw[ei] at this
      exact V.int.inj this
     refine⟨_,rfl,j5,⟨_,rfl⟩,?_,jC6⟩
     rw[jGZ,ak (aw hb),aQ]
     congr 1
     show [V.int (0+(i:Int))]=[V.int (i:Int)]
     rw[i5]
    ·have hb:¬ Builtin.bitAnd ((1+r2) / 2 ^ i) 1=1:=fun e=>hb (aw (by rw[ei]; exact bA V.int e))
     refine⟨⟨_,rfl⟩,?_,rfl⟩
     rw[jGZ,aj (by simpa using hb),bg]
   ·rintro D σ' H' ys hD ⟨_,rfl,rfl⟩
    refine⟨D,_,rfl, .inl ⟨SqL.of j5,fun qq hqq=>?_⟩⟩
    obtain⟨n1,n2⟩:=y6 hqq
    have pD:p≠D:=jA j5 hD
    have pq:p≠qq:=jA j5 n2
    exact q qq N2 (bits (1+r2) w.toNat) _ c1 (jOP (by lia) (by lia) hnum) j5 (by rw[j7 pq,j7 pD,j5]) (((((Keep.refl H p).upd _).upd _).new hD _).new hqq _)
  ·have hway:1<=way:=by
    have:¬ way=0:=fun e=>hw0 (aw (by rw[e]))
    lia
   refine⟨_,rfl,_,rfl,p,N1,w,rfl,hp1 _,b1,by lia,by lia,fun N2 kZ c1 c2 c3=>?_⟩
   rw[jC6]
   refine⟨_,rfl,p,N2,3,rfl,hp1 _,c1,by decide,by decide,fun N3 st d1 d2 d3=>⟨_,_,rfl,rfl,?_⟩⟩
   rw[jC6]
   refine⟨_,rfl,(by show 3<=sizeLine; decide),fun l hl=>?_⟩
   have pl:p≠l:=jA (hp1 _) hl
   obtain⟨wd,hwd,e1,e2⟩:∃ wd:Int,atI [V.int 1,V.int 2,V.int 4] (way - 1)=some (.int wd)/\1<=wd/\wd<=4:=by
    rcases (show way=1\/way=2\/way=3 by lia) with e | e | e
    ·subst e; exact⟨1,rfl,by decide,by decide⟩
    ·subst e; exact⟨2,rfl,by decide,by decide⟩
    ·subst e; exact⟨4,rfl,by decide,by decide⟩
   refine⟨_,rfl,_,_,rfl,rfl,l,_,_,_,rfl,rfl,SqL.of j5,hwd,p,N3,wd,rfl,by rw[j7 pl]; exact hp1 _,d1,by lia,by lia,fun N4 r4 g1 g2 g3=>⟨_,_,rfl,rfl,?_⟩⟩
   have kp:Keep H (upd (upd (upd H p (.lst [.int N3])) l (.lst [V.int 1,V.int 2,V.int 4])) p (.lst [.int N4])) p:=(((Keep.refl H p).upd _).new hl _).upd _
   have hp4:(upd (upd (upd H p (.lst [.int N3])) l (.lst [V.int 1,V.int 2,V.int 4])) p (.lst [.int N4])) p=some (.lst [.int N4]):=j5
   generalize (upd (upd (upd H p (.lst [.int N3])) l (.lst [V.int 1,V.int 2,V.int 4])) p (.lst [.int N4]))=H4 at kp hp4 ⊢
   refine⟨_,rfl,1+r4,rfl,by lia,by lia,jB8 (n:=(1+r4).toNat) (by rw[aF]; lia) (fun D i σ' H' ys=>(∃ v,σ'=[v,some (.int kZ),some (.int (1+st)),some (.int w)])/\(∃ ns:List Int,ys=ns.map V.int/\ns.length=i/\∀ z∈ns,0<=z/\z<w)/\H'=upd H4 D (.lst ys)) ?_ ?_ ?_ ?_⟩
   ·intro D hD
    exact⟨⟨_,rfl⟩,⟨[],rfl,rfl,fun z hz=>by cases hz⟩,rfl⟩
   ·rintro D i σ' H' ys hD hi ⟨_,⟨ns,rfl,e,_⟩,rfl⟩
    exact⟨j5,by rw[ab,e]; exact ai _⟩
   ·rintro D i σ' H' ys hD hi ⟨⟨v,rfl⟩,⟨ns,rfl,e,hb⟩,rfl⟩
    dsimp only [kQ,yG]
    rw[ak rfl]
    refine⟨_,rfl,_,rfl,_,rfl,_,_,rfl,rfl, .inl ⟨by lia,by lia⟩,_,_,rfl,rfl,_,rfl,_,_,rfl,rfl,(by show 0<w; lia),j5,⟨_,rfl⟩,⟨ns++[(kZ+(1+st)*(0+(i:Int))) % w],by simp,by simp [e],fun z hz=>?_⟩,jC6⟩
    rcases ay.mp hz with hz | hz
    ·exact hb z hz
    ·have:z=(kZ+(1+st)*(0+(i:Int))) % w:=by simpa using hz
     rw[this]
     exact⟨jc _ (by lia),ie _ (by lia)⟩
   ·rintro D σ' H' ys hD ⟨_,⟨ns,rfl,e,hb⟩,rfl⟩
    refine⟨D,ns,rfl,SqL.of j5,by lia,fun z hz=>⟨(hb z hz).1,by have:=(hb z hz).2; lia⟩,fun l1 ks h11 hm1=>?_⟩
    refine⟨l1,ks,rfl,j5,fun l2 ms h12 srt hm2=>?_⟩
    refine⟨l2,_,rfl, .inl ⟨SqL.of j5,fun qq hqq=>?_⟩⟩
    have pD:p≠D:=jA hp4 hD
    have p1:p≠l1:=jA hp4 (y6 h11).2
    have p2:p≠l2:=jA hp4 (y6 (y6 h12).2).2
    have pq:p≠qq:=jA hp4 (y6 (y6 (y6 hqq).2).2).2
    refine q qq N4 ms _ g1 ⟨srt,fun z hz=>hb z ((hm1 z).mp ((hm2 z).mp hz)),fun z=>?_⟩ j5 (by rw[j7 pq,j7 p2,j7 p1,j7 pD]; exact hp4) ((((kp.new hD _).new h11 _).new h12 _).new hqq _)
    subst z
    cases ns with
    | nil=>simp at e; lia
    | cons x r=>
     have:=(hm2 x).mpr ((hm1 x).mpr ar)
     cases this
structure Ris (w:Int)(ts:List Int):Prop where
 ris:ts.Pairwise (· < ·)
 bnd:∀ z∈ts,0<=z/\z<w
theorem Ris.nil (w:Int):Ris w []:=⟨.nil,fun z hz=>by cases hz⟩
theorem Ris.take {w:Int}{ts:List Int}(h:Ris w ts)(k:Nat):Ris w (ts.take k):=⟨h.ris.sublist (d0 _ _),fun z hz=>h.bnd z (cO hz)⟩
theorem Ris.drop {w:Int}{ts:List Int}(h:Ris w ts)(k:Nat):Ris w (ts.drop k):=⟨h.ris.sublist (iq _ _),fun z hz=>h.bnd z (cr hz)⟩
theorem Ris.snoc {i:Nat}{ts:List Int}(h:Ris i ts):Ris (i+1:Nat) (ts++[(i:Int)]):=by
 refine⟨bO.mpr ⟨h.ris,iR _ _,fun a ha b hb=>?_⟩,fun z hz=>?_⟩
 ·have:=(h.bnd a ha).2
  have e:b=i:=by simpa using hb
  lia
 ·rcases ay.mp hz with q | q
  ·have:=h.bnd z q
   lia
  ·have e:z=i:=by simpa using q
   lia
theorem Ris.step {i:Nat}{ts:List Int}(h:Ris i ts):Ris (i+1:Nat) ts:=⟨h.ris,fun z hz=>by have:=h.bnd z hz; lia⟩
def upto (n:Nat):List Int:=(List.range n).map fun (i:Nat)=>(i:Int)
theorem jMA (n:Nat):jDT n=(upto n).map V.int:=by
 unfold jDT upto
 rw[bN]
 rfl
theorem jEJ (n:Nat):Ris n (upto n):=by
 refine⟨?_,fun z hz=>?_⟩
 ·unfold upto
  rw[dv]
  exact i4.imp fun h=>by lia
 ·unfold upto at hz
  obtain⟨t,ht,rfl⟩:=aZ.mp hz
  have:=bM.mp ht
  lia
def Tups (H H':Hp):Prop:=∀ b xs,H b=some (.tup xs)->H' b=some (.tup xs)
theorem Tups.trans {H H1 H2:Hp}(a:Tups H H1)(b:Tups H1 H2):Tups H H2:=fun c o h=>b c o (a c o h)
theorem Keep.tups {H H':Hp}{p:Addr}{xs:List V}(k:Keep H H' p)(hp:H p=some (.lst xs)):Tups H H':=fun b ys hb=>k b _ hb fun e=>by
 subst e
 rw[hb] at hp
 cases hp
theorem Tups.upd {H:Hp}{p:Addr}{xs:List V}(hp:H p=some (.lst xs))(o:HO):Tups H (upd H p o):=fun b ys hb=>by
 rw[j7 (fun e=>by subst e; rw[hb] at hp; cases hp)]
 exact hb
theorem Tups.new {H:Hp}{p:Addr}(hp:H p=none)(o:HO):Tups H (L2.upd H p o):=fun b ys hb=>by
 rw[j7 (jA hb hp)]
 exact hb
def PcAt (H:Hp)(v:V)(pc:List Int×Int):Prop:=∃ a q,v= .ref a/\H a=some (.tup [.ref q, .int pc.2])/\H q=some (.tup (pc.1.map V.int))
def PcsAt (H:Hp):List V->List (List Int×Int)->Prop
 | [],[]=>True
 | v::vs,p::ps=>PcAt H v p/\PcsAt H vs ps
 | _,_=>False
theorem PcAt.mono {H H':Hp}{v:V}{pc:List Int×Int}(h:PcAt H v pc)(t:Tups H H'):PcAt H' v pc:=by
 obtain⟨a,q,rfl,h1,h2⟩:=h
 exact⟨a,q,rfl,t _ _ h1,t _ _ h2⟩
theorem PcsAt.mono {H H':Hp}(t:Tups H H'):∀ {vs:List V}{ps:List (List Int×Int)},PcsAt H vs ps->PcsAt H' vs ps
 | [],[],_=>trivial
 | _::_,_::_,h=>⟨h.1.mono t,PcsAt.mono t h.2⟩
 | [],_::_,h=>h.elim
 | _::_,[],h=>h.elim
theorem PcsAt.len {H:Hp} :∀ {vs:List V}{ps:List (List Int×Int)},PcsAt H vs ps->vs.length=ps.length
 | [],[],_=>rfl
 | _::_,_::_,h=>bA (· +1) (PcsAt.len h.2)
 | [],_::_,h=>h.elim
 | _::_,[],h=>h.elim
theorem PcsAt.put {H:Hp}{v:V}{p:List Int×Int}(hv:PcAt H v p):∀ (k:Nat) {vs:List V}{ps:List (List Int×Int)},PcsAt H vs ps->PcsAt H (vs.take k++v::vs.drop k) (ps.take k++p::ps.drop k)
 | 0,_,_,h=>⟨hv,h⟩
 | _+1,[],[],_=>⟨hv,trivial⟩
 | k+1,_::_,_::_,h=>⟨h.1,PcsAt.put hv k h.2⟩
 | _+1,[],_::_,h=>h.elim
 | _+1,_::_,[],h=>h.elim
structure GoodPc (w:Int)(pc:List Int×Int):Prop where
 lot:Lot w pc.1
 lo: -1000000000000<=pc.2
 hi:pc.2<=1000000000000
structure BoxAt (H:Hp)(b:Addr)(w:Int)(mays:List Int)(lB:List (List Int×Int)):Prop where
 ex:∃ qm qp vs,H b=some (.tup [.int w, .ref qm, .ref qp])/\H qm=some (.tup (mays.map V.int))/\H qp=some (.tup vs)/\PcsAt H vs lB
theorem BoxAt.mono {H H':Hp}{b:Addr}{w:Int}{mays:List Int}{lB:List (List Int×Int)}(h:BoxAt H b w mays lB)(t:Tups H H'):BoxAt H' b w mays lB:=by
 obtain⟨qm,qp,vs,h1,h2,h3,h4⟩:=h.ex
 exact⟨qm,qp,vs,t _ _ h1,t _ _ h2,t _ _ h3,h4.mono t⟩
structure Good (mt mp:Int)(w:Int)(mays:List Int)(lB:List (List Int×Int)):Prop where
 w0:0<=w
 w1:w<=mt
 mr:Ris w mays
 pl:(lB.length:Int)<=mp
 pg:∀ pc∈lB,GoodPc w pc
theorem Keep.updNew {H H1:Hp}{p l:Addr}(a:Keep H H1 p)(hl:H l=none)(o:HO):Keep H (L2.upd H1 l o) p:=fun c u h n=>by
 rw[j7 (jA h hl)]
 exact a c u h n
def spBox:Sp:=fun vs H Q _=>∃ (p:Addr) (N mt mp:Int),vs=[.ref p, .int mt, .int mp]/\H p=some (.lst [.int N])/\0<=N/\0<=mt/\mt<=16/\0<=mp/\mp<=32/\
 ∀ (b:Addr) (N' w:Int) (mays:List Int) (lB:List (List Int×Int)) (H':Hp),0<=N'->H' p=some (.lst [.int N'])->BoxAt H' b w mays lB->Good mt mp w mays lB->Keep H H' p->Q (.ref b) H'
noncomputable abbrev nBox:List Str:=["pot","most_things","most_pieces","wide","mays","left","far","pieces","k","size","things"]
theorem scBox:FnScope nBox ["pot","most_things","most_pieces"] (j8 sBox):= {}
abbrev XBox (P:Program)(w:World)(K:W.Frag)(mg:Str->Option Value)(base:Heap)(f:Addr)(cdv:Value)(A:Around)(outer:List Env)(s:Shared)(H:Hp)(E:XK):Cx:=(cxOf CX0 P w K mg base nBox "_law_box" (j8 sBox) f cdv A outer s H E).nox
def yT:Stmt->List Stmt
 | .For _ _ b _ _=>b
 | _=> []
def boxI {f fT fL:Addr}{fdT fdL:FuncData}{cdv:Value}{A:Around}{outer:List Env}{s:Shared}{H:Hp}{E:XK}(T:Txt mg)(CT:Can P w K mg base "_law_take" 1 fT fdT ["pot","wide"] yL)(CL:Can P w K mg base "_law_lot" 2 fL fdL ["pot","wide"] qD)(hr:Room 2 (XBox P w K mg base f cdv A outer s H E).A): { t:TS // JSs (XBox P w K mg base f cdv A outer s H E) ((yT ((jC sBox).getD 7 (.Pass ⟨0,0,0,0⟩))).drop 4) t} :=
 have nd:=scBox.nd
 ⟨_,(jB (jBH (je_bm b9 PySem.F.slot_list_insert PySem.F.type_list_insert jLM (jv 7 rfl vL) (j3 (CT.je (hr.mono (by decide)) gD (j3 (jv 0 rfl vC) (j3 (jR yF (jH jO gD T.len (by decide+kernel) (j3 (jv 7 rfl vL) j6 j4) j4) (je_int)) j6 kY) j4) j4) (j3 (jIZ (j3 (jv 10 rfl vL) (j3 (jR jCX (CT.je (hr.mono (by decide)) gD (j3 (jv 0 rfl vC) (j3 (jv 6 rfl vL) j6 j4) j4) j4) (jR jIP (jv 6 rfl vL) (je_int))) j6 kY) j4)) j6 jE5) jI) jI) jK))⟩
def boxL {f fT fL:Addr}{fdT fdL:FuncData}{cdv:Value}{A:Around}{outer:List Env}{s:Shared}{H:Hp}{E:XK}(T:Txt mg)(CT:Can P w K mg base "_law_take" 1 fT fdT ["pot","wide"] yL)(CL:Can P w K mg base "_law_lot" 2 fL fdL ["pot","wide"] qD)(hr:Room 2 (XBox P w K mg base f cdv A outer s H E).A): { t:TS // JSs (XBox P w K mg base f cdv A outer s H E) (yT ((jC sBox).getD 7 (.Pass ⟨0,0,0,0⟩))) t} :=
 have nd:=scBox.nd
 ⟨_,(j9 (jE (i:=9) nd rfl lL (jR yF (je_int) (CT.je (hr.mono (by decide)) gD (j3 (jv 0 rfl vC) (j3 (je_int) j6 jZ) j4) j4)) jE2)
   (j9 (jE (i:=10) nd rfl lL (kJ jY gD T.tuple (by decide+kernel) (j3 (jDC jEU (jv 5 rfl vL) jFD (jFC (jv 9 rfl vL))) j6 jV) jV) jK)
   (j9 (jE (i:=5) nd rfl lL (jDC jEU (jv 5 rfl vL) (jFC (jv 9 rfl vL)) jFD) jFW)
   (j9 (yX (jJ (jSW hr.units0) (jv 10 rfl vL) (jIZ j6) (jM _)) (jB (jE (i:=10) nd rfl lL (CL.je hr gD (j3 (jv 0 rfl vC) (j3 (jv 3 rfl vL) j6 j4) j4) j4) jK)) yA)
   (boxI T CT CL hr).2))))⟩
def boxC {f fT fL:Addr}{fdT fdL:FuncData}{cdv:Value}{A:Around}{outer:List Env}{s:Shared}{H:Hp}{E:XK}(T:Txt mg)(CT:Can P w K mg base "_law_take" 1 fT fdT ["pot","wide"] yL)(CL:Can P w K mg base "_law_lot" 2 fL fdL ["pot","wide"] qD)(hr:Room 2 (XBox P w K mg base f cdv A outer s H E).A): { t:TS // JSs (XBox P w K mg base f cdv A outer s H E) ((jC sBox).drop 5) t} :=
 have nd:=scBox.nd
 ⟨_,(j9 (jE (i:=6) nd rfl lL (jT yB (jM4 (j3 (je_int) (j3 (je_int) (j3 (jTN) j6 kY) jZ) jZ)) (CT.je (hr.mono (by decide)) gD (j3 (jv 0 rfl vC) (j3 (je_int) j6 jZ) j4) j4) jQ1) jFW)
   (j9 (jE (i:=7) nd rfl lL (jM4 j6) jE1)
   (j9 (yO bx rfl (jA2 gD T.range (j3 (jR yS (CT.je (hr.mono (by decide)) gD (j3 (jv 0 rfl vC) (j3 (jR yF (jv 2 rfl vL) (je_int)) j6 kY) j4) j4) (kJ jC2 gD T.int (by decide+kernel) (j3 (jCF op_gt (jv 3 rfl vL) (je_int) (jM _)) j6 jCR) jCR)) j6 kY) kY) (jN (i:=8) nd rfl lL) (boxL T CT CL hr).2 kI)
   (jB (jX (jIZ (j3 (jv 3 rfl vL) (j3 (jv 4 rfl vL) (j3 (kJ jY gD T.tuple (by decide+kernel) (j3 (jv 7 rfl vL) j6 j4) j4) j6 jI) j4) j4)))))))⟩
def boxB {f fT fL:Addr}{fdT fdL:FuncData}{cdv:Value}{A:Around}{outer:List Env}{s:Shared}{H:Hp}{E:XK}(T:Txt mg)(CT:Can P w K mg base "_law_take" 1 fT fdT ["pot","wide"] yL)(CL:Can P w K mg base "_law_lot" 2 fL fdL ["pot","wide"] qD)(hr:Room 2 (XBox P w K mg base f cdv A outer s H E).A): { t:TS // JSs (XBox P w K mg base f cdv A outer s H E) ((jC sBox).drop 3) t} :=
 have nd:=scBox.nd
 ⟨_,(j9 (jE (i:=5) nd rfl lL (kJ (jGV rfl) gD T.list (by decide+kernel) (j3 (kJ jI7 gD T.range (by decide+kernel) (j3 (jv 3 rfl vL) j6 j4) j4) j6 jI) jI) jK)
   (j9 (yX (jJ yW (CT.je (hr.mono (by decide)) gD (j3 (jv 0 rfl vC) (j3 (je_int) j6 jZ) j4) j4) (je_int) (jM _)) (jB (jE (i:=5) nd rfl lL (jM4 j6) jE1)) yA)
   (boxC T CT CL hr).2))⟩
def boxA {f fT fL:Addr}{fdT fdL:FuncData}{cdv:Value}{A:Around}{outer:List Env}{s:Shared}{H:Hp}{E:XK}(T:Txt mg)(CT:Can P w K mg base "_law_take" 1 fT fdT ["pot","wide"] yL)(CL:Can P w K mg base "_law_lot" 2 fL fdL ["pot","wide"] qD)(hr:Room 2 (XBox P w K mg base f cdv A outer s H E).A): { t:TS // JSs (XBox P w K mg base f cdv A outer s H E) (jC sBox) t} :=
 have nd:=scBox.nd
 ⟨_,(j9 (jE (i:=3) nd rfl lL (CT.je (hr.mono (by decide)) gD (j3 (jv 0 rfl vC) (j3 (jR yF (jv 1 rfl vL) (je_int)) j6 kY) j4) j4) jK)
   (j9 (jE (i:=4) nd rfl lL (jIZ j6) jOW)
   (j9 (yX (jJ yW (CT.je (hr.mono (by decide)) gD (j3 (jv 0 rfl vC) (j3 (je_int) j6 jZ) j4) j4) (je_int) (jM _)) (jB (jE (i:=4) nd rfl lL (kJ jY gD T.tuple (by decide+kernel) (j3 (kU (m:=[none,some 0]) (Nc:=["t","pot"]) rfl (jA2 gD T.range (j3 (jv 3 rfl vL) j6 j4) j4) rfl (by decide+kernel) (by decide+kernel) (jQ (psc:=j8 sBox)) (jG (N:=nBox) rfl rfl (by decide+kernel)) (fun cl C fp s H=>jN (i:=0) (show (["t","pot"]:List Str).Nodup by decide+kernel) rfl yH) (fun cl C fp s H=>jAW (jJ yW (CT.je (hr.mono (by decide)) gl_b (j3 (jv 1 rfl kN) (j3 (je_int) j6 jZ) j4) j4) (je_int) (jM _))) (fun cl C fp s H=>(jv 0 rfl jL)) kI) j6 jW) jW) jK)) yA)
   (boxB T CT CL hr).2)))⟩
structure St0 (H H2:Hp)(p:Addr)(w:Int)(qm ql:Addr)(mays lf:List Int)(N:Int):Prop where
 hp:H2 p=some (.lst [.int N])
 hN:0<=N
 hm:H2 qm=some (.tup (mays.map V.int))
 rm:Ris w mays
 hl:H2 ql=some (.lst (lf.map V.int))
 rl:Ris w lf
 ne:ql≠p
 kp:Keep H H2 p
theorem St0.step {H H2 H3:Hp}{p:Addr}{w:Int}{qm ql:Addr}{mays lf:List Int}{N N':Int}(S:St0 H H2 p w qm ql mays lf N)(k:Keep H2 H3 p)(hp:H3 p=some (.lst [.int N']))(hN:0<=N'):St0 H H3 p w qm ql mays lf N':=
 ⟨hp,hN,k qm _ S.hm (ne_of S.hm S.hp (by intro z; cases z)),S.rm,k ql _ S.hl S.ne,S.rl,S.ne,S.kp.trans k⟩
theorem jMM {w:Int}{lf:List Int}(h:Ris w lf)(lo hi:Option Int):∃ l',cutV (lf.map V.int) lo hi=l'.map V.int/\Ris w l':=by
 refine⟨(lf.drop (HT.sIx lf.length 0 lo)).take (HT.sIx lf.length lf.length hi - HT.sIx lf.length 0 lo),?_,(h.drop _).take _⟩
 unfold cutV
 rw[ab,ke,List.map_drop]
theorem jGW (T:Txt mg)(CT:Can P w K mg base "_law_take" 1 fT fdT ["pot","wide"] yL)(CL:Can P w K mg base "_law_lot" 2 fL fdL ["pot","wide"] qD)(hr:Room 2 (XBox P w K mg base f cdv A outer s H0 E).A)
  {D:Ends}{H H5:Hp}{p qm ql qp qt:Addr}{mt mp w N far:Int}{mays lf ts:List Int}{vs:List V}{lB:List (List Int×Int)}{v8 v9:Option V}
  (S:St0 H H5 p w qm ql mays lf N) (hqp:H5 qp=some (.lst vs)) (hv:PcsAt H5 vs lB) (hg:∀ pc∈lB,GoodPc w pc) (hqt:H5 qt=some (.tup (ts.map V.int))) (lt:Lot w ts) (hf:far=1\/far=10\/far=2000000000001) (hn:lB.length<=100) (hH:H qp=none) (hne:ql≠qp) (hpp:p≠qp)
  (nx:∀ H6 N' vs' lB',St0 H H6 p w qm ql mays lf N'->H6 qp=some (.lst vs')->PcsAt H6 vs' lB'->(∀ pc∈lB',GoodPc w pc)->lB'.length=lB.length+1->D.nx [some (.ref p),some (.int mt),some (.int mp),some (.int w),some (.ref qm),some (.ref ql),some (.int far),some (.ref qp),v8,v9,some (.ref qt)] H6):
  (boxI T CT CL hr).1 D [some (.ref p),some (.int mt),some (.int mp),some (.int w),some (.ref qm),some (.ref ql),some (.int far),some (.ref qp),v8,v9,some (.ref qt)] H5:=by
 have hlen:=hv.len
 have h64:(0:Int)<far/\far<2 ^ 64:=by rcases hf with e | e | e <;> subst e <;> decide
 refine⟨_,rfl, .inl ⟨rfl,_,SqL.of hqp⟩,_,rfl,_,rfl,qp,vs,rfl, .inl (SqL.of hqp),_,_,rfl,rfl,p,N,_,rfl,S.hp,S.hN,by lia,by lia,fun N1 i a1 a2 a3=>?_⟩
 refine⟨_,rfl,_,rfl,_,rfl,p,N1,far,rfl,j5,a1,h64.1,h64.2,fun N2 r b1 b2 b3=>?_⟩
 rw[jC6]
 refine⟨_,rfl,_,_,rfl,rfl,⟨by decide,by decide⟩,_,_,rfl,rfl,(by show 2<=sizeLine; decide),fun tq htq=>?_⟩
 obtain⟨t1,t2⟩:=y6 htq
 have ht:tq≠qp:=fun e=>by subst e; rw[hqp] at t2; cases t2
 refine⟨qp,vs,i,_,rfl,rfl,by rw[j7 ht.symm,j7 hpp.symm]; exact hqp,a2,by lia,by rw[aF]; lia,?_⟩
 have T1:Tups H5 (upd (upd H5 p (.lst [.int N2])) tq (.tup [.ref qt, .int (r - far / 2)])):=(Tups.upd S.hp _).trans (Tups.new htq _)
 have k1:Keep H5 (upd (upd H5 p (.lst [.int N2])) tq (.tup [.ref qt, .int (r - far / 2)])) p:=((Keep.refl _ _).upd _).new htq _
 have S1:=S.step k1 (by rw[j7 t1.symm]; exact j5) b1
 have hq1:(upd (upd H5 p (.lst [.int N2])) tq (.tup [.ref qt, .int (r - far / 2)])) qp=some (.lst vs):=by rw[j7 ht.symm,j7 hpp.symm]; exact hqp
 have T2:=T1.trans (Tups.upd hq1 (.lst (vs.take i.toNat++V.ref tq::vs.drop i.toNat)))
 have pc:PcAt (upd (upd H5 p (.lst [.int N2])) tq (.tup [.ref qt, .int (r - far / 2)])) (.ref tq) (ts,r - far / 2):=⟨tq,qt,rfl,j5,T1 _ _ hqt⟩
 refine nx _ N2 _ (lB.take i.toNat++(ts,r - far / 2)::lB.drop i.toNat) ⟨?_,b1,?_,S.rm,?_,S.rl,S.ne,S1.kp.updNew hH _⟩ j5 ?_ ?_ ?_
 ·rw[j7 hpp]; exact S1.hp
 ·exact(Tups.upd hq1 _) _ _ S1.hm
 ·rw[j7 hne]; exact S1.hl
 ·exact PcsAt.put (pc.mono (Tups.upd hq1 _)) _ (hv.mono T2)
 ·intro c hc
  rcases ay.mp hc with h | h
  ·exact hg c (cO h)
  ·rcases aM.mp h with h | h
   ·subst h
    refine⟨lt,?_,?_⟩
    ·show -1000000000000<=r - far / 2
     rcases hf with e | e | e <;> subst e <;> lia
    ·show r - far / 2<=1000000000000
     rcases hf with e | e | e <;> subst e <;> lia
   ·exact hg c (cr h)
 ·rw[aG,aW,bq,dI]
  lia
theorem jN1 (T:Txt mg)(CT:Can P w K mg base "_law_take" 1 fT fdT ["pot","wide"] yL)(CL:Can P w K mg base "_law_lot" 2 fL fdL ["pot","wide"] qD)(hr:Room 2 (XBox P w K mg base f cdv A outer s H0 E).A)
  {D:Ends}{H H5:Hp}{p qm ql qp:Addr}{mt mp w N far:Int}{mays lf:List Int}{vs:List V}{lB:List (List Int×Int)}{v8 v9 v10:Option V}
  (S:St0 H H5 p w qm ql mays lf N) (hqp:H5 qp=some (.lst vs)) (hv:PcsAt H5 vs lB) (hg:∀ pc∈lB,GoodPc w pc) (hf:far=1\/far=10\/far=2000000000001) (hn:lB.length<=100) (hH:H qp=none) (hpp:p≠qp) (w1:1<=w) (w2:w<=16)
  (nx:∀ H6 N' vs' lB' ql' lf' v9' v10',St0 H H6 p w qm ql' mays lf' N'->ql'≠qp->H6 qp=some (.lst vs')->PcsAt H6 vs' lB'->(∀ pc∈lB',GoodPc w pc)->lB'.length=lB.length+1->D.nx [some (.ref p),some (.int mt),some (.int mp),some (.int w),some (.ref qm),some (.ref ql'),some (.int far),some (.ref qp),v8,v9',v10'] H6):
  (boxL T CT CL hr).1 D [some (.ref p),some (.int mt),some (.int mp),some (.int w),some (.ref qm),some (.ref ql),some (.int far),some (.ref qp),v8,v9,v10] H5:=by
 refine⟨_,rfl,p,N,3,rfl,S.hp,S.hN,by decide,by decide,fun N1 r1 a1 a2 a3=>⟨_,_,rfl,rfl,?_⟩⟩
 have S1:=S.step ((Keep.refl _ _).upd (.lst [.int N1])) j5 a1
 have hq1:(upd H5 p (.lst [.int N1])) qp=some (.lst vs):=by rw[j7 hpp.symm]; exact hqp
 have hv1:=hv.mono (Tups.upd S.hp (.lst [.int N1]))
 generalize upd H5 p (.lst [.int N1])=H6 at S1 hq1 hv1 ⊢
 clear S hqp hv
 obtain⟨l1,e1,g1⟩:=jMM S1.rl none (some (1+r1))
 obtain⟨l2,e2,g2⟩:=jMM S1.rl (some (1+r1)) none
 refine⟨_,rfl,_,rfl,1+r1,rfl,ql,_,rfl,SqL.of S1.hl,fun x hx=>⟨x,_,rfl, .inl ⟨SqL.of j5,fun qt hqt=>?_⟩⟩⟩
 rw[e1] at hqt ⊢
 have k1:Keep H6 (upd (upd H6 x (.lst (l1.map V.int))) qt (.tup (l1.map V.int))) p:=((Keep.refl _ _).new hx _).new hqt _
 obtain⟨t1,t2⟩:=y6 hqt
 have px:p≠x:=jA S1.hp hx
 have pt:p≠qt:=jA S1.hp t2
 have qx:qp≠x:=jA hq1 hx
 have qq:qp≠qt:=jA hq1 t2
 have S2:=S1.step k1 (by rw[j7 pt,j7 px]; exact S1.hp) S1.hN
 have hq2:(upd (upd H6 x (.lst (l1.map V.int))) qt (.tup (l1.map V.int))) qp=some (.lst vs):=by rw[j7 qq,j7 qx]; exact hq1
 have hv2:=hv1.mono (k1.tups S1.hp)
 have ht2:(upd (upd H6 x (.lst (l1.map V.int))) qt (.tup (l1.map V.int))) qt=some (.tup (l1.map V.int)):=j5
 generalize upd (upd H6 x (.lst (l1.map V.int))) qt (.tup (l1.map V.int))=H7 at S2 hq2 hv2 ht2 ⊢
 clear k1 hqt t2 hx S1 hq1 hv1
 refine⟨_,rfl,_,rfl,1+r1,rfl,ql,_,rfl,SqL.of S2.hl,fun ql' hql=>?_⟩
 rw[e2]
 have pl:p≠ql':=jA S2.hp hql
 have k2:Keep H7 (upd H7 ql' (.lst (l2.map V.int))) p:=(Keep.refl _ _).new hql _
 have S3':=S2.step k2 (by rw[j7 pl]; exact S2.hp) S2.hN
 have S3:St0 H (upd H7 ql' (.lst (l2.map V.int))) p w qm ql' mays l2 N1:=⟨S3'.hp,S3'.hN,S3'.hm,S3'.rm,j5,g2,pl.symm,S3'.kp⟩
 have hne:qp≠ql':=jA hq2 hql
 have hq3:(upd H7 ql' (.lst (l2.map V.int))) qp=some (.lst vs):=by rw[j7 hne]; exact hq2
 have hv3:=hv2.mono (k2.tups S2.hp)
 have ht3:=k2.tups S2.hp _ _ ht2
 generalize upd H7 ql' (.lst (l2.map V.int))=H8 at S3 hq3 hv3 ht3 ⊢
 clear k2 S3' S2 hq2 hv2 ht2 hql
 refine⟨_,rfl,(by show 0<=sizeLine; exact ba _),fun z hz=>⟨qt,z,l1.map V.int,rfl,rfl,SqT.of ?_,SqT.of j5,_,rfl,?_⟩⟩
 ·rw[j7 (jA ht3 hz)]; exact ht3
 have pz:p≠z:=jA S3.hp hz
 have qz:qp≠z:=jA hq3 hz
 have k3:Keep H8 (upd H8 z (.tup [])) p:=(Keep.refl _ _).new hz _
 have S4:=S3.step k3 (by rw[j7 pz]; exact S3.hp) S3.hN
 have hq4:(upd H8 z (.tup [])) qp=some (.lst vs):=by rw[j7 qz]; exact hq3
 have hv4:=hv3.mono (k3.tups S3.hp)
 have ht4:=k3.tups S3.hp _ _ ht3
 generalize upd H8 z (.tup [])=H9 at S4 hq4 hv4 ht4 ⊢
 clear k3 S3 hq3 hv3 ht3 hz pz qz
 refine ite2 (fun hy=>?_) (fun hy=>?_)
 ·refine⟨_,rfl,_,rfl,p,N1,w,rfl,S4.hp,S4.hN,w1,w2,fun q N2 ts H' b1 lt b2 b3 b4=>?_⟩
  exact jGW T CT CL hr (S4.step b4 b3 b1) (b4 _ _ hq4 hpp.symm) (hv4.mono (b4.tups S4.hp)) hg b2 lt hf hn hH hne.symm hpp fun H6 N' vs' lB' z1 z2 z3 z4 z5=>nx H6 N' vs' lB' ql' l2 _ _ z1 hne.symm z2 z3 z4 z5
 ·have nl:l1≠ []:=fun e=>hy (aw (by rw[e]; rfl))
  exact jGW T CT CL hr S4 hq4 hv4 hg ht4 ⟨g1.ris,g1.bnd,nl⟩ hf hn hH hne.symm hpp fun H6 N' vs' lB' z1 z2 z3 z4 z5=>nx H6 N' vs' lB' ql' l2 _ _ z1 hne.symm z2 z3 z4 z5
def Told (H:Hp)(p:Addr)(mt mp:Int)(R:VK):Prop:=∀ (b:Addr) (N' w:Int) (mays:List Int) (lB:List (List Int×Int)) (H':Hp),0<=N'->H' p=some (.lst [.int N'])->BoxAt H' b w mays lB->Good mt mp w mays lB->Keep H H' p->R (.ref b) H'
theorem jGX (T:Txt mg)(CT:Can P w K mg base "_law_take" 1 fT fdT ["pot","wide"] yL)(CL:Can P w K mg base "_law_lot" 2 fL fdL ["pot","wide"] qD)(hr:Room 2 (XBox P w K mg base f cdv A outer s H0 E).A)
  {D:Ends}{H H5:Hp}{p qm ql:Addr}{mt mp w N:Int}{mays lf:List Int}{v6 v7 v8 v9 v10:Option V}
  (S:St0 H H5 p w qm ql mays lf N) (hpH:∃ o,H p=some o) (w0:0<=w) (w1:w<=mt) (w2:mt<=16) (n0:0<=mp) (n1:mp<=32) (q:Told H p mt mp D.rt):
  (boxC T CT CL hr).1 D [some (.ref p),some (.int mt),some (.int mp),some (.int w),some (.ref qm),some (.ref ql),v6,v7,v8,v9,v10] H5:=by
 refine⟨(by show 3<=sizeLine; decide),fun l hl=>?_⟩
 have pl:p≠l:=jA S.hp hl
 refine⟨_,rfl,p,N,3,rfl,by rw[j7 pl]; exact S.hp,S.hN,by decide,by decide,fun N1 r a1 a2 a3=>?_⟩
 obtain⟨far,hfar,hf⟩:∃ far:Int,atI [V.int 1,V.int 10,V.int 2000000000001] r=some (.int far)/\(far=1\/far=10\/far=2000000000001):=by
  rcases (show r=0\/r=1\/r=2 by lia) with e | e | e
  ·subst e; exact⟨_,rfl, .inl rfl⟩
  ·subst e; exact⟨_,rfl, .inr (.inl rfl)⟩
  ·subst e; exact⟨_,rfl, .inr (.inr rfl)⟩
 refine⟨l,_,r,_,rfl,rfl,SqL.of (by rw[j7 pl.symm]; exact j5),hfar,?_⟩
 have S1:=S.step ((((Keep.refl _ _).new hl (.lst [V.int 1,V.int 10,V.int 2000000000001])).upd (.lst [.int N1]))) j5 a1
 generalize upd (upd H5 l (.lst [V.int 1,V.int 10,V.int 2000000000001])) p (.lst [.int N1])=H6 at S1 ⊢
 clear hl S
 refine⟨(by show 0<=sizeLine; exact ba _),fun qp hqp=>?_⟩
 have pq:p≠qp:=jA S1.hp hqp
 have hHq:H qp=none:=by
  cases e:H qp with
  | none=>rfl
  | some o=>
   have:=S1.kp _ _ e pq.symm
   rw[hqp] at this
   cases this
 have lq:ql≠qp:=jA S1.hl hqp
 have S2:=S1.step ((Keep.refl _ _).new hqp (.lst [])) (by rw[j7 pq]; exact S1.hp) S1.hN
 have hq2:(upd H6 qp (.lst [])) qp=some (.lst []):=j5
 generalize upd H6 qp (.lst [])=H7 at S2 hq2 ⊢
 clear hqp S1
 refine⟨_,rfl,_,rfl,_,_,rfl,rfl,p,N1,_,rfl,S2.hp,S2.hN,by lia,by lia,fun N2 n b1 b2 b3=>?_⟩
 refine⟨_,rfl,_,_,rfl,rfl, .inr ⟨_,rfl,_,_,rfl,rfl, .inl ⟨by lia,by lia⟩,_,rfl,?_⟩⟩
 have S3:=S2.step ((Keep.refl _ _).upd (.lst [.int N2])) j5 b1
 have hq3:(upd H7 p (.lst [.int N2])) qp=some (.lst []):=by rw[j7 pq.symm]; exact hq2
 generalize upd H7 p (.lst [.int N2])=H8 at S3 hq3 ⊢
 clear S2 hq2
 obtain⟨m,em,hm,hw⟩:∃ m:Int,n*(if decide (0<w)=true then 1 else 0)=m/\(0<=m/\m<=mp)/\(0<m->1<=w):=by
  by_cases h:0<w
  ·exact⟨n,by simp [h],⟨b2,by lia⟩,fun _=>h⟩
  ·exact⟨0,by simp [h],⟨by lia,n0⟩,fun z=>by lia⟩
 show _/\_/\_
 rw[show (n*(if decide (0<w)=true then 1 else 0))=m from em]
 refine⟨by lia,by lia,jAY (n:=m.toNat) (fun i σ H5=>∃ ql' lf' N' vs lB v8 v9 v10,σ=[some (.ref p),some (.int mt),some (.int mp),some (.int w),some (.ref qm),some (.ref ql'),some (.int far),some (.ref qp),v8,v9,v10]/\St0 H H5 p w qm ql' mays lf' N'/\ql'≠qp/\H5 qp=some (.lst vs)/\PcsAt H5 vs lB/\(∀ pc∈lB,GoodPc w pc)/\lB.length=i) ?_ ?_ ?_⟩
 ·exact⟨ql,lf,N2,[],[],_,_,_,rfl,S3,lq,hq3,trivial,(fun _ h=>by cases h),rfl⟩
 ·rintro i σ H9 hi ⟨ql',lf',N',vs,lB,x8,x9,x10,rfl,S4,l4,hq4,hv4,hg4,e4⟩
  exact jN1 T CT CL hr S4 hq4 hv4 hg4 hf (by lia) hHq pq (hw (by lia)) (by lia) fun H6 N' vs' lB' ql' lf' v9' v10' z1 z2 z3 z4 z5 z6=>⟨ql',lf',N',vs',lB',_,_,_,rfl,z1,z2,z3,z4,z5,by lia⟩
 ·rintro σ H9 ⟨ql',lf',N',vs,lB,x8,x9,x10,rfl,S4,l4,hq4,hv4,hg4,e4⟩
  refine⟨_,rfl,_,rfl,_,rfl,qp,vs,rfl, .inl ⟨SqL.of hq4,fun tq htq=>⟨(by show 3<=sizeLine; decide),fun b hb=>?_⟩⟩⟩
  have k1:Keep H9 (upd H9 tq (.tup vs)) p:=(Keep.refl _ _).new htq _
  have k2:Keep H9 (upd (upd H9 tq (.tup vs)) b (.tup [.int w, .ref qm, .ref tq])) p:=k1.new hb _
  have tb:=jA j5 hb
  have S5:=S4.step k2 (by rw[j7 (y6 hb |>.2 |> fun h=>jA S4.hp h),j7 (jA S4.hp htq)]; exact S4.hp) S4.hN
  exact q b N' w mays lB _ S4.hN S5.hp ⟨qm,tq,vs,j5,S5.hm,by rw[j7 tb]; exact j5,hv4.mono (k2.tups S4.hp)⟩ ⟨w0,w1,S4.rm,by lia,hg4⟩ S5.kp
theorem jGY (T:Txt mg)(CT:Can P w K mg base "_law_take" 1 fT fdT ["pot","wide"] yL)(CL:Can P w K mg base "_law_lot" 2 fL fdL ["pot","wide"] qD)(hr:Room 2 (XBox P w K mg base f cdv A outer s H0 E).A)
  {D:Ends}{H H5:Hp}{p qm:Addr}{mt mp w N:Int}{mays:List Int}{v5 v6 v7 v8 v9 v10:Option V}
  (hp:H5 p=some (.lst [.int N])) (hN:0<=N) (hm:H5 qm=some (.tup (mays.map V.int))) (rm:Ris w mays) (kp:Keep H H5 p) (hpH:∃ o,H p=some o) (w0:0<=w) (w1:w<=mt) (w2:mt<=16) (n0:0<=mp) (n1:mp<=32) (q:Told H p mt mp D.rt):
  (boxB T CT CL hr).1 D [some (.ref p),some (.int mt),some (.int mp),some (.int w),some (.ref qm),v5,v6,v7,v8,v9,v10] H5:=by
 refine⟨_,rfl,w,rfl,fun x hx=>⟨x,w,rfl,j5,w0,by lia,fun ql hql=>?_⟩⟩
 rw[jMA]
 have px:p≠x:=jA hp hx
 have pl:p≠ql:=jA hp (y6 hql).2
 have k1:Keep H5 (upd (upd H5 x (.rng 0 w)) ql (.lst ((upto w.toNat).map V.int))) p:=((Keep.refl _ _).new hx _).new hql _
 have e:((w.toNat:Nat):Int)=w:=by lia
 have rl:Ris w (upto w.toNat):=by
  have:=jEJ w.toNat
  rw[e] at this
  exact this
 have S:St0 H (upd (upd H5 x (.rng 0 w)) ql (.lst ((upto w.toNat).map V.int))) p w qm ql mays (upto w.toNat) N:=
  ⟨by rw[j7 pl,j7 px]; exact hp,hN,k1 qm _ hm (ne_of hm hp (by intro z; cases z)),rm,j5,rl,pl.symm,kp.trans k1⟩
 generalize upd (upd H5 x (.rng 0 w)) ql (.lst ((upto w.toNat).map V.int))=H6 at S ⊢
 clear k1 hql hx hp hm kp
 refine⟨_,rfl,p,N,3,rfl,S.hp,S.hN,by decide,by decide,fun N1 r a1 a2 a3=>⟨rfl,_,rfl,?_⟩⟩
 have S1:=S.step ((Keep.refl _ _).upd (.lst [.int N1])) j5 a1
 generalize upd H6 p (.lst [.int N1])=H7 at S1 ⊢
 clear S
 refine ite2 (fun hy=>?_) (fun hy=>?_)
 ·refine⟨(by show 0<=sizeLine; exact ba _),fun l hl=>?_⟩
  have pl2:p≠l:=jA S1.hp hl
  have S2:=S1.step ((Keep.refl _ _).new hl (.lst [])) (by rw[j7 pl2]; exact S1.hp) S1.hN
  have S3:St0 H (upd H7 l (.lst [])) p w qm l mays [] N1:=⟨S2.hp,S2.hN,S2.hm,S2.rm,j5,Ris.nil w,pl2.symm,S2.kp⟩
  exact jGX T CT CL hr S3 hpH w0 w1 w2 n0 n1 q
 ·exact jGX T CT CL hr S1 hpH w0 w1 w2 n0 n1 q
theorem jN2 (T:Txt mg)(CT:Can P w K mg base "_law_take" 1 fT fdT ["pot","wide"] yL)(CL:Can P w K mg base "_law_lot" 2 fL fdL ["pot","wide"] qD)(hr:Room 2 (XBox P w K mg base f cdv A outer s H0 E).A)
  {D:Ends}{H:Hp}{p:Addr}{mt mp N:Int}
  (hp:H p=some (.lst [.int N])) (hN:0<=N) (w0:0<=mt) (w2:mt<=16) (n0:0<=mp) (n1:mp<=32) (q:Told H p mt mp D.rt):
  (boxA T CT CL hr).1 D [some (.ref p),some (.int mt),some (.int mp),none,none,none,none,none,none,none,none] H:=by
 refine⟨_,rfl,_,rfl,_,_,rfl,rfl,p,N,_,rfl,hp,hN,by lia,by lia,fun N1 w a1 a2 a3=>?_⟩
 refine⟨(by show 0<=sizeLine; exact ba _),fun t ht=>?_⟩
 have pt:p≠t:=(y6 ht).1.symm
 refine⟨_,rfl,p,N1,3,rfl,by rw[j7 pt]; exact j5,a1,by decide,by decide,fun N2 r b1 b2 b3=>⟨rfl,_,rfl,?_⟩⟩
 have k1:Keep H (upd (upd (upd H p (.lst [.int N1])) t (.tup [])) p (.lst [.int N2])) p:=(((Keep.refl _ _).upd _).new ht _).upd _
 have hp1:(upd (upd (upd H p (.lst [.int N1])) t (.tup [])) p (.lst [.int N2])) p=some (.lst [.int N2]):=j5
 have ht1:(upd (upd (upd H p (.lst [.int N1])) t (.tup [])) p (.lst [.int N2])) t=some (.tup []):=by rw[j7 pt.symm]; exact j5
 generalize upd (upd (upd H p (.lst [.int N1])) t (.tup [])) p (.lst [.int N2])=H1 at k1 hp1 ht1 ⊢
 clear ht
 refine ite2 (fun hy=>?_) (fun hy=>?_)
 ·refine⟨_,rfl,w,rfl,by lia,by lia,jB8 (n:=w.toNat) (by rw[aF]; lia) (fun D i σ' H' ys=>(∃ v,σ'=[v,some (.ref p)])/\(∃ (ms:List Int) (N':Int),ys=ms.map V.int/\ms.length<=i/\Ris i ms/\0<=N'/\H' p=some (.lst [.int N']))/\Keep H1 H' p/\H' D=some (.lst ys)/\D≠p/\H1 D=none) ?_ ?_ ?_ ?_⟩
  ·intro D hD
   have:p≠D:=jA hp1 hD
   exact⟨⟨_,rfl⟩,⟨[],N2,rfl,ai _,Ris.nil _,b1,by rw[j7 this]; exact hp1⟩,(Keep.refl _ _).new hD _,j5,this.symm,hD⟩
  ·rintro D i σ' H' ys hD hi ⟨_,⟨ms,N',rfl,e,_⟩,_,e2,_⟩
   exact⟨e2,by rw[ab]; exact e⟩
  ·rintro D i σ' H' ys hD hi ⟨⟨v,rfl⟩,⟨ms,N',rfl,e,rs,n',hp'⟩,kk,e2,dp,hn⟩
   refine⟨_,rfl,p,N',3,rfl,hp',n',by decide,by decide,fun N3 r3 c1 c2 c3=>⟨rfl,_,rfl,?_⟩⟩
   have k2:Keep H1 (upd H' p (.lst [.int N3])) p:=kk.upd _
   have e3:(upd H' p (.lst [.int N3])) D=some (.lst (ms.map V.int)):=by rw[j7 dp]; exact e2
   have hp3:(upd H' p (.lst [.int N3])) p=some (.lst [.int N3]):=j5
   generalize upd H' p (.lst [.int N3])=H'' at k2 e3 hp3 ⊢
   refine ite2 (fun hz=>?_) (fun hz=>?_)
   ·refine⟨_,rfl,e3,⟨_,rfl⟩,⟨ms++[(i:Int)],N3,?_,?_,rs.snoc,c1,by rw[j7 dp.symm]; exact hp3⟩,k2.updNew hn _,j5,dp,hn⟩
    ·rw[aQ]
     show _++[V.int (0+(i:Int))]=_++[V.int (i:Int)]
     rw[i5]
    ·rw[aG]
     show ms.length+1<=i+1
     lia
   ·exact⟨⟨_,rfl⟩,⟨ms,N3,rfl,by lia,rs.step,c1,hp3⟩,k2,e3,dp,hn⟩
  ·rintro D σ' H' ys hD ⟨_,⟨ms,N',rfl,e,rs,n',hp'⟩,kk,e2,dp,hn⟩
   refine⟨D,_,rfl, .inl ⟨SqL.of e2,fun qm hqm=>?_⟩⟩
   have pm:p≠qm:=jA hp' hqm
   have e':((w.toNat:Nat):Int)=w:=by lia
   rw[e'] at rs
   exact jGY T CT CL hr (by rw[j7 pm]; exact hp') n' j5 rs ((k1.trans kk).new hqm _) ⟨_,hp⟩ a2 (by lia) w2 n0 n1 q
 ·exact jGY T CT CL hr hp1 b1 (mays:=[]) ht1 (Ris.nil w) k1 ⟨_,hp⟩ a2 (by lia) w2 n0 n1 q
theorem jT7 {f fT fL:Addr}{fd fdT fdL:FuncData}(F:Fun K "_law_box" "_law_box" sBox f fd)(T:Txt mg)(CT:Can P w K mg base "_law_take" 1 fT fdT ["pot","wide"] yL)(CL:Can P w K mg base "_law_lot" 2 fL fdL ["pot","wide"] qD):
  FnOk P w K mg base CX0 3 f fd ["pot","most_things","most_pieces"] spBox:=by
 refine F.ok scBox (fun vs H Q E h=>?_) (fun cdv A outer s H vs Q E hr h=>?_)
 ·obtain⟨_,_,_,_,rfl,_⟩:=h
  rfl
 ·obtain⟨p,N,mt,mp,rfl,hp,hN,m0,m1,n0,n1,q⟩:=h
  exact⟨_,(boxA T CT CL hr).2.h,jN2 T CT CL hr hp hN m0 m1 n0 n1 q⟩
inductive Ob where
 | int (i:Int)
 | oth
 | tup (os:List Ob)
def OthAt (H:Hp)(v:V):Prop:=v= .non\/(∃ b,v= .bl b)\/(∃ x,v= .str x)\/∃ a,v= .ref a/\((∃ xs,H a=some (.lst xs))\/∃ kvs,H a=some (.dK kvs))
mutual
def At (H:Hp):Ob->V->Prop
 | .int i,v=>v= .int i
 | .oth,v=>OthAt H v
 | .tup os,v=>∃ a vs,v= .ref a/\H a=some (.tup vs)/\vs.length<=100/\Ats H os vs
def Ats (H:Hp):List Ob->List V->Prop
 | [],vs=>vs=[]
 | o::os,vs=>∃ v r,vs=v::r/\At H o v/\Ats H os r
end
structure Kp (H H':Hp):Prop where
 t:Tups H H'
 l:∀ a xs,H a=some (.lst xs)->∃ ys,H' a=some (.lst ys)
 d:∀ a xs,H a=some (.dK xs)->∃ ys,H' a=some (.dK ys)
theorem Kp.of {H H':Hp}(e:Ext H H'):Kp H H':=⟨fun b xs h=>e b _ h,fun a xs h=>⟨xs,e a _ h⟩,fun a xs h=>⟨xs,e a _ h⟩⟩
theorem OthAt.mono {H H':Hp}(k:Kp H H'){v:V}(h:OthAt H v):OthAt H' v:=by
 rcases h with h | h | h | ⟨a,rfl,⟨xs,h⟩ | ⟨xs,h⟩⟩
 ·exact .inl h
 ·exact .inr (.inl h)
 ·exact .inr (.inr (.inl h))
 ·exact .inr (.inr (.inr ⟨a,rfl, .inl (k.l _ _ h)⟩))
 ·exact .inr (.inr (.inr ⟨a,rfl, .inr (k.d _ _ h)⟩))
mutual
theorem At.mono {H H':Hp}(k:Kp H H'):∀ (o:Ob) (v:V),At H o v->At H' o v
 | .int _,_,h=>h
 | .oth,_,h=>OthAt.mono k h
 | .tup os,_,⟨a,vs,e,h,n,r⟩=>⟨a,vs,e,k.t _ _ h,n,Ats.mono k os vs r⟩
theorem Ats.mono {H H':Hp}(k:Kp H H'):∀ (os:List Ob) (vs:List V),Ats H os vs->Ats H' os vs
 | [],_,h=>h
 | o::os,_,⟨v,r,e,h,t⟩=>⟨v,r,e,At.mono k o v h,Ats.mono k os r t⟩
end
theorem At.ext {H H':Hp}(e:Ext H H'){o:Ob}{v:V}(h:At H o v):At H' o v:=At.mono (.of e) o v h
theorem Ats.len {H:Hp} :∀ {os:List Ob}{vs:List V},Ats H os vs->vs.length=os.length
 | [],_,h=>by cases (show _=[] from h); rfl
 | o::os,_,⟨v,r,e,h,t⟩=>by rw[e,aW,aW,Ats.len t]
theorem Ats.get {H:Hp} :∀ {os:List Ob}{vs:List V},Ats H os vs->∀ {i:Nat}{v:V},vs[i]?=some v->∃ o,os[i]?=some o/\At H o v
 | [],_,h,i,v,e=>by cases (show _=[] from h); cases e
 | o::os,_,⟨v,r,e,h,t⟩,0,v',e'=>by subst e; cases e'; exact⟨o,rfl,h⟩
 | o::os,_,⟨v,r,e,h,t⟩,i+1,v',e'=>by subst e; exact Ats.get t (i:=i) e'
def isInt:Ob->Bool
 | .int _=>true
 | _=>false
def isTup:Ob->Bool
 | .tup _=>true
 | _=>false
theorem At.ty (K:W.Frag){H:Hp}{o:Ob}{v:V}(h:At H o v):∃ t,TyOf K H v t/\kitOne K t (.type "tuple")=some (isTup o)/\∃ b1 b2,kitOne K t (.type "int")=some b1/\kitOne K t (.type "bool")=some b2/\(b1&&!b2)=isInt o:=by
 cases o with
 | int i=>
  cases (show v= .int i from h)
  exact⟨_, .int i,rfl,true,false,rfl,rfl,rfl⟩
 | oth=>
  rcases (show OthAt H v from h) with rfl | ⟨b,rfl⟩ | ⟨x,rfl⟩ | ⟨a,rfl,⟨xs,e⟩ | ⟨xs,e⟩⟩
  ·exact⟨_, .non,rfl,false,false,rfl,rfl,rfl⟩
  ·exact⟨_, .bl b,rfl,true,true,rfl,rfl,rfl⟩
  ·exact⟨_, .str x,rfl,false,false,rfl,rfl,rfl⟩
  ·exact⟨_, .lst e,rfl,false,false,rfl,rfl,rfl⟩
  ·exact⟨_, .dK e,rfl,false,false,rfl,rfl,rfl⟩
 | tup os=>
  obtain⟨a,vs,rfl,e,_⟩:=h
  exact⟨_, .tup e,rfl,false,false,rfl,rfl,rfl⟩
theorem At.tupOf {H:Hp}{o:Ob}{v:V}(h:At H o v)(t:isTup o=true):∃ os a vs,o= .tup os/\v= .ref a/\H a=some (.tup vs)/\vs.length<=100/\Ats H os vs:=by
 cases o with
 | int i=>cases t
 | oth=>cases t
 | tup os=>
  obtain⟨a,vs,e1,e2,e4,e3⟩:=h
  exact⟨os,a,vs,rfl,e1,e2,e4,e3⟩
theorem jMP {K:W.Frag}{m:List (Option Nat)}{g:TG}{tt:TT}{te:TE}{σ:St}{H1:Hp}{Q:VK}{a:Addr}{xs:List V}{os:List Ob}{F:Ob->Bool}(ha:H1 a=some (.tup xs))(hx:Ats H1 os xs)(hn:xs.length<sizeLine)(σP:St->Prop)(h0:σP (blkσ m σ))
  (step:∀ (σ':St) (H':Hp) (v:V) (o:Ob) (R:St->V->Hp->Prop) (S:St->Hp->Prop),σP σ'->Ext H1 H'->At H' o v->(∀ σ2 H'',σP σ2->Ext H' H''->R σ2 (.bl (F o)) H'')->g v σ' H' fun σ2 H2=>tt σ2 H2 fun b H3=>if b=true then te σ2 H3 (R σ2) else S σ2 H3)
  (hd:∀ D H',Ext H1 H'->H' D=some (.lst ((os.map F).map V.bl))->Q (.ref D) H'):qB m g tt te σ Q (Itt K a) H1:=by
 have hl:=hx.len
 refine jFL (xs:=xs) hn (fun D i σ' H' zs=>σP σ'/\Ext H1 H'/\H' D=some (.lst zs)/\H1 D=none/\zs=((os.take i).map F).map V.bl) ?_ ?_ ?_ ?_
 ·intro D hD
  exact⟨h0,(Ext.refl _).new hD _,j5,hD,rfl⟩
 ·rintro D i σ' H' zs hD ⟨_,e,h2,_,rfl⟩
  refine⟨e _ _ ha,h2,?_⟩
  rw[ab,ab,bq]
  lia
 ·rintro D i σ' H' zs x hD hi ⟨p,e,h2,hn,rfl⟩
  obtain⟨o,ho,hAt⟩:=hx.get hi
  refine step σ' H' x o _ _ p e (hAt.ext e) fun σ2 H'' p2 e2=>⟨e2 _ _ h2,p2,(e.trans e2).updNew hn _,j5,hn,?_⟩
  have:os.take (i+1)=os.take i++[o]:=by
   rw[be,ho]
   rfl
  rw[this,aQ,aQ]
  rfl
 ·rintro D σ' H' zs hD ⟨_,e,h2,_,rfl⟩
  rw[hl,bP] at h2
  exact hd D H' e h2
noncomputable abbrev XOf (N:List Str)(q:Str)(st:Stmt)(P:Program)(w:World)(K:W.Frag)(mg:Str->Option Value)(base:Heap)(f:Addr)(cdv:Value)(A:Around)(outer:List Env)(s:Shared)(H:Hp)(E:XK):Cx:=(cxOf CX0 P w K mg base N q (j8 st) f cdv A outer s H E).nox
abbrev jLH:List Str:=["thing"]
theorem scWhole0:FnScope jLH ["thing"] (j8 jBE):= {}
def spWh:Sp:=fun vs H Q _=>∃ v o,vs=[v]/\At H o v/\Q (.bl (isInt o)) H
def jPQ (T:Txt mg): { t:TS // JSs (XOf jLH "is_whole" jBE P w K mg base f cdv A outer s H0 E) (jC jBE) t} :=
 have nd:=scWhole0.nd
 ⟨_,(jB (jX ((jTO (jH jBJ gD T.isinstance (by decide+kernel) (j3 (jv 0 rfl vL) (j3 (jHY (v:= .ty "int") gD T.int (by decide+kernel) rfl) j6 j4) j4) j4) (jTL (jTM (jH jBJ gD T.isinstance (by decide+kernel) (j3 (jv 0 rfl vL) (j3 (jHY (v:= .ty "bool") gD T.bool (by decide+kernel) rfl) j6 j4) j4) j4)))))))⟩
theorem jLA {fd:FuncData}(F:Fun K "is_whole" "is_whole" jBE f fd)(T:Txt mg):FnOk P w K mg base CX0 1 f fd ["thing"] spWh:=by
 refine F.ok scWhole0 (fun vs H Q E h=>?_) (fun cdv A outer s H vs Q E hr h=>?_)
 ·obtain⟨_,_,rfl,_⟩:=h
  rfl
 ·obtain⟨v,o,rfl,hA,q⟩:=h
  obtain⟨t,ty,_,b1,b2,k1,k2,e⟩:=hA.ty K
  refine⟨_,(jPQ T).2.h,?_⟩
  refine⟨_,rfl,_,_,_,b1,rfl,ty,k1,b1,rfl,?_⟩
  rw[<- e] at q
  cases b1 with
  | true=>exact iteT ⟨_,rfl,_,_,_,b2,rfl,ty,k2,b2,rfl,q⟩
  | false=>exact iteF q
end Eo
namespace L2
open PySem
theorem qb {Q:VK}{H:Hp}{a b:Bool}(q:Q (.bl a) H)(e:a=b):Q (.bl b) H:=e ▸ q
end L2
namespace Eo
open PySem L2
section
variable {fI fPs:Addr}{fdI fdPs:FuncData}
end
end Eo
namespace L2
open PySem
section
variable {P:Program}{w:World}{K:W.Frag}{mg:Str->Option Value}{base:Heap}{N:List Str}{qual:Str}{sc:Scope}{f:Addr}{cdv:Value}{A:Around}{outer:List Env}{s:Shared}{H:Hp}{E:XK}{x y z:Str}{p1 p2 p3 pos:Pos}{k i j l:Nat}
theorem jDB (hN:N.Nodup)(hi:N[i]?=some x)(hj:N[j]?=some y)(hx:sc.names.lookup x=some .local)(hy:sc.names.lookup y=some .local):
  JG (cxOf CX0 P w K mg base N qual sc f cdv A outer s H E).nox (.Tuple [.Name x p1, .Name y p2] k pos) (gTup K 2 (qH (kQ i) (qH (kQ j) gNil))):=
 jM3 (X:=(cxOf CX0 P w K mg base N qual sc f cdv A outer s H E).nox) rfl (jB5 (jN hN hi (loc_l hx)) (jB5 (jN hN hj (loc_l hy)) jHX jCN) jCN)
end
section
variable {K:W.Frag}{m:List (Option Nat)}{g:TG}{tt:TT}{te:TE}{σ:St}{H1:Hp}{Q:VK}
end
end L2
namespace Eo
open PySem L2
theorem jAZ (l:List Int):(l.map V.int).all flatV=true:=by
 rw[bY]
 intro x hx
 obtain⟨i,_,rfl⟩:=aZ.mp hx
 rfl
theorem jBY (i:Int)(l:List Int):inV (.int i) (l.map V.int)=decide (i∈l):=by
 unfold inV
 rw[dX,List.any_eq_true,bW]
 constructor
 ·rintro ⟨x,hx,e⟩
  obtain⟨j,hj,rfl⟩:=aZ.mp hx
  have:j=i:=eq_of_beq e
  rw[<- this]
  exact hj
 ·intro h
  exact⟨.int i,aZ.mpr ⟨i,h,rfl⟩,by simp [eqV]⟩
theorem jEW:∀ (ts:List Int) (lo w:Int),ts.Pairwise (· < ·)->(∀ z∈ts,lo<=z/\z<w)->(ts.length:Int)<=max (w - lo) 0
 | [],lo,w,_,_=>by show (0:Int)<=_; lia
 | a::r,lo,w,hp,hb=>by
  have h1:=hb a ar
  have hp':=dO.mp hp
  have:=jEW r (a+1) w hp'.2 fun z hz=>⟨by have:=hp'.1 z hz; lia,(hb z (az _ hz)).2⟩
  rw[aW]
  lia
def jD (lB:List (List Int×Int))(k:Int):List Int:=(lB.getD k.toNat ([],0)).1
theorem Good.at {mt mp w:Int}{ms:List Int}{lB:List (List Int×Int)}(g:Good mt mp w ms lB){k:Nat}(hk:k<lB.length):GoodPc w (lB.getD k ([],0)):=by
 have e:lB.getD k ([],0)=lB[k]:=by simp [List.getD,hk]
 rw[e]
 exact g.pg _ (bS hk)
theorem jFU {n i:Nat}(h:i<n):(upto n).take (i+1)=(upto n).take i++[(i:Int)]:=by
 unfold upto
 rw[<- ke,<- ke,List.take_range,List.take_range,show min (i+1) n=i+1 by lia,show min i n=i by lia,fQ,aQ]
 rfl
theorem jIA (n:Nat):(upto n).length=n:=by
 unfold upto
 rw[ab,bv]
theorem jTY {H:Hp}{a:Addr}{vs:List V}{os:List Ob}(h:H a=some (.tup vs))(n:vs.length<=100)(r:Ats H os vs):At H (.tup os) (.ref a):=⟨a,vs,rfl,h,n,r⟩
theorem iteT' {A B:Prop}{c:Bool}(hc:c=true)(h:A):if c=true then A else B:=by
 rw[ak hc]
 exact h
theorem _root_.L2.Ext.tups {H H':Hp}(e:Ext H H'):Tups H H':=fun b xs h=>e b _ h
theorem PcsAt.at {H:Hp} :∀ {vs:List V}{ps:List (List Int×Int)},PcsAt H vs ps->∀ {i:Nat}{v:V},vs[i]?=some v->∃ pc,ps[i]?=some pc/\PcAt H v pc
 | [],[],_,i,v,e=>by cases e
 | x::vs,p::ps,h,0,v,e=>by cases e; exact⟨p,rfl,h.1⟩
 | x::vs,p::ps,h,i+1,v,e=>PcsAt.at h.2 (i:=i) e
 | [],_::_,h,_,_,_=>h.elim
 | _::_,[],h,_,_,_=>h.elim
theorem PcsAt.snoc {H:Hp}{v:V}{p:List Int×Int}(hv:PcAt H v p):∀ {vs:List V}{ps:List (List Int×Int)},PcsAt H vs ps->PcsAt H (vs++[v]) (ps++[p])
 | [],[],_=>⟨hv,trivial⟩
 | x::vs,q::ps,h=>⟨h.1,PcsAt.snoc hv h.2⟩
 | [],_::_,h=>h.elim
 | _::_,[],h=>h.elim
def mus (mays:List Int)(n:Nat):List Int:=((List.range n).filter fun (t:Nat)=>!decide ((t:Int)∈mays)).map fun (t:Nat)=>(t:Int)
theorem jF5 (mays:List Int)(n:Nat):mus mays (n+1)=mus mays n++(if (!decide ((n:Int)∈mays))=true then [(n:Int)] else []):=by
 unfold mus
 rw[fQ,cf,aQ]
 congr 1
 rw[b8]
 split <;> rfl
theorem jCD (mays:List Int)(n:Nat):(mus mays n).length<=n:=by
 unfold mus
 rw[ab]
 exact aX (bL _ _) (by rw[bv]; exact ai _)
theorem Keep.ext {H H':Hp}{p:Addr}{o:HO}(k:Keep (L2.upd H p o) H' p)(hp:H p=none):Ext H H':=fun b u hb=>by
 have n:b≠p:=jA hb hp
 exact k b u (by rw[j7 n]; exact hb) n
theorem jLD (n:Nat):∀ (ds:List Int),ds.Nodup->(∀ t∈ds,0<=t/\t<(n:Int))->ds.length<=n:=by
 intro ds h1 h2
 have h3:(ds.map Int.toNat).Nodup:=by
  rw[List.Nodup,dv]
  refine List.Pairwise.imp_of_mem (R:=(· ≠ ·)) (fun {a b} ha hb hne e=>hne ?_) h1
  have:=h2 a ha
  have:=h2 b hb
  lia
 have h4:(ds.map Int.toNat).length<=(List.range n).length:=h3.length_le_of_subset fun x hx=>by
  obtain⟨t,ht,rfl⟩:=aZ.mp hx
  have:=h2 t ht
  exact bM.mpr (by lia)
 rw[ab,bv] at h4
 exact h4
theorem iteN {A B:Prop}{c:Bool}(hc:c=false)(h:B):if c=true then A else B:=by
 rw[hc]
 exact iteF h
abbrev leI:Int->Int->Bool:=fun a b=>decide (a<=b)
def srt (l:List Int):List Int:=l.mergeSort leI
theorem jEQ (l:List Int):(srt l).Perm l:=List.mergeSort_perm _ _
theorem jOX (l:List Int):(srt l).Pairwise (· <= ·):=by
 have:=List.pairwise_mergeSort (le:=leI) (fun a b c h1 h2=>aw (dG (aP h1) (aP h2))) (fun a b=>by
  rw[fO]
  rcases Int.le_total a b with h | h
  ·exact .inl (aw h)
  ·exact .inr (aw h)) l
 exact this.imp fun h=>aP h
theorem jOY {l m:List Int}(h1:m.Pairwise (· <= ·))(h2:m.Perm l):m=srt l:=
 List.Perm.eq_of_pairwise (fun a b _ _ h1 h2=>Int.le_antisymm h1 h2) h1 (jOX l) (h2.trans (jEQ l).symm)
noncomputable abbrev nMask:List Str:=["lot"]
theorem scMask:FnScope nMask ["lot"] (j8 sMask):= {}
def jG0:Sp:=fun vs H Q _=>∃ (q:Addr) (ts:List Int),vs=[.ref q]/\H q=some (.tup (ts.map V.int))/\(∀ t∈ts,0<=t/\t<64)/\ts.length<=64/\∀ H',Ext H H'->Q (.int ((maskN ts:Nat):Int)) H'
def maskA (T:Txt mg): { t:TS // JSs (XOf nMask "mask_of" sMask P w K mg base f cdv A outer s H0 E) (jC sMask) t} :=
 have nd:=scMask.nd
 ⟨_,(jB (jX (jH (jAP rfl) gD T.sum (by decide+kernel) (j3 (kU (m:=[none]) (Nc:=["thing"]) rfl (jM1 (jv 0 rfl vL)) rfl (by decide+kernel) (by decide+kernel) (jQ (psc:=j8 sMask)) (jG (N:=nMask) rfl rfl (by decide+kernel)) (fun cl C fp s H=>jN (i:=0) (show (["thing"]:List Str).Nodup by decide+kernel) rfl yH) (fun cl C fp s H=>kX) (fun cl C fp s H=>(jR jIO (je_int) (jv 0 rfl jL))) jAG) j6 jW) jW)))⟩
theorem jJV (ts:List Int)(h:∀ t∈ts,0<=t):(ts.map fun t=>(1:Int)*2 ^ t.toNat).sum=((maskN ts:Nat):Int):=by
 induction ts with
 | nil=>rfl
 | cons t r ih=>
  have e:maskN (t::r)=2 ^ t.toNat+maskN r:=by simp [maskN]
  rw[bi,eZ,ih fun x hx=>h x (az _ hx),e]
  push_cast
  lia
theorem jQU {fd:FuncData}(F:Fun K "mask_of" "mask_of" sMask f fd)(T:Txt mg):FnOk P w K mg base CX0 1 f fd ["lot"] jG0:=by
 refine F.ok scMask (fun vs H Q E h=>?_) (fun cdv A outer s H vs Q E hr h=>?_)
 ·obtain⟨_,_,rfl,_⟩:=h
  rfl
 ·obtain⟨q,ts,rfl,hq,hb,hl,k⟩:=h
  refine⟨_,(maskA T).2.h,?_⟩
  refine⟨_,rfl,q,rfl,⟨_,SqT.of hq⟩,jFL (xs:=ts.map V.int) (by rw[ab,aF]; lia) (fun D i σ' H' zs=>(∃ v,σ'=[v])/\Ext H H'/\H' D=some (.lst zs)/\H D=none/\zs=((ts.take i).map fun t=>(1:Int)*2 ^ t.toNat).map V.int) ?_ ?_ ?_ ?_⟩
  ·intro D hD
   exact⟨⟨_,rfl⟩,(Ext.refl _).new hD _,j5,hD,rfl⟩
  ·rintro D i σ' H' zs hD ⟨_,e,h2,_,rfl⟩
   refine⟨e _ _ hq,h2,?_⟩
   rw[ab,ab,bq]
   lia
  ·rintro D i σ' H' zs x hD hx ⟨⟨v,rfl⟩,e,h2,hn,rfl⟩
   obtain⟨z,hz,rfl⟩:∃ z:Int,ts[i]?=some z/\V.int z=x:=by
    rw[aY] at hx
    cases hq:ts[i]? with
    | none=>rw[hq] at hx; cases hx
    | some z=>rw[hq] at hx; cases hx; exact⟨z,rfl,rfl⟩
   have hzb:=hb z (aC hz)
   dsimp only [kQ,yG]
   rw[ak rfl]
   refine⟨_,rfl,_,_,rfl,rfl,⟨?_,?_,?_⟩,h2,⟨_,rfl⟩,e.updNew hn _,j5,hn,?_⟩
   ·first | lia | decide
   ·first | lia | decide
   ·first | lia | decide
   ·have:ts.take (i+1)=ts.take i++[z]:=by
     rw[be,hz]
     rfl
    rw[this,aQ,aQ]
    rfl
  ·rintro D σ' H' zs hD ⟨_,e,h2,hn,rfl⟩
   refine⟨D,_,rfl,SqL.of h2,?_⟩
   rw[ab,bP,jJV ts fun t ht=>(hb t ht).1]
   exact k H' e
end Eo
namespace L2
open PySem
theorem jEA {X:Cx}{a b c:Expr}{pos:Pos}{ta tb:TE}{tc:TT}(hc:JT X c tc)(ha:JE X a ta)(hb:JE X b tb):JE X (.IfExp c a b pos) (tIf tc ta tb):=⟨jNR hc.h ha.h hb.h⟩
theorem jS6 {a b c:Expr}{pos:Pos}{o:Option Expr} :SwOk (.IfExp c a b pos) o:=⟨fun _ _=>rfl⟩
end L2
namespace Eo
open PySem L2
def PrAt (H:Hp)(v:V)(c:Int×Nat):Prop:=∃ q,v= .ref q/\H q=some (.tup [.int c.1, .int ((c.2:Nat):Int)])
theorem PrAt.mono {H H':Hp}(t:Tups H H'){v:V}{c:Int×Nat}(h:PrAt H v c):PrAt H' v c:=let ⟨q,e,z⟩:=h; ⟨q,e,t _ _ z⟩
def RowAt (H:Hp)(l:Addr)(cs:List (Int×Nat)):Prop:=∃ vs,H l=some (.lst vs)/\All2 (PrAt H) vs cs
structure ChAt (H:Hp)(L:Addr)(ch:Ch):Prop where
 ex:∃ ls:List Addr,H L=some (.lst (ls.map V.ref))/\ls.Nodup/\All2 (RowAt H) ls ch
theorem RowAt.keep {H H':Hp}{l:Addr}{cs:List (Int×Nat)}(h:RowAt H l cs)(k:∀ xs,H l=some (.lst xs)->H' l=some (.lst xs))(t:Tups H H'):RowAt H' l cs:=let ⟨vs,a,b⟩:=h; ⟨vs,k _ a,b.imp fun _ _=>PrAt.mono t⟩
theorem ChAt.keep {H H':Hp}{L:Addr}{ch:Ch}(h:ChAt H L ch)(k:∀ b xs,H b=some (.lst xs)->H' b=some (.lst xs))(t:Tups H H'):ChAt H' L ch:=by
 obtain⟨ls,a,b,c⟩:=h.ex
 exact⟨ls,k _ _ a,b,c.imp fun l cs r=>r.keep (k l) t⟩
theorem ChAt.ext {H H':Hp}{L:Addr}{ch:Ch}(h:ChAt H L ch)(e:Ext H H'):ChAt H' L ch:=h.keep (fun b xs z=>e _ _ z) e.tups
theorem ChAt.len {H:Hp}{L:Addr}{ch:Ch}(h:ChAt H L ch):∃ ls:List Addr,H L=some (.lst (ls.map V.ref))/\ls.length=ch.length:=by
 obtain⟨ls,a,b,c⟩:=h.ex
 exact⟨ls,a,c.len⟩
def yR (ms:List Int)(lB:List (List Int×Int))(n t:Nat):List (Int×Nat):=
 (if (t:Int)∈ms then [(-1,2 ^ t)] else [])++(((upto lB.length).take n).filter fun k=>decide ((jD lB k).headD 0=(t:Int))).map fun k=>(k,maskN (jD lB k))
def chsN (w:Nat)(ms:List Int)(lB:List (List Int×Int))(n:Nat):Ch:=(List.range w).map (yR ms lB n)
def chs (w:Nat)(ms:List Int)(lB:List (List Int×Int)):Ch:=chsN w ms lB lB.length
theorem jA5 (w:Nat)(ms:List Int)(lB:List (List Int×Int))(n:Nat):(chsN w ms lB n).length=w:=by
 unfold chsN
 rw[ab,bv]
theorem jA9 {w:Nat}{ms:List Int}{lB:List (List Int×Int)}{n t:Nat}(h:t<w):(chsN w ms lB n)[t]?=some (yR ms lB n t):=by
 unfold chsN
 rw[aY,cV h]
 rfl
theorem jGG {ts:List Int}{t:Nat}(hp:ts.Pairwise (· < ·))(h0:∀ x∈ts,0<=x)(h:(t:Int)∈ts):(maskN ts).testBit t=true:=by
 rw[jBT ts t hp h0,aw h]
theorem jHT {ts:List Int}{w:Nat}(hp:ts.Pairwise (· < ·))(h0:∀ x∈ts,0<=x/\x<(w:Int)):maskN ts<2 ^ w:=by
 refine Nat.lt_pow_two_of_testBit _ fun i hi=>?_
 rw[jBT ts i hp fun x hx=>(h0 x hx).1,aH]
 intro z
 have:=(h0 _ z).2
 lia
theorem jJ2 {l:List Int}(h:l≠ []):l.headD 0∈l:=by
 cases l with
 | nil=>exact absurd rfl h
 | cons a r=>exact ar ..
theorem jED {w:Int}{ms:List Int}{lB:List (List Int×Int)}{n:Nat}(g:Good 16 32 w ms lB):ChOk (chsN w.toNat ms lB n):=by
 have w0:=g.w0
 have w1:=g.w1
 have gpl:=g.pl
 refine⟨by rw[jA5]; lia,fun t cs h=>?_,fun t cs h c hc=>?_⟩
 ·have ht:t<w.toNat:=by
   have:=(am.mp h).1
   rwa [jA5] at this
  rw[jA9 ht] at h
  cases h
  unfold yR
  rw[aG,ab]
  have:=bL (fun k=>decide ((jD lB k).headD 0=(t:Int))) ((upto lB.length).take n)
  have:=eF n (upto lB.length)
  have:=jIA lB.length
  have:((upto lB.length).take n).length<=(upto lB.length).length:=by rw[bq]; lia
  split <;> simp only [aW,dY] <;> lia
 ·have ht:t<w.toNat:=by
   have:=(am.mp h).1
   rwa [jA5] at this
  rw[jA9 ht] at h
  cases h
  unfold yR at hc
  rw[jA5]
  rcases ay.mp hc with hc | hc
  ·split at hc
   ·rw[aO] at hc
    subst hc
    exact⟨by simp [eE],gB (by decide) ht,by show (-1:Int)<= -1; decide,by show (-1:Int)<32; decide⟩
   ·cases hc
  ·obtain⟨k,hk,rfl⟩:=aZ.mp hc
   obtain⟨hk1,hk2⟩:=bf.mp hk
   have kb:=(jEJ lB.length).bnd k (cO hk1)
   have gp:=g.at (k:=k.toNat) (by lia)
   have hk2:=aP hk2
   have hne:jD lB k≠ []:=gp.lot.ne
   have hm:(t:Int)∈jD lB k:=by
    rw[<- hk2]
    exact jJ2 hne
   exact⟨jGG gp.lot.ris (fun x hx=>(gp.lot.bnd x hx).1) hm,jHT gp.lot.ris fun x hx=>⟨(gp.lot.bnd x hx).1,by have:=(gp.lot.bnd x hx).2; lia⟩,by lia,by lia⟩
abbrev jB3:List Str:=["box","choices","number","piece"]
theorem scChoices:FnScope jB3 ["box"] (j8 y8):= {}
def jAJ:Sp:=fun vs H Q _=>∃ (b:Addr) (w:Int) (ms:List Int) (lB:List (List Int×Int)),vs=[.ref b]/\BoxAt H b w ms lB/\Good 16 32 w ms lB/\∀ r H',ChAt H' r (chs w.toNat ms lB)->Ext H H'->Q (.ref r) H'
def jRO (T:Txt mg)(CM:Can P w K mg base "mask_of" 1 fM fdM ["lot"] jG0)(hr:Room 1 (XOf jB3 "choices_of" y8 P w K mg base f cdv A outer s H0 E).A): { t:TS // JSs (XOf jB3 "choices_of" y8 P w K mg base f cdv A outer s H0 E) (yT ((jC y8).getD 1 (.Pass ⟨0,0,0,0⟩))) t} :=
 have nd:=scChoices.nd
 ⟨_,(jB (jBH (je_bm b9 db de jAK (jT yB (jv 1 rfl vL) (jT kL (jT kL (jv 3 rfl vL) (je_int) jF) (je_int) jF) jSB) (j3 (yK (j3 (jv 2 rfl vL) (j3 (CM.je hr gD (j3 (jT kL (jv 3 rfl vL) (je_int) jF) j6 jV) jV) j6 jI) j4)) j6 jE5) jE5) jK))⟩
def jON (T:Txt mg)(CM:Can P w K mg base "mask_of" 1 fM fdM ["lot"] jG0)(hr:Room 1 (XOf jB3 "choices_of" y8 P w K mg base f cdv A outer s H0 E).A): { t:TS // JSs (XOf jB3 "choices_of" y8 P w K mg base f cdv A outer s H0 E) (jC y8) t} :=
 have nd:=scChoices.nd
 ⟨_,(j9 (jAX (i:=1) nd rfl lL ⟨by rfl⟩ (m:=[none,some 0]) (Nc:=["thing","box"]) rfl (jA2 gD T.range (j3 (jT kL (jv 0 rfl vC) (je_int) jF) j6 jV) jV) rfl (by decide+kernel) (by decide+kernel) (jQ (psc:=j8 y8)) (jG (N:=jB3) rfl rfl (by decide+kernel)) (fun cl C fp s H=>jN (i:=0) (show (["thing","box"]:List Str).Nodup by decide+kernel) rfl yH) (fun cl C fp s H=>kX) (fun cl C fp s H=>(jEA (jJ jF2 (jv 0 rfl jL) (jT jBX (jv 1 rfl kN) (je_int) jF) jLE) (jAF (j3 (yK (j3 (je_un jKH (je_int)) (j3 (jR jIO (je_int) (jv 0 rfl jL)) j6 kY) se_un)) j6 jE5)) (jAF j6))) kI) (j9 (yO bx rfl (jM2 gD T.enumerate (j3 (jT kL (jv 0 rfl vC) (je_int) jF) j6 jV) jV) (jDB (i:=2) (j:=3) nd rfl rfl (by decide+kernel) (by decide+kernel)) (jRO T CM hr).2 kI) (jB (jX (jv 1 rfl vL)))))⟩
noncomputable abbrev nFull:List Str:=["choices"]
theorem scFull:FnScope nFull ["choices"] (j8 sFull):= {}
def jCP:Sp:=fun vs H Q _=>∃ (L:Addr) (ch:Ch),vs=[.ref L]/\ChAt H L ch/\ch.length<=16/\Q (.int ((fullN ch:Nat):Int)) H
def fullA (T:Txt mg): { t:TS // JSs (XOf nFull "full_mask" sFull P w K mg base f cdv A outer s H0 E) (jC sFull) t} :=
 have nd:=scFull.nd
 ⟨_,(jB (jX (jR jCX (jR jIO (je_int) (jH jO gD T.len (by decide+kernel) (j3 (jv 0 rfl vL) j6 j4) j4)) (je_int))))⟩
noncomputable abbrev nAt:List Str:=["choices","mask","least_lacked"]
theorem scAt:FnScope nAt ["choices","mask"] (j8 sAt):= {}
def spAt:Sp:=fun vs H Q _=>∃ (L:Addr) (ch:Ch) (m:Nat),vs=[.ref L, .int (m:Int)]/\ChAt H L ch/\ChOk ch/\m<2 ^ ch.length/\m≠fullN ch/\∀ r H',RowAt H' r (chAt ch m)->Ext H H'->H r=none->Q (.ref r) H'
def atA (T:Txt mg): { t:TS // JSs (XOf nAt "choices_at" sAt P w K mg base f cdv A outer s H0 E) (jC sAt) t} :=
 have nd:=scAt.nd
 ⟨_,(j9 (jE (i:=2) nd rfl lL (jR jCX (jPF PySem.F.plainAttrs_int PySem.F.slot_int_bit_length PySem.F.type_int_bit_length jR3 (jR jL9 (je_un jRZ (jv 1 rfl vC)) (jR yF (jv 1 rfl vC) (je_int)))) (je_int)) jE2)
   (jB (jX (kU (m:=[none,some 1]) (Nc:=["choice","mask"]) rfl (kT (jT yB (jv 0 rfl vL) (jv 2 rfl vL) y9)) rfl (by decide+kernel) (by decide+kernel) (jQ (psc:=j8 sAt)) (jG (N:=nAt) rfl rfl (by decide+kernel)) (fun cl C fp s H=>jN (i:=0) (show (["choice","mask"]:List Str).Nodup by decide+kernel) rfl yH) (fun cl C fp s H=>jAW (jJ yW (jR jL9 (jT jBX (jv 0 rfl jL) (je_int) jF) (jv 1 rfl kN)) (je_int) (jM _))) (fun cl C fp s H=>(jv 0 rfl jL)) jEC))))⟩
theorem jEE (ms:List Int)(lB:List (List Int×Int))(t:Nat):yR ms lB 0 t=if (t:Int)∈ms then [(-1,2 ^ t)] else []:=by
 unfold yR
 rw[ju]
 simp
theorem jMU {w n:Nat}{ms:List Int}{lB:List (List Int×Int)}(hn:n<lB.length)(t:Nat)(ht:(jD lB (n:Int)).headD 0=(t:Int)):chsN w ms lB (n+1)=(chsN w ms lB n).set t (yR ms lB n t++[((n:Int),maskN (jD lB n))]):=by
 have key:∀ u,yR ms lB (n+1) u=yR ms lB n u++if u=t then [((n:Int),maskN (jD lB n))] else []:=fun u=>by
  unfold yR
  rw[jFU hn,cf,aQ,aU]
  congr 2
  rw[b8,ht]
  by_cases hu:u=t
  ·subst hu
   rw[ak (aw rfl),ak rfl]
   rfl
  ·rw[aj (by rw[bW]; lia),aj hu]
   rfl
 refine List.ext_getElem? fun i=>?_
 rw[gm,jA5]
 by_cases hi:i<w
 ·rw[jA9 hi,jA9 hi,key]
  by_cases h:t=i
  ·subst h
   rw[ak rfl,ak rfl,ak hi]
  ·rw[aj h,aj (fun z=>h z.symm),bg]
 ·rw[cn (by rw[jA5]; lia),cn (by rw[jA5]; lia)]
  split
  ·rw[aj (by lia)]
  ·rfl
theorem ChAt.app {H:Hp}{L:Addr}{ch:Ch}{t:Nat}{l:Addr}{ls:List Addr}{vs:List V}{cs:List (Int×Nat)}{v:V}{c:Int×Nat}(hL:H L=some (.lst (ls.map V.ref)))(nd:ls.Nodup)(al:All2 (RowAt H) ls ch)(hl:ls[t]?=some l)(hc:ch[t]?=some cs)(hv:H l=some (.lst vs))(av:All2 (PrAt H) vs cs)(pv:PrAt H v c)(ne:l≠L):
  (L2.upd H l (.lst (vs++[v]))) L=some (.lst (ls.map V.ref))/\All2 (RowAt (L2.upd H l (.lst (vs++[v])))) ls (ch.set t (cs++[c])):=by
 have tu:Tups H (L2.upd H l (.lst (vs++[v]))):=Tups.upd hv _
 refine⟨by rw[j7 ne.symm]; exact hL,?_⟩
 refine All2.of_get (by rw[gJ]; exact al.len) fun i a b h1 h2=>?_
 rw[gm] at h2
 by_cases hi:t=i
 ·subst hi
  rw[ak rfl,ak (am.mp hc).1] at h2
  cases h2
  rw[hl] at h1
  cases h1
  exact⟨_,j5,(av.imp fun _ _=>PrAt.mono tu).snoc (pv.mono tu)⟩
 ·rw[aj hi] at h2
  obtain⟨b',hb',r⟩:=al.get' h1
  rw[h2] at hb'
  cases hb'
  refine r.keep (fun xs hx=>?_) tu
  rw[j7 fun z=>hi ?_]
  ·exact hx
  ·exact(List.getElem?_inj (am.mp hl).1 nd).mp (by rw[hl,h1,z])
theorem jJO {fd:FuncData}(F:Fun K "choices_of" "choices_of" y8 f fd)(T:Txt mg)(CM:Can P w K mg base "mask_of" 1 fM fdM ["lot"] jG0):FnOk P w K mg base CX0 2 f fd ["box"] jAJ:=by
 refine F.ok scChoices (fun vs H Q E h=>?_) (fun cdv A outer s H vs Q E hr h=>?_)
 ·obtain⟨_,_,_,_,rfl,_⟩:=h
  rfl
 ·obtain⟨b,w,ms,lB,rfl,hB,g,q⟩:=h
  refine⟨_,(jON T CM hr).2.h,?_⟩
  obtain⟨qm,qp,ps,b1,b2,b3,b4⟩:=id hB.ex
  have pl:=b4.len
  have w0:=g.w0
  have w1:=g.w1
  have gpl:=g.pl
  refine⟨_,rfl,b,_,0,_,rfl,rfl,SqT.of b1,rfl,w,rfl,by lia,by lia,jB8 (n:=w.toNat) (by rw[aF]; lia) (fun D i σ' H' zs=>(∃ v,σ'=[v,some (.ref b)])/\Ext H H'/\H' D=some (.lst zs)/\H D=none/\∃ ls:List Addr,zs=ls.map V.ref/\ls.Nodup/\D∉ls/\(∀ a∈ls,H a=none)/\All2 (RowAt H') ls ((List.range i).map (yR ms lB 0))) ?_ ?_ ?_ ?_⟩
  ·intro D hD
   exact⟨⟨_,rfl⟩,(Ext.refl _).new hD _,j5,hD,[],rfl,jn,by simp,by simp,trivial⟩
  ·rintro D i σ' H' zs hD hi ⟨_,e,h2,_,ls,rfl,_,_,_,al⟩
   refine⟨h2,?_⟩
   rw[ab,al.len,ab,bv]
   lia
  ·rintro D i σ' H' zs hD hi ⟨⟨v,rfl⟩,e,h2,hn,ls,rfl,nd,hDl,nol,al⟩
   dsimp only [kQ,yG]
   rw[ak rfl]
   have e0:(0+(i:Int))=(i:Int):=by lia
   have key:∀ (l:Addr) (H2:Hp),Ext H' H2->H' l=none->RowAt H2 l (yR ms lB 0 i)->H2 D=some (.lst (ls.map V.ref))/\((∃ v,[some (V.int (i:Int)),some (.ref b)]=[v,some (.ref b)])/\Ext H (L2.upd H2 D (.lst (ls.map V.ref++[.ref l])))/\(L2.upd H2 D (.lst (ls.map V.ref++[.ref l]))) D=some (.lst (ls.map V.ref++[.ref l]))/\H D=none/\∃ ls':List Addr,ls.map V.ref++[.ref l]=ls'.map V.ref/\ls'.Nodup/\D∉ls'/\(∀ a∈ls',H a=none)/\All2 (RowAt (L2.upd H2 D (.lst (ls.map V.ref++[.ref l])))) ls' ((List.range (i+1)).map (yR ms lB 0))):=fun l H2 e2 nl rl=>by
    have hD2:=e2 _ _ h2
    have lD:l≠D:=fun z=>by rw[z,h2] at nl; cases nl
    have tu:Tups H2 (L2.upd H2 D (.lst (ls.map V.ref++[.ref l]))):=Tups.upd hD2 _
    have kp:∀ a xs,a≠D->H2 a=some (.lst xs)->(L2.upd H2 D (.lst (ls.map V.ref++[.ref l]))) a=some (.lst xs):=fun a xs ha h=>by rw[j7 ha]; exact h
    refine⟨hD2,⟨_,rfl⟩,(e.trans e2).updNew hn _,j5,hn,ls++[l],by rw[aQ]; rfl,?_,?_,?_,?_⟩
    ·rw[iy]
     refine⟨nd,by simp,fun a ha b hb z=>?_⟩
     rw[aO] at hb
     subst hb z
     obtain⟨j,hj⟩:=bI ha
     obtain⟨cs,_,vs,r,_⟩:=al.get' hj
     rw[nl] at r
     cases r
    ·rw[ay,aO]
     rintro (z | z)
     ·exact hDl z
     ·exact lD z.symm
    ·intro a ha
     rcases ay.mp ha with z | z
     ·exact nol a z
     ·rw[aO] at z
      subst z
      cases y:H a with
      | none=>rfl
      | some o=>rw[e _ _ y] at nl; cases nl
    ·rw[fQ,aQ]
     refine(All2.of_get al.len fun j a c h1 h2'=>?_).snoc (rl.keep (fun xs=>kp l xs lD) tu)
     obtain⟨c',hc',r⟩:=al.get' h1
     rw[h2'] at hc'
     cases hc'
     have aD:a≠D:=fun z=>hDl (z ▸ aC h1)
     exact r.keep (fun xs hx=>kp a xs aD (e2 _ _ hx)) (e2.tups.trans tu)
   refine⟨_,rfl,_,rfl,b,_,1,_,rfl,rfl,SqT.of (e _ _ b1),rfl,qm,_,rfl, .inr (SqT.of (e _ _ b2)),rfl,jAZ ms,_,rfl,?_⟩
   rw[e0,jBY]
   refine ite2 (fun hz=>?_) (fun hz=>?_)
   ·have hz:=aP hz
    refine⟨_,rfl,_,rfl,_,_,rfl,rfl,⟨by lia,by lia,by decide⟩,by show (2:Nat)<=_; decide,fun r H2 d2 e2=>⟨by show (1:Nat)<=_; decide,fun l H3 d3 e3 n3=>?_⟩⟩
    have nl:H' l=none:=by
     cases z:H' l with
     | none=>rfl
     | some o=>rw[e2 _ _ z] at n3; cases n3
    refine key l H3 (e2.trans e3) nl ⟨_,d3,?_⟩
    rw[jEE,ak hz]
    refine⟨⟨r,rfl,?_⟩,trivial⟩
    have:(1:Int)*2 ^ (i:Int).toNat=((2 ^ i:Nat):Int):=by
     rw[bB]
     push_cast
     lia
    rw[e3 _ _ d2]
    show some (HO.tup [V.int (-1),V.int ((1:Int)*2 ^ (i:Int).toNat)])=_
    rw[this]
   ·refine⟨by show (0:Nat)<=_; decide,fun l H3 d3 e3 n3=>?_⟩
    refine key l H3 e3 n3 ⟨_,d3,?_⟩
    rw[jEE,aj (fun z=>hz (aw z))]
    trivial
  ·rintro D σ' H1 zs hD ⟨_,e1,h2,hn,ls,rfl,nd,hDl,nol,al⟩
   refine⟨_,rfl,b,_,2,_,rfl,rfl,SqT.of (e1 _ _ b1),rfl,true,qp,rfl,⟨_,SqT.of (e1 _ _ b3)⟩,jJ5 (tp:=true) (xs:=ps) (fun i σ H'=>(∃ v2 v3,σ=[some (.ref b),some (.ref D),v2,v3])/\Ext H H'/\H' D=some (.lst (ls.map V.ref))/\All2 (RowAt H') ls (chsN w.toNat ms lB i)) ⟨⟨_,_,rfl⟩,e1,h2,al⟩ (fun i σ H' ⟨_,e,_⟩=>SqT.of (e _ _ b3)) ?_ ?_⟩
   ·rintro i x t σ H' hx ht ⟨⟨v2,v3,rfl⟩,e,h3,al3⟩
    obtain⟨pc,hpc,hPc⟩:=b4.at hx
    obtain⟨pa,pq,rfl,c1,c2⟩:=id hPc
    have hi:i<lB.length:=(am.mp hpc).1
    have gp:=g.pg pc (aC hpc)
    have et:jD lB (i:Int)=pc.1:=by
     unfold jD
     rw[bB,af,hpc]
     rfl
    have lt:=jEW _ 0 w gp.lot.ris gp.lot.bnd
    have e':=e.new ht (.tup [.int (i:Int), .ref pa])
    have k':Ext H' (L2.upd H' t (.tup [.int (i:Int), .ref pa])):=(Ext.refl _).new ht _
    refine⟨t,_,rfl,SqT.of j5,rfl,_,_,rfl,_,_,rfl,rfl,?_⟩
    have h5:=k' _ _ h3
    have al5:=al3.imp fun l cs r=>r.keep (fun xs z=>k' _ _ z) k'.tups
    generalize L2.upd H' t (.tup [.int (i:Int), .ref pa])=H5 at e' h5 al5 ⊢
    obtain⟨hd,tl,hp1⟩:∃ hd tl,pc.1=hd::tl:=by
     cases z:pc.1 with
     | nil=>exact absurd z gp.lot.ne
     | cons a r=>exact⟨a,r,rfl⟩
    have hb:=gp.lot.bnd hd (by rw[hp1]; exact ar ..)
    have hdl:(jD lB (i:Int)).headD 0=((hd.toNat:Nat):Int):=by
     rw[et,hp1]
     show hd=_
     lia
    have hw:hd.toNat<w.toNat:=by lia
    obtain⟨l,hl,vs,hv,av⟩:=al5.get (jA9 hw)
    have lne:l≠D:=fun z=>hDl (z ▸ aC hl)
    have iD:atI (ls.map V.ref) hd=some (.ref l):=by
     have:=jCM (xs:=ls.map V.ref) (j:=hd.toNat) (v:= .ref l) (by rw[aY,hl]; rfl)
     rwa [show ((hd.toNat:Nat):Int)=hd by lia] at this
    have c2':H5 pq=some (.tup (pc.1.map V.int)):=e' _ _ c2
    refine⟨_,rfl,_,rfl,pa,_,0,_,rfl,rfl,SqT.of (e' _ _ c1),rfl,pq,_,0, .int hd,rfl,rfl,SqT.of c2',by rw[hp1]; exact jCM (j:=0) rfl,D,_,_,_,rfl,rfl,SqL.of h5,iD, .inl ⟨rfl,_,SqL.of hv⟩,_,rfl,_,rfl,pa,_,0,_,rfl,rfl,SqT.of (e' _ _ c1),rfl,pq,pc.1,rfl,c2',fun x hx=>?_,by lia,fun H6 e6=>?_⟩
    ·have:=gp.lot.bnd x hx
     lia
    refine⟨by show (2:Nat)<=_; decide,fun r H7 d7 e7=>?_⟩
    have E7:=e6.trans e7
    have hv7:=E7 _ _ hv
    have vl:vs.length<=33:=by
     rw[av.len]
     exact(jED g).len _ _ (jA9 hw)
    have ap:=ChAt.app (v:= .ref r) (c:=((i:Int),maskN (jD lB (i:Int)))) (E7 _ _ h5) nd (al5.imp fun l cs r=>r.keep (fun xs z=>E7 _ _ z) E7.tups) hl (jA9 hw) hv7 (av.imp fun _ _=>PrAt.mono E7.tups) ⟨r,rfl,by rw[et]; exact d7⟩ lne
    have nH:H l=none:=by
     cases z:H l with
     | none=>rfl
     | some o=>
      exfalso
      rw[nol l (aC hl)] at z
      cases z
    refine⟨l,_,_,rfl,rfl,hv7,by rw[aF]; lia,⟨_,_,rfl⟩,?_,ap.1,?_⟩
    ·exact(e'.trans E7).updNew nH _
    ·rw[jMU hi hd.toNat hdl]
     exact ap.2
   ·rintro σ H' ⟨⟨v2,v3,rfl⟩,e,h3,al3⟩
    refine⟨_,rfl,q D H' ⟨ls,h3,nd,?_⟩ e⟩
    rw[pl] at al3
    exact al3
theorem jQY {fd:FuncData}(F:Fun K "full_mask" "full_mask" sFull f fd)(T:Txt mg):FnOk P w K mg base CX0 1 f fd ["choices"] jCP:=by
 refine F.ok scFull (fun vs H Q E h=>?_) (fun cdv A outer s H vs Q E hr h=>?_)
 ·obtain⟨_,_,rfl,_⟩:=h
  rfl
 ·obtain⟨L,ch,rfl,hL,hw,q⟩:=h
  refine⟨_,(fullA T).2.h,?_⟩
  obtain⟨ls,h1,h2⟩:=hL.len
  refine⟨_,rfl,L,_,rfl, .inl (SqL.of h1),_,_,rfl,rfl,⟨?_,?_,?_⟩,_,_,rfl,rfl,?_⟩
  ·first | lia | decide
  ·rw[ab]; lia
  ·first | lia | decide
  ·have e:(1:Int)*2 ^ (((ls.map V.ref).length:Nat):Int).toNat - 1=((fullN ch:Nat):Int):=by
    rw[ab,h2,bB]
    unfold fullN
    have:=eX ch.length
    have e2:((2 ^ ch.length:Nat):Int)=(2:Int) ^ ch.length:=by push_cast; rfl
    lia
   show Q (V.int ((1:Int)*2 ^ (((ls.map V.ref).length:Nat):Int).toNat - 1)) H
   rw[e]
   exact q
theorem ok_at {fd:FuncData}(F:Fun K "choices_at" "choices_at" sAt f fd)(T:Txt mg):FnOk P w K mg base CX0 1 f fd ["choices","mask"] spAt:=by
 refine F.ok scAt (fun vs H Q E h=>?_) (fun cdv A outer s H vs Q E hr h=>?_)
 ·obtain⟨_,_,_,rfl,_⟩:=h
  rfl
 ·obtain⟨L,ch,m,rfl,hL,ok,hm,hf,q⟩:=h
  refine⟨_,(atA T).2.h,?_⟩
  obtain⟨ls,h1,nd,al⟩:=hL.ex
  have hlow:=jDP hm hf
  have w16:=ok.w
  refine⟨_,rfl,_,rfl,_,rfl,_,_,rfl,rfl,_,_,rfl,rfl,rfl,_,rfl,rfl,_,_,rfl,rfl,?_⟩
  have el:(Builtin.Int.intBits (Builtin.bitAnd (Builtin.bitNot (m:Int)) ((m:Int)+1)):Int) - 1=((lowN m:Nat):Int):=by
   rw[jO3]
   lia
  show kQ 2 (V.int ((Builtin.Int.intBits (Builtin.bitAnd (Builtin.bitNot (m:Int)) ((m:Int)+1)):Int) - 1)) _ _ _
  rw[el]
  obtain⟨l,hl,vs,hv,av⟩:=al.get (ag hlow)
  have vl:vs.length<=33:=by
   rw[av.len]
   exact ok.len _ _ (ag hlow)
  have er:ch.getD (lowN m) []=ch[lowN m]:=by
   rw[af,ag hlow]
   rfl
  refine⟨_,rfl,_,rfl,L,_,_,_,rfl,rfl,SqL.of h1,jCM (by rw[aY,hl]; rfl),l,rfl,⟨_,SqL.of hv⟩,jA8 (xs:=vs) (fun σ=>∃ v,σ=[v,some (.int (m:Int))]) (fun H' zs j=>All2 (PrAt H') zs (((ch[lowN m]).take j).filter fun c=>c.2&&&m==0)) ⟨fun H=>trivial,fun H H' zs j t h=>h.imp fun _ _=>PrAt.mono t,fun H zs j h=>?_⟩ hv (by rw[aF]; lia) ⟨_,rfl⟩ ?_ ?_⟩
  ·rw[h.len]
   exact aX (bL _ _) (eF _ _)
  ·rintro j x σ' H' zs hx ⟨v,rfl⟩ e hz R S yes no
   obtain⟨c,hc,qa,rfl,hq⟩:=av.get' hx
   have hq':=e _ _ hq
   have et:(ch[lowN m]).take (j+1)=(ch[lowN m]).take j++[c]:=by
    rw[be,hc]
    rfl
   refine⟨_,rfl,qa,_,1,_,rfl,rfl,SqT.of hq',rfl,_,rfl,_,_,rfl,rfl,rfl,_,rfl,?_⟩
   have ez:decide (V.int (Builtin.bitAnd ((c.2:Nat):Int) (m:Int))=V.int 0)=(c.2&&&m==0):=by
    rw[jK9,dX,bW,kj]
    exact⟨fun h=>by have:=V.int.inj h; lia,fun h=>by rw[h]; rfl⟩
   show if decide (V.int (Builtin.bitAnd ((c.2:Nat):Int) (m:Int))=V.int 0)=true then _ else _
   rw[ez]
   refine ite2 (fun h=>?_) (fun h=>?_)
   ·refine⟨_,rfl,yes _ _ _ ⟨_,rfl⟩ (Ext.refl _) ?_⟩
    show All2 _ _ (((ch[lowN m]).take (j+1)).filter _)
    rw[et,cf,b8,ak h]
    exact hz.snoc ⟨qa,rfl,hq'⟩
   ·refine no _ _ ⟨_,rfl⟩ (Ext.refl _) ?_
    show All2 _ _ (((ch[lowN m]).take (j+1)).filter _)
    rw[et,cf,b8,aj h,gR,bg]
    exact hz
  ·rintro D H' zs hD e hn hz
   rw[av.len,bP] at hz
   refine q D H' ⟨zs,hD,?_⟩ e hn
   unfold chAt
   rw[er]
   exact hz
end Eo
namespace L2
open PySem
theorem jKR {ks:List (Option Expr)}{vs:List Expr}{pos:Pos}{o:Option Expr} :SwOk (.Dict ks vs pos) o:=⟨fun _ _=>rfl⟩
end L2
namespace Eo
open PySem L2
abbrev natV (n:Nat):V:= .int (n:Int)
structure MetOk (ch:Ch)(ns:List Nat):Prop where
 zero:0∈ns
 bnd:∀ m∈ns,m<2 ^ ch.length
 up:∀ m∈ns,m≠fullN ch->∀ c∈chAt ch m,(m|||c.2)∈ns
def trK (ks:List Nat):List (Key×V):=ks.map fun (k:Nat)=>(Sum.inl (k:Int),V.bl true)
def jPR:Stmt->List Stmt
 | .While _ b _ _=>b
 | _=> []
theorem jHC (n:Nat):∀ ks:List Nat,valV (trK ks) (.inl (n:Int))=if n∈ks then some (.bl true) else none
 | []=>rfl
 | k::ks=>by
  show valV ((Sum.inl (k:Int),V.bl true)::trK ks) _=_
  by_cases h:k=n
  ·subst h
   rw[jBK rfl,ak (ar ..)]
  ·rw[jB2 (by intro z; have:=ji z; lia),jHC n ks]
   by_cases h2:n∈ks
   ·rw[ak h2,ak (az _ h2)]
   ·rw[aj h2,aj]
    intro z
    rcases aM.mp z with z | z
    ·exact h z.symm
    ·exact h2 z
theorem jRL {H:Hp}{M:Addr}{ks:List Nat}{m c:Nat}(h:H M=some (.dK (trK ks))):DGet H M (.int (Builtin.bitOr (m:Int) (c:Int))) (if (m|||c)∈ks then some (.bl true) else none):=by
 rw[jAQ,<- jHC]
 exact DGet.k (k:=Sum.inl (((m|||c:Nat):Nat):Int)) h
theorem jRK {H:Hp}{M:Addr}{ks:List Nat}{m c:Nat}(h:H M=some (.dK (trK ks)))(hn:¬ (m|||c)∈ks)(hl:(trK ks).length<sizeLine):DPut H M (.int (Builtin.bitOr (m:Int) (c:Int))) (.bl true) (L2.upd H M (.dK (trK (ks++[m|||c])))):=by
 rw[jAQ]
 have:=DPut.k (k:=Sum.inl (((m|||c:Nat):Nat):Int)) (v:= .bl true) h hl
 rw[jIK _ (by rw[jHC,aj hn])] at this
 unfold trK
 rw[aQ]
 exact this
theorem jAV {n:Nat}{ks:List Nat}(nd:ks.Nodup)(hb:∀ k∈ks,k<n):ks.length<=n:=by
 have:(ks.map fun k:Nat=>(k:Int)).length<=n:=jLD n _ (dv.mpr (nd.imp fun h=>by lia)) fun t ht=>by
  obtain⟨k,hk,rfl⟩:=aZ.mp ht
  have:=hb k hk
  lia
 rwa [ab] at this
noncomputable abbrev nMet:List Str:=["choices","full","met","waiting","mask","number","more"]
theorem scMet:FnScope nMet ["choices"] (j8 sMet):= {}
def spMet:Sp:=fun vs H Q _=>∃ (L:Addr) (ch:Ch),vs=[.ref L]/\ChAt H L ch/\ChOk ch/\∀ (r:Addr) (ns:List Nat) (H':Hp),H' r=some (.lst (ns.map natV))->ns.Pairwise (· > ·)->MetOk ch ns->Ext H H'->H r=none->Q (.ref r) H'
def jIU (T:Txt mg)(CA:Can P w K mg base "choices_at" 1 fA fdA ["choices","mask"] spAt)(hr:Room 1 (XOf nMet "masks_met" sMet P w K mg base f cdv A outer s H0 E).A): { t:TS // JSs (XOf nMet "masks_met" sMet P w K mg base f cdv A outer s H0 E) (jPR ((jC sMet).getD 3 (.Pass ⟨0,0,0,0⟩))) t} :=
 have nd:=scMet.nd
 ⟨_,(j9 (jE (i:=4) nd rfl lL (jPF b9 PySem.F.slot_list_pop PySem.F.type_list_pop jTB (jv 3 rfl vL)) jK)
   (jB (yX (jJ qI (jv 4 rfl vL) (jv 1 rfl vL) (jM _)) (jB (yO bx rfl (kT (CA.je hr gD (j3 (jv 0 rfl vL) (j3 (jv 4 rfl vL) j6 j4) j4) j4)) (jDB (i:=5) (j:=6) nd rfl rfl (by decide+kernel) (by decide+kernel)) (jB (yX (jM5 (hu_of hr) (jR op_or (jv 4 rfl vL) (jv 6 rfl vL)) (jv 2 rfl vL) rfl) (j9 (jHW (hu_of hr) (jv 2 rfl vL) (jR op_or (jv 4 rfl vL) (jv 6 rfl vL)) (je_bl) jEO)
   (jB (jBH (je_bm b9 db de jAK (jv 3 rfl vL) (j3 (jR op_or (jv 4 rfl vL) (jv 6 rfl vL)) j6 kY) kY) jK))) yA)) kI)) yA)))⟩
def metA (T:Txt mg)(CF:Can P w K mg base "full_mask" 1 fF fdF ["choices"] jCP)(CA:Can P w K mg base "choices_at" 1 fA fdA ["choices","mask"] spAt)(hr:Room 1 (XOf nMet "masks_met" sMet P w K mg base f cdv A outer s H0 E).A): { t:TS // JSs (XOf nMet "masks_met" sMet P w K mg base f cdv A outer s H0 E) (jC sMet) t} :=
 have nd:=scMet.nd
 ⟨_,(j9 (jE (i:=1) nd rfl lL (CF.je (hr.mono (by decide)) gD (j3 (jv 0 rfl vL) j6 j4) j4) jK) (j9 (jE (i:=2) nd rfl lL (jO9) jKR) (j9 (jE (i:=3) nd rfl lL (jAF (j3 (je_int) j6 jZ)) jE1) (j9 (jBW bx (jJ op_gt (jH jO gD T.len (by decide+kernel) (j3 (jv 3 rfl vL) j6 j4) j4) (je_int) (jM _)) (jIU T CA hr).2) (jB (jX (jM6 (jFO rfl) gD T.sorted (by decide+kernel) (j3 (jv 2 rfl vL) j6 j4) (jM0 je_bl jPC) j4)))))))⟩
theorem jNZ (T:Txt mg)(CA:Can P w K mg base "choices_at" 1 fA fdA ["choices","mask"] spAt)(hr:Room 1 (XOf nMet "masks_met" sMet P w K mg base f cdv A outer s H0 E).A)
  {D:Ends}{H:Hp}{L M W:Addr}{ch:Ch}{ks ws:List Nat}{m:Nat}{v4 v5 v6:Option V}(hL:ChAt H L ch) (ok:ChOk ch) (hM:H M=some (.dK (trK ks))) (hW:H W=some (.lst ((ws++[m]).map natV))) (nd:ks.Nodup) (hb:∀ k∈ks,k<2 ^ ch.length) (hm:m∈ks) (wln:ws.length<=ks.length)
  (nx:∀ (H':Hp) (new:List Nat) (v4 v5 v6:Option V),(∀ b o,H b=some o->b≠M->b≠W->H' b=some o)->H' M=some (.dK (trK (ks++new)))->H' W=some (.lst ((ws++new).map natV))->(ks++new).Nodup->(∀ k∈ks++new,k<2 ^ ch.length)->(m≠fullN ch->∀ c∈chAt ch m,(m|||c.2)∈ks++new)->D.nx [some (.ref L),some (natV (fullN ch)),some (.ref M),some (.ref W),v4,v5,v6] H'):
  (jIU T CA hr).1 D [some (.ref L),some (natV (fullN ch)),some (.ref M),some (.ref W),v4,v5,v6] H:=by
 have MW:M≠W:=fun z=>by rw[z,hW] at hM; cases hM
 have LW:∀ ls:List Addr,H L=some (.lst (ls.map V.ref))->L≠W:=fun ls h z=>by
  rw[z,hW] at h
  have h:=HO.lst.inj (br h)
  have h2:natV m∈ls.map V.ref:=by rw[<- h]; simp
  obtain⟨a,_,ha⟩:=aZ.mp h2
  cases ha
 have rw':∀ l cs,RowAt H l cs->l≠W:=fun l cs ⟨vs,h1,h2⟩ z=>by
  rw[z,hW] at h1
  have h1:=HO.lst.inj (br h1)
  have h3:vs[ws.length]?=some (natV m):=by rw[<- h1]; simp
  obtain⟨_,_,q,e,_⟩:=h2.get' h3
  cases e
 have w16:=ok.w
 have hm2:=hb m hm
 have wl:((ws++[m]).map natV)[((ws++[m]).map natV).length - 1]?=some (natV m):=by
  rw[ab,aG,aY,bh (by simp)]
  simp
 have dl:((ws++[m]).map natV).dropLast=ws.map natV:=by
  rw[aQ]
  simp
 refine⟨_,rfl, .inl ⟨rfl,_,SqL.of hW⟩,W,_,_,rfl,rfl,hW,wl,?_⟩
 rw[dl]
 have hM1:(L2.upd H W (.lst (ws.map natV))) M=some (.dK (trK ks)):=by rw[j7 MW]; exact hM
 have hW1:(L2.upd H W (.lst (ws.map natV))) W=some (.lst (ws.map natV)):=j5
 have k1:∀ b o,H b=some o->b≠W->(L2.upd H W (.lst (ws.map natV))) b=some o:=fun b o h n=>by rw[j7 n]; exact h
 have hL1:ChAt (L2.upd H W (.lst (ws.map natV))) L ch:=by
  obtain⟨ls,a1,a2,a3⟩:=hL.ex
  exact⟨ls,k1 _ _ a1 (LW _ a1),a2,a3.imp fun l cs r=>r.keep (fun xs z=>k1 _ _ z (rw' _ _ r)) (Tups.upd hW _)⟩
 generalize L2.upd H W (.lst (ws.map natV))=H1 at hM1 hW1 k1 hL1
 refine⟨_,rfl,_,rfl,rfl,_,rfl,?_⟩
 have nf:(!decide (natV m=natV (fullN ch)))=true↔m≠fullN ch:=by
  rw[gh,dq]
  refine not_congr ⟨fun h=>?_,fun h=>by rw[h]⟩
  have:=V.int.inj h
  lia
 refine ite2 (fun h=>?_) (fun h=>?_)
 ·have h:=nf.mp h
  refine⟨_,rfl,_,rfl,L,ch,m,rfl,hL1,ok,hm2,h,fun r H2 ⟨vs,hr2,av⟩ e2 nr=>?_⟩
  have hM2:=e2 _ _ hM1
  have hW2:=e2 _ _ hW1
  have rW:r≠W:=fun z=>by rw[z,hW1] at nr; cases nr
  have rM:r≠M:=fun z=>by rw[z,hM1] at nr; cases nr
  refine⟨r,rfl,⟨_,SqL.of hr2⟩,jB6 (xs:=vs) (fun i σ H'=>(∃ v5 v6,σ=[some (.ref L),some (natV (fullN ch)),some (.ref M),some (.ref W),some (natV m),v5,v6])/\(∀ b o,H2 b=some o->b≠M->b≠W->H' b=some o)/\∃ new:List Nat,H' M=some (.dK (trK (ks++new)))/\H' W=some (.lst ((ws++new).map natV))/\(ks++new).Nodup/\(∀ k∈ks++new,k<2 ^ ch.length)/\∀ c∈(chAt ch m).take i,(m|||c.2)∈ks++new) ⟨⟨_,_,rfl⟩,fun b o h _ _=>h,[],by rw[bg]; exact hM2,by rw[bg]; exact hW2,by rw[bg]; exact nd,by rw[bg]; exact hb,fun c hc=>by cases hc⟩ (fun i σ H' _ ⟨_,k,_⟩=>SqL.of (k _ _ hr2 rM rW)) ?_ ?_⟩
  ·rintro i x σ H' hx ⟨⟨v5,v6,rfl⟩,k,new,hM',hW',nd',hb',cl⟩
   obtain⟨c,hc,q,rfl,hq⟩:=av.get' hx
   have qM:q≠M:=fun z=>by rw[z,hM2] at hq; cases hq
   have qW:q≠W:=fun z=>by rw[z,hW2] at hq; cases hq
   have hcm:=aC hc
   obtain⟨u1,u2⟩:=ok.up hm2 h hcm
   have tk:(chAt ch m).take (i+1)=(chAt ch m).take i++[c]:=by rw[be,hc]; rfl
   refine⟨q,_,rfl,SqT.of (k _ _ hq qM qW),rfl,_,_,rfl,_,_,rfl,rfl,?_⟩
   refine⟨_,rfl,_,rfl,_,_,rfl,rfl,_,rfl,M,_,rfl,jRL hM',_,rfl,?_⟩
   by_cases hin:(m|||c.2)∈ks++new
   ·rw[ak hin]
    refine iteF ⟨⟨_,_,rfl⟩,k,new,hM',hW',nd',hb',fun c' hc'=>?_⟩
    rw[tk] at hc'
    rcases ay.mp hc' with z | z
    ·exact cl c' z
    ·rw[aO] at z
     rw[z]
     exact hin
   ·rw[aj hin]
    have ndn:(ks++(new++[m|||c.2])).Nodup:=by
     rw[<- aU,iy]
     refine⟨nd',by simp,fun a ha b hb z=>?_⟩
     rw[aO] at hb
     exact hin (hb ▸ z ▸ ha)
    have bdn:∀ k∈ks++(new++[m|||c.2]),k<2 ^ ch.length:=fun k hk=>by
     rw[<- aU] at hk
     rcases ay.mp hk with z | z
     ·exact hb' k z
     ·rw[aO] at z
      rw[z]
      exact u2
    have sz:(ks++(new++[m|||c.2])).length<=2 ^ 16:=aX (jAV ndn bdn) (bV (by decide) w16)
    rw[aG,aG] at sz
    have kl:(trK (ks++new)).length<sizeLine:=by
     unfold trK
     rw[ab,aG,aF]
     simp at sz
     lia
    refine iteT ⟨_,rfl,_,rfl,_,rfl,_,_,rfl,rfl,M,_,rfl,jRK hM' hin kl,?_⟩
    have hW3:(L2.upd H' M (.dK (trK (ks++new++[m|||c.2])))) W=some (.lst ((ws++new).map natV)):=by rw[j7 MW.symm]; exact hW'
    have hM3:(L2.upd H' M (.dK (trK (ks++new++[m|||c.2])))) M=some (.dK (trK (ks++(new++[m|||c.2])))):=by rw[j5,aU]
    have k3:∀ b o,H2 b=some o->b≠M->b≠W->(L2.upd H' M (.dK (trK (ks++new++[m|||c.2])))) b=some o:=fun b o hbo n1 n2=>by rw[j7 n1]; exact k b o hbo n1 n2
    generalize L2.upd H' M (.dK (trK (ks++new++[m|||c.2])))=H3 at hW3 hM3 k3
    refine⟨_,rfl, .inl ⟨rfl,_,SqL.of hW3⟩,_,rfl,_,rfl,_,_,rfl,rfl,W,_,_,rfl,rfl,hW3,?_,⟨_,_,rfl⟩,fun b o hbo n1 n2=>by rw[j7 n2]; exact k3 b o hbo n1 n2,new++[m|||c.2],by rw[j7 MW]; exact hM3,?_,ndn,bdn,fun c' hc'=>?_⟩
    ·skip
     rw[ab,aG,aF]
     simp at sz
     lia
    ·rw[j5]
     show some (HO.lst ((ws++new).map natV++[V.int (Builtin.bitOr (m:Int) (c.2:Int))]))=_
     rw[jAQ,<- aU]
     exact bA (fun z=>some (HO.lst z)) (aQ (f:=natV) (l₁:=ws++new) (l₂:=[m|||c.2])).symm
    ·rw[<- aU,ay]
     rw[tk] at hc'
     rcases ay.mp hc' with z | z
     ·exact .inl (cl c' z)
     ·rw[aO] at z
      rw[z]
      exact .inr (aO.mpr rfl)
  ·rintro σ H' ⟨⟨v5,v6,rfl⟩,k,new,hM',hW',nd',hb',cl⟩
   have:(chAt ch m).take vs.length=chAt ch m:=by rw[av.len,bP]
   rw[this] at cl
   exact nx H' new _ _ _ (fun b o hbo n1 n2=>k _ _ (e2 _ _ (k1 _ _ hbo n2)) n1 n2) hM' hW' nd' hb' fun _=>cl
 ·have h:m=fullN ch:=cC fun z=>h (nf.mpr z)
  exact nx H1 [] _ _ _ (fun b o hbo n1 n2=>k1 _ _ hbo n2) (by rw[bg]; exact hM1) (by rw[bg]; exact hW1) (by rw[bg]; exact nd) (by rw[bg]; exact hb) fun z=>absurd h z
theorem jT0 {fd:FuncData}(F:Fun K "masks_met" "masks_met" sMet f fd)(T:Txt mg)(CF:Can P w K mg base "full_mask" 1 fF fdF ["choices"] jCP)(CA:Can P w K mg base "choices_at" 1 fA fdA ["choices","mask"] spAt):FnOk P w K mg base CX0 2 f fd ["choices"] spMet:=by
 refine F.ok scMet (fun vs H Q E h=>?_) (fun cdv A outer s H vs Q E hr h=>?_)
 ·obtain⟨_,_,rfl,_⟩:=h
  rfl
 ·obtain⟨L,ch,rfl,hL,ok,q⟩:=h
  refine⟨_,(metA T CF CA hr).2.h,?_⟩
  have w16:=ok.w
  refine⟨_,rfl,L,ch,rfl,hL,w16,?_⟩
  refine fun M H1 hM1 e1 nM=>?_
  refine⟨by show (1:Nat)<=_; decide,fun W H2 hW2 e2 nW=>?_⟩
  have hM2:=e2 _ _ hM1
  have nW0:H W=none:=by
   cases z:H W with
   | none=>rfl
   | some o=>rw[e1 _ _ z] at nW; cases nW
  have E2:=e1.trans e2
  have pz:(0:Nat)<2 ^ ch.length:=eX _
  refine⟨fun n σ H'=>(∃ v4 v5 v6,σ=[some (.ref L),some (natV (fullN ch)),some (.ref M),some (.ref W),v4,v5,v6])/\Ext H H'/\∃ ks ws:List Nat,n=2*(2 ^ ch.length - ks.length)+ws.length/\H' M=some (.dK (trK ks))/\H' W=some (.lst (ws.map natV))/\ks.Nodup/\(∀ k∈ks,k<2 ^ ch.length)/\(∀ k∈ws,k∈ks)/\ws.length<=ks.length/\0∈ks/\∀ k∈ks,k∉ws->k≠fullN ch->∀ c∈chAt ch k,(k|||c.2)∈ks,⟨_,⟨_,_,_,rfl⟩,E2,[0],[0],rfl,hM2,hW2,by simp,fun k hk=>by rw[aO] at hk; lia,fun k hk=>hk,ai _,by simp,fun k h1 h2=>absurd h1 h2⟩,?_⟩
  rintro n σ H' ⟨⟨v4,v5,v6,rfl⟩,e,ks,ws,rfl,hM',hW',nd,hb,sub,wl,z0,cl⟩
  refine⟨_,rfl,W,_,rfl, .inl (SqL.of hW'),_,_,rfl,rfl,_,rfl,?_⟩
  rcases List.eq_nil_or_concat ws with hws | ⟨ws',m,hws⟩
  ·subst hws
   refine iteF ?_
   have ksl:=jAV nd hb
   have p16:2 ^ ch.length<=2 ^ 16:=bV (by decide) w16
   refine⟨_,rfl,M,trK ks,ks.map fun k:Nat=>(k:Int),true,rfl,rfl,hM',by unfold trK; rw[bN,bN]; rfl,by rw[ab,aF]; lia,fun l ns hl ord pm=>?_⟩
   obtain⟨js,rfl⟩:∃ js:List Nat,ns=js.map fun k:Nat=>(k:Int):=by
    refine⟨ns.map Int.toNat,?_⟩
    rw[bN]
    refine(iC ns).symm.trans (cG fun x hx=>?_)
    obtain⟨k,_,rfl⟩:=aZ.mp (pm.mem_iff.mp hx)
    show ((k:Nat):Int)=(((k:Nat):Int).toNat:Int)
    lia
   have pm':js.Perm ks:=by
    have:=pm.map Int.toNat
    rw[bN,bN] at this
    have e:∀ l:List Nat,l.map (Int.toNat ∘ fun k:Nat=>(k:Int))=l:=fun l=>(cG fun x _=>by show ((x:Nat):Int).toNat=x; lia).trans (iC l)
    rwa [e,e] at this
   refine q l js _ ?_ ?_ ⟨pm'.mem_iff.mpr z0,fun m hm=>hb m (pm'.mem_iff.mp hm),fun m hm hf c hc=>pm'.mem_iff.mpr (cl m (pm'.mem_iff.mp hm) (by simp) hf c hc)⟩ ((Ext.refl _).trans (e.new hl _)) ?_
   ·rw[j5,bN]
    rfl
   ·have nj:js.Nodup:=pm'.nodup_iff.mpr nd
    have:js.Pairwise (fun (a b:Nat)=>(b:Int)<=(a:Int)):=dv.mp ord
    exact(this.and nj).imp fun {a b} h=>by lia
   ·cases z:H l with
    | none=>rfl
    | some o=>rw[e _ _ z] at hl; cases hl
  ·have hws:ws=ws'++[m]:=by rw[hws,List.concat_eq_append]
   subst hws
   have lp:decide ((0:Int)<(((ws'++[m]).map natV).length:Int))=true:=by
    rw[bW,ab,aG]
    show (0:Int)<((ws'.length+1:Nat):Int)
    lia
   show if decide ((0:Int)<(((ws'++[m]).map natV).length:Int))=true then _ else _
   rw[ak lp]
   rw[aG] at wl
   refine⟨fun σ' H''=>(∃ v4 v5 v6,σ'=[some (.ref L),some (natV (fullN ch)),some (.ref M),some (.ref W),v4,v5,v6])/\Ext H H''/\∃ new:List Nat,H'' M=some (.dK (trK (ks++new)))/\H'' W=some (.lst ((ws'++new).map natV))/\(ks++new).Nodup/\(∀ k∈ks++new,k<2 ^ ch.length)/\(m≠fullN ch->∀ c∈chAt ch m,(m|||c.2)∈ks++new),?_,jNZ T CA hr (ks:=ks) (ws:=ws') (m:=m) (hL.ext e) ok hM' hW' nd hb (sub m (by simp)) (by lia) ?_⟩
   ·rintro σ' H'' ⟨hσ,e',new,a1,a2,a3,a4,a5⟩
    have sl:=jAV a3 a4
    rw[aG] at sl
    refine⟨_,?_,hσ,e',ks++new,ws'++new,rfl,a1,a2,a3,a4,fun k hk=>?_,?_,ax _ z0,fun k hk hkw hf c hc=>?_⟩
    ·rw[aG,aG,aG]
     simp only [aW,dY]
     lia
    ·rcases ay.mp hk with z | z
     ·exact ax _ (sub k (ax _ z))
     ·exact aq _ z
    ·rw[aG,aG]
     lia
    ·by_cases hkm:k=m
     ·subst hkm
      exact a5 hf c hc
     ·rcases ay.mp hk with z | z
      ·refine ax _ (cl k z (fun y=>?_) hf c hc)
       rcases ay.mp y with y | y
       ·exact hkw (ax _ y)
       ·exact hkm (aO.mp y)
      ·exact absurd (aq _ z) hkw
   ·intro H'' new v4 v5 v6 kp a1 a2 a3 a4 a5
    refine⟨⟨_,_,_,rfl⟩,fun b o hbo=>?_,new,a1,a2,a3,a4,a5⟩
    refine kp b o (e b o hbo) (fun z=>?_) fun z=>?_
    ·rw[z,nM] at hbo; cases hbo
    ·rw[z,nW0] at hbo; cases hbo
end Eo
namespace L2
open PySem
theorem jHF {x:Str}{pos:Pos}{o:Option Expr} :SwOk (.Name x pos) o:=⟨fun _ _=>rfl⟩
end L2
namespace Eo
open PySem L2
structure HpOk (φ:Hp->Prop):Prop where
 keep:∀ (H H':Hp) (D:Addr) (kvs:List (Key×V)),H D=some (.dK kvs)->(∃ kvs',H' D=some (.dK kvs'))->(∀ b o,H b=some o->b≠D->H' b=some o)->φ H->φ H'
 ext:∀ H H',Ext H H'->φ H->φ H'
abbrev RepT:=Nat->Hp->V->Prop
def RepOk (R:RepT):Prop:=∀ m v,HpOk fun H=>R m H v
def ItAt (R:RepT)(m:Nat)(H:Hp)(v:V)(c:Int×Nat):Prop:=∃ q u,v= .ref q/\H q=some (.tup [.int c.1,u])/\R (m|||c.2) H u
def jIG (ch:Ch)(R:RepT):Sp:=fun vs H Q _=>∃ (l:Addr) (us:List V) (m:Nat),vs=[.ref l]/\H l=some (.lst us)/\m<2 ^ ch.length/\m≠fullN ch/\All2 (ItAt R m H) us (chAt ch m)/\∀ r H',R m H' r->Ext H H'->Q r H'
def gvs (ns:List Nat)(us:List V):List (Key×V):=(ns.zip us).map fun p:Nat×V=>(Sum.inl (p.1:Int),p.2)
structure GotAt (H:Hp)(r:Addr)(ch:Ch)(R:RepT)(ns:List Nat):Prop where
 ex:∃ us,H r=some (.dK (gvs ns us))/\All2 (fun n u=>R n H u) ns us
theorem jD3 {R:Nat->V->Prop} :∀ {ns:List Nat}{us:List V}{n:Nat},All2 R ns us->ns.Nodup->n∈ns->∃ u,valV (gvs ns us) (.inl (n:Int))=some u/\R n u
 | [],_,_,_,_,h=>by cases h
 | k::ns,[],_,h,_,_=>h.elim
 | k::ns,u::us,n,h,nd,hm=>by
  show ∃ x,valV ((Sum.inl (k:Int),u)::gvs ns us) _=_/\_
  by_cases hk:k=n
  ·subst hk
   exact⟨u,jBK rfl,h.1⟩
  ·rw[jB2 (by intro z; have:=ji z; lia)]
   rcases aM.mp hm with z | z
   ·exact absurd z.symm hk
   ·exact jD3 h.2 (cL.mp nd).2 z
theorem jBL:∀ {ns:List Nat}{us:List V}{n:Nat},n∉ns->valV (gvs ns us) (.inl (n:Int))=none
 | [],_,_,_=>by
  unfold gvs
  rw[List.zip_nil_left]
  rfl
 | k::ns,[],_,_=>rfl
 | k::ns,u::us,n,h=>by
  show valV ((Sum.inl (k:Int),u)::gvs ns us) _=_
  rw[jB2 (by intro z; have:=ji z; exact h (by rw[show n=k by lia]; exact ar ..))]
  exact jBL fun z=>h (az _ z)
theorem jOF {ns:List Nat}{us:List V}{n:Nat}{u:V}(h:ns.length=us.length):gvs (ns++[n]) (us++[u])=gvs ns us++[(Sum.inl (n:Int),u)]:=by
 unfold gvs
 rw[List.zip_append h,aQ]
 rfl
section
variable {j:Addr}{Z:Shared->Hp->Prop}{zh:Hp->Prop}{ch:Ch}{R:RepT}
noncomputable abbrev nGath:List Str:=["choices","at_end","join","full","values","mask"]
theorem scGath:FnScope nGath ["choices","at_end","join"] (j8 qG):= {}
def jOZ (j:Addr)(zh:Hp->Prop)(ch:Ch)(R:RepT):Sp:=fun vs H Q _=>∃ (L:Addr) (ve:V),vs=[.ref L,ve, .ref j]/\ChAt H L ch/\R (fullN ch) H ve/\zh H/\∀ (r:Addr) (ns:List Nat) (H':Hp),GotAt H' r ch R ns->ns.Pairwise (· > ·)->MetOk ch ns->Ext H H'->H r=none->Q (.ref r) H'
def jMD (T:Txt mg)(CA:Can P w K mg base "choices_at" 1 fA fdA ["choices","mask"] spAt)(CJ:Callee P w K mg base Z zh 3 j (jIG ch R))(zs:ZSt Z)(hz:Z s H0)(hr:Room 3 (XOf nGath "gathered" qG P w K mg base f cdv A outer s H0 E).A): { t:TS // JSs (XOf nGath "gathered" qG P w K mg base f cdv A outer s H0 E) (yT ((jC qG).getD 2 (.Pass ⟨0,0,0,0⟩))) t} :=
 have nd:=scGath.nd
 ⟨_,(jB (yX (jJ yW (jv 5 rfl vC) (jv 3 rfl vL) (jM _)) (jB (jHW (hu_of hr) (jv 4 rfl vC) (jv 5 rfl vC) (jv 1 rfl vL) jHF)) (jB (jHW (hu_of hr) (jv 4 rfl vC) (jv 5 rfl vC) (jOB (j:=2) CJ (hr.mono (by decide)) zs hz rfl rfl vL (j3 (kU (m:=[none,none,some 4,some 5]) (Nc:=["number","more","values","mask"]) rfl (kT (CA.je (hr.mono (by decide)) gD (j3 (jv 0 rfl vL) (j3 (jv 5 rfl vC) j6 j4) j4) j4)) rfl (by decide+kernel) (by decide+kernel) (jQ (psc:=j8 qG)) (jG (N:=nGath) rfl rfl (by decide+kernel)) (fun cl C fp s H=>jAB (i:=0) (j:=1) rfl (show (["number","more","values","mask"]:List Str).Nodup by decide+kernel) rfl rfl (by decide+kernel) (by decide+kernel)) (fun cl C fp s H=>kX) (fun cl C fp s H=>(yK (j3 (jv 0 rfl jL) (j3 (jDR (hu_of hr) (jv 2 rfl kN) (jR op_or (jv 3 rfl kN) (jv 1 rfl jL)) jKY) j6 jV) j4))) kI) j6 jW) jW) jK))))⟩
def gathA (T:Txt mg)(CF:Can P w K mg base "full_mask" 1 fF fdF ["choices"] jCP)(CM:Can P w K mg base "masks_met" 2 fM fdM ["choices"] spMet)(CA:Can P w K mg base "choices_at" 1 fA fdA ["choices","mask"] spAt)(CJ:Callee P w K mg base Z zh 3 j (jIG ch R))(zs:ZSt Z)(hz:Z s H0)(hr:Room 3 (XOf nGath "gathered" qG P w K mg base f cdv A outer s H0 E).A): { t:TS // JSs (XOf nGath "gathered" qG P w K mg base f cdv A outer s H0 E) (jC qG) t} :=
 have nd:=scGath.nd
 ⟨_,(j9 (jE (i:=3) nd rfl lL (CF.je (hr.mono (by decide)) gD (j3 (jv 0 rfl vL) j6 j4) j4) jK) (j9 (jE (i:=4) nd rfl qA (jOA) jKR) (j9 (yO bx rfl (kT (CM.je (hr.mono (by decide)) gD (j3 (jv 0 rfl vL) j6 j4) j4)) (jN (i:=5) nd rfl qA) (jMD T CA CJ zs hz hr).2 kI) (jB (jX (jv 4 rfl vC))))))⟩
theorem jQX {fd:FuncData}(F:Fun K "gathered" "gathered" qG f fd)(T:Txt mg)(CF:Can P w K mg base "full_mask" 1 fF fdF ["choices"] jCP)(CM:Can P w K mg base "masks_met" 2 fM fdM ["choices"] spMet)(CA:Can P w K mg base "choices_at" 1 fA fdA ["choices","mask"] spAt)(CJ:Callee P w K mg base Z zh 3 j (jIG ch R))(zs:ZSt Z)(zo:HpOk zh)(ro:RepOk R)(ok:ChOk ch):FnZ P w K mg base CX0 Z 4 f fd ["choices","at_end","join"] (jOZ j zh ch R):=by
 refine F.okZ scGath (fun vs H Q E h=>?_) (fun cdv A outer s H vs Q E hr hz h=>?_)
 ·obtain⟨_,_,rfl,_⟩:=h
  rfl
 ·obtain⟨L,ve,rfl,hL,he,hzh,q⟩:=h
  refine⟨_,(gathA T CF CM CA CJ zs hz hr).2.h,?_⟩
  have w16:=ok.w
  have p16:2 ^ ch.length<=2 ^ 16:=bV (by decide) w16
  refine⟨_,rfl,L,ch,rfl,hL,w16,?_⟩
  refine fun D nD=>?_
  have e1:Ext H (L2.upd H D (.dK [])):=(Ext.refl _).new nD _
  have hD1:(L2.upd H D (.dK [])) D=some (.dK []):=j5
  generalize L2.upd H D (.dK [])=H1 at e1 hD1
  refine⟨_,rfl,L,ch,rfl,hL.ext e1,ok,fun r ns H2 hr2 srt mt e2 nr=>?_⟩
  have hD2:=e2 _ _ hD1
  have rD:r≠D:=fun z=>by rw[z,hD1] at nr; cases nr
  have E2:=e1.trans e2
  have nsn:ns.Nodup:=srt.imp fun {a b} h=>by lia
  have nsl:=jAV nsn mt.bnd
  refine⟨r,rfl,⟨_,SqL.of hr2⟩,jB6 (xs:=ns.map natV) (fun i σ H'=>(∃ v5,σ=[some (.ref L),some ve,some (.ref j),some (natV (fullN ch)),some (.ref D),v5])/\(∀ b o,H2 b=some o->b≠D->H' b=some o)/\GotAt H' D ch R (ns.take i)) ⟨⟨_,rfl⟩,fun b o h _=>h,[],hD2,trivial⟩ (fun i σ H' _ ⟨_,k,_⟩=>SqL.of (k _ _ hr2 rD)) ?_ ?_⟩
  ·rintro i x σ H' hx ⟨⟨v5,rfl⟩,k,us,hD',au⟩
   obtain⟨m,hm,rfl⟩:∃ m,ns[i]?=some m/\natV m=x:=by
    rw[aY] at hx
    cases hq:ns[i]? with
    | none=>rw[hq] at hx; cases hx
    | some z=>rw[hq] at hx; cases hx; exact⟨z,rfl,rfl⟩
   have hmn:=aC hm
   have hm2:=mt.bnd m hmn
   have il:i<ns.length:=(am.mp hm).1
   have tk:ns.take (i+1)=ns.take i++[m]:=by rw[be,hm]; rfl
   have kl:(gvs (ns.take i) us).length<sizeLine:=by
    unfold gvs
    rw[ab,gQ,bq,aF]
    lia
   have kH:∀ b o,H b=some o->H' b=some o:=fun b o h=>k _ _ (E2 _ _ h) fun z=>by rw[z,nD] at h; cases h
   have mi:m∉ns.take i:=fun z=>by
    obtain⟨a,ha⟩:=bI z
    have al:a<i:=by have:=(am.mp ha).1; rw[bq] at this; lia
    rw[ci al] at ha
    have:=(List.getElem?_inj (by lia) nsn).mp (ha.trans hm.symm)
    lia
   have fin:∀ (u:V) (H3:Hp),(∀ b o,H' b=some o->H3 b=some o)->R m H3 u->DPut H3 D (natV m) u (L2.upd H3 D (.dK (gvs (ns.take (i+1)) (us++[u]))))/\((∃ v5,[some (V.ref L),some ve,some (.ref j),some (natV (fullN ch)),some (.ref D),some (natV m)]=[some (V.ref L),some ve,some (.ref j),some (natV (fullN ch)),some (.ref D),v5])/\(∀ b o,H2 b=some o->b≠D->(L2.upd H3 D (.dK (gvs (ns.take (i+1)) (us++[u])))) b=some o)/\GotAt (L2.upd H3 D (.dK (gvs (ns.take (i+1)) (us++[u])))) D ch R (ns.take (i+1))):=fun u H3 e3 ru=>by
    have hD3:=e3 _ _ hD'
    have up:∀ b o,H3 b=some o->b≠D->(L2.upd H3 D (.dK (gvs (ns.take (i+1)) (us++[u])))) b=some o:=fun b o h n=>by rw[j7 n]; exact h
    refine⟨?_,⟨_,rfl⟩,fun b o h n=>up b o (e3 _ _ (k b o h n)) n,us++[u],j5,?_⟩
    ·have:=DPut.k (k:=Sum.inl ((m:Nat):Int)) (v:=u) hD3 kl
     rw[jIK _ (jBL mi),<- jOF au.len,<- tk] at this
     exact this
    ·rw[tk]
     refine All2.snoc ?_ ((ro m u).keep _ _ D _ hD3 ⟨_,j5⟩ (by rw[<- tk]; exact up) ru)
     rw[<- tk]
     exact au.imp fun n u h=>(ro n u).keep _ _ D _ hD3 ⟨_,j5⟩ up ((ro n u).ext _ _ e3 h)
   refine⟨_,rfl,_,rfl,rfl,_,rfl,?_⟩
   have ef:decide (natV m=natV (fullN ch))=true↔m=fullN ch:=by
    rw[bW]
    exact⟨fun h=>by have:=V.int.inj h; lia,fun h=>by rw[h]⟩
   refine ite2 (fun h=>?_) (fun h=>?_)
   ·have h:=ef.mp h
    obtain⟨f1,f2⟩:=fin ve H' (fun b o h=>h) (by rw[h]; exact(ro _ _).ext _ _ kH he)
    exact⟨_,rfl,_,rfl,_,rfl,D,_,rfl,f1,f2⟩
   ·have h:m≠fullN ch:=fun z=>h (ef.mpr z)
    refine⟨rfl,_,rfl,_,rfl,L,ch,m,rfl,hL.ext kH,ok,hm2,h,fun r4 H4 ⟨vs4,hr4,av4⟩ e4 n4=>?_⟩
    have hD4:=e4 _ _ hD'
    have vl4:vs4.length<=33:=by
     rw[av4.len]
     have hlow:=jDP hm2 h
     refine aX (bL _ _) ?_
     rw[af,ag hlow]
     exact ok.len _ _ (ag hlow)
    refine⟨r4,rfl,⟨_,SqL.of hr4⟩,jA8 (xs:=vs4) (fun σ=>∃ v1 v2,σ=[v1,v2,some (.ref D),some (natV m)]) (fun H' zs t=>All2 (fun v c=>∃ q u,v= .ref q/\H' q=some (.tup [.int c.1,u])/\R (m|||c.2) H4 u) zs ((chAt ch m).take t)) ⟨fun H=>trivial,fun H H' zs t tu hz=>hz.imp fun v c ⟨q,u,a1,a2,a3⟩=>⟨q,u,a1,tu _ _ a2,a3⟩,fun H zs t hz=>?_⟩ hr4 (by rw[aF]; lia) ⟨_,_,rfl⟩ ?_ ?_⟩
    ·rw[hz.len]
     exact eF _ _
    ·rintro t x σ' H5 zs hx ⟨v1,v2,rfl⟩ e5 hz5 S1 S2 yes no
     obtain⟨c,hc,qa,rfl,hq⟩:=av4.get' hx
     have hcm:=aC hc
     obtain⟨u1,u2⟩:=ok.up hm2 h hcm
     have ut:=mt.up m hmn h c hcm
     have up:(m|||c.2)∈ns.take i:=by
      obtain⟨a,ha⟩:=bI ut
      have al:a<i:=by
       refine cC fun z=>?_
       have a1:=(am.mp ha)
       have m1:=(am.mp hm)
       rcases ln i a with y | y
       ·have:=cB.mp srt i a il a1.1 y
        rw[a1.2,m1.2] at this
        lia
       ·have:a=i:=by lia
        subst this
        rw[hm] at ha
        have:=br ha
        lia
      exact aC (i:=a) (by rw[ci al]; exact ha)
     obtain⟨u,hu,ru⟩:=jD3 au (nsn.sublist (d0 _ _)) up
     have et:(chAt ch m).take (t+1)=(chAt ch m).take t++[c]:=by rw[be,hc]; rfl
     have dg:DGet H5 D (.int (Builtin.bitOr (m:Int) (c.2:Int))) (some u):=by
      rw[jAQ,<- hu]
      exact DGet.k (k:=Sum.inl (((m|||c.2:Nat):Nat):Int)) (e5 _ _ hD4)
     refine⟨qa,_,rfl,SqT.of (e5 _ _ hq),rfl,_,_,rfl,_,_,rfl,rfl,?_⟩
     dsimp only [yG]
     rw[ak rfl]
     refine⟨_,rfl,_,rfl,_,rfl,_,rfl,_,_,rfl,rfl,D,u,rfl,dg,by show (2:Nat)<=_; decide,fun r6 H6 d6 e6=>yes _ _ _ ⟨_,_,rfl⟩ e6 ?_⟩
     show All2 _ _ ((chAt ch m).take (t+1))
     rw[et]
     exact(hz5.imp fun v c ⟨q,u,a1,a2,a3⟩=>⟨q,u,a1,e6 _ _ a2,a3⟩).snoc ⟨r6,u,rfl,d6,(ro _ _).ext _ _ e4 ru⟩
    ·rintro D7 H7 zs hD7 e7 n7 hz7
     rw[av4.len,bP] at hz7
     refine⟨zo.ext _ _ (fun b o h=>e7 _ _ (e4 _ _ (kH b o h))) hzh,D7,zs,m,rfl,hD7,hm2,h,hz7.imp fun v c ⟨q,u,a1,a2,a3⟩=>⟨q,u,a1,a2,(ro _ _).ext _ _ e7 a3⟩,fun rr H8 r8 e8=>?_⟩
     obtain⟨f1,f2⟩:=fin rr H8 (fun b o h=>e8 _ _ (e7 _ _ (e4 _ _ h))) r8
     exact⟨_,rfl,_,rfl,D,_,rfl,f1,f2⟩
  ·rintro σ H' ⟨⟨v5,rfl⟩,k,got⟩
   rw[ab,bP] at got
   exact⟨_,rfl,q D ns H' got srt mt (fun b o h=>k _ _ (E2 _ _ h) fun z=>by rw[z,nD] at h; cases h) nD⟩
end
end Eo
namespace L2
open PySem
def spEx {α:Type}(p:α->Prop)(sp:α->Sp):Sp:=fun vs H Q E=>∃ a,p a/\sp a vs H Q E
theorem FnOk.ex {α:Type}{p:α->Prop}{sp:α->Sp}{P:Program}{w:World}{K:W.Frag}{mg:Str->Option Value}{base:Heap}{CX:CXT}{k:Nat}{f:Addr}{fd:FuncData}{ps:List Str}(h:∀ a,p a->FnOk P w K mg base CX k f fd ps (sp a)):FnOk P w K mg base CX k f fd ps (spEx p sp):=
 ⟨fun vs H Q E ⟨a,pa,q⟩=>(h a pa).len vs H Q E q,fun A outer s H args us vs Q E hr he hb hv ⟨a,pa,q⟩=>(h a pa).run A outer s H args us vs Q E hr he hb hv q⟩
theorem Callee.mono {P:Program}{w:World}{K:W.Frag}{mg:Str->Option Value}{base:Heap}{Z:Shared->Hp->Prop}{zh:Hp->Prop}{i k:Nat}{a:Addr}{sp:Sp}(C:Callee P w K mg base Z zh i a sp)(h:i<=k):Callee P w K mg base Z zh k a sp:=
 ⟨C.fn,fun A outer s H us vs Q E hr=>C.run A outer s H us vs Q E (hr.mono h)⟩
theorem Callee.imp {P:Program}{w:World}{K:W.Frag}{mg:Str->Option Value}{base:Heap}{Z Z':Shared->Hp->Prop}{zh:Hp->Prop}{k:Nat}{a:Addr}{sp:Sp}(C:Callee P w K mg base Z zh k a sp)(h:∀ s H,Z' s H->Z s H):Callee P w K mg base Z' zh k a sp:=
 ⟨C.fn,fun A outer s H us vs Q E hr he hz=>C.run A outer s H us vs Q E hr he (h _ _ hz)⟩
theorem jS8 {a:Arguments}{b:Expr}{sc:Scope}{pos:Pos}{es:List Expr}{env:Env} :starEach (.Lambda a b sc pos::es) env=(false,eval (.Lambda a b sc pos) env)::starEach es env:=rfl
end L2
namespace Eo
open PySem L2
theorem got0 {H:Hp}{r:Addr}{ch:Ch}{R:RepT}{ns:List Nat}(g:GotAt H r ch R ns)(nd:ns.Pairwise (· > ·))(m:MetOk ch ns):∃ u,DGet H r (.int 0) (some u)/\R 0 H u:=by
 obtain⟨us,h1,h2⟩:=g.ex
 obtain⟨u,hu,ru⟩:=jD3 h2 (nd.imp fun {a b} h=>by lia) m.zero
 refine⟨u,?_,ru⟩
 have:=DGet.k (k:=Sum.inl (0:Int)) h1
 rw[show valV (gvs ns us) (Sum.inl (0:Int))=some u from hu] at this
 exact this
theorem jT9 {H H1:Hp}{l:Addr}(e:Ext H H1)(n:H1 l=none):H l=none:=by
 cases z:H l with
 | none=>rfl
 | some o=>rw[e _ _ z] at n; cases n
end Eo
namespace L2
open PySem PySem.Spec PyProof.Rows
theorem ip_or {X:Cx} :PIp X .BitOr (fun x y H Q=>∃ i j,x= .int i/\y= .int j/\Q (.int (Builtin.bitOr i j)) H):=by
 intro ad s σ H x y v u Q I r1 r2 h
 obtain⟨i,j,e1,e2,q⟩:=h
 subst e1; subst e2
 obtain⟨t,rfl⟩:=r1
 obtain⟨t',rfl⟩:=r2
 exact ior_int ⟨.int _,H,I.tok _,⟨_,rfl⟩,q⟩
theorem jLZ {X:Cx}{e:Expr}{te:TE}{pos:Pos}{i:Nat}{x:PySem.Str}{op:Operator}{ti:TIp}{pos':Pos}(hN:X.N.Nodup)(hi:X.N[i]?=some x)(hx:Loc1 X x)(he:JE X e te)(ho:PIp X op ti):JS X (.AugAssign (.Name x pos') op e pos) (tAug i te ti):=⟨jSI hN hi hx.a he.h ho hx.b⟩
end L2
namespace Eo
open PySem L2
def yJ (pc:List Int×Int):Int:=pc.1.getD 0 0
def cntF (lB:List (List Int×Int))(t:Int):Nat:=lB.countP fun pc=>decide (t<=yJ pc)
def lead (lB:List (List Int×Int))(t:Int)(i:Nat):Nat:=(lB.take i).countP fun pc=>decide (yJ pc=t)
theorem jGT (t:Int):∀ lB:List (List Int×Int),cntF lB t=cntF lB (t+1)+lB.countP fun pc=>decide (yJ pc=t)
 | []=>rfl
 | p::r=>by
  have ih:=jGT t r
  unfold cntF at ih ⊢
  rw[cZ,cZ,cZ,ih]
  by_cases h1:yJ p=t
  ·have h2:t<=yJ p:=by lia
   have h3:¬ t+1<=yJ p:=by lia
   have h4:¬ t+1<=t:=by lia
   simp [h1,h4]
   try lia
  ·by_cases h2:t<=yJ p
   ·have h3:t+1<=yJ p:=by lia
    simp [h1,h2,h3]
    lia
   ·have h3:¬ t+1<=yJ p:=by lia
    simp [h1,h2,h3]
theorem jTX (lB:List (List Int×Int))(t:Int):cntF lB t<=lB.length:=List.countP_le_length
theorem jO5 (lB:List (List Int×Int))(t:Int):2 ^ cntF lB (t+1)*(1+lead lB t lB.length)<=2 ^ cntF lB t:=by
 unfold lead
 rw[bP,jGT t lB,fi]
 refine bG _ ?_
 have:=Nat.lt_two_pow_self (n:=lB.countP fun pc=>decide (yJ pc=t))
 lia
theorem jLU {lB:List (List Int×Int)}{t:Int}{i:Nat}{pc:List Int×Int}(h:lB[i]?=some pc):lead lB t (i+1)=lead lB t i+if yJ pc=t then 1 else 0:=by
 unfold lead
 rw[be,h]
 show ((lB.take i)++[pc]).countP _=_
 rw[List.countP_append,cZ,List.countP_nil]
 simp
def wJ (l:List (Int×List (List Int))):List (List Int):=l.flatMap fun p=>p.2.map fun x=>if p.1<0 then x else p.1::x
def wk (ch:Ch)(m:Nat):List (List Int):=gv ch [[]] wJ m
theorem jDG (a b:List (Int×List (List Int))):wJ (a++b)=wJ a++wJ b:=List.flatMap_append
theorem jC5 (ch:Ch):wk ch (fullN ch)=[[]]:=jRC
theorem jBC {ch:Ch}{m:Nat}(o:ChOk ch)(h:m<2 ^ ch.length)(hn:m≠fullN ch):wk ch m=wJ ((chAt ch m).map fun c=>(c.1,wk ch (m|||c.2))):=jRB o h hn
theorem jO2 (w:Nat):lowN (2 ^ w - 1)=w:=by
 refine jTD ?_ fun j hj=>?_
 ·rw[cQ,aH (by lia)]
 ·rw[cQ,aw hj]
theorem jP7 {m c:Nat}(h:c.testBit (lowN m)=true):lowN m<lowN (m|||c):=by
 refine cC fun z=>?_
 have n1:=jDO (m|||c)
 rw[cJ] at n1
 rcases ln (lowN (m|||c)) (lowN m) with y | y
 ·rw[jF9 m _ y] at n1
  cases n1
 ·rw[show lowN (m|||c)=lowN m by lia,h,lj] at n1
  cases n1
theorem jD2 {ch:Ch}(o:ChOk ch){P:Nat->Prop}(h0:P (fullN ch))(hs:∀ m,m<2 ^ ch.length->m≠fullN ch->(∀ c∈chAt ch m,P (m|||c.2))->P m):∀ m,m<2 ^ ch.length->P m:=by
 intro m hm
 generalize hk:fullN ch - m=k
 induction k using strongRecOn generalizing m with
 | _ k ih=>
  by_cases hf:m=fullN ch
  ·rw[hf]
   exact h0
  ·have hlt:m<fullN ch:=by
    unfold fullN at hf ⊢
    lia
   refine hs m hm hf fun c hc=>?_
   obtain⟨u1,u2⟩:=o.up hm hf hc
   exact ih (fullN ch - (m|||c.2)) (by lia) _ u2 rfl
theorem mem_wJ {l:List (Int×List (List Int))}{x:List Int} :x∈wJ l↔∃ p∈l,∃ y∈p.2,x=if p.1<0 then y else p.1::y:=by
 unfold wJ
 rw[List.mem_flatMap]
 refine lu fun p=>jd fun _=>?_
 rw[aZ]
 exact lu fun y=>jd fun _=>eq_comm
theorem jRS {ch:Ch}(o:ChOk ch):∀ m,m<2 ^ ch.length->∀ x∈wk ch m,(∀ k∈x,0<=k/\k<32)/\x.length+lowN m<=ch.length:=by
 refine jD2 o ?_ ?_
 ·intro x hx
  rw[jC5,aO] at hx
  subst hx
  refine⟨fun k hk=>(by cases hk),?_⟩
  unfold fullN
  rw[jO2]
  simp
 ·intro m hm hf ih x hx
  rw[jBC o hm hf] at hx
  obtain⟨p,hp,y,hy,rfl⟩:=mem_wJ.mp hx
  obtain⟨c,hc,rfl⟩:=aZ.mp hp
  obtain⟨i1,i2⟩:=ih c hc y hy
  obtain⟨m1,m2,m3,m4,m5⟩:=o.mem hm hf hc
  have lo:=jP7 m1
  dsimp only
  split
  ·exact⟨i1,by lia⟩
  ·refine⟨fun k hk=>?_,by rw[aW]; lia⟩
   rcases aM.mp hk with z | z
   ·subst z
    lia
   ·exact i1 k z
theorem jK4 (l:List Int):l.getD 0 0=l.headD 0:=by cases l <;> rfl
theorem jJY (lB:List (List Int×Int))(t:Nat)(i:Nat)(hi:i<=lB.length):(((upto lB.length).take i).filter fun k=>decide ((jD lB k).headD 0=(t:Int))).length=lead lB t i:=by
 induction i with
 | zero=>rfl
 | succ i ih=>
  have hil:i<lB.length:=by lia
  rw[jFU hil,cf,aG,ih (by lia),jLU (ag hil)]
  congr 1
  rw[b8,gR]
  have e:jD lB (i:Int)=lB[i].1:=by
   unfold jD
   rw[bB,af,ag hil]
   rfl
  unfold yJ
  rw[e,jK4]
  by_cases h:lB[i].1.headD 0=(t:Int)
  ·rw[ak (aw h),ak h]
   rfl
  ·rw[aj (fun z=>h (aP z)),aj h]
   rfl
theorem jOM (lB:List (List Int×Int)){s t:Int}(h:s<=t):cntF lB t<=cntF lB s:=by
 unfold cntF
 refine List.countP_mono_left fun x _ hx=>?_
 have:=aP hx
 exact aw (by lia)
theorem jGR {α β:Type}(f:α->List β)(B:Nat):∀ (l:List α),(∀ a∈l,(f a).length<=B)->(l.flatMap f).length<=l.length*B
 | [],_=>by simp
 | a::l,h=>by
  rw[List.flatMap_cons,aG,aW,ku]
  have h1:=h a (ar ..)
  have h2:=jGR f B l fun x hx=>h x (az _ hx)
  lia
theorem jRT {w:Int}{ms:List Int}{lB:List (List Int×Int)}(g:Good 16 32 w ms lB):∀ m,m<2 ^ (chs w.toNat ms lB).length->(wk (chs w.toNat ms lB) m).length<=2 ^ cntF lB (lowN m:Nat):=by
 have o:ChOk (chs w.toNat ms lB):=jED g
 refine jD2 o ?_ ?_
 ·rw[jC5]
  exact km
 ·intro m hm hf ih
  have hl:lowN m<w.toNat:=by
   have:=jDP hm hf
   unfold chs at this
   rwa [jA5] at this
  rw[jBC o hm hf]
  unfold wJ
  refine aX (jGR _ (2 ^ cntF lB ((lowN m:Nat)+1:Int)) _ fun p hp=>?_) ?_
  ·obtain⟨c,hc,rfl⟩:=aZ.mp hp
   rw[ab]
   have lo:=jP7 (o.mem hm hf hc).1
   exact aX (ih c hc) (bV (by decide) (jOM lB (by lia)))
  ·rw[ab,gf]
   refine aX (bG _ ?_) (jO5 lB (lowN m:Nat))
   unfold chAt
   refine aX (bL _ _) ?_
   unfold chs
   rw[af,jA9 hl]
   show (yR ms lB lB.length (lowN m)).length<=_
   unfold yR
   rw[aG,ab,jJY lB _ _ (ai _)]
   split <;> simp only [aW,dY] <;> lia
def cvs (w:Int)(ms:List Int)(lB:List (List Int×Int)):List (List Int):=(wk (chs w.toNat ms lB) 0).map srt
theorem jF8 {w:Int}{ms:List Int}{lB:List (List Int×Int)}{m:Nat}{c:Int×Nat}(hl:lowN m<w.toNat):c∈chAt (chs w.toNat ms lB) m↔c.2&&&m=0/\((c=(-1,2 ^ lowN m)/\(lowN m:Int)∈ms)\/∃ k:Int,c=(k,maskN (jD lB k))/\0<=k/\k<lB.length/\(jD lB k).headD 0=(lowN m:Int)):=by
 unfold chAt
 rw[bf,kj,and_comm]
 refine jd fun _=>?_
 unfold chs
 rw[af,jA9 hl]
 show c∈yR ms lB lB.length (lowN m)↔_
 unfold yR
 rw[ay]
 refine or_congr ?_ ?_
 ·by_cases h:(lowN m:Int)∈ms
  ·rw[ak h,aO]
   exact⟨fun z=>⟨z,h⟩,fun z=>z.1⟩
  ·rw[aj h]
   exact⟨fun z=>(by cases z),fun z=>absurd z.2 h⟩
 ·rw[bC (by rw[jIA]; exact ai _),aZ]
  constructor
  ·rintro ⟨k,hk,rfl⟩
   obtain⟨h1,h2⟩:=bf.mp hk
   have b:=(jEJ lB.length).bnd k h1
   exact⟨k,rfl,b.1,b.2,aP h2⟩
  ·rintro ⟨k,rfl,h1,h2,h3⟩
   refine⟨k,bf.mpr ⟨?_,aw h3⟩,rfl⟩
   unfold upto
   exact aZ.mpr ⟨k.toNat,bM.mpr (by lia),by lia⟩
structure CovM (w:Int)(ms:List Int)(lB:List (List Int×Int))(m:Nat)(x:List Int):Prop where
 nd:x.Nodup
 bnd:∀ k∈x,0<=k/\k<lB.length
 off:∀ k∈x,∀ t∈jD lB k,m.testBit t.toNat=false
 dis:∀ k∈x,∀ k'∈x,k≠k'->∀ t∈jD lB k,t∉jD lB k'
 cov:∀ t:Nat,t<w.toNat->m.testBit t=false->(t:Int)∉ms->∃ k∈x,(t:Int)∈jD lB k
section
variable {w:Int}(g:Good 16 32 w ms lB)
include g
theorem jAU {k:Int}(h0:0<=k)(h1:k<lB.length):Lot w (jD lB k):=(g.at (k:=k.toNat) (by lia)).lot
theorem jE7 {k:Int}(h0:0<=k)(h1:k<lB.length)(t:Nat):(maskN (jD lB k)).testBit t=decide ((t:Int)∈jD lB k):=jBT _ t (jAU g h0 h1).ris fun x hx=>((jAU g h0 h1).bnd x hx).1
theorem jP3 {k:Int}(h0:0<=k)(h1:k<lB.length){m:Nat} :maskN (jD lB k)&&&m=0↔∀ t∈jD lB k,m.testBit t.toNat=false:=by
 have l:=jAU g h0 h1
 constructor
 ·intro h t ht
  have bt:=l.bnd t ht
  have q:=bA (fun z=>z.testBit t.toNat) h
  simp only [gP,fo,jE7 g h0 h1] at q
  rw[show ((t.toNat:Nat):Int)=t by lia,aw ht,fb] at q
  exact q
 ·intro h
  apply gF
  intro i
  rw[gP,fo,jE7 g h0 h1]
  by_cases hi:(i:Int)∈jD lB k
  ·have:=h _ hi
   rw[bB] at this
   rw[this,fg]
  ·rw[aH hi]
   rfl
theorem jCH {k:Int}(h0:0<=k)(h1:k<lB.length):(jD lB k).headD 0∈jD lB k/\∀ t∈jD lB k,(jD lB k).headD 0<=t:=by
 have l:=jAU g h0 h1
 refine⟨jJ2 l.ne,fun t ht=>?_⟩
 have r:=l.ris
 cases z:jD lB k with
 | nil=>rw[z] at ht; cases ht
 | cons a q=>
  rw[z] at ht r
  show a<=t
  rcases aM.mp ht with y | y
  ·lia
  ·have:=(dO.mp r).1 t y
   lia
theorem jI9:∀ m,m<2 ^ (chs w.toNat ms lB).length->∀ x∈wk (chs w.toNat ms lB) m,CovM w ms lB m x:=by
 have o:ChOk (chs w.toNat ms lB):=jED g
 have el:(chs w.toNat ms lB).length=w.toNat:=jA5 _ _ _ _
 refine jD2 o ?_ ?_
 ·intro x hx
  rw[jC5,aO] at hx
  subst hx
  refine⟨jn,fun k hk=>(by cases hk),fun k hk=>(by cases hk),fun k hk=>(by cases hk),fun t ht hb _=>?_⟩
  unfold fullN at hb
  rw[el,cQ,aw ht] at hb
  cases hb
 ·intro m hm hf ih x hx
  have hl:lowN m<w.toNat:=by have:=jDP hm hf; rwa [el] at this
  rw[jBC o hm hf] at hx
  obtain⟨p,hp,y,hy,rfl⟩:=mem_wJ.mp hx
  obtain⟨c,hc,rfl⟩:=aZ.mp hp
  have I:=ih c hc y hy
  have offm:∀ k∈y,∀ t∈jD lB k,m.testBit t.toNat=false:=fun k hk t ht=>by
   have:=I.off k hk t ht
   rw[cJ,gG] at this
   exact this.1
  obtain⟨hz,hcase⟩:=(jF8 hl).mp hc
  rcases hcase with ⟨rfl,hms⟩ | ⟨k,rfl,k0,k1,hd⟩
  ·dsimp only
   rw[ak (show (-1:Int)<0 by decide)]
   refine⟨I.nd,I.bnd,offm,I.dis,fun t ht hb hn=>?_⟩
   refine I.cov t ht ?_ hn
   rw[cJ,hb,ka,eE,aH]
   intro z
   subst z
   exact hn hms
  ·dsimp only at I hz ⊢
   rw[aj (by lia)]
   have ky:∀ t∈jD lB k,∀ k'∈y,t∉jD lB k':=fun t ht k' hk' ht'=>by
    have:=I.off k' hk' t ht'
    have bt:=(jAU g k0 k1).bnd t ht
    rw[cJ,jE7 g k0 k1,show ((t.toNat:Nat):Int)=t by lia,aw ht,lj] at this
    cases this
   have hhd:=(jCH g k0 k1).1
   refine⟨cL.mpr ⟨fun z=>ky _ hhd k z hhd,I.nd⟩,fun k' hk'=>?_,fun k' hk' t ht=>?_,fun k1' h1' k2' h2' ne t ht=>?_,fun t ht hb hn=>?_⟩
   ·rcases aM.mp hk' with z | z
    ·rw[z]; exact⟨k0,k1⟩
    ·exact I.bnd k' z
   ·rcases aM.mp hk' with z | z
    ·rw[z] at ht
     exact(jP3 g k0 k1).mp hz t ht
    ·exact offm k' z t ht
   ·rcases aM.mp h1' with z | z <;> rcases aM.mp h2' with u | u
    ·exact absurd (z.trans u.symm) ne
    ·rw[z] at ht
     exact ky t ht _ u
    ·rw[u]
     intro q
     exact ky t q _ z ht
    ·exact I.dis _ z _ u ne t ht
   ·by_cases hk:(t:Int)∈jD lB k
    ·exact⟨k,ar .., hk⟩
    ·obtain⟨k',h1,h2⟩:=I.cov t ht (by rw[cJ,hb,jE7 g k0 k1,aH hk]; rfl) hn
     exact⟨k',az _ h1,h2⟩
theorem jHA:∀ m,m<2 ^ (chs w.toNat ms lB).length->∀ x,CovM w ms lB m x->∃ y∈wk (chs w.toNat ms lB) m,∀ k,k∈y↔k∈x:=by
 have o:ChOk (chs w.toNat ms lB):=jED g
 have el:(chs w.toNat ms lB).length=w.toNat:=jA5 _ _ _ _
 have w0:=g.w0
 refine jD2 o ?_ ?_
 ·intro x C
  refine⟨[],by rw[jC5]; exact aO.mpr rfl,fun k=>⟨fun z=>(by cases z),fun hk=>?_⟩⟩
  exfalso
  have b:=C.bnd k hk
  have hh:=(jCH g b.1 b.2).1
  have hb:=(jAU g b.1 b.2).bnd _ hh
  have:=C.off k hk _ hh
  unfold fullN at this
  rw[el,cQ,aw (by lia)] at this
  cases this
 ·intro m hm hf ih x C
  have hl:lowN m<w.toNat:=by have:=jDP hm hf; rwa [el] at this
  have hstep:=jBC o hm hf
  by_cases hx:∃ k∈x,(lowN m:Int)∈jD lB k
  ·obtain⟨k,hk,ht⟩:=hx
   have b:=C.bnd k hk
   have hd:(jD lB k).headD 0=(lowN m:Int):=by
    obtain⟨h1,h2⟩:=jCH g b.1 b.2
    have h3:=h2 _ ht
    have hb:=(jAU g b.1 b.2).bnd _ h1
    have h4:=C.off k hk _ h1
    rcases Int.lt_or_eq_of_le h3 with z | z
    ·have:=jF9 m ((jD lB k).headD 0).toNat (by lia)
     rw[this] at h4
     cases h4
    ·exact z
   have fit:maskN (jD lB k)&&&m=0:=(jP3 g b.1 b.2).mpr (C.off k hk)
   have hc:((k,maskN (jD lB k)):Int×Nat)∈chAt (chs w.toNat ms lB) m:=(jF8 hl).mpr ⟨fit, .inr ⟨k,rfl,b.1,b.2,hd⟩⟩
   have memE:∀ j,j∈x.erase k↔j≠k/\j∈x:=fun j=>C.nd.mem_erase_iff
   obtain⟨y,hy,hye⟩:=ih _ hc (x.erase k) ⟨C.nd.erase k,fun j hj=>C.bnd j ((memE j).mp hj).2,fun j hj t ht'=>by
     obtain⟨n1,n2⟩:=(memE j).mp hj
     have bj:=C.bnd j n2
     have bt:=(jAU g bj.1 bj.2).bnd t ht'
     have:=C.dis j n2 k hk n1 t ht'
     rw[cJ,C.off j n2 t ht',jE7 g b.1 b.2,show ((t.toNat:Nat):Int)=t by lia,aH this]
     rfl,fun j1 h1 j2 h2=>C.dis j1 ((memE j1).mp h1).2 j2 ((memE j2).mp h2).2,fun t ht' hb hn=>by
     rw[cJ,gG,jE7 g b.1 b.2,dq] at hb
     obtain⟨j,hj,hjt⟩:=C.cov t ht' hb.1 hn
     exact⟨j,(memE j).mpr ⟨fun z=>hb.2 (z ▸ hjt),hj⟩,hjt⟩⟩
   refine⟨k::y,?_,fun j=>?_⟩
   ·rw[hstep,mem_wJ]
    exact⟨_,cH hc,y,hy,by dsimp only; rw[aj (by lia)]⟩
   ·rw[aM,hye,memE]
    constructor
    ·rintro (z | z)
     ·rw[z]; exact hk
     ·exact z.2
    ·intro z
     by_cases hj:j=k
     ·exact .inl hj
     ·exact .inr ⟨hj,z⟩
  ·have hms:(lowN m:Int)∈ms:=cC fun z=>hx (C.cov (lowN m) hl (jDO m) z)
   have fit:2 ^ lowN m&&&m=0:=by
    apply gF
    intro i
    rw[gP,fo,eE]
    by_cases hi:lowN m=i
    ·rw[<- hi,jDO,fg]
    ·rw[aH hi]
     rfl
   have hc:((-1,2 ^ lowN m):Int×Nat)∈chAt (chs w.toNat ms lB) m:=(jF8 hl).mpr ⟨fit, .inl ⟨rfl,hms⟩⟩
   obtain⟨y,hy,hye⟩:=ih _ hc x ⟨C.nd,C.bnd,fun j hj t ht'=>by
     have bj:=C.bnd j hj
     have bt:=(jAU g bj.1 bj.2).bnd t ht'
     rw[cJ,C.off j hj t ht',ka,eE,aH]
     intro z
     refine hx ⟨j,hj,?_⟩
     rw[z,show ((t.toNat:Nat):Int)=t by lia]
     exact ht',C.dis,fun t ht' hb hn=>by
     rw[cJ,gG] at hb
     exact C.cov t ht' hb.1 hn⟩
   refine⟨y,?_,hye⟩
   rw[hstep,mem_wJ]
   exact⟨_,cH hc,y,hy,by dsimp only; rw[ak (by decide)]⟩
end
structure IsCov (w:Int)(ms:List Int)(lB:List (List Int×Int))(c:List Int):Prop where
 ris:Ris lB.length c
 dis:∀ k∈c,∀ k'∈c,k≠k'->∀ t∈jD lB k,t∉jD lB k'
 cov:∀ t:Int,0<=t->t<w->t∉ms->∃ k∈c,t∈jD lB k
section
variable {w:Int}(g:Good 16 32 w ms lB)
include g
theorem jHS {c:List Int} :c∈cvs w ms lB↔IsCov w ms lB c:=by
 have z0:0<2 ^ (chs w.toNat ms lB).length:=eX _
 have w0:=g.w0
 unfold cvs
 rw[aZ]
 constructor
 ·rintro ⟨x,hx,rfl⟩
  have C:=jI9 g 0 z0 x hx
  have me:∀ k,k∈srt x↔k∈x:=fun k=>(jEQ x).mem_iff
  refine⟨⟨?_,fun k hk=>C.bnd k ((me k).mp hk)⟩,fun k hk k' hk'=>C.dis k ((me k).mp hk) k' ((me k').mp hk'),fun t t0 t1 hn=>?_⟩
  ·exact(List.Pairwise.and (jOX x) ((jEQ x).nodup_iff.mpr C.nd)).imp fun {a b} h=>by lia
  ·obtain⟨k,hk,hkt⟩:=C.cov t.toNat (by lia) (fo _) (by rw[show ((t.toNat:Nat):Int)=t by lia]; exact hn)
   exact⟨k,(me k).mpr hk,by rwa [show ((t.toNat:Nat):Int)=t by lia] at hkt⟩
 ·intro C
  obtain⟨y,hy,hye⟩:=jHA g 0 z0 c ⟨C.ris.ris.imp fun {a b} h=>by lia,C.ris.bnd,fun k hk t ht=>fo _,C.dis,fun t ht _ hn=>C.cov t (by lia) (by lia) hn⟩
  refine⟨y,hy,?_⟩
  have ny:=(jI9 g 0 z0 y hy).nd
  have nc:c.Nodup:=C.ris.ris.imp fun {a b} h=>by lia
  have pm:c.Perm y:=(ig nc ny).mpr fun k=>(hye k).symm
  exact(jOY (C.ris.ris.imp fun {a b} h=>by lia) pm).symm
end
theorem jI3 (w:Int)(ms:List Int)(lB:List (List Int×Int)):(cvs w ms lB).length=(wk (chs w.toNat ms lB) 0).length:=ab ..
noncomputable def lamOf (s:Stmt):Arguments×Expr×Scope×Pos:=match jC s with
 | [.Return (some (.Call _ [_,_, .Lambda a b sc p] _ _)) _]=>(a,b,sc,p)
 | _=>(yC s, .Constant .none 0 ⟨0,0,0,0⟩,j8 s,⟨0,0,0,0⟩)
abbrev lamA:Arguments:=(lamOf qE).1
abbrev lamB:Expr:=(lamOf qE).2.1
abbrev lamS:Scope:=(lamOf qE).2.2.1
abbrev lamP:Pos:=(lamOf qE).2.2.2
noncomputable abbrev nLam:List Str:=["behind"]
theorem scLam:NScope nLam ["behind"] [] lamS:=⟨rfl,rfl,rfl,by decide+kernel,rfl,by decide+kernel,by decide+kernel,fun x h=>by
  have hl:∀ y∈lamS.names,y.2≠ .free:=by decide+kernel
  exact absurd rfl (hl _ (cD h)),by decide+kernel⟩
def RWay (ch:Ch):RepT:=fun m _ v=>v=natV (wk ch m).length
theorem RWay.ok (ch:Ch):RepOk (RWay ch):=fun _ _=>⟨fun _ _ _ _ _ _ _ h=>h,fun _ _ _ h=>h⟩
theorem jRX (l:List (Int×List (List Int))):(wJ l).length=(l.map fun p=>p.2.length).sum:=by
 unfold wJ
 rw[List.length_flatMap]
 congr 1
 refine cG fun p _=>?_
 rw[ab]
abbrev qLam:Str:= "ways_of.<locals>.<lambda>"
def jO7 (T:Txt mg): { t:TE // JE (cxN P w K mg base nLam qLam lamS a (.ref c) cl A outer s H0) lamB t} :=⟨_,(jH (jAP rfl) (gl_n (by decide+kernel)) T.sum (by decide+kernel) (j3 (kU (m:=[none,none]) (Nc:=["number","ways"]) rfl (kT (jv 0 rfl (vis_n (by decide+kernel)))) rfl (by decide+kernel) (by decide+kernel) (fun y hy hf=>absurd hf (by revert y; decide+kernel)) (jG (N:=nLam) rfl rfl (by decide+kernel)) (fun cl C fp s H=>jAB (i:=0) (j:=1) rfl (show (["number","ways"]:List Str).Nodup by decide+kernel) rfl rfl (by decide+kernel) (by decide+kernel)) (fun cl C fp s H=>kX) (fun cl C fp s H=>(jv 1 rfl jL)) jAG) j6 jW) jW)⟩
def zhW (a c:Addr):Hp->Prop:=fun H=>H a=some (.ext (nlP qLam lamA lamB lamS [] a c))/\H c=some (.ext (ncP qLam c))
theorem zhW.ok (a c:Addr):HpOk (zhW a c):=⟨fun H H' D kvs hD _ k h=>⟨k _ _ h.1 fun z=>(by rw[<- z,h.1] at hD; cases hD),k _ _ h.2 fun z=>(by rw[<- z,h.2] at hD; cases hD)⟩,fun H H' e h=>⟨e _ _ h.1,e _ _ h.2⟩⟩
theorem jT5 {ch:Ch}(o:ChOk ch)(T:Txt mg):Callee P w K mg base ZT (zhW a c) 1 a (jIG ch (RWay ch)):=by
 refine Callee.imp (jPG (fv:=[]) scLam (fun vs H Q E h=>?_) (fun pm ctv us hl=>?_) fun A outer s H vs Q E hr h=>?_) fun s H _=>⟨⟨fun x y c h=>(by cases h),fun x c h=>(by cases h)⟩,rfl,fun i x v h=>(by cases h)⟩
 ·obtain⟨_,_,_,rfl,_⟩:=h
  rfl
 ·match us,hl with
  | [_],_=>rfl
 ·obtain⟨l,us,m,rfl,hl,hm,hf,av,q⟩:=h
  refine⟨_,(jO7 T).2.h,?_⟩
  have vl:us.length<=33:=by
   rw[av.len]
   have hlow:=jDP hm hf
   refine aX (bL _ _) ?_
   rw[af,ag hlow]
   exact o.len _ _ (ag hlow)
  refine⟨_,rfl,l,rfl,⟨_,SqL.of hl⟩,jA8 (xs:=us) (fun σ=>∃ v1 v2,σ=[v1,v2]) (mapZ (chAt ch m) fun c=>natV (wk ch (m|||c.2)).length) (mapZ.ok _ _) hl (by rw[aF]; lia) ⟨_,_,rfl⟩ ?_ ?_⟩
  ·rintro j x σ' H' zs hx ⟨v1,v2,rfl⟩ e hz S1 S2 yes no
   obtain⟨c,hc,p,u,rfl,hp,hR⟩:=av.get' hx
   have hR:u=natV (wk ch (m|||c.2)).length:=hR
   subst hR
   refine⟨p,_,rfl,SqT.of (e _ _ hp),rfl,_,_,rfl,_,_,rfl,rfl,?_⟩
   dsimp only [yG]
   rw[ak rfl]
   exact⟨_,rfl,yes _ _ _ ⟨_,_,rfl⟩ (Ext.refl _) (hz.yes hc)⟩
  ·rintro D H' zs hD e nD hz
   have hz:=hz.all (by rw[av.len]; exact ai _)
   have hz2:zs=((chAt ch m).map fun c=>((wk ch (m|||c.2)).length:Int)).map V.int:=by rw[hz,bN]; rfl
   rw[hz2] at hD
   refine⟨D,_,rfl,SqL.of hD,q _ _ ?_ e⟩
   show V.int _=natV _
   rw[jBC o hm hf,jRX,bN]
   congr 1
   generalize chAt ch m=cs
   induction cs with
   | nil=>rfl
   | cons a r ih=>
    rw[bi,eZ,bi,eZ,ih]
    push_cast
    rfl
noncomputable abbrev nWays:List Str:=["choices"]
theorem scWays:FnScope nWays ["choices"] (j8 qE):= {}
abbrev TabW (H:Hp)(tb:Addr):Prop:=TabOk H tb lamP qLam
def jHH:Sp:=spEx (fun x:Addr×Addr×Ch=>ChOk x.2.2) fun x=>jOZ x.1 (zhW x.1 x.2.1) x.2.2 (RWay x.2.2)
def jE4 (tb:Addr):Sp:=fun vs H Q _=>∃ (L:Addr) (ch:Ch),vs=[.ref L]/\ChAt H L ch/\ChOk ch/\TabW H tb/\∀ (r:Addr) (ns:List Nat) (H':Hp),GotAt H' r ch (RWay ch) ns->ns.Pairwise (· > ·)->MetOk ch ns->ExtT tb H H'->TabW H' tb->H r=none->Q (.ref r) H'
def waysA (T:Txt mg)(CH:PySem.W.CodeHd base c0 tb)(BM:BltAt base mg)(CG:Can P w K mg base "gathered" 4 fG fdG ["choices","at_end","join"] jHH)(hr:Room 4 (XOf nWays "ways_of" qE P w K mg base f (.ref c0) A outer s H0 E).A): { t:TS // JSs (XOf nWays "ways_of" qE P w K mg base f (.ref c0) A outer s H0 E) (jC qE) t} :=
 have nd:=scWays.nd
 ⟨_,(jB (jX (CG.je hr gD (j3 (jv 0 rfl vL) (j3 je_int (j3 (jPE rfl CH BM (fun y hy hf=>absurd hf (by revert y; decide+kernel)) rfl) j6 jS8) jZ) j4) j4)))⟩
theorem jQQ {fd:FuncData}(F:FunC K "ways_of" "ways_of" qE f fd c0)(T:Txt mg)(CH:PySem.W.CodeHd base c0 tb)(BM:BltAt base mg)(CG:Can P w K mg base "gathered" 4 fG fdG ["choices","at_end","join"] jHH):FnOk P w K mg base CX0 5 f fd ["choices"] (jE4 tb):=by
 refine F.ok scWays (fun vs H Q E h=>?_) (fun A outer s H vs Q E hr h=>?_)
 ·obtain⟨_,_,rfl,_⟩:=h
  rfl
 ·obtain⟨L,ch,rfl,hL,o,tab,q⟩:=h
  refine⟨_,(waysA T CH BM CG hr).2.h,?_⟩
  refine⟨_,rfl,tab,fun a c H1 k1 k2 k3 e1 na=>?_⟩
  have hL1:ChAt H1 L ch:=hL.keep (fun b xs h=>e1.at tab h) fun b xs h=>e1.at tab h
  refine⟨(a,c,ch),o,L,_,rfl,hL1,?_,⟨k1,k2⟩,fun r ns H2 got srt mt e2 n2=>?_⟩
  ·show V.int 1=natV _
   rw[jC5]
   rfl
  ·refine q r ns H2 got srt mt (fun b o hb hn=>e2 _ _ (e1 b o hb hn)) (.inr ⟨c,e2 _ _ k3,e2 _ _ k2⟩) ?_
   cases z:H r with
   | none=>rfl
   | some o=>
    by_cases hr:r=tb
    ·rw[hr,k3] at n2
     cases n2
    ·rw[e1 _ _ z hr] at n2
     cases n2
noncomputable abbrev nMany:List Str:=["box"]
theorem scMany:FnScope nMany ["box"] (j8 sMany):= {}
def jKS (tb:Addr):Sp:=fun vs H Q _=>∃ (b:Addr) (w:Int) (ms:List Int) (lB:List (List Int×Int)),vs=[.ref b]/\BoxAt H b w ms lB/\Good 16 32 w ms lB/\TabW H tb/\∀ H',ExtT tb H H'->TabW H' tb->Q (natV (wk (chs w.toNat ms lB) 0).length) H'
def manyA (T:Txt mg)(CC:Can P w K mg base "choices_of" 2 fC fdC ["box"] jAJ)(CW:Can P w K mg base "ways_of" 5 fW fdW ["choices"] (jE4 tb))(hr:Room 5 (XOf nMany "many" sMany P w K mg base f cdv A outer s H0 E).A): { t:TS // JSs (XOf nMany "many" sMany P w K mg base f cdv A outer s H0 E) (jC sMany) t} :=
 have nd:=scMany.nd
 ⟨_,(jB (jX (jDR (hu_of hr) (CW.je hr gD (j3 (CC.je (hr.mono (by decide)) gD (j3 (jv 0 rfl vL) j6 j4) j4) j6 jI) jI) je_int jF)))⟩
theorem jQV {fd:FuncData}(F:Fun K "many" "many" sMany f fd)(T:Txt mg)(CC:Can P w K mg base "choices_of" 2 fC fdC ["box"] jAJ)(CW:Can P w K mg base "ways_of" 5 fW fdW ["choices"] (jE4 tb)):FnOk P w K mg base CX0 6 f fd ["box"] (jKS tb):=by
 refine F.ok scMany (fun vs H Q E h=>?_) (fun cdv A outer s H vs Q E hr h=>?_)
 ·obtain⟨_,_,_,_,rfl,_⟩:=h
  rfl
 ·obtain⟨b,wi,ms,lB,rfl,hB,g,tab,q⟩:=h
  refine⟨_,(manyA T CC CW hr).2.h,?_⟩
  refine⟨_,rfl,b,wi,ms,lB,rfl,hB,g,fun L H1 hL1 e1=>?_⟩
  refine⟨L,_,rfl,hL1,jED g,tab.ext e1,fun r ns H2 got srt mt e2 t2 n2=>?_⟩
  obtain⟨u,dg,ru⟩:=got0 got srt mt
  have ru:u=natV _:=ru
  subst ru
  exact⟨r,_,rfl,dg,q H2 ((ExtT.of e1).trans e2) t2⟩
def befW (ch:Ch)(m j:Nat):Nat:=(wJ (((chAt ch m).take j).map fun c=>(c.1,wk ch (m|||c.2)))).length
theorem jOS (c:Int)(ws:List (List Int)):wJ [(c,ws)]=ws.map fun x=>if c<0 then x else c::x:=by
 unfold wJ
 rw[List.flatMap_cons,List.flatMap_nil,bg]
theorem jH5 {ch:Ch}{m j:Nat}{c:Int×Nat}(h:(chAt ch m)[j]?=some c):befW ch m (j+1)=befW ch m j+(wk ch (m|||c.2)).length:=by
 unfold befW
 rw[be,h,aQ,jDG,aG]
 congr 1
 show (wJ [(c.1,wk ch (m|||c.2))]).length=_
 rw[jOS,ab]
theorem jOQ {ch:Ch}{m:Nat}(o:ChOk ch)(h:m<2 ^ ch.length)(hn:m≠fullN ch):befW ch m (chAt ch m).length=(wk ch m).length:=by
 unfold befW
 rw[bP,jBC o h hn]
theorem jRU {ch:Ch}{m j p:Nat}{c:Int×Nat}(o:ChOk ch)(h:m<2 ^ ch.length)(hn:m≠fullN ch)(hc:(chAt ch m)[j]?=some c)(hp:p<(wk ch (m|||c.2)).length):(wk ch m)[befW ch m j+p]?=((wk ch (m|||c.2))[p]?).map fun x=>if c.1<0 then x else c.1::x:=by
 have hj:=(am.mp hc).1
 have hg:=(am.mp hc).2
 have e:chAt ch m=(chAt ch m).take j++([c]++(chAt ch m).drop (j+1)):=by
  have:=(bo j (chAt ch m)).symm
  rw[fq hj,hg] at this
  exact this
 rw[jBC o h hn]
 conv=>lhs; rw[e]
 rw[aQ,aQ,jDG,jDG]
 have b:(wJ (((chAt ch m).take j).map fun c=>(c.1,wk ch (m|||c.2)))).length=befW ch m j:=rfl
 rw[bh (by rw[b]; lia),b,b0]
 have w1:wJ ([c].map fun c=>(c.1,wk ch (m|||c.2)))=(wk ch (m|||c.2)).map fun x=>if c.1<0 then x else c.1::x:=jOS _ _
 rw[w1,bQ (by rw[ab]; exact hp),aY]
abbrev jIS:List Str:=["choices","ways","place","taken","mask","number","more"]
theorem scAlong:FnScope jIS ["choices","ways","place"] (j8 jBP):= {}
def jES:Sp:=fun vs H Q _=>∃ (L r:Addr) (ch:Ch) (ns:List Nat) (n:Nat) (x:List Int),vs=[.ref L, .ref r, .int (n:Int)]/\ChAt H L ch/\ChOk ch/\ch.length<=16/\GotAt H r ch (RWay ch) ns/\ns.Pairwise (· > ·)/\MetOk ch ns/\(wk ch 0)[n]?=some x/\∀ q H',H' q=some (.tup ((srt x).map V.int))->Ext H H'->H q=none->Q (.ref q) H'
def jTZ (T:Txt mg)(CF:Can P w K mg base "full_mask" 1 fF fdF ["choices"] jCP)(CA:Can P w K mg base "choices_at" 1 fA fdA ["choices","mask"] spAt)(hr:Room 1 (XOf jIS "covering_along" jBP P w K mg base f cdv A outer s H0 E).A): { t:TS // JSs (XOf jIS "covering_along" jBP P w K mg base f cdv A outer s H0 E) (jC jBP) t} :=
 have nd:=scAlong.nd
 ⟨_,(j9 (jE (i:=3) nd rfl lL (jAF j6) jE1)
   (j9 (jE (i:=4) nd rfl lL (je_int) jEO)
   (j9 (jBW bx (jJ qI (jv 4 rfl vL) (CF.je (hr.mono (by decide)) gD (j3 (jv 0 rfl vL) j6 j4) j4) (jM _)) (jB (yO bx rfl (kT (CA.je (hr.mono (by decide)) gD (j3 (jv 0 rfl vL) (j3 (jv 4 rfl vL) j6 j4) j4) j4)) (jDB (i:=5) (j:=6) nd rfl rfl (by decide+kernel) (by decide+kernel)) (j9 (yX (jJ op_lt (jv 2 rfl vL) (jDR (hu_of hr) (jv 1 rfl vL) (jR op_or (jv 4 rfl vL) (jv 6 rfl vL)) jKY) (jM _)) (j9 (jBH (je_bm b9 db de jAK (jv 3 rfl vL) (j3 (jv 5 rfl vL) j6 j4) j4) jK)
   (j9 (jLZ (i:=4) nd rfl lL (jv 6 rfl vL) ip_or)
   (jB (⟨jNN⟩)))) yA)
   (jB (jLZ (i:=2) nd rfl lL (jDR (hu_of hr) (jv 1 rfl vL) (jR op_or (jv 4 rfl vL) (jv 6 rfl vL)) jKY) jTQ))) kI)))
   (jB (jX (kJ jY gD T.tuple (by decide+kernel) (j3 (jH jGU gD T.sorted (by decide+kernel) (j3 (kU (m:=[none]) (Nc:=["number"]) rfl (kT (jv 3 rfl vL)) rfl (by decide+kernel) (by decide+kernel) (jQ (psc:=j8 jBP)) (jG (N:=jIS) rfl rfl (by decide+kernel)) (fun cl C fp s H=>jN (i:=0) (show (["number"]:List Str).Nodup by decide+kernel) rfl yH) (fun cl C fp s H=>jAW (jJ op_ge (jv 0 rfl jL) (je_int) (jM _))) (fun cl C fp s H=>(jv 0 rfl jL)) jAG) j6 jW) jW) j6 jI) jI))))))⟩
theorem jTS {H:Hp}{r:Addr}{ch:Ch}{ns:List Nat}{m c:Nat}(g:GotAt H r ch (RWay ch) ns)(nd:ns.Pairwise (· > ·))(h:(m|||c)∈ns):DGet H r (.int (Builtin.bitOr (m:Int) (c:Int))) (some (natV (wk ch (m|||c)).length)):=by
 obtain⟨us,h1,h2⟩:=g.ex
 obtain⟨u,hu,ru⟩:=jD3 h2 (nd.imp fun {a b} h=>by lia) h
 have ru:u=natV _:=ru
 subst ru
 rw[jAQ]
 have:=DGet.k (k:=Sum.inl (((m|||c:Nat):Nat):Int)) h1
 rw[hu] at this
 exact this
theorem GotAt.ext {H H':Hp}{r:Addr}{ch:Ch}{ns:List Nat}(g:GotAt H r ch (RWay ch) ns)(e:Ext H H'):GotAt H' r ch (RWay ch) ns:=let ⟨us,a,b⟩:=g.ex; ⟨us,e _ _ a,b⟩
theorem jNX {fd:FuncData}(F:Fun K "covering_along" "covering_along" jBP f fd)(T:Txt mg)(CF:Can P w K mg base "full_mask" 1 fF fdF ["choices"] jCP)(CA:Can P w K mg base "choices_at" 1 fA fdA ["choices","mask"] spAt):FnOk P w K mg base CX0 2 f fd ["choices","ways","place"] jES:=by
 refine F.ok scAlong (fun vs H Q E h=>?_) (fun cdv A outer s H vs Q E hr h=>?_)
 ·obtain⟨_,_,_,_,_,_,rfl,_⟩:=h
  rfl
 ·obtain⟨L,r,ch,ns,n,x,rfl,hL,o,w16,got,srt',mt,hx,q⟩:=h
  refine⟨_,(jTZ T CF CA hr).2.h,?_⟩
  have p16:2 ^ ch.length<=2 ^ 16:=bV (by decide) w16
  have x16:=(jRS o 0 (eX _) x (aC hx)).2
  refine⟨by show (0:Nat)<=_; decide,fun l H1 d1 e1 n1=>?_⟩
  refine⟨fun k σ H'=>∃ (m p:Nat) (ks y:List Int) (v5 v6:Option V),σ=[some (.ref L),some (.ref r),some (natV p),some (.ref l),some (natV m),v5,v6]/\Ext H H'/\H' l=some (.lst (ks.map V.int))/\m∈ns/\(wk ch m)[p]?=some y/\x=(ks.filter fun z=>decide (0<=z))++y/\ks.length<=m/\k=fullN ch - m,⟨_,0,n,[],x,_,_,rfl,e1,d1,mt.zero,hx,rfl,ai _,rfl⟩,?_⟩
  rintro k σ H2 ⟨m,p,ks,y,v5,v6,rfl,e2,hl2,hm,hy,hxe,hkl,rfl⟩
  have hm2:=mt.bnd m hm
  refine⟨_,rfl,_,rfl,L,ch,rfl,hL.ext e2,w16,rfl,_,rfl,?_⟩
  have nf:(!decide (natV m=natV (fullN ch)))=true↔m≠fullN ch:=by
   rw[gh,dq]
   refine not_congr ⟨fun h=>?_,fun h=>by rw[h]⟩
   have:=V.int.inj h
   lia
  refine ite2 (fun h=>?_) (fun h=>?_)
  ·have h:=nf.mp h
   have hml:m<fullN ch:=by unfold fullN at h ⊢; lia
   refine⟨fun σ' H'=>∃ (m' p:Nat) (ks y:List Int) (v5 v6:Option V),σ'=[some (.ref L),some (.ref r),some (natV p),some (.ref l),some (natV m'),v5,v6]/\Ext H H'/\H' l=some (.lst (ks.map V.int))/\m'∈ns/\(wk ch m')[p]?=some y/\x=(ks.filter fun z=>decide (0<=z))++y/\ks.length<=m'/\m<m',fun σ' H' ⟨m',p,ks,y,v5,v6,a1,a2,a3,a4,a5,a6,a7,a8⟩=>⟨fullN ch - m',by lia,m',p,ks,y,v5,v6,a1,a2,a3,a4,a5,a6,a7,rfl⟩,?_⟩
   refine⟨_,rfl,_,rfl,L,ch,m,rfl,hL.ext e2,o,hm2,h,fun r3 H3 ⟨vs,hr3,av⟩ e3 n3=>?_⟩
   have E3:=e2.trans e3
   have hl3:=e3 _ _ hl2
   have pl:=(am.mp hy).1
   refine⟨r3,rfl,⟨_,SqL.of hr3⟩,jB6 (xs:=vs) (fun i σ H'=>H'=H3/\befW ch m i<=p/\∃ v5 v6,σ=[some (.ref L),some (.ref r),some (natV (p - befW ch m i)),some (.ref l),some (natV m),v5,v6]) ⟨rfl,ba _,_,_,rfl⟩ (fun i σ H' _ ⟨e,_⟩=>by rw[e]; exact SqL.of hr3) ?_ ?_⟩
   ·rintro i z σ H' hz ⟨rfl,hb,v5,v6,rfl⟩
    obtain⟨c,hc,qa,rfl,hq⟩:=av.get' hz
    have hcm:=aC hc
    obtain⟨u1,u2⟩:=o.up hm2 h hcm
    have un:=mt.up m hm h c hcm
    have dg:=jTS (got.ext E3) srt' un
    refine⟨qa,_,rfl,SqT.of hq,rfl,_,_,rfl,_,_,rfl,rfl,?_⟩
    refine⟨_,rfl,_,rfl,_,rfl,_,rfl,_,_,rfl,rfl,r,_,rfl,dg,_,_,rfl,rfl,_,rfl,?_⟩
    refine ite2 (fun h'=>?_) (fun h'=>?_)
    ·have lt:p - befW ch m i<(wk ch (m|||c.2)).length:=by
      have:=aP h'
      lia
     refine⟨_,rfl, .inl ⟨rfl,_,SqL.of hl3⟩,_,rfl,l,_,_,rfl,rfl,hl3,by rw[ab,aF]; lia,?_⟩
     refine⟨_,rfl,_,rfl,_,_,rfl,rfl,?_⟩
     rw[jAQ]
     have g1:=jRU o hm2 h hc lt
     rw[show befW ch m i+(p - befW ch m i)=p by lia,hy] at g1
     obtain⟨y',hy'⟩:∃ y',(wk ch (m|||c.2))[p - befW ch m i]?=some y':=⟨_,ag lt⟩
     rw[hy'] at g1
     have g1:y=if c.1<0 then y' else c.1::y':=br g1
     refine⟨m|||c.2,p - befW ch m i,ks++[c.1],y',_,_,rfl,E3.updNew n1 _,?_,un,hy',?_,by rw[aG]; show _+1<=_; lia,u1⟩
     ·rw[j5,aQ]; rfl
     ·rw[hxe,g1,cf]
      by_cases c0:c.1<0
      ·rw[ak c0,List.filter_cons_of_neg (by simp; lia),gR,bg]
      ·rw[aj c0,List.filter_cons_of_pos (by simp; lia),gR,aU]
       rfl
    ·have ge:(wk ch (m|||c.2)).length<=p - befW ch m i:=by
      have h3:¬ (((p - befW ch m i:Nat):Int)<((wk ch (m|||c.2)).length:Int)):=fun z=>h' (aw z)
      lia
     refine⟨_,rfl,_,rfl,_,rfl,_,rfl,_,_,rfl,rfl,r,_,rfl,dg,_,_,rfl,rfl,rfl,by rw[jH5 hc]; lia,some (.int c.1),some (natV c.2),?_⟩
     rw[jH5 hc]
     show [_,_,some (V.int (((p - befW ch m i:Nat):Int) - ((wk ch (m|||c.2)).length:Int))),_,_,_,_]=_
     rw[show ((p - befW ch m i:Nat):Int) - ((wk ch (m|||c.2)).length:Int)=((p - (befW ch m i+(wk ch (m|||c.2)).length):Nat):Int) by lia]
   ·rintro σ H' ⟨rfl,hb,v5,v6,rfl⟩
    rw[av.len,jOQ o hm2 h] at hb
    lia
  ·have h:m=fullN ch:=cC fun z=>h (nf.mpr z)
   subst h
   rw[jC5] at hy
   have y0:y=[]:=by
    cases p with
    | zero=>exact(br hy).symm
    | succ p=>cases hy
   subst y0
   rw[bg] at hxe
   refine⟨_,rfl,l,rfl,⟨_,SqL.of hl2⟩,jA8 (xs:=ks.map V.int) (fun σ=>∃ v,σ=[v]) (outZ ks (fun z=>decide (0<=z)) V.int) (outZ.ok _ _ _) hl2 (by rw[ab,aF]; lia) ⟨_,rfl⟩ ?_ ?_⟩
   ·rintro j z σ' H' zs hz ⟨v,rfl⟩ e hzz S1 S2 yes no
    obtain⟨k,hk,rfl⟩:=int_at hz
    refine⟨_,rfl,_,_,rfl,rfl,_,rfl,?_⟩
    refine ite2 (fun h'=>?_) (fun h'=>?_)
    ·exact⟨_,rfl,yes _ _ _ ⟨_,rfl⟩ (Ext.refl _) (hzz.yes hk h')⟩
    ·exact no _ _ ⟨_,rfl⟩ (Ext.refl _) (hzz.no hk (Bool.eq_false_iff.mpr h'))
   ·rintro D H3 zs h3 e3 n3 hz
    have hz:=hz.all (by rw[ab]; exact ai _)
    rw[<- hxe] at hz
    subst hz
    refine⟨D,_,rfl,SqL.of h3,by lia,fun l3 ns' hl3 hs3 hp3=>?_⟩
    have ens:=jOY hs3 hp3
    subst ens
    have e4:Ext H3 (L2.upd H3 l3 (.lst ((srt x).map V.int))):=(Ext.refl _).new hl3 _
    have f4:(L2.upd H3 l3 (.lst ((srt x).map V.int))) l3=some (.lst ((srt x).map V.int)):=j5
    generalize L2.upd H3 l3 (.lst ((srt x).map V.int))=H4 at e4 f4
    refine⟨l3,_,rfl, .inl ⟨SqL.of f4,fun q5 hq5=>?_⟩⟩
    have E4:=(e2.trans e3).trans e4
    exact q q5 _ j5 (E4.trans ((Ext.refl _).new hq5 _)) (jT9 E4 hq5)
theorem jRN {w:Int}{ms:List Int}{lB:List (List Int×Int)}{n:Nat}{c:List Int}(h:(cvs w ms lB)[n]?=some c):∃ x,(wk (chs w.toNat ms lB) 0)[n]?=some x/\srt x=c:=by
 unfold cvs at h
 rw[aY] at h
 cases z:(wk (chs w.toNat ms lB) 0)[n]? with
 | none=>rw[z] at h; cases h
 | some x=>rw[z] at h; exact⟨x,rfl,br h⟩
section
variable {fV:Addr}{fdV:FuncData}
abbrev jLK:List Str:=["box","number","choices","ways"]
theorem scCovAt:FnScope jLK ["box","number"] (j8 jCU):= {}
def jHI (tb:Addr):Sp:=fun vs H Q _=>∃ (b:Addr) (n:Nat) (w:Int) (ms:List Int) (lB:List (List Int×Int)) (c:List Int),vs=[.ref b,natV n]/\BoxAt H b w ms lB/\Good 16 32 w ms lB/\TabW H tb/\(cvs w ms lB)[n]?=some c/\∀ q H',H' q=some (.tup (c.map V.int))->ExtT tb H H'->TabW H' tb->Q (.ref q) H'
def jTW (T:Txt mg)(CC:Can P w K mg base "choices_of" 2 fC fdC ["box"] jAJ)(CW:Can P w K mg base "ways_of" 5 fW fdW ["choices"] (jE4 tb))(CG:Can P w K mg base "covering_along" 2 fG fdG ["choices","ways","place"] jES)(hr:Room 5 (XOf jLK "covering_at" jCU P w K mg base f cdv A outer s H0 E).A): { t:TS // JSs (XOf jLK "covering_at" jCU P w K mg base f cdv A outer s H0 E) (jC jCU) t} :=
 have nd:=scCovAt.nd
 ⟨_,(j9 (jE (i:=2) nd rfl lL (CC.je (hr.mono (by decide)) gD (j3 (jv 0 rfl vL) j6 j4) j4) jK)
   (j9 (jE (i:=3) nd rfl lL (CW.je hr gD (j3 (jv 2 rfl vL) j6 j4) j4) jK)
   (j9 (yX (jt_w (jw_or (jJ op_lt (jv 1 rfl vL) (je_int) (jM _)) (jIX (jJ op_ge (jv 1 rfl vL) (jDR (hu_of hr) (jv 3 rfl vL) je_int jF) (jM _))))) (jB (jTJ)) yA)
   (jB (jX (CG.je (hr.mono (by decide)) gD (j3 (jv 2 rfl vL) (j3 (jv 3 rfl vL) (j3 (jv 1 rfl vL) j6 j4) j4) j4) j4))))))⟩
theorem jNW {fd:FuncData}(F:Fun K "covering_at" "covering_at" jCU f fd)(T:Txt mg)(CC:Can P w K mg base "choices_of" 2 fC fdC ["box"] jAJ)(CW:Can P w K mg base "ways_of" 5 fW fdW ["choices"] (jE4 tb))(CG:Can P w K mg base "covering_along" 2 fG fdG ["choices","ways","place"] jES):FnOk P w K mg base CX0 6 f fd ["box","number"] (jHI tb):=by
 refine F.ok scCovAt (fun vs H Q E h=>?_) (fun cdv A outer s H vs Q E hr h=>?_)
 ·obtain⟨_,_,_,_,_,_,rfl,_⟩:=h
  rfl
 ·obtain⟨b,n,wi,ms,lB,c,rfl,hB,g,tab,hc,q⟩:=h
  obtain⟨x,hx,rfl⟩:=jRN hc
  refine⟨_,(jTW T CC CW CG hr).2.h,?_⟩
  have o:ChOk (chs wi.toNat ms lB):=jED g
  refine⟨_,rfl,b,wi,ms,lB,rfl,hB,g,fun L H1 hL1 e1=>?_⟩
  refine⟨_,rfl,L,_,rfl,hL1,o,tab.ext e1,fun r ns H2 got srt' mt e2 t2 n2=>?_⟩
  have hL2:ChAt H2 L (chs wi.toNat ms lB):=hL1.keep (fun b xs h=>e2.at (tab.ext e1) h) fun b xs h=>e2.at (tab.ext e1) h
  obtain⟨u,dg,ru⟩:=got0 got srt' mt
  have ru:u=natV _:=ru
  subst ru
  have nl:=(am.mp hx).1
  refine⟨_,rfl,_,_,rfl,rfl,_,rfl,iteN (by simp) ?_⟩
  refine⟨_,rfl,_,rfl,r,_,rfl,dg,_,_,rfl,rfl,_,rfl,iteN (by simp; lia) ?_⟩
  refine⟨_,rfl,_,rfl,_,rfl,L,r,_,ns,n,x,rfl,hL2,o,o.w,got,srt',mt,hx,fun q5 H3 d3 e3 n3=>?_⟩
  exact q q5 H3 d3 (((ExtT.of e1).trans e2).trans (ExtT.of e3)) (t2.ext e3)
end
theorem iteNT {c A B:Prop} [Decidable c](hc:¬ c)(h:A):if (!decide c)=true then A else B:=by
 rw[aH hc]
 exact h
def valO:Ob->Int
 | .int i=>i
 | _=>0
def hAt (ns:List Int)(t:Int):Int:=ns.getD t.toNat 0
def wL (ns:List Int)(lB:List (List Int×Int))(t:Int)(n:Nat):List Int:=(((ns.zip lB).take n).filter fun x=>decide (t∈x.2.1)).map Prod.fst
theorem jRW (ns:List Int)(lB:List (List Int×Int))(t:Int)(n:Nat):(wL ns lB t n).length<=n:=by
 unfold wL
 rw[ab]
 refine aX (bL _ _) ?_
 rw[bq]
 lia
theorem jHB {ns:List Int}{lB:List (List Int×Int)}{t a:Int}{j:Nat}{pc:List Int×Int}(h1:ns[j]?=some a)(h2:lB[j]?=some pc):wL ns lB t (j+1)=wL ns lB t j++(if decide (t∈pc.1)=true then [a] else []):=by
 unfold wL
 have e:(ns.zip lB).take (j+1)=(ns.zip lB).take j++[(a,pc)]:=by
  rw[be,show (ns.zip lB)[j]?=some (a,pc) from im.mpr ⟨h1,h2⟩]
  rfl
 rw[e,cf,aQ,b8]
 congr 1
 show List.map Prod.fst (if decide (t∈pc.1)=true then [(a,pc)] else [])=_
 split <;> rfl
def onesB (w:Int)(ms:List Int)(lB:List (List Int×Int))(ns:List Int):Bool:=(mus ms w.toNat).all fun t=>decide ((wL ns lB t lB.length).sum=1)
def kP (w:Int)(ms:List Int)(lB:List (List Int×Int)):Ob->Bool
 | .tup os=>decide (os.length=lB.length)&&(os.all isInt&&onesB w ms lB (os.map valO))
 | _=>false
theorem Ats.intsW {H:Hp} :∀ {os:List Ob}{vs:List V},Ats H os vs->os.all isInt=true->vs=(os.map valO).map V.int
 | [],vs,h,_=>by cases (show vs=[] from h); rfl
 | o::os,vs,h,ha=>by
  obtain⟨v,r,rfl,h1,h2⟩:=h
  rw[iG,bD] at ha
  cases o with
  | int i=>
   cases (show v= .int i from h1)
   rw[Ats.intsW h2 ha.2]
   rfl
  | oth=>cases ha.1
  | tup _=>cases ha.1
theorem jRV {w:Int}{ms:List Int}{lB:List (List Int×Int)}{o:Ob}(h:isTup o=false):kP w ms lB o=false:=by cases o <;> first | rfl | cases h
def jC9:Sp:=fun vs H Q _=>∃ (b qm:Addr) (x3:V) (w:Int) (mays:List Int),vs=[.ref b]/\H b=some (.tup [.int w, .ref qm,x3])/\H qm=some (.tup (mays.map V.int))/\0<=w/\w<=1000/\∀ l,H l=none->Q (.ref l) (upd H l (.lst ((mus mays w.toNat).map V.int)))
abbrev jLJ:List Str:=["box","mays"]
theorem scMusts:FnScope jLJ ["box"] (j8 jCT):= {}
def jTA (T:Txt mg): { t:TS // JSs (XOf jLJ "musts_of" jCT P w K mg base f cdv A outer s H0 E) (jC jCT) t} :=
 have nd:=scMusts.nd
 ⟨_,(j9 (jE (i:=1) nd rfl qA (jT kL (jv 0 rfl vL) (je_int) jF) jFW)
   (jB (jX (kU (m:=[none,some 1]) (Nc:=["thing","mays"]) rfl (jA2 gD T.range (j3 (jT kL (jv 0 rfl vL) (je_int) jF) j6 jV) jV) rfl (by decide+kernel) (by decide+kernel) (jQ (psc:=j8 jCT)) (jG (N:=jLJ) rfl rfl (by decide+kernel)) (fun cl C fp s H=>jN (i:=0) (show (["thing","mays"]:List Str).Nodup by decide+kernel) rfl yH) (fun cl C fp s H=>jAW (jJ jJN (jv 0 rfl jL) (jv 1 rfl kN) jLF)) (fun cl C fp s H=>(jv 0 rfl jL)) kI))))⟩
theorem jNT {fd:FuncData}(F:Fun K "musts_of" "musts_of" jCT f fd)(T:Txt mg):FnOk P w K mg base CX0 1 f fd ["box"] jC9:=by
 refine F.ok scMusts (fun vs H Q E h=>?_) (fun cdv A outer s H vs Q E hr h=>?_)
 ·obtain⟨_,_,_,_,_,rfl,_⟩:=h
  rfl
 ·obtain⟨b,qm,x3,w,mays,rfl,hb,hm,w0,w1,q⟩:=h
  refine⟨_,(jTA T).2.h,?_⟩
  refine⟨_,rfl,b,_,1,_,rfl,rfl,SqT.of hb,rfl,?_⟩
  refine⟨_,rfl,b,_,0,_,rfl,rfl,SqT.of hb,rfl,w,rfl,by lia,by lia,jB8 (n:=w.toNat) (by rw[aF]; lia) (fun D i σ' H' ys=>(∃ v,σ'=[v,some (.ref qm)])/\ys=(mus mays i).map V.int/\H'=upd H D (.lst ys)) ?_ ?_ ?_ ?_⟩
  ·intro D hD
   exact⟨⟨_,rfl⟩,rfl,rfl⟩
  ·rintro D i σ' H' ys hD hi ⟨_,rfl,rfl⟩
   exact⟨j5,by rw[ab]; exact jCD _ _⟩
  ·rintro D i σ' H' ys hD hi ⟨⟨v,rfl⟩,rfl,rfl⟩
   have e0:(0+(i:Int))=(i:Int):=by lia
   refine⟨_,rfl,_,rfl,qm,_,rfl, .inr (SqT.of (by rw[j7 (jA hm hD)]; exact hm)),rfl,jAZ mays,_,rfl,?_⟩
   rw[e0,jBY]
   refine ite2 (fun hz=>?_) (fun hz=>?_)
   ·rw[ak rfl] at hz
    refine⟨_,rfl,j5,⟨_,rfl⟩,?_,jC6⟩
    rw[jF5,ak hz,aQ]
    rfl
   ·rw[ak rfl] at hz
    refine⟨⟨_,rfl⟩,?_,rfl⟩
    rw[jF5,aj hz,bg]
  ·rintro D σ' H' ys hD ⟨_,rfl,rfl⟩
   exact q D hD
def spWho:Sp:=fun vs H Q _=>∃ (b:Addr) (v:V) (o:Ob) (w:Int) (ms:List Int) (lB:List (List Int×Int)),vs=[.ref b,v]/\BoxAt H b w ms lB/\Good 16 32 w ms lB/\At H o v/\∀ H',Ext H H'->Q (.bl (kP w ms lB o)) H'
noncomputable abbrev nAre:List Str:=["box","thing","must"]
theorem scAre:FnScope nAre ["box","thing"] (j8 sAre):= {}
def areL (T:Txt mg)(CW:Can P w K mg base "is_whole" 1 fW fdW ["thing"] spWh)(CM:Can P w K mg base "musts_of" 1 fM fdM ["box"] jC9)(hr:Room 1 (XOf nAre "are_wholes" sAre P w K mg base f cdv A outer s H0 E).A): { t:TS // JSs (XOf nAre "are_wholes" sAre P w K mg base f cdv A outer s H0 E) (yT ((jC sAre).getD 1 (.Pass ⟨0,0,0,0⟩))) t} :=
 have nd:=scAre.nd
 ⟨_,(jB (yX (jJ qI (jH (jAP rfl) gD T.sum (by decide+kernel) (j3 (kU (m:=[none,none,some 2]) (Nc:=["number","piece","must"]) rfl (jGN gD T.zip (j3 (jv 1 rfl vL) (j3 (jT kL (jv 0 rfl vL) (je_int) jF) j6 jV) j4) j4) rfl (by decide+kernel) (by decide+kernel) (jQ (psc:=j8 sAre)) (jG (N:=nAre) rfl rfl (by decide+kernel)) (fun cl C fp s H=>jAB (i:=0) (j:=1) rfl (show (["number","piece","must"]:List Str).Nodup by decide+kernel) rfl rfl (by decide+kernel) (by decide+kernel)) (fun cl C fp s H=>jAW (jJ jF2 (jv 2 rfl kN) (jT jBX (jv 1 rfl jL) (je_int) jF) jLE)) (fun cl C fp s H=>(jv 0 rfl jL)) kI) j6 jW) jW) (je_int) (jM _)) (jB (jX (je_bl))) yA))⟩
def areA (T:Txt mg)(CW:Can P w K mg base "is_whole" 1 fW fdW ["thing"] spWh)(CM:Can P w K mg base "musts_of" 1 fM fdM ["box"] jC9)(hr:Room 1 (XOf nAre "are_wholes" sAre P w K mg base f cdv A outer s H0 E).A): { t:TS // JSs (XOf nAre "are_wholes" sAre P w K mg base f cdv A outer s H0 E) (jC sAre) t} :=
 have nd:=scAre.nd
 ⟨_,(j9 (yX (jt_w (jw_or (jGM (jGL (jH jBJ gD T.isinstance (by decide+kernel) (j3 (jv 1 rfl vL) (j3 (jHY (v:= .ty "tuple") gD T.tuple (by decide+kernel) rfl) j6 j4) j4) j4) jDH)) (jw_or (jJ qI (jH jO gD T.len (by decide+kernel) (j3 (jv 1 rfl vL) j6 j4) j4) (jH jO gD T.len (by decide+kernel) (j3 (jT kL (jv 0 rfl vL) (je_int) jF) j6 jV) jV) (jM _)) (jIX (jGM (jGL (jH (jMZ rfl) gD T.all (by decide+kernel) (j3 (kU (m:=[none]) (Nc:=["number"]) rfl (jM1 (jv 1 rfl vL)) rfl (by decide+kernel) (by decide+kernel) (jQ (psc:=j8 sAre)) (jG (N:=nAre) rfl rfl (by decide+kernel)) (fun cl C fp s H=>jN (i:=0) (show (["number"]:List Str).Nodup by decide+kernel) rfl yH) (fun cl C fp s H=>kX) (fun cl C fp s H=>(CW.je (hr.mono (by decide)) gl_b (j3 (jv 0 rfl jL) j6 j4) j4)) jAG) j6 jW) jW) jDH)))))) (jB (jX (je_bl))) yA) (j9 (yO bx rfl (kT (CM.je hr gD (j3 (jv 0 rfl vL) j6 j4) j4)) (jN (i:=2) nd rfl qA) (areL T CW CM hr).2 kI) (jB (jX (je_bl)))))⟩
theorem jT8 {fd:FuncData}(F:Fun K "are_wholes" "are_wholes" sAre f fd)(T:Txt mg)(CW:Can P w K mg base "is_whole" 1 fW fdW ["thing"] spWh)(CM:Can P w K mg base "musts_of" 1 fM fdM ["box"] jC9):FnOk P w K mg base CX0 2 f fd ["box","thing"] spWho:=by
 refine F.ok scAre (fun vs H Q E h=>?_) (fun cdv A outer s H vs Q E hr h=>?_)
 ·obtain⟨_,_,_,_,_,_,rfl,_⟩:=h
  rfl
 ·obtain⟨b,v,o,w,ms,lB,rfl,hB,g,hA,q⟩:=h
  obtain⟨qm,qp,ps,b1,b2,b3,b4⟩:=hB.ex
  have pl:=b4.len
  have gl:=g.pl
  have w0:=g.w0
  have w1:=g.w1
  obtain⟨t,ty,kt,_⟩:=hA.ty K
  refine⟨_,(areA T CW CM hr).2.h,?_⟩
  refine⟨_,rfl,_,_,_,_,rfl,ty,kt,_,rfl,?_⟩
  cases ht:isTup o with
  | false=>exact iteT (iteT (qb (q H (Ext.refl H)) (jRV ht)))
  | true=>
   refine iteF ?_
   obtain⟨os,a,vs,rfl,rfl,ha,h100,hx⟩:=hA.tupOf ht
   have hl:=hx.len
   have hn:vs.length<sizeLine:=by rw[aF]; lia
   have q:∀ H',Ext H H'->Q (.bl (decide (os.length=lB.length)&&(os.all isInt&&onesB w ms lB (os.map valO)))) H':=q
   refine⟨_,rfl,a,_,rfl, .inr (SqT.of ha),_,rfl,b,_,2,_,rfl,rfl,SqT.of b1,rfl,qp,_,rfl, .inr (SqT.of b3),rfl,_,rfl,?_⟩
   by_cases hle:vs.length=ps.length
   ·refine iteNS (by rw[hle]) ?_
    rw[aw (show os.length=lB.length by lia),fb] at q
    refine⟨_,rfl,a,rfl,⟨_,SqT.of ha⟩,jMP (F:=isInt) ha hx hn (fun σ'=>∃ v,σ'=[v]) ⟨_,rfl⟩ ?_ ?_⟩
    ·rintro σ' H' v o R S ⟨u,rfl⟩ e hA k
     dsimp only [kQ,yG]
     rw[ak rfl]
     exact⟨_,rfl,v,o,rfl,hA,k _ H' ⟨_,rfl⟩ (Ext.refl _)⟩
    ·intro D H1 e1 hD
     refine⟨D,_,rfl,SqL.of hD,_,rfl,?_⟩
     have eall:(os.map isInt).all id=os.all isInt:=by rw[List.all_map]; rfl
     rw[eall]
     cases hall:os.all isInt with
     | false=>
      rw[hall,ff] at q
      exact iteT (q H1 e1)
     | true=>
      rw[hall,fb] at q
      refine iteF ?_
      have evs:=hx.intsW hall
      generalize hns:os.map valO=ns at q evs
      subst evs
      rw[ab] at hle
      refine⟨_,rfl,b,qm,_,w,ms,rfl,e1 _ _ b1,e1 _ _ b2,w0,by lia,fun l hl2=>?_⟩
      have e2:=e1.new hl2 (.lst ((mus ms w.toNat).map V.int))
      have hl3:(upd H1 l (.lst ((mus ms w.toNat).map V.int))) l=some (.lst ((mus ms w.toNat).map V.int)):=j5
      generalize upd H1 l (.lst ((mus ms w.toNat).map V.int))=H2 at e2 hl3 ⊢
      refine⟨l,rfl,⟨_,SqL.of hl3⟩,jB6 (xs:=(mus ms w.toNat).map V.int) (fun i σ H'=>(∃ v2,σ=[some (.ref b),some (.ref a),v2])/\Ext H2 H'/\((mus ms w.toNat).take i).all (fun t=>decide ((wL ns lB t lB.length).sum=1))=true) ⟨⟨_,rfl⟩,Ext.refl _,rfl⟩ (fun i σ H' _ ⟨_,e,_⟩=>SqL.of (e _ _ hl3)) ?_ ?_⟩
      ·rintro i x σ H3 hx3 ⟨⟨v2,rfl⟩,e3,hall3⟩
       obtain⟨u,hu,rfl⟩:∃ z:Int,(mus ms w.toNat)[i]?=some z/\V.int z=x:=by
        rw[aY] at hx3
        cases hq:(mus ms w.toNat)[i]? with
        | none=>rw[hq] at hx3; cases hx3
        | some z=>rw[hq] at hx3; cases hx3; exact⟨z,rfl,rfl⟩
       have E3:=e2.trans e3
       have rest:∀ (D4:Addr) (H4:Hp),H4 D4=some (.lst ((wL ns lB u lB.length).map V.int))->Ext H3 H4->(if (!decide (V.int (wL ns lB u lB.length).sum=V.int 1))=true then Q (.bl false) H4 else (∃ v2,([some (.ref b),some (.ref a),some (.int u)]:St)=[some (.ref b),some (.ref a),v2])/\Ext H2 H4/\((mus ms w.toNat).take (i+1)).all (fun t=>decide ((wL ns lB t lB.length).sum=1))=true):=fun D4 H4 h4 e4=>by
        by_cases h1:(wL ns lB u lB.length).sum=1
        ·refine iteNS (by rw[h1]) ⟨⟨_,rfl⟩,e3.trans e4,?_⟩
         rw[be,hu,List.all_append,hall3]
         show (true&&([u]:List Int).all _)=true
         rw[iG,aw h1]
         rfl
        ·refine iteNT (fun z=>h1 (V.int.inj z)) (qb (q H4 (E3.trans e4)) ?_)
         unfold onesB
         rw[List.all_eq_false]
         exact⟨u,aC hu,by rw[aH h1]; exact ao⟩
       refine⟨_,rfl,_,rfl,b,_,2,_,rfl,rfl,SqT.of (E3 _ _ b1),rfl,true,true,a,qp,rfl,⟨_,SqT.of (E3 _ _ ha)⟩,⟨_,SqT.of (E3 _ _ b3)⟩,jFK (xs:=ns.map V.int) (ys:=ps) (by rw[ab,aF]; lia) (fun D j σ' H' zs=>(∃ v1 v2,σ'=[v1,v2,some (.int u)])/\zs=(wL ns lB u j).map V.int/\Ext H3 H'/\H' D=some (.lst zs)/\H3 D=none) ?_ ?_ ?_ ?_⟩
       ·intro D hD
        exact⟨⟨_,_,rfl⟩,rfl,(Ext.refl _).new hD _,j5,hD⟩
       ·rintro D j σ' H' zs hD ⟨_,rfl,e,h2,_⟩
        exact⟨SqT.of ((E3.trans e) _ _ ha),SqT.of ((E3.trans e) _ _ b3),h2,by rw[ab]; exact jRW _ _ _ _⟩
       ·rintro D j σ' H' zs x y tt hD hxx hyy htt ⟨⟨v1,v2,rfl⟩,rfl,e,h2,hn2⟩
        obtain⟨z,hz,rfl⟩:∃ z:Int,ns[j]?=some z/\V.int z=x:=by
         rw[aY] at hxx
         cases hq:ns[j]? with
         | none=>rw[hq] at hxx; cases hxx
         | some z=>rw[hq] at hxx; cases hxx; exact⟨z,rfl,rfl⟩
        obtain⟨pc,hpc,pa,pq,rfl,c1,c2⟩:=b4.at hyy
        have e':=e.new htt (.tup [.int z, .ref pa])
        have h2':(upd H' tt (.tup [.int z, .ref pa])) D=some (.lst ((wL ns lB u j).map V.int)):=by rw[j7 (jA h2 htt)]; exact h2
        refine⟨tt,_,rfl,SqT.of j5,rfl,_,_,rfl,_,_,rfl,rfl,?_⟩
        generalize upd H' tt (.tup [.int z, .ref pa])=H5 at e' h2' ⊢
        have E5:=E3.trans e'
        refine⟨_,rfl,_,rfl,pa,_,0,_,rfl,rfl,SqT.of (E5 _ _ c1),rfl,pq,_,rfl, .inr (SqT.of (E5 _ _ c2)),rfl,jAZ _,_,rfl,?_⟩
        show if inV (.int u) (pc.1.map V.int)=true then _ else _
        rw[jBY]
        refine ite2 (fun hy=>?_) (fun hy=>?_)
        ·refine⟨_,rfl,h2',⟨_,_,rfl⟩,?_,e'.updNew hn2 _,j5,hn2⟩
         rw[jHB hz hpc,ak hy,aQ]
         rfl
        ·refine⟨⟨_,_,rfl⟩,?_,e',h2',hn2⟩
         rw[jHB hz hpc,aj hy,bg]
       ·rintro D4 σ' H4 zs hD ⟨_,rfl,e4,h4,_⟩
        rw[ab,show min ns.length ps.length=lB.length by lia] at h4
        exact⟨D4,_,rfl,SqL.of h4,rfl,_,rfl,rest D4 H4 h4 e4⟩
      ·rintro σ H3 ⟨⟨v2,rfl⟩,e3,hall3⟩
       rw[ab,bP] at hall3
       refine qb (q H3 (e2.trans e3)) ?_
       unfold onesB
       exact hall3
   ·refine iteNT (fun z=>hle (by have:=V.int.inj z; lia)) (iteT (qb (q H (Ext.refl H)) ?_))
    rw[aH (show ¬ os.length=lB.length by lia),ff]
end Eo
namespace L2
open PySem
theorem jIY {P:Program}{w:World}{K:W.Frag}{mg:Str->Option Value}{base:Heap}{N:List Str}{qual:Str}{sc:Scope}{f:Addr}{cdv:Value}{A:Around}{outer:List Env}{s:Shared}{H:Hp}{E:XK}{x y:Str}{p1 p2 pos:Pos}{k i j:Nat}(hN:N.Nodup)(hi:N[i]?=some x)(hj:N[j]?=some y)
  (hx:Loc1 (cxOf CX0 P w K mg base N qual sc f cdv A outer s H E).nox x) (hy:Loc1 (cxOf CX0 P w K mg base N qual sc f cdv A outer s H E).nox y):
  JG (cxOf CX0 P w K mg base N qual sc f cdv A outer s H E).nox (.Tuple [.Name x p1, .Name y p2] k pos) (gTup K 2 (qH (kQ i) (qH (kQ j) gNil))):=
 jM3 (X:=(cxOf CX0 P w K mg base N qual sc f cdv A outer s H E).nox) rfl (jB5 (jN hN hi hx) (jB5 (jN hN hj hy) jHX jCN) jCN)
end L2
namespace Eo
open PySem L2
def hueO (m:Int):Ob->Bool
 | .int i=>decide (0<=i)&&decide (i<m)
 | _=>false
def mayH (ms:List Int)(ns:List Int):Bool:=ms.all fun t=>decide (hAt ns t=0)
def pcH (m:Int)(lB:List (List Int×Int))(ns:List Int):Bool:=lB.all fun pc=>decide ((pc.1.map (hAt ns)).sum % m=0)
def restH (m:Int)(ms:List Int)(lB:List (List Int×Int))(ns:List Int):Bool:=mayH ms ns&&(pcH m lB ns&&!decide (ns.sum % m=0))
def hueB (w:Int)(ms:List Int)(lB:List (List Int×Int)):Ob->Bool
 | .tup [.int m, .tup os]=>decide (2<=m)&&(decide ((os.length:Int)=w)&&(os.all (hueO m)&&restH m ms lB (os.map valO)))
 | _=>false
end Eo
namespace Eo
def sxS:Nat->(Nat->Int)->Int
 | 0,_=>0
 | n+1,f=>sxS n f+f n
theorem jS:∀ {n:Nat}{f g:Nat->Int},(∀ k,k<n->f k=g k)->sxS n f=sxS n g
 | 0,_,_,_=>rfl
 | n+1,f,g,h=>by
  show sxS n f+f n=sxS n g+g n
  rw[jS fun k hk=>h k (bJ hk),h n (dJ n)]
theorem jD4:∀ {n:Nat}{f:Nat->Int},(∀ k,k<n->f k=0)->sxS n f=0
 | 0,_,_=>rfl
 | n+1,f,h=>by
  show sxS n f+f n=0
  rw[jD4 fun k hk=>h k (bJ hk),h n (dJ n)]
  rfl
theorem jDI (f g:Nat->Int):∀ n,sxS n (fun k=>f k+g k)=sxS n f+sxS n g
 | 0=>rfl
 | n+1=>by
  show sxS n _+(f n+g n)=(sxS n f+f n)+(sxS n g+g n)
  rw[jDI f g n]; lia
theorem jAS (x:Int)(f:Nat->Int):∀ n,sxS n (fun k=>x*f k)=x*sxS n f
 | 0=>(Int.mul_zero x).symm
 | n+1=>by
  show sxS n _+x*f n=x*(sxS n f+f n)
  rw[jAS x f n,Int.mul_add]
theorem jEM {n i:Nat}{f:Nat->Int}(hi:i<n)(h:∀ k,k<n->k≠i->f k=0):sxS n f=f i:=by
 induction n with
 | zero=>exact absurd hi (fJ _)
 | succ n ih=>
  show sxS n f+f n=f i
  by_cases e:i=n
  ·subst e
   rw[jD4 fun k hk=>h k (bJ hk) (aV hk),i5]
  ·rw[ih (by lia) fun k hk=>h k (bJ hk),h n (dJ n) (fun z=>e z.symm),Int.add_zero]
end Eo
namespace Eo
def cA (c:List Int)(i:Nat):Int:=c.getD i 0
def tkf (t:Int)(c d:List Int):List Int:=zipWith (fun x y=>x - t*y) c d
theorem jHE {t:Int}{c d:List Int}{N:Nat}(hc:c.length=N)(hd:d.length=N):(tkf t c d).length=N:=by
 unfold tkf; rw[eG,hc,hd]; lia
theorem jBA {t:Int}{c d:List Int}(h:c.length=d.length)(i:Nat):cA (tkf t c d) i=cA c i - t*cA d i:=by
 unfold cA tkf
 rw[af,af,af,dS]
 by_cases hi:i<c.length
 ·rw[ag hi,ag (h ▸ hi)]
  rfl
 ·rw[cn (by lia),cn (by lia)]
  simp
def Lf (n:Nat)(y:Nat->Int)(c:List Int):Int:=sxS n fun j=>y j*cA c j
theorem jPM {n:Nat}{y:Nat->Int}{t:Int}{c d:List Int}(h:c.length=d.length):Lf n y (tkf t c d)=Lf n y c - t*Lf n y d:=by
 unfold Lf
 have e:(sxS n fun j=>y j*cA (tkf t c d) j)=sxS n fun j=>(y j*cA c j)+(-t)*(y j*cA d j):=jS fun j _=>by rw[jBA h]; grind
 rw[e,jDI,jAS]
 grind
def near (c d:Int):Int:=(2*c+d).fdiv (2*d)
theorem jHP (c d:Int)(h:d≠0):2*(c - near c d*d).natAbs<=d.natAbs/\2*((near c d).natAbs*d.natAbs)<=2*c.natAbs+d.natAbs:=by
 have key:2*(c - near c d*d).natAbs<=d.natAbs:=by
  unfold near
  rcases Int.lt_or_gt_of_ne h with hd | hd
  ·have e:=jh (-(2*c+d)) (-(2*d))
   rw[Int.neg_fdiv_neg] at e
   have b1:=i6 (-(2*c+d)) (b:= -(2*d)) (by lia)
   have b2:=kn (-(2*c+d)) (b:= -(2*d)) (by lia)
   generalize (2*c+d).fdiv (2*d)=q at e
   have: -(2*d)*q= -(2*(q*d)):=by grind
   lia
  ·have e:=jh (2*c+d) (2*d)
   have b1:=i6 (2*c+d) (b:=2*d) (by lia)
   have b2:=kn (2*c+d) (b:=2*d) (by lia)
   generalize (2*c+d).fdiv (2*d)=q at e
   have:2*d*q=2*(q*d):=by grind
   lia
 refine⟨key,?_⟩
 rw[<- di]
 lia
structure Led (N r:Nat)(cs F D:List (List Int)):Prop where
 lin:∀ P:List Int->Prop,(∀ t c d,c.length=N->d.length=N->P c->P d->P (tkf t c d))->(∀ c∈cs,P c)->∀ c∈F++D,P c
 len:∀ c∈F++D,c.length=N
 gen:∀ (n:Nat) (y:Nat->Int) (M:Int),(∀ c∈F++D,M∣Lf n y c)->∀ c∈cs,M∣Lf n y c
 fz:∀ c∈F,cA c r≠0
 dz:∀ c∈D,cA c r=0
 cnt:F.length+D.length=cs.length
def nzB (r:Nat)(c:List Int):Bool:=!decide (cA c r=0)
def zrB (r:Nat)(c:List Int):Bool:=decide (cA c r=0)
theorem mem_parts {r:Nat}{cs:List (List Int)}{c:List Int} :c∈cs.filter (nzB r)++cs.filter (zrB r)↔c∈cs:=by
 rw[ay,bf,bf]
 unfold nzB zrB
 by_cases h:cA c r=0 <;> simp [h]
theorem jGC (r:Nat)(cs:List (List Int)):(cs.filter (nzB r)).length+(cs.filter (zrB r)).length=cs.length:=by
 induction cs with
 | nil=>rfl
 | cons c cs ih=>
  rw[b8,b8,aW]
  unfold nzB zrB at*
  by_cases h:cA c r=0 <;> simp [h] <;> lia
theorem Led.first {N r:Nat}{cs:List (List Int)}(h:∀ c∈cs,c.length=N):Led N r cs (cs.filter (nzB r)) (cs.filter (zrB r)) where
 lin:=fun P _ hc c h'=>hc c (mem_parts.mp h')
 len:=fun c h'=>h c (mem_parts.mp h')
 gen:=fun n y M hh c hc=>hh c (mem_parts.mpr hc)
 fz:=fun c hc=>by have:=(bf.mp hc).2; unfold nzB at this; simpa using this
 dz:=fun c hc=>by have:=(bf.mp hc).2; unfold zrB at this; simpa using this
 cnt:=jGC r cs
def yQ (r:Nat)(lead:List Int)(rest:List (List Int)):List (List Int):=rest.map fun c=>tkf (near (cA c r) (cA lead r)) c lead
theorem Led.step {N r:Nat}{cs F D rest:List (List Int)}{lead:List Int}(h:Led N r cs F D)(hp:(lead::rest).Perm F):
  Led N r cs (lead::(yQ r lead rest).filter (nzB r)) (D++(yQ r lead rest).filter (zrB r)):=by
 have hm:∀ c,c∈lead::rest↔c∈F:=fun c=>hp.mem_iff
 have ll:lead.length=N:=h.len lead (ax _ ((hm lead).mp (ar ..)))
 have rl:∀ c∈rest,c.length=N:=fun c hc=>h.len c (ax _ ((hm c).mp (az _ hc)))
 have mem:∀ c,c∈(lead::(yQ r lead rest).filter (nzB r))++(D++(yQ r lead rest).filter (zrB r))↔c=lead\/c∈D\/c∈yQ r lead rest:=fun c=>by
  have:=mem_parts (r:=r) (cs:=yQ r lead rest) (c:=c)
  rw[ay] at this
  rw[ay,aM,ay]
  constructor
  ·rintro ((h | h) | h | h)
   ·exact .inl h
   ·exact .inr (.inr (this.mp (.inl h)))
   ·exact .inr (.inl h)
   ·exact .inr (.inr (this.mp (.inr h)))
  ·rintro (h | h | h)
   ·exact .inl (.inl h)
   ·exact .inr (.inl h)
   ·rcases this.mpr h with q | q
    ·exact .inl (.inr q)
    ·exact .inr (.inr q)
 have lm:∀ {c},c∈yQ r lead rest->∃ x∈rest,c=tkf (near (cA x r) (cA lead r)) x lead:=fun hc=>by
  obtain⟨x,hx,e⟩:=aZ.mp hc
  exact⟨x,hx,e.symm⟩
 refine⟨fun P hP hc c hc'=>?_,fun c hc'=>?_,fun n y M hh=>?_,fun c hc=>?_,fun c hc=>?_,?_⟩
 ·have old:=h.lin P hP hc
  rcases (mem c).mp hc' with rfl | q | q
  ·exact old _ (ax _ ((hm _).mp (ar ..)))
  ·exact old _ (aq _ q)
  ·obtain⟨x,hx,rfl⟩:=lm q
   exact hP _ _ _ (rl x hx) ll (old _ (ax _ ((hm _).mp (az _ hx)))) (old _ (ax _ ((hm _).mp (ar ..))))
 ·rcases (mem c).mp hc' with rfl | q | q
  ·exact ll
  ·exact h.len _ (aq _ q)
  ·obtain⟨x,hx,rfl⟩:=lm q
   exact jHE (rl x hx) ll
 ·refine h.gen n y M fun c hc=>?_
  have hl:M∣Lf n y lead:=hh lead ((mem lead).mpr (.inl rfl))
  rcases ay.mp hc with q | q
  ·rcases aM.mp ((hm c).mpr q) with rfl | q
   ·exact hl
   ·have:=hh _ ((mem _).mpr (.inr (.inr (cH (f:=fun c=>tkf (near (cA c r) (cA lead r)) c lead) q))))
    rw[jPM (by rw[rl c q,ll])] at this
    have:=lA this (iI (b:=near (cA c r) (cA lead r)) hl)
    rwa [ko] at this
  ·exact hh c ((mem c).mpr (.inr (.inl q)))
 ·rcases aM.mp hc with rfl | q
  ·exact h.fz _ ((hm _).mp (ar ..))
  ·have:=(bf.mp q).2; unfold nzB at this; simpa using this
 ·rcases ay.mp hc with q | q
  ·exact h.dz c q
  ·have:=(bf.mp q).2; unfold zrB at this; simpa using this
 ·have:=jGC r (yQ r lead rest)
  have e:(yQ r lead rest).length=rest.length:=ab _
  have:=h.cnt
  have hl:=hp.length_eq
  rw[aW] at hl
  rw[aW,aG]
  lia
def AllB (X:Nat)(cs:List (List Int)):Prop:=∀ c∈cs,∀ i,(cA c i).natAbs<=X
def LInv (r A:Nat)(F D:List (List Int))(m:Nat):Prop:=
 (m=A+1/\AllB A (F++D))\/∃ lead rest X,F=lead::rest/\m=(cA lead r).natAbs/\(∀ c∈rest,2*(cA c r).natAbs<=m)/\AllB X (F++D)/\2*(X*(m*m))<=5*(A*(A*A))
theorem LInv.big {N r A m:Nat}{cs F D:List (List Int)}(h:LInv r A F D m)(l:Led N r cs F D)(hA:1<=A):AllB (3*(A*(A*A))) (F++D):=by
 rcases h with ⟨_,h⟩ | ⟨lead,rest,X,rfl,rfl,_,hX,hb⟩
 ·intro c hc i
  have:=h c hc i
  have:A*1<=A*(A*A):=bG _ (cg hA hA)
  lia
 ·intro c hc i
  have h1:=hX c hc i
  have h2:1<=(cA lead r).natAbs:=by
   have:=l.fz lead (ar ..)
   lia
  have:X*1<=X*((cA lead r).natAbs*(cA lead r).natAbs):=bG _ (cg h2 h2)
  lia
theorem grow {X T d e:Nat}(ht:2*(T*d)<=2*e+d)(hd:2*d<=e):(X+T*X)*(d*d)<=X*(e*e):=by
 have h1:2*(d*d+T*d*d)<=2*(e*e):=by
  have a1:2*(T*d)*d<=(2*e+d)*d:=jx _ ht
  have a2:(2*d)*(2*d)<=e*e:=cg hd hd
  have a3:e*(2*d)<=e*e:=bG _ hd
  have:2*(T*d)*d=2*(T*d*d):=by rw[iJ]
  have:(2*e+d)*d=2*(e*d)+d*d:=by rw[Nat.add_mul,iJ]
  have:e*(2*d)=2*(e*d):=by rw[iE]
  have:2*d*(2*d)=4*(d*d):=by rw[Nat.mul_mul_mul_comm]
  lia
 have e1:(X+T*X)*(d*d)=X*(d*d+T*d*d):=by grind
 rw[e1]
 exact bG _ (by lia)
theorem grow1 {A T d:Nat}(ht:2*(T*d)<=2*A+d)(hd:d<=A):2*((A+T*A)*(d*d))<=5*(A*(A*A)):=by
 have h1:2*(d*d+T*d*d)<=5*(A*A):=by
  have a1:2*(T*d)*d<=(2*A+d)*d:=jx _ ht
  have a2:d*d<=A*A:=cg hd hd
  have a3:A*d<=A*A:=bG _ hd
  have:2*(T*d)*d=2*(T*d*d):=by rw[iJ]
  have:(2*A+d)*d=2*(A*d)+d*d:=by rw[Nat.add_mul,iJ]
  lia
 have e1:2*((A+T*A)*(d*d))=A*(2*(d*d+T*d*d)):=by grind
 rw[e1,show 5*(A*(A*A))=A*(5*(A*A)) by grind]
 exact bG _ h1
theorem jJX {X e r:Nat}{lead c:List Int}(hl:c.length=lead.length)(h0:cA lead r≠0)(hX:∀ i,(cA c i).natAbs<=X)(hL:∀ i,(cA lead i).natAbs<=X)(he:(cA c r).natAbs<=e)(i:Nat):
  (cA (tkf (near (cA c r) (cA lead r)) c lead) i).natAbs<=X+(2*e+(cA lead r).natAbs) / (2*(cA lead r).natAbs)*X:=by
 have hn:=(jHP (cA c r) (cA lead r) h0).2
 have hd:0<2*(cA lead r).natAbs:=by lia
 have ht:(near (cA c r) (cA lead r)).natAbs<=(2*e+(cA lead r).natAbs) / (2*(cA lead r).natAbs):=by
  rw[Nat.le_div_iff_mul_le hd]
  have:(near (cA c r) (cA lead r)).natAbs*(2*(cA lead r).natAbs)=2*((near (cA c r) (cA lead r)).natAbs*(cA lead r).natAbs):=by rw[iE]
  lia
 rw[jBA hl]
 have h1:=hX i
 have h2:(near (cA c r) (cA lead r)*cA lead i).natAbs<=(2*e+(cA lead r).natAbs) / (2*(cA lead r).natAbs)*X:=by
  rw[di]
  exact cg ht (hL i)
 generalize (2*e+(cA lead r).natAbs) / (2*(cA lead r).natAbs)*X=Z at h2
 lia
theorem LInv.step {N r A m:Nat}{cs F D rest:List (List Int)}{lead:List Int}(h:LInv r A F D m)(l:Led N r cs F D)(hp:(lead::rest).Perm F)(hmin:∀ c∈rest,(cA lead r).natAbs<=(cA c r).natAbs)(hne:rest≠ []):
  LInv r A (lead::(yQ r lead rest).filter (nzB r)) (D++(yQ r lead rest).filter (zrB r)) (cA lead r).natAbs/\(cA lead r).natAbs<m:=by
 have hm:∀ c,c∈lead::rest↔c∈F:=fun c=>hp.mem_iff
 have lF:lead∈F:=(hm lead).mp (ar ..)
 have h0:cA lead r≠0:=l.fz lead lF
 have d1:1<=(cA lead r).natAbs:=by lia
 have ll:lead.length=N:=l.len lead (ax _ lF)
 have rl:∀ c∈rest,c.length=N:=fun c hc=>l.len c (ax _ ((hm c).mp (az _ hc)))
 have half:∀ c∈(yQ r lead rest).filter (nzB r),2*(cA c r).natAbs<=(cA lead r).natAbs:=fun c hc=>by
  obtain⟨x,hx,rfl⟩:=aZ.mp (bf.mp hc).1
  rw[jBA (by rw[rl x hx,ll])]
  exact(jHP (cA x r) (cA lead r) h0).1
 have bound:∀ {X e:Nat},AllB X (F++D)->(∀ c∈F,(cA c r).natAbs<=e)->AllB (X+(2*e+(cA lead r).natAbs) / (2*(cA lead r).natAbs)*X) ((lead::(yQ r lead rest).filter (nzB r))++(D++(yQ r lead rest).filter (zrB r))):=fun {X e} hX he c hc i=>by
  have hL:∀ i,(cA lead i).natAbs<=X:=hX lead (ax _ lF)
  have less:∀ c∈yQ r lead rest,(cA c i).natAbs<=X+(2*e+(cA lead r).natAbs) / (2*(cA lead r).natAbs)*X:=fun c hc=>by
   obtain⟨x,hx,rfl⟩:=aZ.mp hc
   have xF:=(hm x).mp (az _ hx)
   exact jJX (by rw[rl x hx,ll]) h0 (hX x (ax _ xF)) hL (he x xF) i
  rcases ay.mp hc with q | q
  ·rcases aM.mp q with rfl | q
   ·have:=hL i; lia
   ·exact less c (bf.mp q).1
  ·rcases ay.mp q with q | q
   ·have:=hX c (aq _ q) i; lia
   ·exact less c (bf.mp q).1
 have hdiv:∀ e,2*((2*e+(cA lead r).natAbs) / (2*(cA lead r).natAbs)*(cA lead r).natAbs)<=2*e+(cA lead r).natAbs:=fun e=>by
  have:=Nat.div_mul_le_self (2*e+(cA lead r).natAbs) (2*(cA lead r).natAbs)
  rw[iE]
  exact this
 rcases h with ⟨rfl,hX⟩ | ⟨lead0,rest0,X,rfl,rfl,hr,hX,hb⟩
 ·have dA:(cA lead r).natAbs<=A:=hX lead (ax _ lF) r
  exact⟨.inr ⟨lead,_,_,rfl,rfl,half,bound hX (fun c hc=>hX c (ax _ hc) r),grow1 (hdiv A) dA⟩,by lia⟩
 ·-- a later turn
  have two:2*(cA lead r).natAbs<=(cA lead0 r).natAbs:=by
   have hlen:=hp.length_eq
   have:rest0≠ []:=fun z=>by
    rw[z] at hlen
    cases rest with
    | nil=>exact hne rfl
    | cons a b=>simp at hlen
   obtain⟨c,hc⟩:=List.exists_mem_of_ne_nil _ this
   have h1:=hr c hc
   have cF:c∈lead::rest:=(hm c).mpr (az _ hc)
   rcases aM.mp cF with q | q
   ·rw[q] at h1; exact h1
   ·have:=hmin c q; lia
  have he:∀ c∈lead0::rest0,(cA c r).natAbs<=(cA lead0 r).natAbs:=fun c hc=>by
   rcases aM.mp hc with rfl | q
   ·exact ai _
   ·have:=hr c q; lia
  refine⟨.inr ⟨lead,_,_,rfl,rfl,half,bound hX he,?_⟩,by lia⟩
  have:=grow (X:=X) (hdiv (cA lead0 r).natAbs) two
  lia
end Eo
namespace Eo
def RelC (n m:Nat)(a:Nat->Nat->Int)(c:List Int):Prop:=∀ j,j<n->cA c j=sxS m fun k=>a j k*cA c (n+k)
def RelT (n m:Nat)(a:Nat->Nat->Int)(t:List Int):Prop:=∀ j,j<n->cA t j=1+sxS m fun k=>a j k*cA t (n+k)
theorem jEN (m:Nat)(f g:Nat->Int)(x:Int):sxS m (fun k=>f k - x*g k)=sxS m f - x*sxS m g:=by
 have e:(sxS m fun k=>f k - x*g k)=sxS m fun k=>f k+(-x)*g k:=jS fun k _=>by grind
 rw[e,jDI,jAS]
 grind
theorem RelC.tk {n m:Nat}{a:Nat->Nat->Int}{x:Int}{c d:List Int}(hl:c.length=d.length)(hc:RelC n m a c)(hd:RelC n m a d):RelC n m a (tkf x c d):=fun j hj=>by
 rw[jBA hl,hc j hj,hd j hj,<- jEN]
 exact jS fun k _=>by rw[jBA hl]; grind
theorem RelT.tk {n m:Nat}{a:Nat->Nat->Int}{x:Int}{c d:List Int}(hl:c.length=d.length)(hc:RelT n m a c)(hd:RelC n m a d):RelT n m a (tkf x c d):=fun j hj=>by
 have e:(sxS m fun k=>a j k*cA (tkf x c d) (n+k))=(sxS m fun k=>a j k*cA c (n+k)) - x*sxS m fun k=>a j k*cA d (n+k):=by
  rw[<- jEN]
  exact jS fun k _=>by rw[jBA hl]; grind
 rw[jBA hl,hc j hj,hd j hj,e]
 lia
def bR:Nat->Nat
 | 0=>0
 | r+1=>3*bR r+2
def uR:Nat->Nat
 | 0=>0
 | r+1=>uR r+bR (r+1)+1
def vR:Nat->Nat
 | 0=>0
 | r+1=>vR r+(bR (r+1)+4)
theorem jIM (b:Nat):3*(2 ^ b*(2 ^ b*2 ^ b))<=2 ^ (3*b+2):=by
 have:2 ^ (3*b+2)=4*(2 ^ b*(2 ^ b*2 ^ b)):=by
  rw[fi,show 3*b=b+(b+b) by lia,fi,fi]
  lia
 lia
theorem jD6 (b:Nat):1<=2 ^ b:=km
def zsL (L:List (Nat×List Int)):Nat:=(L.map fun pc=>bR (pc.1+1)+4).sum
structure WI (n m:Nat)(a:Nat->Nat->Int)(r:Nat)(cs:List (List Int))(L:List (Nat×List Int))(t:List Int):Prop where
 lc:∀ c∈cs,c.length=n+m
 ll:∀ pc∈L,pc.2.length=n+m
 lt:t.length=n+m
 zc:∀ c∈cs,∀ j,j<r->cA c j=0
 zl:∀ pc∈L,pc.1<r/\cA pc.2 pc.1≠0/\∀ j,j<pc.1->cA pc.2 j=0
 zt:∀ j,j<r->cA t j=0
 rc:∀ c∈cs,RelC n m a c
 rt:RelT n m a t
 gen:∀ (y:Nat->Int) (M:Int),(∀ c∈cs,M∣Lf n y c)->(∀ pc∈L,M∣Lf n y pc.2)->∀ k,k<m->M∣sxS n fun j=>y j*a j k
 tg:∀ y:Nat->Int,(∀ pc∈L,Lf n y pc.2=0)->Lf n y t=sxS n y
 srt:(L.map Prod.fst).Pairwise (· < ·)
 bc:AllB (2 ^ bR r) cs
 bl:∀ pc∈L,∀ i,(cA pc.2 i).natAbs<=2 ^ bR (pc.1+1)
 bt:∀ i,(cA t i).natAbs<=2 ^ uR r
 bz:zsL L<=vR r
 few:cs.length<=m
section
variable {n r:Nat}{a:Nat->Nat->Int}{F D:List (List Int)}{L:List (Nat×List Int)}{t lead:List Int}
theorem WI.zF (w:WI n m a r cs L t)(l:Led (n+m) r cs F D):∀ c∈F++D,∀ j,j<r->cA c j=0:=
 l.lin (fun c=>∀ j,j<r->cA c j=0) (fun x c d hc hd pc pd j hj=>by rw[jBA (by rw[hc,hd]),pc j hj,pd j hj]; simp) w.zc
theorem WI.rF (w:WI n m a r cs L t)(l:Led (n+m) r cs F D):∀ c∈F++D,RelC n m a c:=
 l.lin (RelC n m a) (fun x c d hc hd pc pd=>pc.tk (by rw[hc,hd]) pd) w.rc
theorem AllB.up {b:Nat}(h:AllB (3*(2 ^ b*(2 ^ b*2 ^ b))) (F++D)):AllB (2 ^ (3*b+2)) (F++D):=fun c hc i=>aX (h c hc i) (jIM b)
theorem zD (w:WI n m a r cs L t)(l:Led (n+m) r cs F D):∀ c∈D,∀ j,j<r+1->cA c j=0:=fun c hc j hj=>by
 by_cases h:j=r
 ·rw[h]; exact l.dz c hc
 ·exact w.zF l c (aq _ hc) j (by lia)
theorem WI.next0 (w:WI n m a r cs L t)(l:Led (n+m) r cs [] D)(hb:AllB (2 ^ bR (r+1)) ([]++D))(h0:cA t r=0):WI n m a (r+1) D L t where
 lc:=fun c hc=>l.len c hc
 ll:=w.ll
 lt:=w.lt
 zc:=zD w l
 zl:=fun pc h=>⟨bJ (w.zl pc h).1,(w.zl pc h).2⟩
 zt:=fun j hj=>by
  by_cases h:j=r
  ·rw[h]; exact h0
  ·exact w.zt j (by lia)
 rc:=fun c hc=>w.rF l c hc
 rt:=w.rt
 gen:=fun y M h1 h2=>w.gen y M (l.gen n y M h1) h2
 tg:=w.tg
 srt:=w.srt
 bc:=hb
 bl:=w.bl
 bt:=fun i=>aX (w.bt i) (bV (by decide) (by show uR r<=uR r+bR (r+1)+1; lia))
 bz:=by have:=w.bz; show _<=vR r+_; lia
 few:=by have:=l.cnt; have:=w.few; simp at this ⊢; have:=l.cnt; simp at this; lia
theorem WI.next1 (w:WI n m a r cs L t)(l:Led (n+m) r cs [lead] D)(hb:AllB (2 ^ bR (r+1)) ([lead]++D))(hr:r<n){q:Int}(hq:cA t r=q*cA lead r)(hqb:q.natAbs<=2 ^ uR r):WI n m a (r+1) D (L++[(r,lead)]) (tkf q t lead):=by
 have ll:lead.length=n+m:=l.len lead (by simp)
 have el:t.length=lead.length:=by rw[w.lt,ll]
 have lz:∀ j,j<r->cA lead j=0:=w.zF l lead (by simp)
 have mem:∀ {pc},pc∈L++[(r,lead)]->pc∈L\/pc=(r,lead):=fun h=>by simpa using h
 refine⟨fun c hc=>l.len c (by simp [hc]),fun pc h=>?_,jHE w.lt ll,zD w l,fun pc h=>?_,fun j hj=>?_,fun c hc=>w.rF l c (by simp [hc]),w.rt.tk el (w.rF l lead (by simp)),fun y M h1 h2=>?_,fun y hy=>?_,?_,fun c hc=>hb c (by simp [hc]),fun pc h=>?_,fun i=>?_,?_,?_⟩
 ·rcases mem h with h | rfl
  ·exact w.ll pc h
  ·exact ll
 ·rcases mem h with h | rfl
  ·exact⟨bJ (w.zl pc h).1,(w.zl pc h).2⟩
  ·exact⟨dJ _,l.fz lead (by simp),lz⟩
 ·rw[jBA el]
  by_cases h:j=r
  ·rw[h,hq]; lia
  ·rw[w.zt j (by lia),lz j (by lia)]; simp
 ·have hl:M∣Lf n y lead:=h2 (r,lead) (by simp)
  refine w.gen y M (l.gen n y M fun c hc=>?_) fun pc hp=>h2 pc (by simp [hp])
  rcases ay.mp hc with h | h
  ·rw[aO.mp h]; exact hl
  ·exact h1 c h
 ·have hl:Lf n y lead=0:=hy (r,lead) (by simp)
  rw[jPM el,hl,w.tg y fun pc hp=>hy pc (by simp [hp])]
  simp
 ·rw[aQ,bO]
  refine⟨w.srt,by simp,fun x hx z hz=>?_⟩
  obtain⟨pc,hp,rfl⟩:=aZ.mp hx
  have hz:z=r:=by simpa using hz
  rw[hz]
  exact(w.zl pc hp).1
 ·rcases mem h with h | rfl
  ·exact w.bl pc h
  ·exact fun i=>hb lead (by simp) i
 ·rw[jBA el]
  have h1:=w.bt i
  have h2:(q*cA lead i).natAbs<=2 ^ uR r*2 ^ bR (r+1):=by
   rw[di]
   exact cg hqb (hb lead (by simp) i)
  have h3:2 ^ uR (r+1)=2*(2 ^ uR r*2 ^ bR (r+1)):=by
   show 2 ^ (uR r+bR (r+1)+1)=_
   rw[iY,fi]; lia
  have h4:2 ^ uR r*1<=2 ^ uR r*2 ^ bR (r+1):=bG _ (jD6 _)
  rw[h3]
  generalize 2 ^ uR r*2 ^ bR (r+1)=Z at h2 h4
  lia
 ·have:=w.bz
  show ((L++[(r,lead)]).map _).sum<=vR r+_
  rw[aQ,eV]
  show zsL L+(bR (r+1)+4+0)<=_
  lia
 ·have:=l.cnt
  have:=w.few
  simp at*
  lia
theorem WI.fin (w:WI n m a n cs L t):∀ j,j<n->(sxS m fun k=>a j k*(- cA t (n+k)))=1:=fun j hj=>by
 have h:=w.rt j hj
 rw[w.zt j hj] at h
 have e:(sxS m fun k=>a j k*(- cA t (n+k)))= - sxS m fun k=>a j k*cA t (n+k):=by
  have:=jAS (-1) (fun k=>a j k*cA t (n+k)) m
  rw[show (- sxS m fun k=>a j k*cA t (n+k))=(-1)*sxS m fun k=>a j k*cA t (n+k) by lia,<- this]
  exact jS fun k _=>by grind
 lia
structure NI (n row:Nat)(S:List (Nat×List Int))(R:List (Nat×List Int))(ys:List Int):Prop where
 len:ys.length=n
 far:∀ j,row<j->cA ys j=0
 at_:cA ys row≠0
 nul:∀ pc∈S,Lf n (cA ys) pc.2=0
 free:∀ pc∈R,cA ys pc.1=0
 bnd:∀ i,(cA ys i).natAbs<=2 ^ zsL S
theorem jS7 {ys:List Int}{p:Nat}{v:Int}(hp:p<ys.length)(i:Nat):cA (ys.set p v) i=if i=p then v else cA ys i:=by
 unfold cA
 rw[af,gm]
 by_cases h:p=i
 ·subst h; simp [hp]
 ·rw[aj h,aj (fun z=>h z.symm),af]
theorem jP6 {ys:List Int}{f:Int->Int}(h0:f 0=0)(i:Nat):cA (ys.map f) i=f (cA ys i):=by
 unfold cA
 rw[af,aY,af]
 cases ys[i]? with
 | none=>simp [h0]
 | some x=>rfl
theorem NI.step {n row p:Nat}{S R:List (Nat×List Int)}{ys c:List Int}(h:NI n row S (R++[(p,c)]) ys)(hrow:row<n)(hn:n<=16)(hp:p<row)(hc:cA c p≠0)(srt:((R++[(p,c)]++S).map Prod.fst).Pairwise (· < ·))(hz:∀ pc∈S,∀ j,j<pc.1->cA pc.2 j=0)
  (hb:∀ i,(cA c i).natAbs<=2 ^ bR (p+1)) {g:Int}(hg:0<g) (g1:g∣Lf n (cA ys) c) (g2:g∣cA c p):
  (Lf n (cA ys) c).natAbs<=2 ^ (zsL S+bR (p+1)+4)/\NI n row ((p,c)::S) R ((ys.map fun x=>x*(cA c p).fdiv g).set p ((-Lf n (cA ys) c).fdiv g)):=by
 have pn:p<(ys.map fun x=>x*(cA c p).fdiv g).length:=by rw[ab,h.len]; lia
 have p0:cA ys p=0:=h.free (p,c) (by simp)
 have e:∀ i,cA ((ys.map fun x=>x*(cA c p).fdiv g).set p ((-Lf n (cA ys) c).fdiv g)) i=if i=p then (-Lf n (cA ys) c).fdiv g else cA ys i*(cA c p).fdiv g:=fun i=>by
  rw[jS7 pn,jP6 (by simp)]
 have x1:(cA c p).fdiv g*g=cA c p:=fu g2
 have x2:(-Lf n (cA ys) c).fdiv g*g= -Lf n (cA ys) c:=fu ((Int.dvd_neg).mpr g1)
 have q0:(cA c p).fdiv g≠0:=fun z=>by rw[z] at x1; simp at x1; exact hc x1.symm
 have small:∀ {x q:Int},q*g=x->q.natAbs<=x.natAbs:=fun {x q} hx=>by
  rw[<- hx,di]
  have:1<=g.natAbs:=by lia
  calc q.natAbs=q.natAbs*1:=by lia
   _<=_:=bG _ this
 have sumb:∀ (k:Nat) (f:Nat->Int) (Z:Nat),(∀ i,(f i).natAbs<=Z)->(sxS k f).natAbs<=k*Z:=by
  intro k f Z hf
  induction k with
  | zero=>simp [sxS]
  | succ k ih=>
   have:=hf k
   show (sxS k f+f k).natAbs<=_
   rw[ku]
   lia
 have restB:(Lf n (cA ys) c).natAbs<=2 ^ (zsL S+bR (p+1)+4):=by
  have:=sumb n (fun j=>cA ys j*cA c j) (2 ^ zsL S*2 ^ bR (p+1)) fun i=>by rw[di]; exact cg (h.bnd i) (hb i)
  refine aX this ?_
  rw[fi,fi,gf n]
  exact bG _ hn
 have lin:∀ d:List Int,Lf n (cA ((ys.map fun x=>x*(cA c p).fdiv g).set p ((-Lf n (cA ys) c).fdiv g))) d=(cA c p).fdiv g*Lf n (cA ys) d+(-Lf n (cA ys) c).fdiv g*cA d p:=fun d=>by
  unfold Lf
  have e1:(sxS n fun j=>cA ((ys.map fun x=>x*(cA c p).fdiv g).set p ((-Lf n (cA ys) c).fdiv g)) j*cA d j)=sxS n fun j=>(cA c p).fdiv g*(cA ys j*cA d j)+(if j=p then (-Lf n (cA ys) c).fdiv g*cA d p else 0):=jS fun j _=>by
   rw[e]
   by_cases hj:j=p
   ·subst hj
    rw[ak rfl,ak rfl,p0]; simp
   ·rw[aj hj,aj hj]; grind
  rw[show (sxS n fun j=>cA ys j*cA c j)=Lf n (cA ys) c from rfl,e1,jDI,jAS]
  congr 1
  rw[jEM (i:=p) (by lia) fun k _ hk=>aj hk,ak rfl]
 rw[aQ,aQ,bO] at srt
 obtain⟨s1,_,s3⟩:=srt
 rw[bO] at s1
 refine⟨restB,by rw[gJ,ab,h.len],fun j hj=>?_,?_,fun pc hpc=>?_,fun pc hpc=>?_,fun i=>?_⟩
 ·rw[e,aj (by lia),h.far j hj]; simp
 ·rw[e,aj (by lia)]
  exact Int.mul_ne_zero h.at_ q0
 ·rw[lin]
  rcases aM.mp hpc with rfl | hpc
  ·show (cA c p).fdiv g*Lf n (cA ys) c+(-Lf n (cA ys) c).fdiv g*cA c p=0
   have:((-Lf n (cA ys) c).fdiv g*cA c p)*g= -((cA c p).fdiv g*Lf n (cA ys) c)*g:=by
    calc ((-Lf n (cA ys) c).fdiv g*cA c p)*g=((-Lf n (cA ys) c).fdiv g*g)*cA c p:=by grind
     _= -Lf n (cA ys) c*((cA c p).fdiv g*g):=by rw[x2,x1]
     _=_:=by grind
   have:=Int.eq_of_mul_eq_mul_right (by lia) this
   lia
  ·have lt:p<pc.1:=s3 p (by simp) pc.1 (cH hpc)
   rw[h.nul pc hpc,hz pc hpc p lt]
   simp
 ·have lt:pc.1<p:=s1.2.2 pc.1 (cH hpc) p (by simp)
  rw[e,aj (by lia),h.free pc (by simp [hpc])]
  simp
 ·have z1:zsL ((p,c)::S)=zsL S+bR (p+1)+4:=by
   show bR (p+1)+4+zsL S=_
   lia
  rw[z1,e]
  split
  ·refine aX (small x2) ?_
   rw[Int.natAbs_neg]
   exact restB
  ·rw[di]
   have:((cA c p).fdiv g).natAbs<=2 ^ bR (p+1):=aX (small x1) (hb p)
   refine aX (cg (h.bnd i) this) ?_
   rw[<- fi]
   exact bV (by decide) (by lia)
theorem WI.hue {ys:List Int}(w:WI n m a r cs L t)(l:Led (n+m) r cs F D)(hr:r<n)(hy:NI n r L [] ys){M:Int}(hF:∀ c∈F,M∣cA ys r*cA c r):
  (∀ k,k<m->M∣sxS n fun j=>cA ys j*a j k)/\sxS n (cA ys)=cA ys r*cA t r:=by
 have only:∀ c:List Int,(∀ j,j<r->cA c j=0)->Lf n (cA ys) c=cA ys r*cA c r:=fun c hc=>by
  unfold Lf
  refine jEM hr fun k _ hk=>?_
  by_cases h:k<r
  ·rw[hc k h]; simp
  ·rw[hy.far k (by lia)]; simp
 refine⟨w.gen _ M (l.gen n _ M fun c hc=>?_) fun pc hp=>?_,?_⟩
 ·rw[only c (w.zF l c hc)]
  rcases ay.mp hc with q | q
  ·exact hF c q
  ·rw[l.dz c q]; simp
 ·rw[hy.nul pc hp]; exact i7 M
 ·rw[<- w.tg _ hy.nul]
  exact only t w.zt
end
end Eo
namespace Eo
open PySem L2
def aI (mu:List Int)(lB:List (List Int×Int))(j k:Nat):Int:=if mu.getD j 0∈(lB.getD k ([],0)).1 then 1 else 0
def fcol (mu:List Int)(lB:List (List Int×Int))(k:Nat):List Int:=(mu.map fun t=>if t∈(lB.getD k ([],0)).1 then (1:Int) else 0)++(List.range lB.length).map fun o=>if o=k then (1:Int) else 0
def tgt0 (n m:Nat):List Int:=replicate n 1++replicate m 0
theorem jN0 (l1 l2:List Int)(i:Nat):cA (l1++l2) i=if i<l1.length then cA l1 i else cA l2 (i - l1.length):=by
 unfold cA
 rw[af,List.getElem?_append]
 split <;> rw[af]
theorem jJC {α:Type}(l:List α)(f:α->Int)(d:α){i:Nat}(h:i<l.length):cA (l.map f) i=f (l.getD i d):=by
 unfold cA
 rw[af,aY,ag h,af,ag h]
 rfl
theorem jPL {l:List Int}{i:Nat}(h:l.length<=i):cA l i=0:=by
 unfold cA
 rw[af,cn h]
 rfl
theorem jPK (n:Nat)(x:Int)(i:Nat):cA (replicate n x) i=if i<n then x else 0:=by
 unfold cA
 rw[af,eJ]
 split <;> rfl
theorem jJ7 (mu:List Int)(lB:List (List Int×Int))(k:Nat):(fcol mu lB k).length=mu.length+lB.length:=by
 unfold fcol; simp
theorem jFG {mu:List Int}{lB:List (List Int×Int)}{k j:Nat}(hj:j<mu.length):cA (fcol mu lB k) j=aI mu lB j k:=by
 unfold fcol aI
 rw[jN0,ak (by simpa using hj),jJC _ _ 0 hj]
theorem jFH {mu:List Int}{lB:List (List Int×Int)}{k o:Nat}(ho:o<lB.length):cA (fcol mu lB k) (mu.length+o)=if o=k then 1 else 0:=by
 unfold fcol
 rw[jN0,aj (by simp),ab,b0,jJC _ _ 0 (by simpa using ho),af,cV ho]
 rfl
theorem jK5 (mu:List Int)(lB:List (List Int×Int))(k i:Nat):(cA (fcol mu lB k) i).natAbs<=1:=by
 by_cases h:i<mu.length
 ·rw[jFG h]; unfold aI; split <;> decide
 ·by_cases h2:i - mu.length<lB.length
  ·have:=jFH (mu:=mu) (k:=k) h2
   rw[show mu.length+(i - mu.length)=i by lia] at this
   rw[this]; split <;> decide
  ·rw[jPL (by rw[jJ7]; lia)]; decide
theorem jIB (n m i:Nat):cA (tgt0 n m) i=if i<n then 1 else 0:=by
 unfold tgt0
 rw[jN0,cX]
 by_cases h:i<n
 ·rw[ak h,ak h,jPK,ak h]
 ·rw[aj h,aj h,jPK]; split <;> rfl
theorem WI.first (mu:List Int)(lB:List (List Int×Int)):WI mu.length lB.length (aI mu lB) 0 ((List.range lB.length).map (fcol mu lB)) [] (tgt0 mu.length lB.length):=by
 have mem:∀ {c},c∈(List.range lB.length).map (fcol mu lB)->∃ k,k<lB.length/\fcol mu lB k=c:=fun h=>by
  obtain⟨k,hk,e⟩:=aZ.mp h
  exact⟨k,bM.mp hk,e⟩
 refine⟨fun c hc=>?_,fun _ h=>by simp at h,by unfold tgt0; simp,fun _ _ j hj=>absurd hj (by lia),fun _ h=>by simp at h,fun j hj=>absurd hj (by lia),fun c hc j hj=>?_,fun j hj=>?_,fun y M h _ k hk=>?_,fun y _=>?_,by simp,fun c hc i=>?_,fun _ h=>by simp at h,fun i=>?_,by show 0<=0; decide,by simp⟩
 ·obtain⟨k,hk,rfl⟩:=mem hc
  exact jJ7 mu lB k
 ·obtain⟨k,hk,rfl⟩:=mem hc
  rw[jFG hj,jEM (i:=k) hk fun o ho ne=>by rw[jFH ho,aj ne]; simp,jFH hk,ak rfl,jl]
 ·rw[jIB,ak hj,jD4 fun k hk=>by rw[jIB,aj (by lia)]; simp]
  rfl
 ·have:=h (fcol mu lB k) (aZ.mpr ⟨k,bM.mpr hk,rfl⟩)
  unfold Lf at this
  rwa [jS fun j hj=>by rw[jFG hj]] at this
 ·unfold Lf
  exact jS fun j hj=>by rw[jIB,ak hj,jl]
 ·obtain⟨k,hk,rfl⟩:=mem hc
  exact jK5 mu lB k i
 ·rw[jIB]; split <;> decide
theorem wsum {xs:List Int}{lB:List (List Int×Int)}(t:Int)(hl:xs.length=lB.length):∀ q,q<=lB.length->(wL xs lB t q).sum=sxS q fun k=>(if t∈(lB.getD k ([],0)).1 then (1:Int) else 0)*cA xs k
 | 0,_=>by unfold wL; simp [sxS]
 | q+1,hq=>by
  have h1:xs[q]?=some (cA xs q):=by unfold cA; rw[af,ag (by lia)]; rfl
  have h2:lB[q]?=some (lB.getD q ([],0)):=by rw[af,ag (by lia)]; rfl
  rw[jHB h1 h2,eV,wsum t hl q (by lia)]
  show _=sxS q _+(if t∈(lB.getD q ([],0)).1 then (1:Int) else 0)*cA xs q
  congr 1
  by_cases h:t∈(lB.getD q ([],0)).1
  ·rw[ak (aw h),ak h]; simp
  ·rw[aj (by simpa using h),aj h]; simp
theorem jD8 {w:Int}{ms:List Int}{lB:List (List Int×Int)}{xs:List Int}(hl:xs.length=lB.length):onesB w ms lB xs=true↔∀ j,j<(mus ms w.toNat).length->(sxS lB.length fun k=>aI (mus ms w.toNat) lB j k*cA xs k)=1:=by
 unfold onesB
 rw[bY]
 constructor
 ·intro h j hj
  have hm:(mus ms w.toNat).getD j 0∈mus ms w.toNat:=by
   rw[af,ag hj]
   exact bS hj
  have:=aP (h _ hm)
  rw[wsum _ hl _ (ai _)] at this
  exact this
 ·intro h t ht
  obtain⟨j,hj,rfl⟩:=cE ht
  refine aw ?_
  have h':=h j hj
  unfold aI at h'
  rw[af,ag hj] at h'
  rw[wsum _ hl _ (ai _)]
  exact h'
theorem jBD {w:Int}{ms:List Int}{lB:List (List Int×Int)}(xs:List Int):kP w ms lB (.tup (xs.map Ob.int))=(decide (xs.length=lB.length)&&onesB w ms lB xs):=by
 show (decide ((xs.map Ob.int).length=lB.length)&&((xs.map Ob.int).all isInt&&onesB w ms lB ((xs.map Ob.int).map valO)))=_
 rw[ab,bN]
 have e1:(xs.map Ob.int).all isInt=true:=by rw[bY]; intro x hx; obtain⟨i,_,rfl⟩:=aZ.mp hx; rfl
 have e2:xs.map (valO ∘ Ob.int)=xs:=(cG fun _ _=>rfl).trans (iC xs)
 rw[e1,e2,fb]
theorem WI.wholes {w:Int}{ms:List Int}{lB:List (List Int×Int)}{cs:List (List Int)}{L:List (Nat×List Int)}{t:List Int}(h:WI (mus ms w.toNat).length lB.length (aI (mus ms w.toNat) lB) (mus ms w.toNat).length cs L t):
  kP w ms lB (.tup (((t.drop (mus ms w.toNat).length).map fun x=> -x).map Ob.int))=true:=by
 have hl:((t.drop (mus ms w.toNat).length).map fun x=> -x).length=lB.length:=by rw[ab,dI,h.lt]; lia
 rw[jBD,aw hl,fb,jD8 hl]
 intro j hj
 rw[<- h.fin j hj]
 refine jS fun k hk=>?_
 rw[jP6 (by rfl)]
 unfold cA
 rw[af,af,fX]
theorem lsum (l:List Int)(f:Int->Int):sxS l.length (fun j=>f (l.getD j 0))=(l.map f).sum:=by
 have key:∀ q,q<=l.length->sxS q (fun j=>f (l.getD j 0))=((l.take q).map f).sum:=by
  intro q
  induction q with
  | zero=>intro _; rfl
  | succ q ih=>
   intro hq
   show sxS q _+f (l.getD q 0)=_
   rw[ih (by lia),be,ag (by lia),aQ,eV,af,ag (by lia)]
   simp
 rw[key _ (ai _),bP]
theorem mem_mus {ms:List Int}{n:Nat}{t:Int} :t∈mus ms n↔0<=t/\t<n/\t∉ms:=by
 unfold mus
 rw[aZ]
 constructor
 ·rintro ⟨a,ha,rfl⟩
  rw[bf,bM] at ha
  exact⟨by lia,by lia,by simpa using ha.2⟩
 ·rintro ⟨h0,h1,h2⟩
  exact⟨t.toNat,bf.mpr ⟨bM.mpr (by lia),by rw[show ((t.toNat:Nat):Int)=t by lia]; simpa using h2⟩,by lia⟩
theorem jP5 (ms:List Int)(n:Nat):(mus ms n).Nodup:=by
 unfold mus
 exact((iM).filter _).map _ fun a b h=>fun z=>h (by lia)
theorem jFX (l:List Int)(f:Int->Int)(p:Int->Bool)(h:∀ t∈l,p t=false->f t=0):(l.map f).sum=((l.filter p).map f).sum:=by
 induction l with
 | nil=>rfl
 | cons a l ih=>
  rw[bi,eZ,ih fun t ht=>h t (az _ ht),b8]
  cases hp:p a with
  | true=>rfl
  | false=>rw[h a (ar ..) hp,i5]; rfl
theorem jNI {l l':List Int}(h:l.Perm l')(f:Int->Int):(l.map f).sum=(l'.map f).sum:=by
 induction h with
 | nil=>rfl
 | cons a _ ih=>rw[bi,bi,eZ,eZ,ih]
 | swap a b l=>simp only [bi,eZ]; lia
 | trans _ _ i1 i2=>rw[i1,i2]
theorem jHM {l l':List Int}(h1:l.Nodup)(h2:l'.Nodup)(h:∀ t,t∈l↔t∈l'):l.Perm l':=(ig h1 h2).mpr h
theorem jC7 {ms l:List Int}{n:Nat}{f:Int->Int}(hn:l.Nodup)(hb:∀ t∈l,0<=t/\t<n)(h0:∀ t∈ms,f t=0):(l.map f).sum=sxS (mus ms n).length fun j=>(if (mus ms n).getD j 0∈l then (1:Int) else 0)*f ((mus ms n).getD j 0):=by
 rw[lsum (mus ms n) fun t=>(if t∈l then (1:Int) else 0)*f t]
 rw[jFX l f (fun t=>decide (t∉ms)) fun t _ hp=>h0 t (by simpa using hp)]
 rw[jFX (mus ms n) (fun t=>(if t∈l then (1:Int) else 0)*f t) (fun t=>decide (t∈l)) fun t _ hp=>by rw[aj (by simpa using hp)]; simp]
 have e:((mus ms n).filter fun t=>decide (t∈l)).map (fun t=>(if t∈l then (1:Int) else 0)*f t)=((mus ms n).filter fun t=>decide (t∈l)).map f:=cG fun t ht=>by
  rw[ak (by simpa using (bf.mp ht).2),gH]
 rw[e]
 refine jNI (jHM (hn.filter _) ((jP5 ms n).filter _) fun t=>?_) f
 rw[bf,bf,mem_mus]
 constructor
 ·rintro ⟨a,b⟩
  exact⟨⟨(hb t a).1,(hb t a).2,by simpa using b⟩,aw a⟩
 ·rintro ⟨⟨_,_,a⟩,b⟩
  exact⟨aP b,aw a⟩
theorem jN6 {ms hs:List Int}{n:Nat}(hl:hs.length=n)(h0:∀ t∈ms,hAt hs t=0):hs.sum=sxS (mus ms n).length fun j=>hAt hs ((mus ms n).getD j 0):=by
 have e:hs=((List.range n).map fun (t:Nat)=>(t:Int)).map (hAt hs):=by
  rw[bN]
  refine List.ext_getElem (by simp [hl]) fun i h1 h2=>?_
  simp only [List.getElem_map,List.getElem_range,Function.comp]
  unfold hAt
  rw[bB,af,ag h1]
  rfl
 have hn:((List.range n).map fun (t:Nat)=>(t:Int)).Nodup:=(iM).map _ fun a b h=>fun z=>h (by lia)
 conv=>lhs; rw[e]
 rw[jC7 (ms:=ms) (n:=n) hn (fun t ht=>by obtain⟨a,ha,rfl⟩:=aZ.mp ht; have:=bM.mp ha; lia) h0]
 refine jS fun j hj=>?_
 have hm:(mus ms n).getD j 0∈mus ms n:=by
  rw[af,ag hj]
  exact bS hj
 rw[ak,gH]
 obtain⟨a,b,_⟩:=mem_mus.mp hm
 exact aZ.mpr ⟨((mus ms n).getD j 0).toNat,bM.mpr (by lia),by lia⟩
theorem jKQ (n:Nat)(c y:Nat->Int)(M:Int):M∣sxS n (fun j=>c j*(y j % M)) - sxS n fun j=>c j*y j:=by
 have e:sxS n (fun j=>c j*(y j % M)) - sxS n (fun j=>c j*y j)=sxS n fun j=>M*(-(c j*(y j / M))):=by
  have:=jEN n (fun j=>c j*(y j % M)) (fun j=>c j*y j) 1
  rw[gH] at this
  rw[<- this]
  refine jS fun j _=>?_
  have:=Int.emod_add_mul_ediv (y j) M
  rw[gH]
  conv=>lhs; rhs; rw[<- this]
  grind
 rw[e,jAS]
 exact Int.dvd_mul_right _ _
def HueOf (ms:List Int)(n:Nat)(M:Int)(ys hs:List Int):Prop:=hs.length=n/\(∀ j,j<(mus ms n).length->hAt hs ((mus ms n).getD j 0)=cA ys j % M)/\∀ t∈ms,hAt hs t=0
theorem HueOf.ok {w:Int}{ms:List Int}{lB:List (List Int×Int)}{M:Int}{ys hs:List Int}(g:Good 16 32 w ms lB)(h:HueOf ms w.toNat M ys hs)(hM:2<=M)(hk:∀ k,k<lB.length->M∣sxS (mus ms w.toNat).length fun j=>cA ys j*aI (mus ms w.toNat) lB j k)(ht:¬ M∣sxS (mus ms w.toNat).length (cA ys)):
  hueB w ms lB (.tup [.int M, .tup (hs.map Ob.int)])=true:=by
 obtain⟨h1,h2,h3⟩:=h
 have w0:=g.w0
 have hue:∀ t:Int,0<=t->t<w->0<=hAt hs t/\hAt hs t<M:=fun t t0 t1=>by
  by_cases ht:t∈ms
  ·rw[h3 t ht]; lia
  ·obtain⟨j,hj,e⟩:=cE (mem_mus (n:=w.toNat).mpr ⟨t0,by lia,ht⟩)
   have:=h2 j hj
   rw[af,ag hj] at this
   have this:hAt hs ((mus ms w.toNat)[j])=_:=this
   rw[e] at this
   rw[this]
   exact⟨jc _ (by lia),ie _ (by lia)⟩
 have emap:(hs.map Ob.int).map valO=hs:=by rw[bN]; exact(cG fun _ _=>rfl).trans (iC hs)
 show (decide (2<=M)&&(decide (((hs.map Ob.int).length:Int)=w)&&((hs.map Ob.int).all (hueO M)&&restH M ms lB ((hs.map Ob.int).map valO))))=true
 rw[emap,ab,h1,aw hM,aw (show ((w.toNat:Nat):Int)=w by lia),fb,fb,bD]
 refine⟨?_,?_⟩
 ·rw[bY]
  intro x hx
  obtain⟨i,hi,rfl⟩:=aZ.mp hx
  obtain⟨j,hj,e⟩:=cE hi
  have:=hue (j:Int) (by lia) (by lia)
  have e2:hAt hs (j:Int)=i:=by unfold hAt; rw[bB,af,ag hj]; exact e
  rw[e2] at this
  show (decide _&&decide _)=true
  rw[aw this.1,aw this.2]
  rfl
 ·have s1:=jN6 h1 h3
  have e1:(sxS (mus ms w.toNat).length fun j=>hAt hs ((mus ms w.toNat).getD j 0))=sxS (mus ms w.toNat).length fun j=>1*(cA ys j % M):=jS fun j hj=>by rw[h2 j hj,gH]
  have d1:=jKQ (mus ms w.toNat).length (fun _=>1) (cA ys) M
  have e0:(sxS (mus ms w.toNat).length fun j=>1*cA ys j)=sxS (mus ms w.toNat).length (cA ys):=jS fun j _=>gH _
  rw[e0,<- e1,<- s1] at d1
  show (mayH ms hs&&(pcH M lB hs&&!decide (hs.sum % M=0)))=true
  have p1:mayH ms hs=true:=by unfold mayH; rw[bY]; exact fun t ht=>aw (h3 t ht)
  have p3:decide (hs.sum % M=0)=false:=aH fun z=>ht (by
   have:=Int.dvd_sub (ga z) d1
   rwa [show hs.sum - (hs.sum - sxS (mus ms w.toNat).length (cA ys))=sxS (mus ms w.toNat).length (cA ys) by lia] at this)
  have p2:pcH M lB hs=true:=by
   unfold pcH
   rw[bY]
   intro pc hpc
   obtain⟨k,hk',e⟩:=cE hpc
   have gp:=g.pg pc hpc
   have ek:lB.getD k ([],0)=pc:=by rw[af,ag hk']; exact e
   refine aw (gb ?_)
   rw[jC7 (ms:=ms) (n:=w.toNat) (gp.lot.ris.imp fun h=>Int.ne_of_lt h) (fun t ht=>by have:=gp.lot.bnd t ht; lia) h3]
   have e2:(sxS (mus ms w.toNat).length fun j=>(if (mus ms w.toNat).getD j 0∈pc.1 then (1:Int) else 0)*hAt hs ((mus ms w.toNat).getD j 0))=sxS (mus ms w.toNat).length fun j=>aI (mus ms w.toNat) lB j k*(cA ys j % M):=jS fun j hj=>by rw[h2 j hj]; unfold aI; rw[ek]
   rw[e2]
   have d2:=jKQ (mus ms w.toNat).length (fun j=>aI (mus ms w.toNat) lB j k) (cA ys) M
   have d3:=hk k hk'
   rw[jS fun j _=>Int.mul_comm (cA ys j) _] at d3
   have:=lA d2 d3
   rwa [ko] at this
  rw[p1,p2,p3]
  rfl
theorem jNH (n m:Nat)(f:Nat->Nat->Int):sxS n (fun j=>sxS m fun k=>f j k)=sxS m fun k=>sxS n fun j=>f j k:=by
 induction n with
 | zero=>exact(jD4 fun _ _=>rfl).symm
 | succ n ih=>
  show sxS n _+_=_
  rw[ih,<- jDI]
  rfl
theorem jPU {n:Nat}{f:Nat->Int}{M:Int}(h:∀ k,k<n->M∣f k):M∣sxS n f:=by
 induction n with
 | zero=>exact i7 M
 | succ n ih=>exact lA (ih fun k hk=>h k (by lia)) (h n (by lia))
theorem jJP {w:Int}{ms:List Int}{lB:List (List Int×Int)}{o o':Ob}(g:Good 16 32 w ms lB)(h1:kP w ms lB o=true)(h2:hueB w ms lB o'=true):False:=by
 have w0:=g.w0
 cases o with
 | int i=>cases h1
 | oth=>cases h1
 | tup xs'=>
  have h1:(decide (xs'.length=lB.length)&&(xs'.all isInt&&onesB w ms lB (xs'.map valO)))=true:=h1
  rw[bD,bD] at h1
  obtain⟨l1,_,h1⟩:=h1
  have l1:(xs'.map valO).length=lB.length:=by rw[ab]; exact aP l1
  rw[jD8 l1] at h1
  generalize xs'.map valO=xs at l1 h1
  have key:∀ M os,hueB w ms lB (.tup [.int M, .tup os])=true->False:=fun M os h2=>by
   have h2:(decide (2<=M)&&(decide ((os.length:Int)=w)&&(os.all (hueO M)&&(mayH ms (os.map valO)&&(pcH M lB (os.map valO)&&!decide ((os.map valO).sum % M=0))))))=true:=h2
   rw[bD,bD,bD,bD,bD] at h2
   obtain⟨_,l2,_,m2,p2,n2⟩:=h2
   have l2:(os.map valO).length=w.toNat:=by rw[ab]; have:=aP l2; lia
   generalize os.map valO=hs at l2 m2 p2 n2
   have h3:∀ t∈ms,hAt hs t=0:=fun t ht=>aP (bY.mp m2 t ht)
   have n2:¬ hs.sum % M=0:=by simpa using n2
   refine n2 (gb ?_)
   rw[jN6 l2 h3]
   have e:(sxS (mus ms w.toNat).length fun j=>hAt hs ((mus ms w.toNat).getD j 0))=sxS (mus ms w.toNat).length fun j=>sxS lB.length fun k=>cA xs k*(aI (mus ms w.toNat) lB j k*hAt hs ((mus ms w.toNat).getD j 0)):=jS fun j hj=>by
    have:=h1 j hj
    have e2:(sxS lB.length fun k=>cA xs k*(aI (mus ms w.toNat) lB j k*hAt hs ((mus ms w.toNat).getD j 0)))=sxS lB.length fun k=>hAt hs ((mus ms w.toNat).getD j 0)*(aI (mus ms w.toNat) lB j k*cA xs k):=jS fun k _=>by grind
    rw[e2,jAS,this,jl]
   rw[e,jNH]
   refine jPU fun k hk=>?_
   rw[jAS]
   refine iI ?_
   have hpc:=bY.mp p2 _ (bS hk)
   have hpc:=ga (aP hpc)
   have gp:=g.pg _ (bS hk)
   rw[jC7 (ms:=ms) (n:=w.toNat) (gp.lot.ris.imp fun h=>Int.ne_of_lt h) (fun t ht=>by have:=gp.lot.bnd t ht; lia) h3] at hpc
   have ek:lB.getD k ([],0)=lB[k]:=by rw[af,ag hk]; rfl
   unfold aI
   rw[ek]
   exact hpc
  cases o' with
  | int i=>cases h2
  | oth=>cases h2
  | tup os=>
   match os,h2 with
   | [a,b],h2=>
    cases a with
    | int M=>
     cases b with
     | tup os=>exact key M os h2
     | int _=>cases h2
     | oth=>cases h2
    | oth=>cases h2
    | tup _=>cases h2
   | [],h2=>cases h2
   | [a],h2=>cases a <;> cases h2
   | a::b::_::_,h2=>cases a <;> cases b <;> cases h2
theorem jMO {K:W.Frag}{m:List (Option Nat)}{te:TE}{σ τ:St}{H:Hp}{Q:VK}{a d:Addr}{xs ys:List Int}(F:Int->Int->Int)(hσ:blkσ m σ=none::none::τ)(ha:H a=some (.lst (xs.map V.int)))(hd:H d=some (.lst (ys.map V.int)))(hl:xs.length<=100)
  (ht:∀ x y H' Q',x∈xs->y∈ys->Q' (.int (F x y)) H'->te (some (.int x)::some (.int y)::τ) H' Q')
  (k:∀ D H',H' D=some (.lst ((zipWith F xs ys).map V.int))->Ext H H'->H D=none->Q (.ref D) H'):qB m (gTup K 2 (qH (kQ 0) (qH (kQ 1) gNil))) yG te σ Q (Itz false false K a d) H:=by
 refine jFK (xs:=xs.map V.int) (ys:=ys.map V.int) (by rw[ab,aF]; lia) (fun D j σ' H' zs=>(∃ v1 v2,σ'=v1::v2::τ)/\zs=((zipWith F xs ys).take j).map V.int/\Ext H H'/\H' D=some (.lst zs)/\H D=none) ?_ ?_ ?_ ?_
 ·intro D hD
  exact⟨⟨_,_,hσ⟩,rfl,(Ext.refl _).new hD _,j5,hD⟩
 ·rintro D j σ' H' zs hD ⟨_,hz,e,hD',_⟩
  exact⟨SqL.of (e _ _ ha),SqL.of (e _ _ hd),hD',by rw[hz,ab,bq]; lia⟩
 ·rintro D j σ' H' zs x y Tp hD hx hy hT ⟨⟨v1,v2,rfl⟩,hz,e,hD',_⟩
  obtain⟨x,hx',rfl⟩:=int_at hx
  obtain⟨y,hy',rfl⟩:=int_at hy
  have e2:Ext H' (L2.upd H' Tp (.tup [.int x, .int y])):=(Ext.refl _).new hT _
  have d2:(L2.upd H' Tp (.tup [.int x, .int y])) Tp=some (.tup [.int x, .int y]):=j5
  generalize L2.upd H' Tp (.tup [.int x, .int y])=H2 at e2 d2
  refine⟨Tp,_,rfl,SqT.of d2,rfl,_,_,rfl,_,_,rfl,rfl,?_⟩
  dsimp only [yG]
  rw[ak rfl]
  refine ht x y H2 _ (aC hx') (aC hy') ⟨e2 _ _ hD',⟨_,_,rfl⟩,?_,(e.trans e2).updNew hD _,j5,hD⟩
  have:(zipWith F xs ys)[j]?=some (F x y):=by rw[dS,hx',hy']
  rw[hz,be,this,aQ]
  rfl
 ·rintro D2 σ' H2 zs hD ⟨_,hz,e,hD',_⟩
  rw[ab,ab,bC (by rw[eG]; exact ai _)] at hz
  exact k D2 H2 (by rw[hD',hz]) e hD
theorem _root_.L2.mapZ.yesV {α:Type}{l:List α}{f:α->V}{H H':Hp}{zs:List V}{j:Nat}{x:α}{v:V}(h:mapZ l f H zs j)(hx:l[j]?=some x)(e:f x=v):mapZ l f H' (zs++[v]) (j+1):=by
 rw[<- e]
 exact h.yes hx
def ColA (H:Hp)(u:V)(l:List Int):Prop:=∃ a,u= .ref a/\H a=some (.lst (l.map V.int))
abbrev ColsA (H:Hp)(us:List V)(cs:List (List Int)):Prop:=All2 (ColA H) us cs
theorem ColA.ext {H H':Hp}{u:V}{l:List Int}(h:ColA H u l)(e:Ext H H'):ColA H' u l:=let ⟨a,e1,q⟩:=h; ⟨a,e1,e _ _ q⟩
theorem ColsA.ext {H H':Hp}{us:List V}{cs:List (List Int)}(h:ColsA H us cs)(e:Ext H H'):ColsA H' us cs:=h.imp fun _ _ z=>z.ext e
theorem All2.impM {α β:Type}{R R':α->β->Prop} :∀ {us:List α}{ws:List β},(∀ u∈us,∀ w,R u w->R' u w)->All2 R us ws->All2 R' us ws
 | [],[],_,_=>trivial
 | u::us,w::ws,h,⟨a,r⟩=>⟨h u (ar ..) w a,All2.impM (fun x hx=>h x (az _ hx)) r⟩
abbrev jLI:List Str:=["column","times","other"]
theorem scTaken:FnScope jLI ["column","times","other"] (j8 jCS):= {}
def jS1 (T:Txt mg): { t:TS // JSs (XOf jLI "taken_off" jCS P w K mg base f cdv A outer s H0 E) (jC jCS) t} :=
 have nd:=scTaken.nd
 ⟨_,(jB (jX (kU (m:=[none,none,some 1]) (Nc:=["entry","less","times"]) rfl (jGN gD T.zip (j3 (jv 0 rfl vL) (j3 (jv 2 rfl vL) j6 j4) j4) j4) rfl (by decide+kernel) (by decide+kernel) (jQ (psc:=j8 jCS)) (jG (N:=jLI) rfl rfl (by decide+kernel)) (fun cl C fp s H=>jAB (i:=0) (j:=1) rfl (show (["entry","less","times"]:List Str).Nodup by decide+kernel) rfl rfl (by decide+kernel) (by decide+kernel)) (fun cl C fp s H=>kX) (fun cl C fp s H=>(jR jCX (jv 0 rfl jL) (jR jF1 (jv 2 rfl kN) (jv 1 rfl jL)))) kI)))⟩
def jDK:Sp:=fun vs H Q _=>∃ (a d:Addr) (x:Int) (C Dd:List Int) (p q:Nat),vs=[.ref a, .int x, .ref d]/\H a=some (.lst (C.map V.int))/\H d=some (.lst (Dd.map V.int))/\C.length<=100/\Bt p x/\(∀ y∈Dd,Bt q y)/\p+q<=134217000/\∀ r H',H' r=some (.lst ((tkf x C Dd).map V.int))->Ext H H'->H r=none->Q (.ref r) H'
theorem jNS {fd:FuncData}(F:Fun K "taken_off" "taken_off" jCS f fd)(T:Txt mg):FnOk P w K mg base CX0 1 f fd ["column","times","other"] jDK:=by
 refine F.ok scTaken (fun vs H Q E h=>?_) (fun cdv A outer s H vs Q E hr h=>?_)
 ·obtain⟨_,_,_,_,_,_,_,rfl,_⟩:=h
  rfl
 ·obtain⟨a,d,x,C,Dd,p,q,rfl,ha,hd,hl,hx,hy,hpq,k⟩:=h
  refine⟨_,(jS1 T).2.h,?_⟩
  refine⟨_,rfl,_,rfl,false,false,a,d,rfl,⟨_,SqL.of ha⟩,⟨_,SqL.of hd⟩,jMO (τ:=[some (.int x)]) (fun y z=>y - x*z) rfl ha hd hl (fun y z H' Q' hy' hz q'=>?_) k⟩
  exact⟨_,rfl,_,rfl,_,rfl,_,_,rfl,rfl,⟨p,q,hx,hy z hz,hpq⟩,_,_,rfl,rfl,q'⟩
noncomputable abbrev nNear:List Str:=["entry","divisor"]
theorem scNear:FnScope nNear ["entry","divisor"] (j8 sNear):= {}
theorem pylOf {N:List Str}{q:String}{st:Stmt}(S:SeerK P K mg)(hd:Room 32 (XOf N q st P w K mg base f cdv A outer s H0 E).A)(h1:(j8 st).isGenerator=false)(h2:(j8 st).isCoroutine=false):Pyl (XOf N q st P w K mg base f cdv A outer s H0 E):=
 ⟨S,⟨_,_,rfl,h1,h2,rfl,rfl⟩,by have:=hd.dp; lia⟩
def nearA (T:Txt mg)(PY:Pyl (XOf nNear "nearest_times" sNear P w K mg base f cdv A outer s H0 E)): { t:TS // JSs (XOf nNear "nearest_times" sNear P w K mg base f cdv A outer s H0 E) (jC sNear) t} :=
 have nd:=scNear.nd
 ⟨_,(jB (jX (jR (jD7 PY) (jR yF (jR yS (je_int) (jv 0 rfl vL)) (jv 1 rfl vL)) (jR yS (je_int) (jv 1 rfl vL)))))⟩
def jIF:Sp:=fun vs H Q _=>∃ c d:Int,vs=[.int c, .int d]/\d≠0/\Q (.int (near c d)) H
theorem jQT {fd:FuncData}(F:Fun K "nearest_times" "nearest_times" sNear f fd)(T:Txt mg)(S:SeerK P K mg):FnOk P w K mg base CX0 33 f fd ["entry","divisor"] jIF:=by
 refine F.ok scNear (fun vs H Q E h=>?_) (fun cdv A outer s H vs Q E hr h=>?_)
 ·obtain⟨_,_,rfl,_⟩:=h
  rfl
 ·obtain⟨c,d,rfl,hd,q⟩:=h
  refine⟨_,(nearA T (pylOf S hr rfl rfl)).2.h,?_⟩
  exact⟨_,rfl,_,_,rfl,rfl, .inl ⟨by decide,by decide⟩,_,rfl,_,_,rfl,rfl,_,rfl,_,_,rfl,rfl, .inl ⟨by decide,by decide⟩,_,_,rfl,rfl,(show (2*d:Int)≠0 by lia),q⟩
noncomputable abbrev nGoes:List Str:=["lead","entry"]
theorem scGoes:FnScope nGoes ["lead","entry"] (j8 sGoes):= {}
def goesA (T:Txt mg): { t:TS // JSs (XOf nGoes "goes_in" sGoes P w K mg base f cdv A outer s H0 E) (jC sGoes) t} :=
 have nd:=scGoes.nd
 ⟨_,(jB (jX (jEA (jJ qI (jv 0 rfl vL) (je_int) (jM _)) (jCF yW (jR jQO (jv 1 rfl vL) (jv 0 rfl vL)) (je_int) (jM _)) (jCF yW (jv 1 rfl vL) (je_int) (jM _)))))⟩
def jKT:Sp:=fun vs H Q _=>∃ l e:Int,vs=[.int l, .int e]/\Q (.bl (decide (l∣e))) H
theorem jQW {fd:FuncData}(F:Fun K "goes_in" "goes_in" sGoes f fd)(T:Txt mg):FnOk P w K mg base CX0 1 f fd ["lead","entry"] jKT:=by
 refine F.ok scGoes (fun vs H Q E h=>?_) (fun cdv A outer s H vs Q E hr h=>?_)
 ·obtain⟨_,_,rfl,_⟩:=h
  rfl
 ·obtain⟨l,e,rfl,q⟩:=h
  refine⟨_,(goesA T).2.h,?_⟩
  refine⟨_,rfl,rfl,_,rfl,?_⟩
  by_cases h:l=0
  ·subst h
   refine iteF ⟨_,rfl,rfl,?_⟩
   have e0:decide (V.int e=V.int 0)=decide ((0:Int)∣e):=by
    by_cases z:e=0
    ·subst z; rfl
    ·rw[aH (fun h=>z (V.int.inj h)),aH (fun h=>z (lv.mp h))]
   rw[<- e0] at q
   exact q
  ·have hb:(!decide (V.int l=V.int 0))=true:=by rw[aH (fun z=>h (V.int.inj z))]; rfl
   dsimp only
   rw[ak hb]
   refine⟨_,rfl,_,rfl,_,_,rfl,rfl,h,rfl,?_⟩
   have e0:decide (V.int (e.fmod l)=V.int 0)=decide (l∣e):=by
    by_cases z:l∣e
    ·rw[aw z,Int.fmod_eq_zero_of_dvd z]; rfl
    ·rw[aH z,aH (fun h=>z (Int.dvd_of_fmod_eq_zero (V.int.inj h)))]
   rw[<- e0] at q
   exact q
abbrev jF4:List Str:=["box","musts","columns","number","piece","held"]
theorem scFirstC:FnScope jF4 ["box","musts"] (j8 jAD):= {}
abbrev XFc (P:Program)(w:World)(K:W.Frag)(mg:Str->Option Value)(base:Heap)(f:Addr)(cdv:Value)(A:Around)(outer:List Env)(s:Shared)(H:Hp)(E:XK):Cx:=XOf jF4 "first_columns" jAD P w K mg base f cdv A outer s H E
def fcolL (T:Txt mg)(hr:Room 0 (XFc P w K mg base f cdv A outer s H0 E).A): { t:TS // JSs (XFc P w K mg base f cdv A outer s H0 E) (yT ((jC jAD).getD 1 (.Pass ⟨0,0,0,0⟩))) t} :=
 have nd:=scFirstC.nd
 ⟨_,(j9 (jAX (i:=5) nd rfl lL ⟨by rfl⟩ (m:=[none,some 4]) (Nc:=["must","piece"]) rfl (kT (jv 1 rfl vL)) rfl (by decide+kernel) (by decide+kernel) (jQ (psc:=j8 jAD)) (jG (N:=jF4) rfl rfl (by decide+kernel)) (fun cl C fp s H=>jN (i:=0) (show (["must","piece"]:List Str).Nodup by decide+kernel) rfl yH) (fun cl C fp s H=>kX) (fun cl C fp s H=>(jEA (jJ jF2 (jv 0 rfl jL) (jT jBX (jv 1 rfl kN) (je_int) jF) jLE) (je_int) (je_int))) jAG)
   (jB (jBH (je_bm b9 db de jAK (jv 2 rfl vL) (j3 (jR jF3 (jv 5 rfl vL) (kU (m:=[none,some 3]) (Nc:=["other","number"]) rfl (jA2 gD T.range (j3 (jH jO gD T.len (by decide+kernel) (j3 (jT kL (jv 0 rfl vL) (je_int) jF) j6 jV) jV) j6 jI) jI) rfl (by decide+kernel) (by decide+kernel) (jQ (psc:=j8 jAD)) (jG (N:=jF4) rfl rfl (by decide+kernel)) (fun cl C fp s H=>jN (i:=0) (show (["other","number"]:List Str).Nodup by decide+kernel) rfl yH) (fun cl C fp s H=>kX) (fun cl C fp s H=>(jEA (jJ yW (jv 0 rfl jL) (jv 1 rfl kN) (jM _)) (je_int) (je_int))) kI)) j6 kY) kY) jK)))⟩
def fcolA (T:Txt mg)(hr:Room 0 (XFc P w K mg base f cdv A outer s H0 E).A): { t:TS // JSs (XFc P w K mg base f cdv A outer s H0 E) (jC jAD) t} :=
 have nd:=scFirstC.nd
 ⟨_,(j9 (jE (i:=2) nd rfl lL (jAF j6) jE1) (j9 (yO bx rfl (jM2 gD T.enumerate (j3 (jT kL (jv 0 rfl vL) (je_int) jF) j6 jV) jV) (jIY (i:=3) (j:=4) nd rfl rfl qA qA) (fcolL T hr).2 kI) (jB (jX (jv 2 rfl vL)))))⟩
def jER:Sp:=fun vs H Q _=>∃ (b m:Addr) (w:Int) (ms mu:List Int) (lB:List (List Int×Int)),vs=[.ref b, .ref m]/\BoxAt H b w ms lB/\Good 16 32 w ms lB/\H m=some (.lst (mu.map V.int))/\mu.length<=16/\∀ l vs H',H' l=some (.lst vs)->ColsA H' vs ((List.range lB.length).map (fcol mu lB))->Ext H H'->H l=none->Q (.ref l) H'
theorem jMF (T:Txt mg)(hr:Room 0 (XFc P w K mg base f cdv A outer s H0 E).A){D:Ends}{H:Hp}{b m l pa pq qm qp:Addr}{ps vs:List V}{wi:Int}{mu:List Int}{lB:List (List Int×Int)}{i:Nat}{pc:List Int×Int}{v5:Option V}(b1:H b=some (.tup [.int wi, .ref qm, .ref qp]))(b3:H qp=some (.tup ps))(psl:ps.length=lB.length)(pl:lB.length<=32)(hp:H pa=some (.tup [.ref pq, .int pc.2]))(hq:H pq=some (.tup (pc.1.map V.int)))(hpc:lB[i]?=some pc)(hm:H m=some (.lst (mu.map V.int)))(ml:mu.length<=16)(hl:H l=some (.lst vs))(vl:vs.length<=32)
  (nx:∀ H' H'' r v5,Ext H H'->H' r=some (.lst ((fcol mu lB i).map V.int))->H''=L2.upd H' l (.lst (vs++[.ref r]))->r≠l->D.nx [some (.ref b),some (.ref m),some (.ref l),some (.int (i:Int)),some (.ref pa),v5] H''):
  (fcolL T hr).1 D [some (.ref b),some (.ref m),some (.ref l),some (.int (i:Int)),some (.ref pa),v5] H:=by
 have hpl:i<lB.length:=(am.mp hpc).1
 have ek:lB.getD i ([],0)=pc:=by rw[af,hpc]; rfl
 refine⟨_,rfl,m,rfl,⟨_,SqL.of hm⟩,jA8 (xs:=mu.map V.int) (fun σ=>∃ v,σ=[v,some (.ref pa)]) (mapZ mu fun t=>V.int (if t∈pc.1 then 1 else 0)) (mapZ.ok _ _) hm (by rw[ab,aF]; lia) ⟨_,rfl⟩ ?_ ?_⟩
 ·rintro j x σ' H1 zs hx ⟨v,rfl⟩ e1 hz S1 S2 y1 n1
  obtain⟨t,ht,rfl⟩:=int_at hx
  dsimp only [kQ,yG]
  rw[ak rfl]
  refine⟨_,rfl,_,rfl,pa,_,0,_,rfl,rfl,SqT.of (e1 _ _ hp),rfl,pq,_,rfl, .inr (SqT.of (e1 _ _ hq)),rfl,jAZ _,?_⟩
  rw[jBY]
  refine⟨_,rfl,ite2 (fun h=>?_) (fun h=>?_)⟩
  ·have h:t∈pc.1:=by simpa using h
   exact y1 _ _ _ ⟨_,rfl⟩ (Ext.refl _) (hz.yesV ht (bA V.int (ak h)))
  ·have h:t∉pc.1:=by simpa using h
   exact y1 _ _ _ ⟨_,rfl⟩ (Ext.refl _) (hz.yesV ht (bA V.int (aj h)))
 ·rintro D1 H1 zs h1 e1 n1 hz
  have hz:=hz.all (by rw[ab]; exact ai _)
  have b1':=e1 _ _ b1
  refine⟨_,rfl, .inl ⟨rfl,_,SqL.of (e1 _ _ hl)⟩,_,rfl,_,rfl,b,_,2,_,rfl,rfl,SqT.of b1',rfl,qp,_,rfl, .inr (SqT.of (e1 _ _ b3)),_,rfl,?_,?_,jFM (n:=ps.length) (fun σ=>∃ v,σ=[v,some (.int (i:Int))]) (mapZ (List.range lB.length) fun o=>V.int (if o=i then 1 else 0)) (mapZ.ok _ _) (by rw[aF]; lia) ⟨_,rfl⟩ ?_ ?_⟩
  ·lia
  ·lia
  ·rintro j σ' H2 ys hj ⟨v,rfl⟩ e2 hy S1 S2 y1 n2
   have e0:(0+(j:Int))=(j:Int):=by lia
   rw[e0]
   dsimp only [kQ,yG]
   rw[ak rfl]
   have hjr:(List.range lB.length)[j]?=some j:=cV (by lia)
   refine⟨_,rfl,_,rfl,rfl,_,rfl,ite2 (fun h=>?_) (fun h=>?_)⟩
   ·have h:j=i:=by have:=V.int.inj (aP h); lia
    exact y1 _ _ _ ⟨_,rfl⟩ (Ext.refl _) (hy.yesV hjr (bA V.int (ak h)))
   ·have h:j≠i:=fun z=>h (aw (by rw[z]))
    exact y1 _ _ _ ⟨_,rfl⟩ (Ext.refl _) (hy.yesV hjr (bA V.int (aj h)))
  ·rintro D2 H2 ys h2 e2 n2 hy
   have hy:=hy.all (by rw[bv]; lia)
   have h1':=e2 _ _ h1
   refine⟨D1,D2,zs,ys,rfl,rfl,h1',h2,by rw[hz,hy,ab,ab,bv,aF]; lia,fun r H3 d3 e3 n3=>?_⟩
   have E3:=(e1.trans e2).trans e3
   have rl:r≠l:=fun z=>by rw[z,e2 _ _ (e1 _ _ hl)] at n3; cases n3
   refine⟨l,vs,_,rfl,rfl,E3 _ _ hl,by rw[aF]; lia,nx H3 _ r _ E3 ?_ rfl rl⟩
   rw[d3,hz,hy]
   unfold fcol
   rw[ek,aQ,bN,bN]
   rfl
theorem jLB {fd:FuncData}(F:Fun K "first_columns" "first_columns" jAD f fd)(T:Txt mg):FnOk P w K mg base CX0 1 f fd ["box","musts"] jER:=by
 refine F.ok scFirstC (fun vs H Q E h=>?_) (fun cdv A outer s H vs Q E hr h=>?_)
 ·obtain⟨_,_,_,_,_,_,rfl,_⟩:=h
  rfl
 ·obtain⟨b,m,wi,ms,mu,lB,rfl,hB,g,hm,ml,q⟩:=h
  refine⟨_,(fcolA T hr).2.h,?_⟩
  obtain⟨qm,qp,ps,b1,b2,b3,b4⟩:=id hB.ex
  have psl:=b4.len
  have pl:lB.length<=32:=by have:=g.pl; lia
  refine⟨ba _,fun l H1 d1 e1 n1=>?_⟩
  refine⟨_,rfl,b,_,2,_,rfl,rfl,SqT.of (e1 _ _ b1),rfl,true,qp,rfl,⟨_,SqT.of (e1 _ _ b3)⟩,jJ5 (tp:=true) (xs:=ps) (fun i σ H'=>(∃ v3 v4 v5,σ=[some (.ref b),some (.ref m),some (.ref l),v3,v4,v5])/\Ext H H'/\∃ vs,H' l=some (.lst vs)/\ColsA H' vs ((List.range i).map (fcol mu lB))/\∀ v∈vs,v≠ .ref l) ⟨⟨_,_,_,rfl⟩,e1,[],d1,trivial,fun v hv=>by cases hv⟩ (fun i σ H' ⟨_,e,_⟩=>SqT.of (e _ _ b3)) ?_ ?_⟩
  ·rintro i x t σ H3 hx ht ⟨⟨v3,v4,v5,rfl⟩,e3,vs,hl,hc,hne⟩
   obtain⟨pc,hpc,pa,pq,rfl,c1,c2⟩:=b4.at hx
   refine⟨t,_,rfl,SqT.of j5,rfl,_,_,rfl,_,_,rfl,rfl,?_⟩
   have k4:Ext H3 (L2.upd H3 t (.tup [.int (i:Int), .ref pa])):=(Ext.refl _).new ht _
   generalize L2.upd H3 t (.tup [.int (i:Int), .ref pa])=H4 at k4
   have E4:=e3.trans k4
   have hi:i<lB.length:=(am.mp hpc).1
   have vl:=All2.len hc
   rw[ab,bv] at vl
   refine jMF T hr (E4 _ _ b1) (E4 _ _ b3) psl pl (E4 _ _ c1) (E4 _ _ c2) hpc (E4 _ _ hm) ml (k4 _ _ hl) (by lia) fun H5 H6 r v5 e5 hr' h6 rl=>?_
   subst h6
   have E5:=E4.trans e5
   have kk:∀ c o,H5 c=some o->c≠l->(L2.upd H5 l (.lst (vs++[.ref r]))) c=some o:=fun c o h n=>by rw[j7 n]; exact h
   refine⟨⟨_,_,_,rfl⟩,fun c o h=>kk _ _ (E5 _ _ h) (fun z=>by rw[z,n1] at h; cases h),_,j5,?_,fun v hv=>?_⟩
   ·rw[fQ,aQ]
    refine All2.append (All2.impM (fun u hu c hc=>?_) hc) ⟨⟨r,rfl,kk _ _ hr' rl⟩,trivial⟩
    obtain⟨a,rfl,ha⟩:=hc
    exact⟨a,rfl,kk _ _ (e5 _ _ (k4 _ _ ha)) fun z=>hne _ hu (by rw[z])⟩
   ·rcases ay.mp hv with z | z
    ·exact hne v z
    ·rw[aO.mp z]
     exact fun z=>rl (by cases z; rfl)
  ·rintro σ H3 ⟨⟨v3,v4,v5,rfl⟩,e3,vs,hl,hc,_⟩
   rw[psl] at hc
   exact⟨_,rfl,q l vs H3 hl hc e3 n1⟩
theorem newOf {H H':Hp}{r:Addr}(e:Ext H H')(n:H' r=none):H r=none:=by
 cases h:H r with
 | none=>rfl
 | some o=>rw[e _ _ h] at n; cases n
def colV (H:Hp):V->List Int
 | .ref a=>match H a with
  | some (.lst xs)=>xs.map fun v=>match v with
   | .int i=>i
   | _=>0
  | _=> []
 | _=> []
theorem jMS {H:Hp}{a:Addr}{x:List Int}(h:H a=some (.lst (x.map V.int))):colV H (.ref a)=x:=by
 dsimp only [colV]
 rw[h]
 show (x.map V.int).map _=x
 rw[bN]
 exact iC _
theorem ColsA.back {H:Hp} :∀ {us:List V}{cs:List (List Int)},ColsA H us cs->us.map (colV H)=cs/\∀ v∈us,ColA H v (colV H v)
 | [],[],_=>⟨rfl,fun v hv=>by cases hv⟩
 | u::us,x::ws,h=>by
  obtain⟨⟨a,rfl,ha⟩,r⟩:=h
  obtain⟨r1,r2⟩:=ColsA.back r
  refine⟨by rw[bi,jMS ha,r1],fun v hv=>?_⟩
  rcases aM.mp hv with rfl | z
  ·exact⟨a,rfl,by rw[jMS ha]; exact ha⟩
  ·exact r2 v z
theorem ColsA.of {H:Hp} :∀ {us:List V},(∀ v∈us,ColA H v (colV H v))->ColsA H us (us.map (colV H))
 | [],_=>trivial
 | u::us,h=>⟨h u (ar ..),ColsA.of fun v hv=>h v (az _ hv)⟩
theorem ColsA.filt {H:Hp}(p:List Int->Bool):∀ {us:List V}{cs:List (List Int)},ColsA H us cs->ColsA H (((us.zip cs).filter fun x=>p x.2).map Prod.fst) (cs.filter p)
 | [],[],_=>trivial
 | u::us,c::cs,⟨h,r⟩=>by
  rw[fU,b8,b8]
  cases hp:p c with
  | true=>exact⟨h,ColsA.filt p r⟩
  | false=>exact ColsA.filt p r
section
variable {m:List (Option Nat)}{tt:TT}{te:TE}{σ τ:St}{H:Hp}{Q:VK}{us:List V}
theorem jC1 (p:List Int->Bool)(hσ:blkσ m σ=none::τ)(ha:H a=some (.lst us))(hc:ColsA H us cs)(hl:us.length<=100)
  (ht:∀ u c H' (Q':Bool->Hp->Prop),ColA H' u c->c∈cs->Q' (p c) H'->tt (some u::τ) H' Q')
  (k:∀ D zs H',H' D=some (.lst zs)->ColsA H' zs (cs.filter p)->Ext H H'->H D=none->(∀ z∈zs,z∈us)->Q (.ref D) H'):qB m (kQ 0) tt (tVar 0) σ Q (Itl K a) H:=by
 have ul:=All2.len hc
 refine jA8 (xs:=us) (fun σ=>∃ v,σ=v::τ) (outZ (us.zip cs) (fun x=>p x.2) Prod.fst) (outZ.ok _ _ _) ha (by rw[aF]; lia) ⟨_,hσ⟩ ?_ ?_
 ·rintro j u σ' H1 zs hu ⟨v,rfl⟩ e1 hz S1 S2 yes no
  obtain⟨c,hc',hu'⟩:=All2.get' hc hu
  have hz2:(us.zip cs)[j]?=some (u,c):=im.mpr ⟨hu,hc'⟩
  dsimp only [kQ]
  refine ht u c H1 _ (hu'.ext e1) (aC hc') ?_
  refine ite2 (fun h=>?_) (fun h=>?_)
  ·exact⟨_,rfl,yes _ _ _ ⟨_,rfl⟩ (Ext.refl _) (hz.yes hz2 h)⟩
  ·exact no _ _ ⟨_,rfl⟩ (Ext.refl _) (hz.no hz2 (by simpa using h))
 ·rintro D H1 zs h1 e1 n1 hz
  have hz:=hz.all (by rw[gQ]; lia)
  refine k D zs H1 h1 (by rw[hz]; exact(hc.filt p).ext e1) e1 n1 fun z hz'=>?_
  rw[hz] at hz'
  obtain⟨x,hx,rfl⟩:=aZ.mp hz'
  exact(dw (bf.mp hx).1).1
theorem jMR (F:List Int->List Int)(hσ:blkσ m σ=none::τ)(ha:H a=some (.lst us))(hc:ColsA H us cs)(hl:us.length<=100)
  (ht:∀ u c H' Q',ColA H' u c->c∈cs->Ext H H'->(∀ r H2,H2 r=some (.lst ((F c).map V.int))->Ext H' H2->H' r=none->Q' (.ref r) H2)->te (some u::τ) H' Q')
  (k:∀ D zs H',H' D=some (.lst zs)->ColsA H' zs (cs.map F)->Ext H H'->H D=none->(∀ z∈zs,∃ r,z= .ref r/\H r=none)->Q (.ref D) H'):qB m (kQ 0) yG te σ Q (Itl K a) H:=by
 have ul:=All2.len hc
 refine jGS (xs:=us) (by rw[aF]; lia) (fun D j σ' H' zs=>(∃ v,σ'=v::τ)/\Ext H H'/\H' D=some (.lst zs)/\H D=none/\ColsA H' zs ((cs.take j).map F)/\∀ z∈zs,∃ r,z= .ref r/\H r=none/\r≠D) ?_ ?_ ?_ ?_
 ·intro D hD
  exact⟨⟨_,hσ⟩,(Ext.refl _).new hD _,j5,hD,trivial,fun z hz=>by cases hz⟩
 ·rintro D j σ' H' zs hD ⟨_,e,h2,_,hz,_⟩
  refine⟨e _ _ ha,h2,?_⟩
  rw[All2.len hz,ab,bq]
  lia
 ·rintro D j σ' H' zs u hD hu ⟨⟨v,rfl⟩,e,h2,_,hz,hn⟩
  obtain⟨c,hc',hu'⟩:=All2.get' hc hu
  dsimp only [kQ,yG]
  rw[ak rfl]
  refine ht u c H' _ (hu'.ext e) (aC hc') e fun r H2 d2 e2 n2=>?_
  have rD:r≠D:=fun z=>by rw[z,h2] at n2; cases n2
  have kk:∀ c o,H2 c=some o->c≠D->(L2.upd H2 D (.lst (zs++[.ref r]))) c=some o:=fun c o h n=>by rw[j7 n]; exact h
  refine⟨e2 _ _ h2,⟨_,rfl⟩,fun c o h=>kk _ _ (e2 _ _ (e _ _ h)) (fun z=>by rw[z,hD] at h; cases h),j5,hD,?_,fun z hz'=>?_⟩
  ·rw[be,hc',aQ]
   refine All2.append (All2.impM (fun u hu c hc=>?_) hz) ⟨⟨r,rfl,kk _ _ d2 rD⟩,trivial⟩
   obtain⟨q,rfl,hq⟩:=hc
   obtain⟨q',e',_,n'⟩:=hn _ hu
   cases e'
   exact⟨q,rfl,kk _ _ (e2 _ _ hq) n'⟩
  ·rcases ay.mp hz' with z' | z'
   ·exact hn z z'
   ·exact⟨r,aO.mp z',newOf e n2,rD⟩
 ·rintro D σ' H' zs hD ⟨_,e,h2,hn,hz,hne⟩
  rw[ul,bP] at hz
  exact k D zs H' h2 hz e hn fun z hz'=>let ⟨r,a,b,_⟩:=hne z hz'; ⟨r,a,b⟩
end
def lamL (s:Stmt):Arguments×Expr×Scope×Pos:=match (jC s).getD 2 (.Pass ⟨0,0,0,0⟩) with
 | .While _ (.Assign _ (.Call _ _ [⟨_, .Lambda a b sc p,_⟩] _) _::_) _ _=>(a,b,sc,p)
 | _=>(yC s, .Constant .none 0 ⟨0,0,0,0⟩,j8 s,⟨0,0,0,0⟩)
def jKF (s:Stmt):List Stmt:=match s with
 | .While _ b _ _=>b
 | _=> []
abbrev ldA0:Arguments:=(lamL sLed).1
abbrev ldB:Expr:=(lamL sLed).2.1
abbrev ldSc:Scope:=(lamL sLed).2.2.1
abbrev ldPo:Pos:=(lamL sLed).2.2.2
noncomputable abbrev nLdK:List Str:=["column","row"]
theorem scLdK:NScope nLdK ["column"] ["row"] ldSc:=⟨rfl,rfl,rfl,by decide+kernel,rfl,by decide+kernel,by decide+kernel,fun x h=>by
  have hl:∀ y∈ldSc.names,y.2= .free->y.1= "row" :=by decide+kernel
  rw[aO]
  exact hl _ (cD h) rfl,by decide+kernel⟩
abbrev qLdK:Str:= "led_by_one.<locals>.<lambda>"
structure LdI where
 r:Int
abbrev TabL (H:Hp)(tb:Addr):Prop:=TabOk H tb ldPo qLdK
def zhLd (cl:List (Str×Addr))(a c:Addr):Hp->Prop:=fun H=>H a=some (.ext (nlP qLdK ldA0 ldB ldSc cl a c))/\H c=some (.ext (ncP qLdK c))
theorem zhLd.ext {cl:List (Str×Addr)}(a c:Addr)(H H':Hp)(e:Ext H H')(h:zhLd cl a c H):zhLd cl a c H':=⟨e _ _ h.1,e _ _ h.2⟩
def absI (i:Int):Int:=if i<0 then -i else i
theorem jJD (i:Int):absI i=(i.natAbs:Int):=by unfold absI; split <;> lia
def jTE (T:Txt mg): { t:TE // JE (cxN P w K mg base nLdK qLdK ldSc a (.ref c) cl A outer s H0) ldB t} :=⟨_,(jH jDD (gl_n (by decide+kernel)) T.abs (by decide+kernel) (j3 (jT yB (jv 0 rfl (vis_n (by decide+kernel))) (jv 1 rfl (jRY (by decide+kernel))) y9) j6 jV) jV)⟩
def spLdK (r:Int):Sp:=fun vs H Q E=>∃ (u:V) (C:List Int) (j:Nat),vs=[u]/\ColA H u C/\r=(j:Int)/\j<C.length/\Q (.int (absI (cA C j))) H
theorem yP {C:List Int}{j:Nat}(h:j<C.length):atI (C.map V.int) (j:Int)=some (.int (cA C j)):=by
 refine jCM ?_
 unfold cA
 rw[aY,af,ag h]
 rfl
theorem jNU (i:LdI)(T:Txt mg):Callee P w K mg base (fun s H=>ClOk cl s H/\FvOk ["row"] [.int i.r] cl s) (zhLd cl a c) 2 a (spLdK i.r):=by
 refine jPG (fv:=[.int i.r]) scLdK (fun vs H Q E h=>?_) (fun pm ctv us hl=>?_) fun A outer s H vs Q E hr h=>?_
 ·obtain⟨_,_,_,rfl,_⟩:=h
  rfl
 ·match us,hl with
  | [_],_=>rfl
 ·obtain⟨u,C,j,rfl,⟨q,rfl,hq⟩,hj,hl,h⟩:=h
  exact⟨_,(jTE T).2.h,_,rfl,_,rfl,q,_,_,_,rfl,rfl,SqL.of hq,(by rw[hj]; exact yP hl),_,rfl,h⟩
noncomputable abbrev nLed:List Str:=["columns","row","filled","done","lead","less"]
theorem scLed:FnScope nLed ["columns","row"] (j8 sLed):= {}
abbrev XLd (P:Program)(w:World)(K:W.Frag)(mg:Str->Option Value)(base:Heap)(f c0:Addr)(A:Around)(outer:List Env)(s:Shared)(H:Hp)(E:XK):Cx:=XOf nLed "led_by_one" sLed P w K mg base f (.ref c0) A outer s H E
theorem fsLd:∀ x∈(["row"]:List Str),ldSc.names.lookup x=some .free:=by decide+kernel
theorem jTT:FsAt (XLd P w K mg base f c0 A outer s H0 E) ["row"] [1]:=⟨rfl,fun k x h=>by
 match k,h with
 | 0,h=>
  cases h
  exact⟨1,rfl,rfl, .inl (show (j8 sLed).names.lookup (("row" :String):Str)=some .cell by decide+kernel)⟩
 | k+1,h=>cases h⟩
section
variable (T:Txt mg)(CH:PySem.W.CodeHd base c0 tb)(BM:BltAt base mg)(CK:Can P w K mg base "taken_off" 1 fK fdK ["column","times","other"] jDK)(CN:Can P w K mg base "nearest_times" 33 fN fdN ["entry","divisor"] jIF)(hr:Room 33 (XLd P w K mg base f c0 A outer s H0 E).A)
def ldL3: { t:TS // JSs (XLd P w K mg base f c0 A outer s H0 E) ((jKF ((jC sLed).getD 2 (.Pass ⟨0,0,0,0⟩))).drop 3) t} :=
 have nd:=scLed.nd
 have _h0:=T; have _h:=CK; have _h1:=CN; have _h2:=hr
 ⟨_,(j9 (jE (i:=2) nd rfl lL (jR jF3 (jAF (j3 (jv 4 rfl vC) j6 j4)) (kU (m:=[none,some 1]) (Nc:=["column","row"]) rfl (kT (jv 5 rfl vL)) rfl (by decide+kernel) (by decide+kernel) (jQ (psc:=j8 sLed)) (jG (N:=nLed) rfl rfl (by decide+kernel)) (fun cl C fp s H=>jN (i:=0) (show (["column","row"]:List Str).Nodup by decide+kernel) rfl yH) (fun cl C fp s H=>jAW (jJ qI (jT jA6 (jv 0 rfl jL) (jv 1 rfl kN) y9) (je_int) (jM _))) (fun cl C fp s H=>(jv 0 rfl jL)) jAG)) jE2)
   (jB (jBH (je_bm b9 PySem.F.slot_list_extend PySem.F.type_list_extend jLN (jv 3 rfl vL) (j3 (kU (m:=[none,some 1]) (Nc:=["column","row"]) rfl (kT (jv 5 rfl vL)) rfl (by decide+kernel) (by decide+kernel) (jQ (psc:=j8 sLed)) (jG (N:=nLed) rfl rfl (by decide+kernel)) (fun cl C fp s H=>jN (i:=0) (show (["column","row"]:List Str).Nodup by decide+kernel) rfl yH) (fun cl C fp s H=>jAW (jJ yW (jT jA6 (jv 0 rfl jL) (jv 1 rfl kN) y9) (je_int) (jM _))) (fun cl C fp s H=>(jv 0 rfl jL)) jAG) j6 jW) jW) jK)))⟩
def ldL2: { t:TS // JSs (XLd P w K mg base f c0 A outer s H0 E) ((jKF ((jC sLed).getD 2 (.Pass ⟨0,0,0,0⟩))).drop 2) t} :=
 have nd:=scLed.nd
 ⟨_,(j9 (jAX (i:=5) nd rfl lL ⟨by rfl⟩ (m:=[none,some 1,some 4]) (Nc:=["column","row","lead"]) rfl (kT (jDC jEU (jv 2 rfl vL) (jFC (je_int)) jFD)) rfl (by decide+kernel) (by decide+kernel) (jQ (psc:=j8 sLed)) (jG (N:=nLed) rfl rfl (by decide+kernel)) (fun cl C fp s H=>jN (i:=0) (show (["column","row","lead"]:List Str).Nodup by decide+kernel) rfl yH) (fun cl C fp s H=>kX) (fun cl C fp s H=>(CK.je (hr.mono (by decide)) gl_b (j3 (jv 0 rfl jL) (j3 (CN.je hr gl_b (j3 (jT jA6 (jv 0 rfl jL) (jv 1 rfl kN) y9) (j3 (jT jA6 (jv 2 rfl kN) (jv 1 rfl kN) y9) j6 jV) jV) jV) (j3 (jv 2 rfl kN) j6 j4) jI) j4) j4)) jEC) (ldL3 T CK CN hr).2)⟩
def ldL: { t:TS // JSs (XLd P w K mg base f c0 A outer s H0 E) (jKF ((jC sLed).getD 2 (.Pass ⟨0,0,0,0⟩))) t} :=
 have nd:=scLed.nd
 ⟨_,(j9 ((jE (i:=2) nd rfl lL (jK1 (jFN jR9 (G:=fun (i:LdI) σ=>jIH σ [1] [.int i.r]) (fun i q c=>jNU i T) (fun i ad s σ H I q=>⟨I.clOk (jQ (psc:=j8 sLed)),I.fvOk (jQ (psc:=j8 sLed)) fsLd jTT q⟩) zhLd.ext (hr.mono (by decide))) gD T.sorted (by decide+kernel) (j3 (jv 2 rfl vL) j6 j4) (jM0 (jPE rfl CH BM (jQ (psc:=j8 sLed)) rfl) jPC) j4) jK)) (j9 (jE (i:=4) nd rfl qA (jT yB (jv 2 rfl vL) (je_int) jF) jFW) (ldL2 T CK CN hr).2))⟩
def ldA: { t:TS // JSs (XLd P w K mg base f c0 A outer s H0 E) (jC sLed) t} :=
 have nd:=scLed.nd
 ⟨_,(j9 (jAX (i:=2) nd rfl lL ⟨by rfl⟩ (m:=[none,some 1]) (Nc:=["column","row"]) rfl (kT (jv 0 rfl vL)) rfl (by decide+kernel) (by decide+kernel) (jQ (psc:=j8 sLed)) (jG (N:=nLed) rfl rfl (by decide+kernel)) (fun cl C fp s H=>jN (i:=0) (show (["column","row"]:List Str).Nodup by decide+kernel) rfl yH) (fun cl C fp s H=>jAW (jJ qI (jT jA6 (jv 0 rfl jL) (jv 1 rfl kN) y9) (je_int) (jM _))) (fun cl C fp s H=>(jv 0 rfl jL)) jAG) (j9 (jAX (i:=3) nd rfl lL ⟨by rfl⟩ (m:=[none,some 1]) (Nc:=["column","row"]) rfl (kT (jv 0 rfl vL)) rfl (by decide+kernel) (by decide+kernel) (jQ (psc:=j8 sLed)) (jG (N:=nLed) rfl rfl (by decide+kernel)) (fun cl C fp s H=>jN (i:=0) (show (["column","row"]:List Str).Nodup by decide+kernel) rfl yH) (fun cl C fp s H=>jAW (jJ yW (jT jA6 (jv 0 rfl jL) (jv 1 rfl kN) y9) (je_int) (jM _))) (fun cl C fp s H=>(jv 0 rfl jL)) jAG) (j9 (jBW bx (jJ op_gt (jH jO gD T.len (by decide+kernel) (j3 (jv 2 rfl vL) j6 j4) j4) (je_int) (jM _)) (ldL T CH BM CK CN hr).2) (jB (jX (yK (j3 (jv 2 rfl vL) (j3 (jv 3 rfl vL) j6 j4) j4)))))))⟩
def spLed (tb:Addr):Sp:=fun vs H Q _=>∃ (l:Addr) (r N b:Nat) (us:List V) (cs:List (List Int)),vs=[.ref l, .int (r:Int)]/\H l=some (.lst us)/\ColsA H us cs/\us.length<=40/\(∀ c∈cs,c.length=N)/\N<=60/\r<N/\AllB (2 ^ b) cs/\4*b+10<=134217000/\TabL H tb/\
 ∀ t Fa Da fs ds Fc Dc H',H' t=some (.tup [.ref Fa, .ref Da])->H' Fa=some (.lst fs)->ColsA H' fs Fc->H' Da=some (.lst ds)->ColsA H' ds Dc->Led N r cs Fc Dc->Fc.length<=1->AllB (2 ^ (3*b+2)) (Fc++Dc)->ExtT tb H H'->TabL H' tb->H Fa=none->H Da=none->Q (.ref t) H'
theorem nzT {C:List Int}{j:Nat} :(!decide (V.int (cA C j)=V.int 0))=nzB j C:=by
 unfold nzB
 congr 1
 exact decide_eq_decide.mpr ⟨V.int.inj,bA V.int⟩
theorem zrT {C:List Int}{j:Nat} :decide (V.int (cA C j)=V.int 0)=zrB j C:=decide_eq_decide.mpr ⟨V.int.inj,bA V.int⟩
theorem jR7 {D:Ends}{H:Hp}{la L Da:Addr}{r:Nat}{lead:List Int}{zs ds:List V}{lc Dc:List (List Int)}{v0 v2:Option V}(hL:H L=some (.lst zs))(hz:ColsA H zs lc)(zl:zs.length<=40)(hlead:H la=some (.lst (lead.map V.int)))(hD:H Da=some (.lst ds))(hd:ColsA H ds Dc)(dl:ds.length<=40)(hlen:∀ c∈lc,r<c.length)(hne:∀ z∈ds,z≠ .ref Da)(hzn:∀ z∈zs,z≠ .ref Da)(hla:la≠Da)(hLD:L≠Da)
  (nx:∀ Fa fs ds' H',H' Fa=some (.lst fs)->ColsA H' fs (lead::lc.filter (nzB r))->H' Da=some (.lst ds')->ColsA H' ds' (Dc++lc.filter (zrB r))->(∀ z∈fs++ds',z≠ .ref Da)->Fa≠Da->(∀ c o,H c=some o->c≠Da->H' c=some o)->H Fa=none->D.nx [v0,some (.int (r:Int)),some (.ref Fa),some (.ref Da),some (.ref la),some (.ref L)] H'):
  (ldL3 T CK CN hr).1 D [v0,some (.int (r:Int)),v2,some (.ref Da),some (.ref la),some (.ref L)] H:=by
 refine⟨_,rfl,by show (1:Nat)<=_; decide,fun q1 H1 d1 e1 n1=>?_⟩
 refine⟨_,rfl,L,rfl,⟨_,SqL.of (e1 _ _ hL)⟩,jC1 (nzB r) (τ:=[some (.int (r:Int))]) rfl (e1 _ _ hL) (hz.ext e1) (by lia) (fun u c H' Q' hc hm q'=>?_) fun D2 fs H2 d2 hc2 e2 n2 sub=>?_⟩
 ·obtain⟨a,rfl,ha⟩:=hc
  refine⟨_,rfl,_,rfl,a,_,_,_,rfl,rfl,SqL.of ha,yP (hlen c hm),rfl,_,rfl,?_⟩
  rw[nzT]
  exact q'
 ·have E2:=e1.trans e2
  have fl:fs.length<=40:=by
   have:=All2.len hc2
   have h1:=All2.len hz
   have:=bL (nzB r) lc
   lia
  refine⟨q1,D2,_,fs,rfl,rfl,e2 _ _ d1,d2,by rw[aF]; show 1+_<=_; lia,fun F3 H3 d3 e3 n3=>?_⟩
  have E3:=E2.trans e3
  refine⟨_,rfl, .inl ⟨rfl,_,SqL.of (E3 _ _ hD)⟩,_,rfl,L,rfl,⟨_,SqL.of (E3 _ _ hL)⟩,jC1 (zrB r) (τ:=[some (.int (r:Int))]) rfl (E3 _ _ hL) (hz.ext E3) (by lia) (fun u c H' Q' hc hm q'=>?_) fun D4 gs H4 d4 hc4 e4 n4 sub4=>?_⟩
  ·obtain⟨a,rfl,ha⟩:=hc
   refine⟨_,rfl,_,rfl,a,_,_,_,rfl,rfl,SqL.of ha,yP (hlen c hm),rfl,_,rfl,?_⟩
   rw[zrT]
   exact q'
  ·have E4:=E3.trans e4
   have gl:gs.length<=40:=by
    have:=All2.len hc4
    have h1:=All2.len hz
    have:=bL (zrB r) lc
    lia
   refine⟨Da,D4,ds,gs,rfl,rfl,E4 _ _ hD,d4,by rw[aF]; lia,?_⟩
   have kk:∀ c o,H4 c=some o->c≠Da->(L2.upd H4 Da (.lst (ds++gs))) c=some o:=fun c o h n=>by rw[j7 n]; exact h
   have FD:F3≠Da:=fun z=>by rw[z,E2 _ _ hD] at n3; cases n3
   have up:∀ {us:List V}{cs:List (List Int)},ColsA H4 us cs->(∀ z∈us,z≠ .ref Da)->ColsA (L2.upd H4 Da (.lst (ds++gs))) us cs:=fun h hn=>All2.impM (fun u hu c ⟨a,e,ha⟩=>⟨a,e,kk _ _ ha fun z=>hn u hu (by rw[e,z])⟩) h
   have f1:∀ z∈fs,z≠ .ref Da:=fun z hz'=>hzn z (sub z hz')
   have g1:∀ z∈gs,z≠ .ref Da:=fun z hz'=>hzn z (sub4 z hz')
   refine nx F3 _ _ _ (kk _ _ (e4 _ _ d3) FD) ⟨⟨la,rfl,kk _ _ (E4 _ _ hlead) hla⟩,up (hc2.ext (e3.trans e4)) f1⟩ j5 (All2.append (up (hd.ext E4) hne) (up hc4 g1)) (fun z hz'=>?_) FD (fun c o h n=>kk _ _ (E4 _ _ h) n) (newOf E2 n3)
   rcases ay.mp hz' with q | q
   ·rcases aM.mp q with q | q
    ·rw[q]; exact fun z=>hla (by cases z; rfl)
    ·exact f1 z q
   ·rcases ay.mp q with q | q
    ·exact hne z q
    ·exact g1 z q
theorem cut1 (u:V)(fs:List V):cutV (u::fs) (some 1) none=fs:=by
 unfold cutV HT.sIx
 simp
theorem jGF {C:List Int}{y:Int}(h:y∈C):∃ i,y=cA C i:=by
 obtain⟨i,hi,rfl⟩:=cE h
 exact⟨i,by unfold cA; rw[af,ag hi]; rfl⟩
theorem jR8 {D:Ends}{H:Hp}{la Fa Da:Addr}{r N b:Nat}{lead:List Int}{u0:V}{fs ds:List V}{rest Dc:List (List Int)}{v0 v5:Option V}(hF:H Fa=some (.lst (u0::fs)))(hc:ColsA H fs rest)(fl:fs.length<=40)(hlead:H la=some (.lst (lead.map V.int)))(ll:lead.length=N)(rl:∀ c∈rest,c.length=N)(hN:N<=60)(hrN:r<N)(l0:cA lead r≠0)(hb:∀ c∈rest,(near (cA c r) (cA lead r)).natAbs<=2 ^ (b+2))(hlb:∀ i,(cA lead i).natAbs<=2 ^ (3*b+2))(hbb:4*b+10<=134217000)(hD:H Da=some (.lst ds))(hd:ColsA H ds Dc)(dl:ds.length<=40)(hne:∀ z∈ds,z≠ .ref Da)(hla:la≠Da)
  (nx:∀ Fa fs ds' H' v5,H' Fa=some (.lst fs)->ColsA H' fs (lead::(yQ r lead rest).filter (nzB r))->H' Da=some (.lst ds')->ColsA H' ds' (Dc++(yQ r lead rest).filter (zrB r))->(∀ z∈fs++ds',z≠ .ref Da)->Fa≠Da->(∀ c o,H c=some o->c≠Da->H' c=some o)->H Fa=none->D.nx [v0,some (.int (r:Int)),some (.ref Fa),some (.ref Da),some (.ref la),v5] H'):
  (ldL2 T CK CN hr).1 D [v0,some (.int (r:Int)),some (.ref Fa),some (.ref Da),some (.ref la),v5] H:=by
 refine⟨_,rfl,_,rfl,?_⟩
 dsimp only [jEL]
 refine⟨Fa,_,rfl,SqL.of hF,fun q1 n1=>?_⟩
 rw[cut1]
 have e1:Ext H (L2.upd H q1 (.lst fs)):=(Ext.refl _).new n1 _
 have d1:(L2.upd H q1 (.lst fs)) q1=some (.lst fs):=j5
 generalize L2.upd H q1 (.lst fs)=H1 at e1 d1
 refine⟨q1,rfl,⟨_,SqL.of d1⟩,jMR (fun c=>tkf (near (cA c r) (cA lead r)) c lead) (τ:=[some (.int (r:Int)),some (.ref la)]) rfl d1 (hc.ext e1) (by lia) (fun u c H' Q' hu hm e' q'=>?_) fun D2 zs H2 d2 hz2 e2 n2 sub=>?_⟩
 ·obtain⟨a,rfl,ha⟩:=hu
  have hl':=e' _ _ (e1 _ _ hlead)
  refine⟨_,rfl,_,rfl,_,rfl,a,_,_,_,rfl,rfl,SqL.of ha,yP (by rw[rl c hm]; exact hrN),_,rfl,_,rfl,la,_,_,_,rfl,rfl,SqL.of hl',yP (by rw[ll]; exact hrN),?_⟩
  refine⟨_,_,rfl,l0,?_⟩
  refine⟨_,rfl,a,la,_,c,lead,b+2,3*b+2,rfl,ha,hl',by rw[rl c hm]; lia,hb c hm,fun y hy=>?_,by lia,fun r2 H3 d3 e3 n3=>q' r2 H3 d3 e3 n3⟩
  obtain⟨i,rfl⟩:=jGF hy
  exact hlb i
 ·have E2:=e1.trans e2
  have el:=All2.len hz2
  rw[ab] at el
  have cl:=All2.len hc
  refine jR7 T CK CN hr d2 hz2 (by lia) (E2 _ _ hlead) (E2 _ _ hD) (hd.ext E2) dl (fun c hc'=>?_) hne (fun z hz'=>?_) hla (fun z=>by rw[z,e1 _ _ hD] at n2; cases n2) fun Fa' fs' ds' H' a1 a2 a3 a4 a5 a6 a7 a8=>nx Fa' fs' ds' H' _ a1 a2 a3 a4 a5 a6 (fun c o h n=>a7 _ _ (E2 _ _ h) n) (newOf E2 a8)
  ·obtain⟨x,hx,rfl⟩:=aZ.mp hc'
   rw[jHE (rl x hx) ll]
   exact hrN
  ·obtain⟨q,rfl,hq⟩:=sub z hz'
   exact fun z=>by cases z; rw[e1 _ _ hD] at hq; cases hq
theorem LInv.row {r b m N:Nat}{cs F Dc:List (List Int)}(h:LInv r (2 ^ b) F Dc m)(l:Led N r cs F Dc):∀ c∈F,(cA c r).natAbs<=2*2 ^ b:=fun c cF=>by
 have p1:=jD6 b
 rcases h with ⟨_,h⟩ | ⟨lead0,rest0,X,rfl,rfl,hr,hX,hb⟩
 ·have:=h c (ax _ cF) r
  lia
 ·have le0:(cA c r).natAbs<=(cA lead0 r).natAbs:=by
   rcases aM.mp cF with rfl | q
   ·exact ai _
   ·have:=hr c q; lia
  have xe:(cA lead0 r).natAbs<=X:=hX lead0 (by simp) r
  refine aX le0 ?_
  generalize (cA lead0 r).natAbs=e at*
  generalize 2 ^ b=A at*
  refine Nat.le_of_not_lt fun hlt=>?_
  have a1:(2*A)*((2*A)*(2*A))<=X*(e*e):=cg (by lia) (cg (by lia) (by lia))
  have a2:(2*A)*((2*A)*(2*A))=8*(A*(A*A)):=by grind
  have a3:1*(1*1)<=A*(A*A):=cg p1 (cg p1 p1)
  lia
theorem jR2 {r b m N:Nat}{cs F Dc rest:List (List Int)}{lead:List Int}(h:LInv r (2 ^ b) F Dc m)(l:Led N r cs F Dc)(hp:(lead::rest).Perm F):∀ c∈rest,(near (cA c r) (cA lead r)).natAbs<=2 ^ (b+2):=fun c hc=>by
 have hm:∀ c,c∈lead::rest↔c∈F:=fun c=>hp.mem_iff
 have h0:=l.fz lead ((hm lead).mp (ar ..))
 have h1:=h.row l lead ((hm lead).mp (ar ..))
 have h2:=h.row l c ((hm c).mp (az _ hc))
 have hn:=(jHP (cA c r) (cA lead r) h0).2
 have d1:1<=(cA lead r).natAbs:=by lia
 have t1:(near (cA c r) (cA lead r)).natAbs*1<=(near (cA c r) (cA lead r)).natAbs*(cA lead r).natAbs:=bG _ d1
 rw[iY,iY]
 lia
theorem lex1 {i j:Int}(h:HT.lexLt [i] [j]=false):j<=i:=by
 rw[HT.lexLt_cons] at h
 split at h
 ·lia
 ·have:=eS h
  lia
theorem jHV {D:Ends}{H:Hp}{Fa Da:Addr}{r N b m:Nat}{fs ds:List V}{cs Fc Dc:List (List Int)}{v0 v4 v5:Option V}(hF:H Fa=some (.lst fs))(hc:ColsA H fs Fc)(hD:H Da=some (.lst ds))(hd:ColsA H ds Dc)(l:Led N r cs Fc Dc)(li:LInv r (2 ^ b) Fc Dc m)(cl:cs.length<=40)(hN:N<=60)(hrN:r<N)(hbb:4*b+10<=134217000)(hne:∀ z∈fs++ds,z≠ .ref Da)(FD:Fa≠Da)(tab:TabL H tb)(two:1<fs.length)
  (nx:∀ m' Fa' fs' ds' Fc' Dc' H' v4 v5,m'<m->H' Fa'=some (.lst fs')->ColsA H' fs' Fc'->H' Da=some (.lst ds')->ColsA H' ds' Dc'->Led N r cs Fc' Dc'->LInv r (2 ^ b) Fc' Dc' m'->(∀ z∈fs'++ds',z≠ .ref Da)->Fa'≠Da->TabL H' tb->(∀ c o,H c=some o->c≠Da->c≠tb->H' c=some o)->H Fa'=none->D.nx [v0,some (.int (r:Int)),some (.ref Fa'),some (.ref Da),v4,v5] H'):
  (ldL T CH BM CK CN hr).1 D [v0,some (.int (r:Int)),some (.ref Fa),some (.ref Da),v4,v5] H:=by
 have nt:∀ {c:Addr}{xs:List V},H c=some (.lst xs)->c≠tb:=fun {c xs} h z=>by
  rcases tab with q | ⟨_,q,_⟩ <;> (rw[z,q] at h; cases h)
 refine⟨_,rfl,tab,fun q1 c1 H5 k1 k2 k3 e5 n5=>?_⟩
 have tab5:TabL H5 tb:= .inr ⟨c1,k3,k2⟩
 have up5:∀ {us:List V}{cs:List (List Int)},ColsA H us cs->ColsA H5 us cs:=fun h=>h.imp fun u c ⟨a,e,ha⟩=>⟨a,e,e5 _ _ ha (nt ha)⟩
 have hF5:=e5 _ _ hF (nt hF)
 have hD5:=e5 _ _ hD (nt hD)
 have hc5:=up5 hc
 have hd5:=up5 hd
 obtain⟨bk1,bk2⟩:=hc5.back
 have fl:=All2.len hc
 have dl:=All2.len hd
 have cnt:=l.cnt
 have inF:∀ v∈fs,colV H5 v∈Fc:=fun v hv=>by rw[<- bk1]; exact cH hv
 refine⟨Fa,fs,q1,c1,fun v=> [absI (cA (colV H5 v) r)],⟨(r:Int)⟩,rfl,rfl,rfl,SqL.of hF5,⟨k1,k2⟩,fun v hv=>let ⟨a,e,_⟩:=bk2 v hv; ⟨a,e⟩,fun v hv H6 Q6 e6 k6=>?_,fun F6 us' H6 nl pm pw e6 d6=>?_⟩
 ·exact⟨v,colV H5 v,r,rfl,(bk2 v hv).ext e6,rfl,by rw[l.len _ (ax _ (inF v hv))]; exact hrN,k6 _ _ ⟨_,rfl,rfl⟩ (Ext.refl _)⟩
 ·have ul:=pm.length_eq
  obtain⟨u0,rest',rfl⟩:∃ u0 rest',us'=u0::rest':=by
   cases us' with
   | nil=>simp at ul; lia
   | cons a b=>exact⟨a,b,rfl⟩
  have mem':∀ v∈u0::rest',v∈fs:=fun v hv=>pm.mem_iff.mp hv
  obtain⟨la,rfl,hla⟩:=bk2 u0 (mem' _ (ar ..))
  have pmc:(colV H5 (.ref la)::rest'.map (colV H5)).Perm Fc:=by
   have:=pm.map (colV H5)
   rw[bk1] at this
   exact this
  generalize hlead:colV H5 (.ref la)=lead at hla pmc
  have lF:lead∈Fc:=pmc.mem_iff.mp (ar ..)
  have hmin:∀ c∈rest'.map (colV H5),(cA lead r).natAbs<=(cA c r).natAbs:=fun c hc'=>by
   obtain⟨v,hv,rfl⟩:=aZ.mp hc'
   have:=lex1 ((dO.mp pw).1 v hv)
   rw[hlead,jJD,jJD] at this
   lia
  have rne:rest'.map (colV H5)≠ []:=fun z=>by
   have:=bA List.length z
   simp at this
   rw[this] at ul
   simp at ul
   lia
  obtain⟨li',lt'⟩:=li.step l pmc hmin rne
  have l':=l.step pmc
  have hla6:=e6 _ _ hla
  have hD6:=e6 _ _ hD5
  have hc6:ColsA H6 rest' (rest'.map (colV H5)):=ColsA.ext (ColsA.of fun v hv=>bk2 v (mem' v (az _ hv))) e6
  have lD:la≠Da:=fun z=>hne (.ref la) (ax _ (mem' _ (ar ..))) (by rw[z])
  rw[aW] at ul
  refine⟨_,rfl,F6,_,0, .ref la,rfl,rfl,SqL.of d6,jCM (xs:=V.ref la::rest') (j:=0) rfl,?_⟩
  refine jR8 T CK CN hr d6 hc6 (by lia) hla6 (l.len lead (ax _ lF)) (fun c hc'=>l.len c (ax _ (pmc.mem_iff.mp (az _ hc')))) hN hrN (l.fz lead lF) (jR2 li l pmc) (fun i=>aX (li.big l (jD6 b) lead (ax _ lF) i) (jIM b)) hbb hD6 (hd5.ext e6) (by lia) (fun z hz=>hne z (aq _ hz)) lD fun Fa' fs' ds' H' v5 a1 a2 a3 a4 a5 a6 a7 a8=>?_
  refine nx _ Fa' fs' ds' _ _ H' _ _ lt' a1 a2 a3 a4 l' li' a5 a6 ?_ (fun c o h n1 n2=>a7 _ _ (e6 _ _ (e5 _ _ h n2)) n1) ?_
  case refine_2=>
   cases hz:H Fa' with
   | none=>rfl
   | some o=>
    by_cases z:Fa'=tb
    ·rw[z] at a8
     rcases tab5 with q | ⟨c,q,q'⟩ <;> (rw[e6 _ _ q] at a8; cases a8)
    ·rw[e6 _ _ (e5 _ _ hz z)] at a8; cases a8
  rcases tab5 with q | ⟨c,q,q'⟩
  ·exact .inl (a7 _ _ (e6 _ _ q) fun z=>by rw[z,hD5] at q; cases q)
  ·exact .inr ⟨c,a7 _ _ (e6 _ _ q) (fun z=>by rw[z,hD5] at q; cases q),a7 _ _ (e6 _ _ q') fun z=>by rw[z,hD5] at q'; cases q'⟩
end
theorem jT3 {fd:FuncData}(F:FunC K "led_by_one" "led_by_one" sLed f fd c0)(T:Txt mg)(CH:PySem.W.CodeHd base c0 tb)(BM:BltAt base mg)(CK:Can P w K mg base "taken_off" 1 fK fdK ["column","times","other"] jDK)(CN:Can P w K mg base "nearest_times" 33 fN fdN ["entry","divisor"] jIF):FnOk P w K mg base CX0 34 f fd ["columns","row"] (spLed tb):=by
 refine F.ok scLed (fun vs H Q E h=>?_) (fun A outer s H vs Q E hr h=>?_)
 ·obtain⟨_,_,_,_,_,_,rfl,_⟩:=h
  rfl
 ·obtain⟨la,r,N,b,us,cs,rfl,hl,hc,ul,hN,N60,hrN,hB,hbb,tab,q⟩:=h
  have cl:=All2.len hc
  refine⟨_,(ldA T CH BM CK CN hr).2.h,?_⟩
  have tst:∀ (p:List Int->Bool) (rel:List Int->Bool),True:=fun _ _=>trivial
  refine⟨_,rfl,la,rfl,⟨_,SqL.of hl⟩,jC1 (nzB r) (τ:=[some (.int (r:Int))]) rfl hl hc (by lia) (fun u c H' Q' hc' hm q'=>?_) fun F1 fs H1 d1 hc1 e1 n1 sub1=>?_⟩
  ·obtain⟨a,rfl,ha⟩:=hc'
   refine⟨_,rfl,_,rfl,a,_,_,_,rfl,rfl,SqL.of ha,yP (by rw[hN c hm]; exact hrN),rfl,_,rfl,?_⟩
   rw[nzT]
   exact q'
  ·refine⟨_,rfl,la,rfl,⟨_,SqL.of (e1 _ _ hl)⟩,jC1 (zrB r) (τ:=[some (.int (r:Int))]) rfl (e1 _ _ hl) (hc.ext e1) (by lia) (fun u c H' Q' hc' hm q'=>?_) fun D1 ds H2 d2 hc2 e2 n2 sub2=>?_⟩
   ·obtain⟨a,rfl,ha⟩:=hc'
    refine⟨_,rfl,_,rfl,a,_,_,_,rfl,rfl,SqL.of ha,yP (by rw[hN c hm]; exact hrN),rfl,_,rfl,?_⟩
    rw[zrT]
    exact q'
   ·have E2:=e1.trans e2
    have nD:H D1=none:=newOf e1 n2
    have notD:∀ z∈us,z≠ .ref D1:=fun z hz e=>by
     obtain⟨i,hi⟩:=bI hz
     obtain⟨c,_,a,rfl,ha⟩:=All2.get' hc hi
     cases e
     rw[nD] at ha; cases ha
    refine⟨fun m σ H'=>∃ Fa fs ds Fc Dc v4 v5,σ=[some (.ref la),some (.int (r:Int)),some (.ref Fa),some (.ref D1),v4,v5]/\H' Fa=some (.lst fs)/\ColsA H' fs Fc/\H' D1=some (.lst ds)/\ColsA H' ds Dc/\Led N r cs Fc Dc/\LInv r (2 ^ b) Fc Dc m/\(∀ z∈fs++ds,z≠ .ref D1)/\Fa≠D1/\TabL H' tb/\H Fa=none/\∀ c o,H c=some o->c≠tb->H' c=some o,⟨2 ^ b+1,F1,fs,ds,_,_,_,_,rfl,e2 _ _ d1,hc1.ext e2,d2,hc2,Led.first hN, .inl ⟨rfl,fun c hc'=>hB c (mem_parts.mp hc')⟩,fun z hz=>?_,fun z=>(by rw[z,n2] at d1; cases d1),tab.ext E2,n1,fun c o h _=>E2 _ _ h⟩,?_⟩
    ·rcases ay.mp hz with z' | z'
     ·exact notD z (sub1 z z')
     ·exact notD z (sub2 z z')
    ·rintro m σ H3 ⟨Fa,fs,ds,Fc,Dc,v4,v5,rfl,hF,hcF,hD,hcD,led,linv,hne,FD,tab3,nF,kp⟩
     have l1:=All2.len hcF
     have l2:=led.cnt
     refine⟨_,rfl,Fa,_,rfl, .inl (SqL.of hF),_,_,rfl,rfl,_,rfl,ite2 (fun h=>?_) (fun h=>?_)⟩
     ·have h:(1:Int)<fs.length:=aP h
      refine⟨fun σ' H'=>∃ m',m'<m/\∃ Fa fs ds Fc Dc v4 v5,σ'=[some (.ref la),some (.int (r:Int)),some (.ref Fa),some (.ref D1),v4,v5]/\H' Fa=some (.lst fs)/\ColsA H' fs Fc/\H' D1=some (.lst ds)/\ColsA H' ds Dc/\Led N r cs Fc Dc/\LInv r (2 ^ b) Fc Dc m'/\(∀ z∈fs++ds,z≠ .ref D1)/\Fa≠D1/\TabL H' tb/\H Fa=none/\∀ c o,H c=some o->c≠tb->H' c=some o,fun σ' H' ⟨m',a,b⟩=>⟨m',a,b⟩,?_⟩
      refine jHV T CH BM CK CN hr hF hcF hD hcD led linv (by lia) N60 hrN hbb hne FD tab3 (by lia) fun m' Fa' fs' ds' Fc' Dc' H4 v4 v5 a0 a1 a2 a3 a4 a5 a6 a7 a8 a9 aA aB=>⟨m',a0,Fa',fs',ds',Fc',Dc',v4,v5,rfl,a1,a2,a3,a4,a5,a6,a7,a8,a9,?_,fun c o h n=>aA _ _ (kp _ _ h n) (fun z=>by rw[z,nD] at h; cases h) n⟩
      cases hz:H Fa' with
      | none=>rfl
      | some o=>
       by_cases z:Fa'=tb
       ·rw[z] at aB
        rcases tab3 with q | ⟨c,q,q'⟩ <;> (rw[q] at aB; cases aB)
       ·rw[kp _ _ hz z] at aB; cases aB
     ·have h:¬ (1:Int)<fs.length:=fun z=>h (aw z)
      refine⟨_,rfl,_,rfl,by show (2:Nat)<=_; decide,fun t H4 d4 e4=>?_⟩
      exact q t Fa D1 fs ds Fc Dc H4 d4 (e4 _ _ hF) (hcF.ext e4) (e4 _ _ hD) (hcD.ext e4) led (by lia) (linv.big led (jD6 b)).up (fun c o h n=>e4 _ _ (kp _ _ h n)) (tab3.ext e4) nF nD
theorem jI8 (i:Int):(if i<0 then -i else i)=((i.natAbs:Nat):Int):=by split <;> lia
noncomputable abbrev nGcd:List Str:=["one","other","rest"]
theorem scGcd:FnScope nGcd ["one","other"] (j8 sGcd):= {}
def spGcd:Sp:=fun vs H Q _=>∃ a b:Nat,vs=[.int (a:Int), .int (b:Int)]/\Q (.int ((Nat.gcd a b:Nat):Int)) H
def gcdA: { t:TS // JSs (XOf nGcd "common_divisor" sGcd P w K mg base f cdv A outer s H0 E) (jC sGcd) t} :=
 have nd:=scGcd.nd
 ⟨_,(j9 (jBW bx (jJ qI (jv 1 rfl vL) (je_int) (jM _)) (j9 (jE (i:=2) nd rfl lL (jR jCY (jv 0 rfl vL) (jv 1 rfl vL)) jE2)
   (j9 (jE (i:=0) nd rfl lL (jv 1 rfl vL) jHF)
   (jB (jE (i:=1) nd rfl lL (jv 2 rfl vL) jHF)))))
   (jB (jX (jv 0 rfl vL))))⟩
theorem jT6 {fd:FuncData}(F:Fun K "common_divisor" "common_divisor" sGcd f fd):FnOk P w K mg base CX0 1 f fd ["one","other"] spGcd:=by
 refine F.ok scGcd (fun vs H Q E h=>?_) (fun cdv A outer s H vs Q E hr h=>?_)
 ·obtain⟨_,_,rfl,_⟩:=h
  rfl
 ·obtain⟨a,b,rfl,q⟩:=h
  refine⟨_,gcdA.2.h,?_⟩
  refine⟨fun m σ H'=>∃ (a' b':Nat) (v2:Option V),σ=[some (.int (a':Int)),some (.int (b':Int)),v2]/\H'=H/\Nat.gcd a' b'=Nat.gcd a b/\m=b',⟨b,a,b,none,rfl,rfl,rfl,rfl⟩,?_⟩
  rintro m σ H' ⟨a',b',v2,rfl,rfl,hg,rfl⟩
  refine⟨_,rfl,rfl,_,rfl,?_⟩
  by_cases hb:m=0
  ·subst hb
   refine iteNS rfl ⟨_,rfl,?_⟩
   rw[Nat.gcd_zero_right] at hg
   rw[hg]
   exact q
  ·have hne:¬ V.int (m:Int)=V.int 0:=fun e=>hb (by have:=V.int.inj e; lia)
   refine iteT' (by rw[aH hne]; rfl) ⟨fun σ' H'=>∃ (a' b':Nat) (v2:Option V),σ'=[some (.int (a':Int)),some (.int (b':Int)),v2]/\H'=_/\Nat.gcd a' b'=Nat.gcd a b/\b'<m,fun σ' H' ⟨a',b',v2,e1,e2,e3,e4⟩=>⟨b',e4,a',b',v2,e1,e2,e3,rfl⟩,?_⟩
   refine⟨_,rfl,_,rfl,_,_,rfl,rfl,(by show (0:Int)<(m:Int); lia),_,rfl,_,rfl,?_⟩
   refine⟨m,a' % m,some (.int ((a' % m:Nat):Int)),?_,rfl,?_,Nat.mod_lt _ (by lia)⟩
   ·show [some (V.int (m:Int)),some (V.int ((a':Int) % (m:Int))),some (V.int ((a':Int) % (m:Int)))]=_
    rw[Int.natCast_emod]
   ·rw[Nat.gcd_comm m,<- Nat.gcd_rec,Nat.gcd_comm,hg]
def LeadA (H:Hp)(v:V)(pc:Nat×List Int):Prop:=∃ a q,v= .ref a/\H a=some (.tup [.int (pc.1:Int), .ref q])/\H q=some (.lst (pc.2.map V.int))
theorem jRR {n:Nat}{ys C:List Int}(hy:ys.length=n)(hC:n<=C.length):(zipWith (fun x y=>x*y) ys C).sum=Lf n (cA ys) C:=by
 have key:∀ q,q<=n->((zipWith (fun x y=>x*y) ys C).take q).sum=sxS q fun j=>cA ys j*cA C j:=by
  intro q
  induction q with
  | zero=>intro _; rfl
  | succ q ih=>
   intro hq
   have h1:(zipWith (fun x y=>x*y) ys C)[q]?=some (cA ys q*cA C q):=by
    rw[dS,ag (by lia),ag (by lia)]
    unfold cA
    rw[af,af,ag (by lia),ag (by lia)]
    rfl
   rw[be,h1,eV,ih (by lia)]
   show _=sxS q _+_
   simp
 have:=key n (ai _)
 rwa [bC (by rw[eG]; lia)] at this
theorem NI.first {n row:Nat}{L:List (Nat×List Int)}(hL:∀ pc∈L,pc.1<row)(hr:row<n):NI n row [] L ((List.range n).map fun o=>if o=row then (1:Int) else 0):=by
 have e:∀ i,cA ((List.range n).map fun o=>if o=row then (1:Int) else 0) i=if i=row then 1 else 0:=fun i=>by
  by_cases h:i<n
  ·rw[jJC _ _ 0 (by rw[bv]; exact h),af,cV h]
   rfl
  ·rw[jPL (by rw[ab,bv]; lia),aj (by lia)]
 refine⟨by rw[ab,bv],fun j hj=>(by rw[e,aj (by lia)]),(by rw[e,ak rfl]; decide),(fun pc h=>by cases h),(fun pc h=>by rw[e,aj (by have:=hL pc h; lia)]),fun i=>?_⟩
 rw[e]
 split <;> decide
noncomputable abbrev nNums:List Str:=["musts","row","leads","numbers","place","column","rest","divisor"]
theorem scNums:FnScope nNums ["musts","row","leads"] (j8 qF):= {}
abbrev XNu (P:Program)(w:World)(K:W.Frag)(mg:Str->Option Value)(base:Heap)(f:Addr)(cdv:Value)(A:Around)(outer:List Env)(s:Shared)(H:Hp)(E:XK):Cx:=XOf nNums "numbers_of_row" qF P w K mg base f cdv A outer s H E
section
variable (T:Txt mg)(CG:Can P w K mg base "common_divisor" 1 fG fdG ["one","other"] spGcd)(PY:Pyl (XNu P w K mg base f cdv A outer s H0 E))(hr:Room 32 (XNu P w K mg base f cdv A outer s H0 E).A)
def nuL: { t:TS // JSs (XNu P w K mg base f cdv A outer s H0 E) (yT ((jC qF).getD 1 (.Pass ⟨0,0,0,0⟩))) t} :=
 have nd:=scNums.nd
 have _h0:=T; have _h:=CG; have _h1:=PY; have _h2:=hr
 ⟨_,(j9 (jE (i:=6) nd rfl lL (jH (jAP rfl) gD T.sum (by decide+kernel) (j3 (kU (m:=[none,none]) (Nc:=["number","entry"]) rfl (jGN gD T.zip (j3 (jv 3 rfl vL) (j3 (jv 5 rfl vC) j6 j4) j4) j4) rfl (by decide+kernel) (by decide+kernel) (jQ (psc:=j8 qF)) (jG (N:=nNums) rfl rfl (by decide+kernel)) (fun cl C fp s H=>jAB (i:=0) (j:=1) rfl (show (["number","entry"]:List Str).Nodup by decide+kernel) rfl rfl (by decide+kernel) (by decide+kernel)) (fun cl C fp s H=>kX) (fun cl C fp s H=>(jR jF1 (jv 0 rfl jL) (jv 1 rfl jL))) kI) j6 jW) jW) jK)
   (j9 (jE (i:=7) nd rfl qA (CG.je (hr.mono (by decide)) gD (j3 (jH jDD gD T.abs (by decide+kernel) (j3 (jv 6 rfl vL) j6 j4) j4) (j3 (jH jDD gD T.abs (by decide+kernel) (j3 (jT yB (jv 5 rfl vC) (jv 4 rfl vC) y9) j6 jV) jV) j6 jI) jI) jI) jK)
   (j9 (jAX (i:=3) nd rfl lL ⟨by rfl⟩ (m:=[none,some 5,some 4,some 7]) (Nc:=["number","column","place","divisor"]) rfl (kT (jv 3 rfl vL)) rfl (by decide+kernel) (by decide+kernel) (jQ (psc:=j8 qF)) (jG (N:=nNums) rfl rfl (by decide+kernel)) (fun cl C fp s H=>jN (i:=0) (show (["number","column","place","divisor"]:List Str).Nodup by decide+kernel) rfl yH) (fun cl C fp s H=>kX) (fun cl C fp s H=>(jR jF1 (jv 0 rfl jL) (jR (jD7 (Pyl.blk PY)) (jT jA6 (jv 1 rfl kN) (jv 2 rfl kN) y9) (jv 3 rfl kN)))) jAG)
   (jB (jPB (jR (jD7 PY) (je_un jKH (jv 6 rfl vL)) (jv 7 rfl vC)) (jPD (jv 3 rfl vL) (jv 4 rfl vC) jEV))))))⟩
def nuA: { t:TS // JSs (XNu P w K mg base f cdv A outer s H0 E) (jC qF) t} :=
 have nd:=scNums.nd
 ⟨_,(j9 (jAX (i:=3) nd rfl lL ⟨by rfl⟩ (m:=[none,some 1]) (Nc:=["place","row"]) rfl (jA2 gD T.range (j3 (jH jO gD T.len (by decide+kernel) (j3 (jv 0 rfl vL) j6 j4) j4) j6 jI) jI) rfl (by decide+kernel) (by decide+kernel) (jQ (psc:=j8 qF)) (jG (N:=nNums) rfl rfl (by decide+kernel)) (fun cl C fp s H=>jN (i:=0) (show (["place","row"]:List Str).Nodup by decide+kernel) rfl yH) (fun cl C fp s H=>kX) (fun cl C fp s H=>(jEA (jJ yW (jv 0 rfl jL) (jv 1 rfl kN) (jM _)) (je_int) (je_int))) kI) (j9 (yO bx rfl (jTK gD T.reversed (j3 (jv 2 rfl vL) j6 j4) j4) (jIY (i:=4) (j:=5) nd rfl rfl qA qA) (nuL T CG PY hr).2 kI) (jB (jX (jv 3 rfl vL)))))⟩
theorem jNY {D:Ends}{H:Hp}{N:Nat}{nl q:Addr}{n row p:Nat}{S R:List (Nat×List Int)}{ys c:List Int}{v0 v1 v2 v6 v7:Option V}(hn:H nl=some (.lst (ys.map V.int)))(hq:H q=some (.lst (c.map V.int)))(cl:c.length=N)(hN:N<=60)(nN:n<=N)(ni:NI n row S (R++[(p,c)]) ys)(hrow:row<n)(hn16:n<=16)(hp:p<row)(hc:cA c p≠0)(srt:((R++[(p,c)]++S).map Prod.fst).Pairwise (· < ·))(hz:∀ pc∈S,∀ j,j<pc.1->cA pc.2 j=0)
  (hb:∀ i,(cA c i).natAbs<=2 ^ bR (p+1)) (big:zsL S+bR (p+1)+4<=60000000)
  (nx:∀ nl' ys' H' v6 v7,H' nl'=some (.lst (ys'.map V.int))->NI n row ((p,c)::S) R ys'->Ext H H'->H nl'=none->D.nx [v0,v1,v2,some (.ref nl'),some (.int (p:Int)),some (.ref q),v6,v7] H'):
  (nuL T CG PY hr).1 D [v0,v1,v2,some (.ref nl),some (.int (p:Int)),some (.ref q),v6,v7] H:=by
 have yl:=ni.len
 refine⟨_,rfl,_,rfl,false,false,nl,q,rfl,⟨_,SqL.of hn⟩,⟨_,SqL.of hq⟩,jMO (τ:=[]) (fun x y=>x*y) rfl hn hq (by lia) (fun x y H' Q' hx hy q'=>?_) fun D1 H1 d1 e1 n1=>?_⟩
 ·obtain⟨i,rfl⟩:=jGF hx
  obtain⟨j,rfl⟩:=jGF hy
  exact⟨_,rfl,_,rfl,_,_,rfl,rfl,⟨zsL S,bR (p+1),ni.bnd i,hb j,by lia⟩,q'⟩
 ·refine⟨D1,_,rfl,SqL.of d1,?_⟩
  rw[jRR yl (by lia)]
  have hq1:=e1 _ _ hq
  refine⟨_,rfl,_,rfl,?_⟩
  rw[jI8]
  refine⟨_,rfl,_,rfl,q,_,_,_,rfl,rfl,SqL.of hq1,yP (by lia),_,rfl,?_⟩
  rw[jI8]
  refine⟨_,_,rfl,?_⟩
  have g0:(0:Int)<((Nat.gcd (Lf n (cA ys) c).natAbs (cA c p).natAbs:Nat):Int):=by
   have:0<Nat.gcd (Lf n (cA ys) c).natAbs (cA c p).natAbs:=Nat.gcd_pos_of_pos_right _ (by lia)
   lia
  have g1:((Nat.gcd (Lf n (cA ys) c).natAbs (cA c p).natAbs:Nat):Int)∣Lf n (cA ys) c:=ij.mpr (Nat.gcd_dvd_left _ _)
  have g2:((Nat.gcd (Lf n (cA ys) c).natAbs (cA c p).natAbs:Nat):Int)∣cA c p:=ij.mpr (Nat.gcd_dvd_right _ _)
  generalize ((Nat.gcd (Lf n (cA ys) c).natAbs (cA c p).natAbs:Nat):Int)=g at g0 g1 g2
  obtain⟨_,st⟩:=ni.step hrow hn16 hp hc srt hz hb g0 g1 g2
  have qb:Bt (bR (p+1)) ((cA c p).fdiv g):=by
   have x1:(cA c p).fdiv g*g=cA c p:=fu g2
   have h1:=hb p
   have h2:((cA c p).fdiv g).natAbs*1<=((cA c p).fdiv g).natAbs*g.natAbs:=bG _ (by lia)
   rw[<- di,x1,Nat.mul_one] at h2
   exact aX h2 h1
  refine⟨_,rfl,nl,rfl,⟨_,SqL.of (e1 _ _ hn)⟩,jA8 (xs:=ys.map V.int) (fun σ=>∃ v,σ=[v,some (.ref q),some (.int (p:Int)),some (.int g)]) (mapZ ys fun x=>V.int (x*(cA c p).fdiv g)) (mapZ.ok _ _) (e1 _ _ hn) (by rw[ab,aF]; lia) ⟨_,rfl⟩ ?_ ?_⟩
  ·rintro j x σ' H2 zs hx ⟨v,rfl⟩ e2 hz2 S1 S2 y1 n2
   obtain⟨x,hx',rfl⟩:=int_at hx
   dsimp only [kQ,yG]
   rw[ak rfl]
   obtain⟨i,ei⟩:=jGF (aC hx')
   refine⟨_,rfl,_,rfl,_,rfl,q,_,_,_,rfl,rfl,SqL.of (e2 _ _ hq1),yP (by lia),_,rfl,_,_,rfl,rfl,(by lia),_,_,rfl,rfl,⟨zsL S,bR (p+1),by rw[ei]; exact ni.bnd i,qb,by lia⟩,?_⟩
   exact y1 _ _ _ ⟨_,rfl⟩ (Ext.refl _) (hz2.yes hx')
  ·rintro D2 H2 zs h2 e2 n2 hz2
   have hz2:=hz2.all (by rw[ab]; exact ai _)
   have e0:zs=(ys.map fun x=>x*(cA c p).fdiv g).map V.int:=by rw[hz2,bN]; rfl
   rw[e0] at h2
   refine⟨_,rfl,_,rfl,_,rfl,_,_,rfl,rfl,(by lia),_,rfl,_,rfl,D2,_,_,p,rfl,rfl,h2,?_,?_⟩
   ·unfold ixN
    rw[ak (by lia),ak (by rw[ab,ab]; lia)]
    rfl
   ·rw[<- map_set]
    refine nx D2 _ _ _ _ j5 st (fun b o h=>?_) (newOf e1 n2)
    rw[j7 (fun z=>by rw[z,newOf e1 n2] at h; cases h)]
    exact e2 _ _ (e1 _ _ h)
end
structure LeadsOk (n N row:Nat)(L:List (Nat×List Int)):Prop where
 len:∀ pc∈L,pc.2.length=N
 at_:∀ pc∈L,pc.1<row/\cA pc.2 pc.1≠0/\∀ j,j<pc.1->cA pc.2 j=0
 srt:(L.map Prod.fst).Pairwise (· < ·)
 bl:∀ pc∈L,∀ i,(cA pc.2 i).natAbs<=2 ^ bR (pc.1+1)
 bz:zsL L<=50000000
theorem jKA (L L':List (Nat×List Int)):zsL (L++L')=zsL L+zsL L':=by unfold zsL; rw[aQ,eV]
def jIE:Sp:=fun vs H Q _=>∃ (m la:Addr) (n N row:Nat) (mu:List Int) (lvs:List V) (L:List (Nat×List Int)),vs=[.ref m, .int (row:Int), .ref la]/\H m=some (.lst (mu.map V.int))/\mu.length=n/\H la=some (.lst lvs)/\All2 (LeadA H) lvs L/\lvs.length<=16/\row<n/\n<=16/\n<=N/\N<=60/\LeadsOk n N row L/\∀ l ys H',H' l=some (.lst (ys.map V.int))->NI n row L [] ys->Ext H H'->H l=none->Q (.ref l) H'
theorem jQS {fd:FuncData}(F:Fun K "numbers_of_row" "numbers_of_row" qF f fd)(T:Txt mg)(S:SeerK P K mg)(CG:Can P w K mg base "common_divisor" 1 fG fdG ["one","other"] spGcd):FnOk P w K mg base CX0 33 f fd ["musts","row","leads"] jIE:=by
 refine F.ok scNums (fun vs H Q E h=>?_) (fun cdv A outer s H vs Q E hr h=>?_)
 ·obtain⟨_,_,_,_,_,_,_,_,rfl,_⟩:=h
  rfl
 ·obtain⟨m,la,n,N,row,mu,lvs,L,rfl,hm,ml,hla,hL,ll,hrow,n16,nN,hN,ok,k⟩:=h
  have PY:=pylOf (f:=f) (cdv:=cdv) (A:=A) (outer:=outer) (s:=s) (H0:=H) (E:=E) (N:=nNums) (q:= "numbers_of_row") (st:=qF) (w:=w) (base:=base) S hr rfl rfl
  have le:=All2.len hL
  refine⟨_,(nuA T CG PY hr).2.h,?_⟩
  refine⟨_,rfl,m,_,rfl, .inl (SqL.of hm),(n:Int),by rw[ab,ml],?_,?_,jFM (n:=n) (fun σ=>∃ v,σ=[v,some (.int (row:Int))]) (mapZ (List.range n) fun o=>V.int (if o=row then 1 else 0)) (mapZ.ok _ _) (by rw[aF]; lia) ⟨_,rfl⟩ ?_ ?_⟩
  ·lia
  ·lia
  ·rintro j σ' H1 zs hj ⟨v,rfl⟩ e1 hz S1 S2 y1 n1
   have e0:(0+(j:Int))=(j:Int):=by lia
   rw[e0]
   dsimp only [kQ,yG]
   rw[ak rfl]
   have hjr:(List.range n)[j]?=some j:=cV hj
   refine⟨_,rfl,_,rfl,rfl,_,rfl,ite2 (fun h=>?_) (fun h=>?_)⟩
   ·have h:j=row:=by have:=V.int.inj (aP h); lia
    exact y1 _ _ _ ⟨_,rfl⟩ (Ext.refl _) (hz.yesV hjr (bA V.int (ak h)))
   ·have h:j≠row:=fun z=>h (aw (by rw[z]))
    exact y1 _ _ _ ⟨_,rfl⟩ (Ext.refl _) (hz.yesV hjr (bA V.int (aj h)))
  ·rintro D1 H1 zs h1 e1 n1 hz
   have hz:=hz.all (by rw[bv]; exact ai _)
   have h1':H1 D1=some (.lst ((((List.range n).map fun o=>if o=row then (1:Int) else 0)).map V.int)):=by rw[h1,hz,bN]; rfl
   refine⟨_,rfl,la,lvs,rfl,SqL.of (e1 _ _ hla),jRJ (xs:=lvs) (fun i σ H'=>Ext H H'/\∃ nl ys v4 v5 v6 v7,σ=[some (.ref m),some (.int (row:Int)),some (.ref la),some (.ref nl),v4,v5,v6,v7]/\H' nl=some (.lst (ys.map V.int))/\NI n row (L.drop (L.length - i)) (L.take (L.length - i)) ys/\H nl=none) ⟨e1,D1,_,_,_,_,_,rfl,h1',?_,n1⟩ (fun i σ H' _ ⟨e,_⟩=>SqL.of (e _ _ hla)) ?_ ?_⟩
   ·rw[lg,List.drop_length,bP]
    exact NI.first (fun pc h=>(ok.at_ pc h).1) hrow
   ·rintro i x σ H2 hi hx ⟨e2,nl,ys,v4,v5,v6,v7,rfl,hn,ni,nn⟩
    obtain⟨pc,hpc,a,q,rfl,ha,hq⟩:=All2.get' hL hx
    rw[le] at hpc hi
    obtain⟨j,hj⟩:∃ j,L.length - i=j+1:=⟨L.length - i - 1,by lia⟩
    have ej:L.length - 1 - i=j:=by lia
    have ej1:L.length - (i+1)=j:=by lia
    rw[ej] at hpc
    have mem:pc∈L:=aC hpc
    have tk:L.take (L.length - i)=L.take j++[pc]:=by rw[hj,be,hpc]; rfl
    have dr:L.drop (L.length - (i+1))=pc::L.drop (L.length - i):=by
     rw[ej1,hj]
     have hjl:j<L.length:=by lia
     rw[fq hjl]
     congr 1
     exact br ((ag hjl).symm.trans hpc)
    have allL:L.take j++[pc]++L.drop (L.length - i)=L:=by rw[<- tk,bo]
    have zz:zsL L=zsL (L.take j)+(bR (pc.1+1)+4)+zsL (L.drop (L.length - i)):=by
     conv=>lhs; rw[<- allL]
     rw[jKA,jKA]
     rfl
    have bz:=ok.bz
    have ha2:=e2 _ _ ha
    refine⟨a,_,rfl,SqT.of ha2,rfl,_,_,rfl,_,_,rfl,rfl,?_⟩
    rw[tk] at ni
    obtain⟨p,c⟩:=pc
    refine jNY T CG PY hr hn (e2 _ _ hq) (ok.len _ mem) hN nN ni hrow n16 (ok.at_ _ mem).1 (ok.at_ _ mem).2.1 (by rw[allL]; exact ok.srt) (fun pc h=>(ok.at_ pc (cr h)).2.2) (ok.bl _ mem) (by show zsL _+bR (p+1)+4<=_; have zz:zsL L=_+(bR (p+1)+4)+_:=zz; lia) fun nl' ys' H3 v6 v7 h3 ni3 e3 n3=>⟨e2.trans e3,nl',ys',_,_,_,_,rfl,h3,?_,newOf e2 n3⟩
    rw[dr,ej1]
    exact ni3
   ·rintro σ H2 ⟨e2,nl,ys,v4,v5,v6,v7,rfl,hn,ni,nn⟩
    rw[le,gZ] at ni
    exact⟨_,rfl,k nl ys H2 hn ni e2 nn⟩
noncomputable abbrev nLnd:List Str:=["number","modulus"]
theorem scLnd:FnScope nLnd ["number"] (j8 sLnd):= {}
def lndA (T:Txt mg): { t:TS // JSs (XOf nLnd "least_not_dividing" sLnd P w K mg base f cdv A outer s H0 E) (jC sLnd) t} :=
 have nd:=scLnd.nd
 ⟨_,(j9 (jE (i:=1) nd rfl lL (je_int) jEO)
   (j9 (jBW bx (jJ yW (jR jCY (jv 0 rfl vL) (jv 1 rfl vL)) (je_int) (jM _)) (jB (jLZ (i:=1) nd rfl lL (je_int) jTR)))
   (jB (jX (jv 1 rfl vL)))))⟩
def spLnd:Sp:=fun vs H Q _=>∃ x:Int,vs=[.int x]/\x≠0/\∀ M:Int,2<=M->¬ M∣x->Q (.int M) H
theorem jT2 {fd:FuncData}(F:Fun K "least_not_dividing" "least_not_dividing" sLnd f fd)(T:Txt mg):FnOk P w K mg base CX0 1 f fd ["number"] spLnd:=by
 refine F.ok scLnd (fun vs H Q E h=>?_) (fun cdv A outer s H vs Q E hr h=>?_)
 ·obtain⟨_,rfl,_⟩:=h
  rfl
 ·obtain⟨x,rfl,x0,q⟩:=h
  refine⟨_,(lndA T).2.h,?_⟩
  refine⟨fun m σ H'=>∃ k:Nat,σ=[some (.int x),some (.int (k:Int))]/\H'=H/\2<=k/\k<=x.natAbs+2/\m=x.natAbs+2 - k,⟨x.natAbs,2,rfl,rfl,by decide,by lia,by lia⟩,?_⟩
  rintro m σ H' ⟨k,rfl,rfl,k2,k1,rfl⟩
  refine⟨_,rfl,_,rfl,_,_,rfl,rfl,(show (0:Int)<(k:Int) by lia),rfl,_,rfl,ite2 (fun h=>?_) (fun h=>?_)⟩
  ·have h:x % (k:Int)=0:=V.int.inj (aP h)
   have hd:k∣x.natAbs:=ij.mp (ga h)
   have:=Nat.le_of_dvd (by lia) hd
   refine⟨fun σ' H'=>∃ k':Nat,σ'=[some (.int x),some (.int (k':Int))]/\H'=_/\2<=k'/\k'<=x.natAbs+2/\k'=k+1,fun σ' H' ⟨k',a,b,c,d,e⟩=>⟨x.natAbs+2 - k',by lia,k',a,b,c,d,rfl⟩,?_⟩
   exact⟨_,rfl,_,_,rfl,rfl,k+1,rfl,rfl,by lia,by lia,rfl⟩
  ·have h:¬ x % (k:Int)=0:=fun z=>h (aw (bA V.int z))
   exact⟨_,rfl,q _ (by lia) fun z=>h (gb z)⟩
abbrev jP4:List Str:=["box","musts","row","lead","leads","numbers","modulus","hues","must","number"]
theorem scHuesR:FnScope jP4 ["box","musts","row","lead","leads"] (j8 jBO):= {}
abbrev XHr (P:Program)(w:World)(K:W.Frag)(mg:Str->Option Value)(base:Heap)(f:Addr)(cdv:Value)(A:Around)(outer:List Env)(s:Shared)(H:Hp)(E:XK):Cx:=XOf jP4 "hues_of_row" jBO P w K mg base f cdv A outer s H E
section
variable (T:Txt mg)(CN:Can P w K mg base "numbers_of_row" 33 fN fdN ["musts","row","leads"] jIE)(CL:Can P w K mg base "least_not_dividing" 1 fL fdL ["number"] spLnd)(hr:Room 33 (XHr P w K mg base f cdv A outer s H0 E).A)
def hrL: { t:TS // JSs (XHr P w K mg base f cdv A outer s H0 E) (yT ((jC jBO).getD 3 (.Pass ⟨0,0,0,0⟩))) t} :=
 have nd:=scHuesR.nd
 have _h0:=T; have _h:=CN; have _h1:=CL; have _h2:=hr
 ⟨_,(jB (jPB (jR jCY (jv 9 rfl vL) (jv 6 rfl vL)) (jPD (jv 7 rfl vL) (jv 8 rfl vL) jEV)))⟩
def hrB: { t:TS // JSs (XHr P w K mg base f cdv A outer s H0 E) ((jC jBO).drop 2) t} :=
 have nd:=scHuesR.nd
 ⟨_,(j9 (jE (i:=7) nd rfl lL (jR jL5 (jAF (j3 (je_int) j6 jZ)) (jT kL (jv 0 rfl vL) (je_int) jF)) jE2) (j9 (yO bx rfl (jGN gD T.zip (j3 (jv 1 rfl vL) (j3 (jv 5 rfl vL) j6 j4) j4) j4) (jDB (i:=8) (j:=9) nd rfl rfl (by decide+kernel) (by decide+kernel)) (hrL T CN CL hr).2 kI) (jB (jX (yK (j3 (jv 6 rfl vL) (j3 (kJ jY gD T.tuple (by decide+kernel) (j3 (jv 7 rfl vL) j6 j4) j4) j6 jI) j4))))))⟩
def hrA: { t:TS // JSs (XHr P w K mg base f cdv A outer s H0 E) (jC jBO) t} :=
 have nd:=scHuesR.nd
 ⟨_,(j9 (jE (i:=5) nd rfl lL (CN.je hr gD (j3 (jv 1 rfl vL) (j3 (jv 2 rfl vL) (j3 (jv 4 rfl vL) j6 j4) j4) j4) j4) jK) (j9 (jE (i:=6) nd rfl lL (jEA (jJ qI (jv 3 rfl vL) (je_int) (jM _)) (jH jDD gD T.abs (by decide+kernel) (j3 (jR jF1 (jT yB (jv 5 rfl vL) (jv 2 rfl vL) y9) (jv 3 rfl vL)) j6 kY) kY) (CL.je (hr.mono (by decide)) gD (j3 (jH (jAP rfl) gD T.sum (by decide+kernel) (j3 (jv 5 rfl vL) j6 j4) j4) j6 jI) jI)) jS6) (hrB T CN CL hr).2))⟩
theorem jMC {hs:List Int}{k:Nat}{v:Int}(h:k<hs.length)(t:Int)(t0:0<=t):hAt (hs.set k v) t=if t=(k:Int) then v else hAt hs t:=by
 unfold hAt
 rw[af,gm,af]
 by_cases e:k=t.toNat
 ·rw[ak e,ak (by lia),ak (by lia)]; rfl
 ·rw[aj e,aj (by lia)]
theorem jJ1 {ms:List Int}(hms:∀ t∈ms,0<=t){D:Ends}{H:Hp}{b m nl qm qp:Addr}{wi M:Int}{ys:List Int}{v2 v3 v4 v7 v8 v9:Option V}(b1:H b=some (.tup [.int wi, .ref qm, .ref qp]))(w0:0<=wi)(w1:wi<=16)(hm:H m=some (.lst ((mus ms wi.toNat).map V.int)))(hn:H nl=some (.lst (ys.map V.int)))(yl:ys.length=(mus ms wi.toNat).length)(hM:2<=M)
  (k:∀ r q hs H',H' r=some (.tup [.int M, .ref q])->H' q=some (.tup (hs.map V.int))->HueOf ms wi.toNat M ys hs->Ext H H'->D.rt (.ref r) H'):
  (hrB T CN CL hr).1 D [some (.ref b),some (.ref m),v2,v3,v4,some (.ref nl),some (.int M),v7,v8,v9] H:=by
 have mul:=jCD ms wi.toNat
 refine⟨by show (1:Nat)<=_; decide,fun q1 H1 d1 e1 n1=>?_⟩
 refine⟨_,rfl,b,_,0,_,rfl,rfl,SqT.of (e1 _ _ b1),rfl,q1,wi,[.int 0],rfl,rfl,d1,by lia,by lia,by rw[aF]; show 1*_<=_; lia,fun h2 nh2=>?_⟩
 have er:(replicate wi.toNat [V.int 0]).flatten=(replicate wi.toNat (0:Int)).map V.int:=by
  generalize wi.toNat=n
  induction n with
  | zero=>rfl
  | succ n ih=>rw[cm,cm,ed,ih]; rfl
 rw[er]
 have e2:Ext H1 (L2.upd H1 h2 (.lst ((replicate wi.toNat (0:Int)).map V.int))):=(Ext.refl _).new nh2 _
 have d2:(L2.upd H1 h2 (.lst ((replicate wi.toNat (0:Int)).map V.int))) h2=some (.lst ((replicate wi.toNat (0:Int)).map V.int)):=j5
 generalize L2.upd H1 h2 (.lst ((replicate wi.toNat (0:Int)).map V.int))=H2 at e2 d2
 have E2:=e1.trans e2
 have nh:H h2=none:=newOf e1 nh2
 refine⟨_,rfl,_,rfl,false,false,m,nl,rfl,⟨_,SqL.of (E2 _ _ hm)⟩,⟨_,SqL.of (E2 _ _ hn)⟩,jRI (xs:=(mus ms wi.toNat).map V.int) (ys:=ys.map V.int) (fun i σ H'=>Ext H H'/\∃ hs v8 v9,σ=[some (.ref b),some (.ref m),v2,v3,v4,some (.ref nl),some (.int M),some (.ref h2),v8,v9]/\H' h2=some (.lst (hs.map V.int))/\hs.length=wi.toNat/\(∀ j,j<i->hAt hs ((mus ms wi.toNat).getD j 0)=cA ys j % M)/\∀ t:Int,0<=t->(∀ j,j<i->(mus ms wi.toNat).getD j 0≠t)->hAt hs t=0) ⟨E2,_,_,_,rfl,d2,by rw[cX],fun j hj=>absurd hj (by lia),fun t t0 _=>?_⟩ (fun i σ H' ⟨e,_⟩=>⟨SqL.of (e _ _ hm),SqL.of (e _ _ hn)⟩) ?_ ?_⟩
 ·unfold hAt
  rw[af,eJ]
  split <;> rfl
 ·rintro i x y Tp σ H3 hx hy hT ⟨e3,hs,v8,v9,rfl,d3,hl,p1,p2⟩
  obtain⟨x,hx',rfl⟩:=int_at hx
  obtain⟨y,hy',rfl⟩:=int_at hy
  have e4:Ext H3 (L2.upd H3 Tp (.tup [.int x, .int y])):=(Ext.refl _).new hT _
  have d4:(L2.upd H3 Tp (.tup [.int x, .int y])) Tp=some (.tup [.int x, .int y]):=j5
  generalize L2.upd H3 Tp (.tup [.int x, .int y])=H4 at e4 d4
  have ex:(mus ms wi.toNat).getD i 0=x:=by rw[af,hx']; rfl
  have ey:cA ys i=y:=by unfold cA; rw[af,hy']; rfl
  obtain⟨x0,x1,xm⟩:=mem_mus.mp (aC hx')
  refine⟨Tp,_,rfl,SqT.of d4,rfl,_,_,rfl,_,_,rfl,rfl,?_⟩
  refine⟨_,rfl,_,rfl,_,_,rfl,rfl,(show (0:Int)<M by lia),_,rfl,_,rfl,h2,_,x,x.toNat,rfl,rfl,e4 _ _ d3,?_,?_⟩
  ·unfold ixN
   rw[ak x0,ak (by rw[ab,hl]; exact x1)]
  ·rw[<- map_set]
   have hk:x.toNat<hs.length:=by lia
   have ek:((x.toNat:Nat):Int)=x:=by lia
   refine⟨fun c o h=>?_,_,_,_,rfl,j5,by rw[gJ]; exact hl,fun j hj=>?_,fun t t0 ht=>?_⟩
   ·rw[j7 (fun z=>by rw[z,nh] at h; cases h)]
    exact e4 _ _ (e3 _ _ h)
   ·have hi2:i<(mus ms wi.toNat).length:=(am.mp hx').1
    have hjl:j<(mus ms wi.toNat).length:=by lia
    have ej:(mus ms wi.toNat).getD j 0=(mus ms wi.toNat)[j]:=by rw[af,ag hjl]; rfl
    have j0:0<=(mus ms wi.toNat).getD j 0:=by rw[ej]; exact(mem_mus.mp (bS hjl)).1
    rw[jMC hk _ j0,ek]
    by_cases h:j=i
    ·rw[h,ex,ak rfl,ey]
    ·rw[aj,p1 j (by lia)]
     intro z
     rw[ej] at z
     have ei:(mus ms wi.toNat)[i]=x:=(am.mp hx').2
     have pw:=cB.mp (jP5 ms wi.toNat) j i hjl hi2 (by lia)
     exact pw (z.trans ei.symm)
   ·rw[jMC hk _ t0,ek,aj,p2 t t0 fun j hj=>ht j (by lia)]
    intro z
    exact ht i (by lia) (by rw[ex,z])
 ·rintro σ H3 ⟨e3,hs,v8,v9,rfl,d3,hl,p1,p2⟩
  rw[ab,ab,yl,Nat.min_self] at p1 p2
  refine⟨_,rfl,_,rfl,h2,_,rfl, .inl ⟨SqL.of d3,fun q4 n4=>?_⟩⟩
  have e4:Ext H3 (L2.upd H3 q4 (.tup (hs.map V.int))):=(Ext.refl _).new n4 _
  have d4:(L2.upd H3 q4 (.tup (hs.map V.int))) q4=some (.tup (hs.map V.int)):=j5
  generalize L2.upd H3 q4 (.tup (hs.map V.int))=H4 at e4 d4
  refine⟨by show (2:Nat)<=_; decide,fun r H5 d5 e5=>k r q4 hs H5 d5 (e5 _ _ d4) ⟨hl,p1,fun t ht=>?_⟩ ((e3.trans e4).trans e5)⟩
  by_cases t0:0<=t
  ·refine p2 t t0 fun j hj e=>?_
   have ej:(mus ms wi.toNat).getD j 0=(mus ms wi.toNat)[j]:=by rw[af,ag hj]; rfl
   have:=mem_mus.mp (bS hj)
   rw[<- ej,e] at this
   exact this.2.2 ht
  ·exact absurd (hms t ht) t0
end
def jHG:Sp:=fun vs H Q _=>∃ (b m la:Addr) (wi lead:Int) (ms:List Int) (lB:List (List Int×Int)) (N row:Nat) (lvs:List V) (L:List (Nat×List Int)),vs=[.ref b, .ref m, .int (row:Int), .int lead, .ref la]/\BoxAt H b wi ms lB/\Good 16 32 wi ms lB/\H m=some (.lst ((mus ms wi.toNat).map V.int))/\H la=some (.lst lvs)/\All2 (LeadA H) lvs L/\lvs.length<=16/\row<(mus ms wi.toNat).length/\(mus ms wi.toNat).length<=N/\N<=60/\LeadsOk (mus ms wi.toNat).length N row L/\lead.natAbs<=2 ^ bR (row+1)/\bR (row+1)<=80000000/\lead.natAbs≠1/\(lead=0->∀ ys,NI (mus ms wi.toNat).length row L [] ys->sxS (mus ms wi.toNat).length (cA ys)≠0)/\
 ∀ r q M ys hs H',H' r=some (.tup [.int M, .ref q])->H' q=some (.tup (hs.map V.int))->HueOf ms wi.toNat M ys hs->NI (mus ms wi.toNat).length row L [] ys->2<=M->(lead≠0->M=((cA ys row*lead).natAbs:Nat))->(lead=0->¬ M∣sxS (mus ms wi.toNat).length (cA ys))->Ext H H'->Q (.ref r) H'
theorem jPV {n:Nat}{ys:List Int}(h:ys.length=n):ys.sum=sxS n (cA ys):=by
 have:=lsum ys fun x=>x
 rw[List.map_id'',h] at this
 ·exact this.symm
 ·exact fun _=>rfl
theorem jNV {fd:FuncData}(F:Fun K "hues_of_row" "hues_of_row" jBO f fd)(T:Txt mg)(CN:Can P w K mg base "numbers_of_row" 33 fN fdN ["musts","row","leads"] jIE)(CL:Can P w K mg base "least_not_dividing" 1 fL fdL ["number"] spLnd):FnOk P w K mg base CX0 34 f fd ["box","musts","row","lead","leads"] jHG:=by
 refine F.ok scHuesR (fun vs H Q E h=>?_) (fun cdv A outer s H vs Q E hr h=>?_)
 ·obtain⟨_,_,_,_,_,_,_,_,_,_,_,rfl,_⟩:=h
  rfl
 ·obtain⟨b,m,la,wi,lead,ms,lB,N,row,lvs,L,rfl,hB,g,hm,hla,hL,ll,hrow,nN,hN,ok,lb,lb2,l1,l0,k⟩:=h
  have w0:=g.w0
  have w1:=g.w1
  have hms:∀ t∈ms,0<=t:=fun t ht=>(g.mr.bnd t ht).1
  have n16:(mus ms wi.toNat).length<=16:=by have:=jCD ms wi.toNat; lia
  obtain⟨qm,qp,ps,b1,b2,b3,b4⟩:=id hB.ex
  refine⟨_,(hrA T CN CL hr).2.h,?_⟩
  refine⟨_,rfl,_,rfl,_,rfl,m,la,_,N,row,_,lvs,L,rfl,hm,rfl,hla,hL,ll,hrow,n16,nN,hN,ok,fun nl ys H1 d1 ni e1 n1=>?_⟩
  have yl:=ni.len
  refine⟨_,rfl,rfl,_,rfl,?_⟩
  by_cases z:lead=0
  ·have hb:(!decide (V.int lead=V.int 0))=false:=by rw[z]; rfl
   dsimp only
   rw[hb]
   refine iteF ⟨_,rfl,nl,_,rfl,SqL.of d1,?_⟩
   rw[jPV yl]
   refine⟨_,rfl,l0 z ys ni,fun M hM hd=>?_⟩
   exact jJ1 T CN CL hr hms (e1 _ _ b1) w0 w1 (e1 _ _ hm) d1 yl hM fun r q hs H2 a1 a2 a3 a4=>k r q M ys hs H2 a1 a2 a3 ni hM (fun h=>absurd z h) (fun _=>hd) (e1.trans a4)
  ·have hb:(!decide (V.int lead=V.int 0))=true:=by rw[aH (fun h=>z (V.int.inj h))]; rfl
   dsimp only
   rw[hb]
   have y0:=ni.at_
   have bz:=ok.bz
   refine iteT ⟨_,rfl,_,rfl,nl,_,_,_,rfl,rfl,SqL.of d1,yP (by lia),_,rfl,_,_,rfl,rfl,⟨zsL L,bR (row+1),ni.bnd row,lb,by lia⟩,_,rfl,?_⟩
   rw[jI8]
   have h2:(2:Int)<=((cA ys row*lead).natAbs:Nat):=by
    rw[di]
    have:1*2<=(cA ys row).natAbs*lead.natAbs:=cg (by lia) (by lia)
    lia
   exact jJ1 T CN CL hr hms (e1 _ _ b1) w0 w1 (e1 _ _ hm) d1 yl h2 fun r q hs H2 a1 a2 a3 a4=>k r q _ ys hs H2 a1 a2 a3 ni h2 (fun _=>rfl) (fun h=>absurd h z) (e1.trans a4)
theorem jG6:∀ r,r<16->4*bR r+10<=134217000/\bR (r+1)<=80000000/\vR r<=50000000/\uR r+bR (r+1)<=134217000:=by decide
def LeadN (la:Addr)(H:Hp)(v:V)(pc:Nat×List Int):Prop:=∃ a q,v= .ref a/\H a=some (.tup [.int (pc.1:Int), .ref q])/\H q=some (.lst (pc.2.map V.int))/\q≠la
theorem LeadN.lead {la:Addr}{H:Hp}{v:V}{pc:Nat×List Int}(h:LeadN la H v pc):LeadA H v pc:=let ⟨a,q,x,y,z,_⟩:=h; ⟨a,q,x,y,z⟩
structure WG (P:Program)(w:World)(K:W.Frag)(mg:Str->Option Value)(base:Heap)(tb fM fF fL fG fH fK:Addr)(fdM fdF fdL fdG fdH fdK:FuncData):Prop where
 T:Txt mg
 S:SeerK P K mg
 CM:Can P w K mg base "musts_of" 1 fM fdM ["box"] jC9
 CF:Can P w K mg base "first_columns" 1 fF fdF ["box","musts"] jER
 CL:Can P w K mg base "led_by_one" 34 fL fdL ["columns","row"] (spLed tb)
 CG:Can P w K mg base "goes_in" 1 fG fdG ["lead","entry"] jKT
 CH:Can P w K mg base "hues_of_row" 34 fH fdH ["box","musts","row","lead","leads"] jHG
 CK:Can P w K mg base "taken_off" 1 fK fdK ["column","times","other"] jDK
section
variable {fH:Addr}{fdH:FuncData}
noncomputable abbrev nWhP:List Str:=["box","musts","columns","target","leads","row","parted","lead","column"]
theorem scWhP:FnScope nWhP ["box"] (j8 yD):= {}
abbrev XWh (P:Program)(w:World)(K:W.Frag)(mg:Str->Option Value)(base:Heap)(f:Addr)(cdv:Value)(A:Around)(outer:List Env)(s:Shared)(H:Hp)(E:XK):Cx:=XOf nWhP "wholes" yD P w K mg base f cdv A outer s H E
abbrev whB:List Stmt:=yT ((jC yD).getD 4 (.Pass ⟨0,0,0,0⟩))
section
variable (G:WG P w K mg base tb fM fF fL fG fH fK fdM fdF fdL fdG fdH fdK)(PY:Pyl (XWh P w K mg base f cdv A outer s H0 E))(hr:Room 34 (XWh P w K mg base f cdv A outer s H0 E).A)
def whI: { t:TS // JSs (XWh P w K mg base f cdv A outer s H0 E) (yT (whB.getD 4 (.Pass ⟨0,0,0,0⟩))) t} :=
 have nd:=scWhP.nd
 have _h0:=G; have _h1:=PY; have _h2:=hr
 ⟨_,(j9 (jE (i:=3) nd rfl lL (G.CK.je (hr.mono (by decide)) gD (j3 (jv 3 rfl vL) (j3 (jR (jD7 PY) (jT yB (jv 3 rfl vL) (jv 5 rfl vC) y9) (jv 7 rfl vL)) (j3 (jv 8 rfl vL) j6 j4) kY) j4) j4) jK)
   (jB (jBH (je_bm b9 db de jAK (jv 4 rfl vL) (j3 (yK (j3 (jv 5 rfl vC) (j3 (jv 8 rfl vL) j6 j4) j4)) j6 jE5) jE5) jK)))⟩
def wh3A: { t:TS // JSs (XWh P w K mg base f cdv A outer s H0 E) (whB.drop 3) t} :=
 have nd:=scWhP.nd
 ⟨_,(j9 (yX (jGM (jGL (G.CG.je (hr.mono (by decide)) gD (j3 (jv 7 rfl vL) (j3 (jT yB (jv 3 rfl vL) (jv 5 rfl vC) y9) j6 jV) j4) j4) jDH)) (jB (jX (yK (j3 (jJ0) (j3 (G.CH.je hr gD (j3 (jv 0 rfl vL) (j3 (jv 1 rfl vL) (j3 (jv 5 rfl vC) (j3 (jv 7 rfl vL) (j3 (jv 4 rfl vL) j6 j4) j4) j4) j4) j4) j4) j6 jI) jZ)))) yA) (jB (yO bx rfl (kT (jT kL (jv 6 rfl vL) (je_int) jF)) (jN (i:=8) nd rfl lL) (whI G PY hr).2 jEC)))⟩
def whL: { t:TS // JSs (XWh P w K mg base f cdv A outer s H0 E) whB t} :=
 have nd:=scWhP.nd
 ⟨_,(j9 (jE (i:=6) nd rfl lL (G.CL.je hr gD (j3 (jv 2 rfl vL) (j3 (jv 5 rfl vC) j6 j4) j4) j4) jK) (j9 (jE (i:=2) nd rfl lL (jT kL (jv 6 rfl vL) (je_int) jF) jFW) (j9 (jE (i:=7) nd rfl lL (jH (jAP rfl) gD G.T.sum (by decide+kernel) (j3 (kU (m:=[none,some 5]) (Nc:=["column","row"]) rfl (kT (jT kL (jv 6 rfl vL) (je_int) jF)) rfl (by decide+kernel) (by decide+kernel) (jQ (psc:=j8 yD)) (jG (N:=nWhP) rfl rfl (by decide+kernel)) (fun cl C fp s H=>jN (i:=0) (show (["column","row"]:List Str).Nodup by decide+kernel) rfl yH) (fun cl C fp s H=>kX) (fun cl C fp s H=>(jT jA6 (jv 0 rfl jL) (jv 1 rfl kN) y9)) jEC) j6 jW) jW) jK) (wh3A G PY hr).2)))⟩
def whA: { t:TS // JSs (XWh P w K mg base f cdv A outer s H0 E) (jC yD) t} :=
 have nd:=scWhP.nd
 ⟨_,(j9 (jE (i:=1) nd rfl lL (G.CM.je (hr.mono (by decide)) gD (j3 (jv 0 rfl vL) j6 j4) j4) jK) (j9 (jE (i:=2) nd rfl lL (G.CF.je (hr.mono (by decide)) gD (j3 (jv 0 rfl vL) (j3 (jv 1 rfl vL) j6 j4) j4) j4) jK) (j9 (jE (i:=3) nd rfl lL (jR jF3 (jR jL5 (jAF (j3 (je_int) j6 jZ)) (jH jO gD G.T.len (by decide+kernel) (j3 (jv 1 rfl vL) j6 j4) j4)) (jR jL5 (jAF (j3 (je_int) j6 jZ)) (jH jO gD G.T.len (by decide+kernel) (j3 (jT kL (jv 0 rfl vL) (je_int) jF) j6 jV) jV))) jE2) (j9 (jE (i:=4) nd rfl lL (jAF j6) jE1) (j9 (yO bx rfl (jA2 gD G.T.range (j3 (jH jO gD G.T.len (by decide+kernel) (j3 (jv 1 rfl vL) j6 j4) j4) j6 jI) jI) (jN (i:=5) nd rfl qA) (whL G PY hr).2 kI) (jB (jX (yK (j3 (jJ0) (j3 (kJ jY gD G.T.tuple (by decide+kernel) (j3 (kU (m:=[none]) (Nc:=["number"]) rfl (kT (jDC jEU (jv 3 rfl vL) (jFC (jH jO gD G.T.len (by decide+kernel) (j3 (jv 1 rfl vL) j6 j4) j4)) jFD)) rfl (by decide+kernel) (by decide+kernel) (jQ (psc:=j8 yD)) (jG (N:=nWhP) rfl rfl (by decide+kernel)) (fun cl C fp s H=>jN (i:=0) (show (["number"]:List Str).Nodup by decide+kernel) rfl yH) (fun cl C fp s H=>kX) (fun cl C fp s H=>(je_un jKH (jv 0 rfl jL))) jEC) j6 jW) jW) j6 jI) jZ)))))))))⟩
def WhlT (wi:Int)(ms:List Int)(lB:List (List Int×Int))(tb:Addr)(H:Hp)(Q:VK):Prop:=
 (∀ (r q:Addr) (xs:List Int) (H':Hp),H' r=some (.tup [.str "wholes", .ref q])->H' q=some (.tup (xs.map V.int))->kP wi ms lB (.tup (xs.map Ob.int))=true->ExtT tb H H'->TabL H' tb->Q (.ref r) H')/\
 ∀ (r h q:Addr) (M:Int) (hs:List Int) (H':Hp),H' r=some (.tup [.str "hues", .ref h])->H' h=some (.tup [.int M, .ref q])->H' q=some (.tup (hs.map V.int))->hueB wi ms lB (.tup [.int M, .tup (hs.map Ob.int)])=true->ExtT tb H H'->TabL H' tb->Q (.ref r) H'
structure WhS (wi:Int)(ms:List Int)(lB:List (List Int×Int))(tb la:Addr)(H H':Hp)(i:Nat)(ca ta:Addr)(us lvs:List V)(cs:List (List Int))(L:List (Nat×List Int))(tt:List Int):Prop where
 c:H' ca=some (.lst us)
 cc:ColsA H' us cs
 t:H' ta=some (.lst (tt.map V.int))
 l:H' la=some (.lst lvs)
 ll:All2 (LeadN la H') lvs L
 w:WI (mus ms wi.toNat).length lB.length (aI (mus ms wi.toNat) lB) i cs L tt
 nu:∀ z∈us,z≠ .ref la
 nc:ca≠la
 nt:ta≠la
 few:lvs.length<=i
 kp:∀ c o,H c=some o->c≠tb->H' c=some o
 tab:TabL H' tb
 nl:H la=none
theorem jLP {H:Hp}{c tb:Addr}{xs:List V}(tab:TabL H tb)(h:H c=some (.lst xs)):c≠tb:=fun z=>by
 rcases tab with q | ⟨_,q,_⟩ <;> (rw[z,q] at h; cases h)
theorem jKK {H:Hp}{c tb:Addr}{xs:List V}(tab:TabL H tb)(h:H c=some (.tup xs)):c≠tb:=fun z=>by
 rcases tab with q | ⟨_,q,_⟩ <;> (rw[z,q] at h; cases h)
theorem jNC {D:Ends}{H:Hp}{ta la q:Addr}{r:Nat}{t c:List Int}{lead:Int}{lvs:List V}{v0 v1 v2 v6:Option V}(ht:H ta=some (.lst (t.map V.int)))(hl:H la=some (.lst lvs))(hq:H q=some (.lst (c.map V.int)))(tl:t.length<=60)(cl:t.length=c.length)(hr':r<t.length)(l0:lead≠0){p b:Nat}(hqb:((cA t r).fdiv lead).natAbs<=2 ^ p)(hcb:∀ i,(cA c i).natAbs<=2 ^ b)(hpb:p+b<=134217000)(ll:lvs.length<=20)(nta:ta≠la)
  (nx:∀ ta' a H',H' ta'=some (.lst ((tkf ((cA t r).fdiv lead) t c).map V.int))->H' la=some (.lst (lvs++[.ref a]))->H' a=some (.tup [.int (r:Int), .ref q])->(∀ c o,H c=some o->c≠la->H' c=some o)->ta'≠la->D.nx [v0,v1,v2,some (.ref ta'),some (.ref la),some (.int (r:Int)),v6,some (.int lead),some (.ref q)] H'):
  (whI G PY hr).1 D [v0,v1,v2,some (.ref ta),some (.ref la),some (.int (r:Int)),v6,some (.int lead),some (.ref q)] H:=by
 refine⟨_,rfl,_,rfl,_,rfl,ta,_,_,_,rfl,rfl,SqL.of ht,yP hr',_,rfl,_,_,rfl,rfl,l0,_,rfl,ta,q,_,t,c,p,b,rfl,ht,hq,by lia,hqb,fun y hy=>?_,hpb,fun r2 H1 d1 e1 n1=>?_⟩
 ·obtain⟨i,rfl⟩:=jGF hy
  exact hcb i
 ·refine⟨_,rfl, .inl ⟨rfl,_,SqL.of (e1 _ _ hl)⟩,_,rfl,_,rfl,by show (2:Nat)<=_; decide,fun a H2 d2 e2=>?_⟩
  have E2:=e1.trans e2
  have r2l:r2≠la:=fun z=>by rw[z,hl] at n1; cases n1
  refine⟨la,lvs,_,rfl,rfl,E2 _ _ hl,by rw[aF]; lia,nx r2 a _ ?_ j5 ?_ (fun c o h n=>?_) r2l⟩
  ·rw[j7 r2l]; exact e2 _ _ d1
  ·rw[j7 (fun z=>by rw[z,E2 _ _ hl] at d2; cases d2)]; exact d2
  ·rw[j7 n]; exact E2 _ _ h
theorem jOR {α β:Type}{R:α->β->Prop}{us:List α}{cs:List β}(h:All2 R us cs)(hl:cs.length<=1):(us=[]/\cs=[])\/∃ u c,us=[u]/\cs=[c]/\R u c:=by
 match us,cs,h,hl with
 | [],[],_,_=>exact .inl ⟨rfl,rfl⟩
 | [u],[c],h,_=>exact .inr ⟨u,c,rfl,rfl,h.1⟩
 | _::_::_,_::_::_,_,hl=>simp at hl
theorem jND {D:Ends}{H H1:Hp}{b m la ca ta pt Fa Da qm qp:Addr}{wi:Int}{ms:List Int}{lB:List (List Int×Int)}{ps:List V}{r:Nat}{fs ds lvs:List V}{cs Fc Dc:List (List Int)}{L:List (Nat×List Int)}{t:List Int}{v8:Option V}(b1:H b=some (.tup [.int wi, .ref qm, .ref qp]))(hB:BoxAt H b wi ms lB)(g:Good 16 32 wi ms lB)(hm:H m=some (.lst ((mus ms wi.toNat).map V.int)))(kp:∀ c o,H c=some o->c≠tb->H1 c=some o)(tab0:TabL H tb)(tab:TabL H1 tb)(nl:H la=none)
  (hpt:H1 pt=some (.tup [.ref Fa, .ref Da])) (hF:H1 Fa=some (.lst fs)) (hcF:ColsA H1 fs Fc) (hD:H1 Da=some (.lst ds)) (hcD:ColsA H1 ds Dc) (ht:H1 ta=some (.lst (t.map V.int))) (hl:H1 la=some (.lst lvs)) (hL:All2 (LeadN la H1) lvs L) (w:WI (mus ms wi.toNat).length lB.length (aI (mus ms wi.toNat) lB) r cs L t) (led:Led ((mus ms wi.toNat).length+lB.length) r cs Fc Dc) (f1:Fc.length<=1) (hAB:AllB (2 ^ bR (r+1)) (Fc++Dc)) (hr':r<(mus ms wi.toNat).length) (nta:ta≠la) (nDa:Da≠la) (nFa:Fa≠la) (nfs:∀ z∈fs,z≠ .ref la) (nds:∀ z∈ds,z≠ .ref la) (few:lvs.length<=r)
  (q:WhlT wi ms lB tb H D.rt)
  (nx:∀ ta' lvs' L' t' H' v8,WhS wi ms lB tb la H H' (r+1) Da ta' ds lvs' Dc L' t'->D.nx [some (.ref b),some (.ref m),some (.ref Da),some (.ref ta'),some (.ref la),some (.int (r:Int)),some (.ref pt),some (.int ((Fc.map fun c=>cA c r).sum)),v8] H'):
  (wh3A G PY hr).1 D [some (.ref b),some (.ref m),some (.ref Da),some (.ref ta),some (.ref la),some (.int (r:Int)),some (.ref pt),some (.int ((Fc.map fun c=>cA c r).sum)),v8] H1:=by
 have mul:=jCD ms wi.toNat
 have w1:=g.w1
 have pl:=g.pl
 have n16:(mus ms wi.toNat).length<=16:=by lia
 obtain⟨z1,z2,z3,z4⟩:=jG6 r (by lia)
 have b1':=kp _ _ b1 (jKK tab0 b1)
 have hm':=kp _ _ hm (jLP tab0 hm)
 have tl:=w.lt
 have hB1:BoxAt H1 b wi ms lB:=hB.mono fun c xs h=>kp _ _ h (jKK tab0 h)
 refine⟨_,rfl,_,rfl,_,rfl,ta,_,_,_,rfl,rfl,SqL.of ht,yP (by lia),?_⟩
 refine⟨_,_,rfl,_,rfl,?_⟩
 rcases jOR hcF f1 with ⟨rfl,rfl⟩ | ⟨u,c,rfl,rfl,hu⟩
 ·-- no lead
  by_cases hd:(0:Int)∣cA t r
  ·have t0:=lv.mp hd
   have e:(!decide ((([]:List (List Int)).map fun c=>cA c r).sum∣cA t r))=false:=by rw[aw (show (([]:List (List Int)).map fun c=>cA c r).sum∣cA t r from hd)]; rfl
   dsimp only
   rw[e]
   refine iteF ⟨_,rfl,pt,_,0,_,rfl,rfl,SqT.of hpt,rfl,Fa,rfl,⟨_,SqL.of hF⟩,jB6 (xs:=[]) (fun i σ H'=>i=0->σ=[some (.ref b),some (.ref m),some (.ref Da),some (.ref ta),some (.ref la),some (.int (r:Int)),some (.ref pt),some (.int ((([]:List (List Int)).map fun c=>cA c r).sum)),v8]/\H'=H1) (fun _=>⟨rfl,rfl⟩) (fun i σ H' hi h=>?_) (fun i x σ H' hx=>by simp at hx) fun σ H' h=>?_⟩
   ·obtain⟨_,rfl⟩:=h (by simpa using hi)
    exact SqL.of hF
   ·obtain⟨rfl,rfl⟩:=h rfl
    exact nx ta lvs L t H' _ ⟨hD,hcD,ht,hl,hL,w.next0 led hAB t0,nds,nDa,nta,by lia,kp,tab,nl⟩
  ·have e:(!decide ((([]:List (List Int)).map fun c=>cA c r).sum∣cA t r))=true:=by rw[aH (show ¬ (([]:List (List Int)).map fun c=>cA c r).sum∣cA t r from hd)]; rfl
   dsimp only
   rw[e]
   refine iteT ⟨_,rfl,_,rfl,_,rfl,_,rfl,_,rfl,b,m,la,wi,0,ms,lB,_,r,lvs,L,rfl,hB1,g,hm',hl,hL.imp fun _ _ z=>z.lead,by lia,hr',dL _ _,by lia,⟨w.ll,w.zl,w.srt,w.bl,aX w.bz z3⟩,ba _,z2,by decide,fun _ ys ny=>?_,fun r1 q1 M ys hs H2 a1 a2 a3 a4 a5 a6 a7 a8=>?_⟩
   ·obtain⟨_,e2⟩:=w.hue led hr' ny (M:=0) fun c hc=>by cases hc
    rw[e2]
    exact Int.mul_ne_zero ny.at_ fun z=>hd (by rw[z]; exact i7 _)
   ·obtain⟨h1,_⟩:=w.hue led hr' a4 (M:=0) fun c hc=>by cases hc
    refine⟨by show (2:Nat)<=_; decide,fun r3 H3 d3 e3=>q.2 r3 r1 q1 M hs H3 d3 (e3 _ _ a1) (e3 _ _ a2) (a3.ok g a5 (fun k hk=>by rw[lv.mp (h1 k hk)]; exact i7 _) (a7 rfl)) (fun c o h n=>e3 _ _ (a8 _ _ (kp _ _ h n))) ((tab.ext a8).ext e3)⟩
 ·-- one lead
  obtain⟨qa,rfl,hqa⟩:=hu
  have el:([c].map fun c=>cA c r).sum=cA c r:=by simp
  rw[el] at nx ⊢
  have l0:cA c r≠0:=led.fz c (by simp)
  have cl:=led.len c (by simp)
  have cb:∀ i,(cA c i).natAbs<=2 ^ bR (r+1):=hAB c (by simp)
  by_cases hd:cA c r∣cA t r
  ·have e:(!decide (cA c r∣cA t r))=false:=by rw[aw hd]; rfl
   dsimp only
   rw[e]
   have qm:(cA t r).fdiv (cA c r)*cA c r=cA t r:=fu hd
   have qb:((cA t r).fdiv (cA c r)).natAbs<=2 ^ uR r:=by
    have h2:((cA t r).fdiv (cA c r)).natAbs*1<=((cA t r).fdiv (cA c r)).natAbs*(cA c r).natAbs:=bG _ (by lia)
    rw[<- di,qm,Nat.mul_one] at h2
    exact aX h2 (w.bt r)
   refine iteF ⟨_,rfl,pt,_,0,_,rfl,rfl,SqT.of hpt,rfl,Fa,rfl,⟨_,SqL.of hF⟩,jB6 (xs:=[.ref qa]) (fun i σ H'=>(i=0->σ=[some (.ref b),some (.ref m),some (.ref Da),some (.ref ta),some (.ref la),some (.int (r:Int)),some (.ref pt),some (.int (cA c r)),v8]/\H'=H1)/\(∀ c o,H1 c=some o->c≠la->H' c=some o)/\(i=1->∃ ta' a,σ=[some (.ref b),some (.ref m),some (.ref Da),some (.ref ta'),some (.ref la),some (.int (r:Int)),some (.ref pt),some (.int (cA c r)),some (.ref qa)]/\H' ta'=some (.lst ((tkf ((cA t r).fdiv (cA c r)) t c).map V.int))/\H' la=some (.lst (lvs++[.ref a]))/\H' a=some (.tup [.int (r:Int), .ref qa])/\ta'≠la)) ⟨fun _=>⟨rfl,rfl⟩,fun _ _ h _=>h,fun h=>absurd h (by decide)⟩ (fun i σ H' hi ⟨_,h,_⟩=>SqL.of (h _ _ hF nFa)) ?_ ?_⟩
   ·rintro i x σ H2 hx ⟨h0,_,_⟩
    have hi:i=0:=by have:=(am.mp hx).1; simpa using this
    subst hi
    obtain⟨rfl,rfl⟩:=h0 rfl
    have ex:x= .ref qa:=by simpa using hx.symm
    subst ex
    refine jNC G PY hr ht hl hqa (by lia) (by lia) (by lia) l0 qb cb z4 (by lia) nta fun ta' a H3 a1 a2 a3 a4 a5=>⟨fun h=>absurd h (by decide),a4,fun _=>⟨ta',a,rfl,a1,a2,a3,a5⟩⟩
   ·rintro σ H2 ⟨_,k2,h1⟩
    obtain⟨ta',a,rfl,a1,a2,a3,a5⟩:=h1 rfl
    have w2:=w.next1 led hAB hr' (q:=(cA t r).fdiv (cA c r)) qm.symm qb
    have nq:qa≠la:=fun z=>nfs (.ref qa) (by simp) (by rw[z])
    refine nx ta' (lvs++[.ref a]) (L++[(r,c)]) (tkf ((cA t r).fdiv (cA c r)) t c) H2 _ ⟨k2 _ _ hD nDa,All2.impM (fun u hu c ⟨x,e,hx⟩=>⟨x,e,k2 _ _ hx fun z=>nds u hu (by rw[e,z])⟩) hcD,a1,a2,All2.append (hL.imp fun v pc ⟨x,y,e,hx,hy,ne⟩=>⟨x,y,e,k2 _ _ hx (fun z=>by rw[z,hl] at hx; cases hx),k2 _ _ hy ne,ne⟩) ⟨⟨a,qa,rfl,a3,k2 _ _ hqa nq,nq⟩,trivial⟩,w2,nds,nDa,a5,by rw[aG]; show lvs.length+1<=_; lia,fun c o h n=>k2 _ _ (kp _ _ h n) (fun z=>by rw[z,nl] at h; cases h),?_,nl⟩
    rcases tab with q' | ⟨c,q',q''⟩
    ·exact .inl (k2 _ _ q' fun z=>by rw[z,hl] at q'; cases q')
    ·exact .inr ⟨c,k2 _ _ q' (fun z=>by rw[z,hl] at q'; cases q'),k2 _ _ q'' fun z=>by rw[z,hl] at q''; cases q''⟩
  ·have e:(!decide (cA c r∣cA t r))=true:=by rw[aH hd]; rfl
   dsimp only
   rw[e]
   refine iteT ⟨_,rfl,_,rfl,_,rfl,_,rfl,_,rfl,b,m,la,wi,cA c r,ms,lB,_,r,lvs,L,rfl,hB1,g,hm',hl,hL.imp fun _ _ z=>z.lead,by lia,hr',dL _ _,by lia,⟨w.ll,w.zl,w.srt,w.bl,aX w.bz z3⟩,cb r,z2,fun h1=>hd ?_,fun h=>absurd h l0,fun r1 q1 M ys hs H2 a1 a2 a3 a4 a5 a6 a7 a8=>?_⟩
   ·exact jy.mp (by rw[h1]; exact Int.one_dvd _)
   ·obtain⟨h1,h2⟩:=w.hue led hr' a4 (M:=cA ys r*cA c r) fun c' hc=>by rw[aO.mp hc]; exact Int.dvd_refl _
    have eM:=a6 l0
    refine⟨by show (2:Nat)<=_; decide,fun r3 H3 d3 e3=>q.2 r3 r1 q1 M hs H3 d3 (e3 _ _ a1) (e3 _ _ a2) (a3.ok g a5 (fun k hk=>by rw[eM]; exact jy.mpr (h1 k hk)) fun z=>hd ?_) (fun c o h n=>e3 _ _ (a8 _ _ (kp _ _ h n))) ((tab.ext a8).ext e3)⟩
    rw[eM,h2] at z
    exact Int.dvd_of_mul_dvd_mul_left a4.at_ (jy.mp z)
theorem jNB {D:Ends}{H H':Hp}{b m la ca ta qm qp:Addr}{wi:Int}{ms:List Int}{lB:List (List Int×Int)}{i:Nat}{us lvs:List V}{cs:List (List Int)}{L:List (Nat×List Int)}{t:List Int}{v6 v7 v8:Option V}(b1:H b=some (.tup [.int wi, .ref qm, .ref qp]))(hB:BoxAt H b wi ms lB)(g:Good 16 32 wi ms lB)(hm:H m=some (.lst ((mus ms wi.toNat).map V.int)))(tab0:TabL H tb)(hi:i<(mus ms wi.toNat).length)(S:WhS wi ms lB tb la H H' i ca ta us lvs cs L t)(q:WhlT wi ms lB tb H D.rt)
  (nx:∀ ca' ta' us' lvs' cs' L' t' H2 v6 v7 v8,WhS wi ms lB tb la H H2 (i+1) ca' ta' us' lvs' cs' L' t'->D.nx [some (.ref b),some (.ref m),some (.ref ca'),some (.ref ta'),some (.ref la),some (.int (i:Int)),v6,v7,v8] H2):
  (whL G PY hr).1 D [some (.ref b),some (.ref m),some (.ref ca),some (.ref ta),some (.ref la),some (.int (i:Int)),v6,v7,v8] H':=by
 have mul:=jCD ms wi.toNat
 have w1:=g.w1
 have pl:=g.pl
 obtain⟨z1,z2,z3,z4⟩:=jG6 i (by lia)
 have ul:=All2.len S.cc
 have few:=S.w.few
 refine⟨_,rfl,_,rfl,ca,i,_,bR i,us,cs,rfl,S.c,S.cc,by lia,S.w.lc,by lia,by lia,S.w.bc,z1,S.tab,fun pt Fa Da fs ds Fc Dc H1 hpt hF hcF hD hcD led f1 hAB e1 tab1 nF nD=>?_⟩
 have kl:∀ {c:Addr}{xs:List V},H' c=some (.lst xs)->H1 c=some (.lst xs):=fun h=>e1 _ _ h (jLP S.tab h)
 have kt:∀ {c:Addr}{xs:List V},H' c=some (.tup xs)->H1 c=some (.tup xs):=fun h=>e1 _ _ h (jKK S.tab h)
 have hl1:=kl S.l
 have hL1:All2 (LeadN la H1) lvs L:=S.ll.imp fun v pc ⟨x,y,e,hx,hy,ne⟩=>⟨x,y,e,kt hx,kl hy,ne⟩
 have fN:Fa≠la:=fun z=>by rw[z,S.l] at nF; cases nF
 have dN:Da≠la:=fun z=>by rw[z,S.l] at nD; cases nD
 have cN:∀ {us:List V}{cs:List (List Int)},ColsA H1 us cs->(∀ c∈cs,c.length=(mus ms wi.toNat).length+lB.length)->∀ z∈us,z≠ .ref la:=fun {us cs} hc hlen z hz e=>by
  obtain⟨k,hk⟩:=bI hz
  obtain⟨c,hc',x,ex,hx⟩:=All2.get' hc hk
  rw[e] at ex
  cases ex
  rw[hl1] at hx
  have hx:lvs=c.map V.int:=by cases hx; rfl
  have cl:=hlen c (aC hc')
  obtain⟨y,ys,ec⟩:∃ y ys,c=y::ys:=by
   cases c with
   | nil=>simp at cl; lia
   | cons y ys=>exact⟨y,ys,rfl⟩
  rw[ec] at hx
  obtain⟨pc,_,x',y',e',_⟩:=All2.get' hL1 (show lvs[0]?=some (V.int y) by rw[hx]; rfl)
  cases e'
 refine⟨_,rfl,pt,_,1,_,rfl,rfl,SqT.of hpt,rfl,?_⟩
 refine⟨_,rfl,pt,_,0,_,rfl,rfl,SqT.of hpt,rfl,Fa,rfl,⟨_,SqL.of hF⟩,?_⟩
 have fl:=All2.len hcF
 refine jA8 (xs:=fs) (fun σ=>∃ v,σ=[v,some (.int (i:Int))]) (mapZ Fc fun c=>V.int (cA c i)) (mapZ.ok _ _) hF (by rw[aF]; lia) ⟨_,rfl⟩ ?_ ?_
 ·rintro j x σ' H2 zs hx ⟨v,rfl⟩ e2 hz S1 S2 y1 n1
  obtain⟨c,hc,a,rfl,ha⟩:=All2.get' hcF hx
  dsimp only [kQ,yG]
  rw[ak rfl]
  refine⟨_,rfl,_,rfl,a,_,_,_,rfl,rfl,SqL.of (e2 _ _ ha),yP (by rw[led.len c (ax _ (aC hc))]; lia),?_⟩
  exact y1 _ _ _ ⟨_,rfl⟩ (Ext.refl _) (hz.yes hc)
 ·rintro D2 H2 zs h2 e2 n2 hz
  have hz:=hz.all (by lia)
  have h2':H2 D2=some (.lst ((Fc.map fun c=>cA c i).map V.int)):=by rw[h2,hz,bN]; rfl
  refine⟨D2,_,rfl,SqL.of h2',?_⟩
  refine jND (ca:=Da) (ps:=[]) G PY hr b1 hB g hm (fun c o h n=>e2 _ _ (e1 _ _ (S.kp _ _ h n) n)) tab0 (tab1.ext e2) S.nl (e2 _ _ hpt) (e2 _ _ hF) (hcF.ext e2) (e2 _ _ hD) (hcD.ext e2) (e2 _ _ (kl S.t)) (e2 _ _ hl1) (hL1.imp fun v pc ⟨x,y,e,hx,hy,ne⟩=>⟨x,y,e,e2 _ _ hx,e2 _ _ hy,ne⟩) S.w led f1 hAB hi S.nt dN fN (cN hcF fun c hc=>led.len c (ax _ hc)) (cN hcD fun c hc=>led.len c (aq _ hc)) S.few q fun ta' lvs' L' t' H3 v8 S3=>nx Da ta' ds lvs' Dc L' t' H3 _ _ v8 S3
end
def spWhl (tb:Addr):Sp:=fun vs H Q _=>∃ (b:Addr) (wi:Int) (ms:List Int) (lB:List (List Int×Int)),vs=[.ref b]/\BoxAt H b wi ms lB/\Good 16 32 wi ms lB/\TabL H tb/\WhlT wi ms lB tb H Q
theorem cutN {t:List Int}{n:Nat}(h:n<=t.length):cutV (t.map V.int) (some (n:Int)) none=(t.drop n).map V.int:=by
 unfold cutV
 rw[HT.sIx_nat,HT.sIx_none,ab,Nat.min_eq_left h,<- List.map_drop,bC (by rw[ab,dI]; exact ai _)]
theorem jJ6 (n:Nat)(x:Int):(replicate n [V.int x]).flatten=(replicate n x).map V.int:=by
 induction n with
 | zero=>rfl
 | succ n ih=>rw[cm,cm,ed,ih]; rfl
theorem jSY {fd:FuncData}(F:Fun K "wholes" "wholes" yD f fd)(G:WG P w K mg base tb fM fF fL fG fH fK fdM fdF fdL fdG fdH fdK):FnOk P w K mg base CX0 35 f fd ["box"] (spWhl tb):=by
 refine F.ok scWhP (fun vs H Q E h=>?_) (fun cdv A outer s H vs Q E hr h=>?_)
 ·obtain⟨_,_,_,_,rfl,_⟩:=h
  rfl
 ·obtain⟨b,wi,ms,lB,rfl,hB,g,tab,q⟩:=h
  have PY:=pylOf (f:=f) (cdv:=cdv) (A:=A) (outer:=outer) (s:=s) (H0:=H) (E:=E) (N:=nWhP) (q:= "wholes") (st:=yD) (w:=w) (base:=base) G.S (hr.mono (by decide)) rfl rfl
  refine⟨_,(whA G PY hr).2.h,?_⟩
  obtain⟨qm,qp,ps,b1,b2,b3,b4⟩:=id hB.ex
  have psl:=b4.len
  have w0:=g.w0
  have w1:=g.w1
  have pl:=g.pl
  have mul:=jCD ms wi.toNat
  refine⟨_,rfl,b,qm,_,wi,ms,rfl,b1,b2,w0,by lia,fun m nm=>?_⟩
  have e1:Ext H (L2.upd H m (.lst ((mus ms wi.toNat).map V.int))):=(Ext.refl _).new nm _
  have d1:(L2.upd H m (.lst ((mus ms wi.toNat).map V.int))) m=some (.lst ((mus ms wi.toNat).map V.int)):=j5
  generalize L2.upd H m (.lst ((mus ms wi.toNat).map V.int))=H1 at e1 d1
  refine⟨_,rfl,_,rfl,b,m,wi,ms,mus ms wi.toNat,lB,rfl,hB.mono e1.tups,g,d1,by lia,fun ca us H2 d2 hc2 e2 n2=>?_⟩
  have E2:=e1.trans e2
  refine⟨by show (1:Nat)<=_; decide,fun q3 H3 d3 e3 n3=>?_⟩
  have E3:=E2.trans e3
  refine⟨_,rfl,m,_,rfl, .inl (SqL.of (e3 _ _ (e2 _ _ d1))),q3,((mus ms wi.toNat).length:Int),[.int 1],rfl,by rw[ab],d3,by lia,by lia,by rw[aF]; show 1*_<=_; lia,fun q4 n4=>?_⟩
  rw[bB,jJ6]
  have e4:Ext H3 (L2.upd H3 q4 (.lst ((replicate (mus ms wi.toNat).length (1:Int)).map V.int))):=(Ext.refl _).new n4 _
  have d4:(L2.upd H3 q4 (.lst ((replicate (mus ms wi.toNat).length (1:Int)).map V.int))) q4=some (.lst ((replicate (mus ms wi.toNat).length (1:Int)).map V.int)):=j5
  generalize L2.upd H3 q4 (.lst ((replicate (mus ms wi.toNat).length (1:Int)).map V.int))=H4 at e4 d4
  have E4:=E3.trans e4
  refine⟨by show (1:Nat)<=_; decide,fun q5 H5 d5 e5 n5=>?_⟩
  have E5:=E4.trans e5
  refine⟨_,rfl,b,_,2,_,rfl,rfl,SqT.of (E5 _ _ b1),rfl,qp,_,rfl, .inr (SqT.of (E5 _ _ b3)),q5,(lB.length:Int),[.int 0],rfl,by rw[psl],d5,by lia,by lia,by rw[aF]; show 1*_<=_; lia,fun q6 n6=>?_⟩
  rw[bB,jJ6]
  have e6:Ext H5 (L2.upd H5 q6 (.lst ((replicate lB.length (0:Int)).map V.int))):=(Ext.refl _).new n6 _
  have d6:(L2.upd H5 q6 (.lst ((replicate lB.length (0:Int)).map V.int))) q6=some (.lst ((replicate lB.length (0:Int)).map V.int)):=j5
  generalize L2.upd H5 q6 (.lst ((replicate lB.length (0:Int)).map V.int))=H6 at e6 d6
  have E6:=E5.trans e6
  refine⟨q4,q6,_,_,rfl,rfl,e6 _ _ (e5 _ _ d4),d6,by rw[ab,ab,cX,cX,aF]; lia,fun ta H7 d7 e7 n7=>?_⟩
  have d7:H7 ta=some (.lst ((tgt0 (mus ms wi.toNat).length lB.length).map V.int)):=by rw[d7]; unfold tgt0; rw[aQ]
  have E7:=E6.trans e7
  refine⟨ba _,fun la H8 d8 e8 n8=>?_⟩
  have E8:=E7.trans e8
  have c28:Ext H2 H8:=((((e3.trans e4).trans e5).trans e6).trans e7).trans e8
  have c27:Ext H2 H7:=(((e3.trans e4).trans e5).trans e6).trans e7
  have E18:=e2.trans c28
  have nla:H1 la=none:=newOf (e2.trans c27) n8
  have n2la:H2 la=none:=newOf c27 n8
  have S0:WhS wi ms lB tb la H1 H8 0 ca ta us [] ((List.range lB.length).map (fcol (mus ms wi.toNat) lB)) [] (tgt0 (mus ms wi.toNat).length lB.length):=by
   refine⟨c28 _ _ d2,hc2.ext c28,e8 _ _ d7,d8,trivial,WI.first _ _,fun z hz e=>?_,fun z=>?_,fun z=>?_,ai _,fun c o h _=>E18 _ _ h,tab.ext E8,nla⟩
   ·obtain⟨k,hk⟩:=bI hz
    obtain⟨c,hc',x,ex,hx⟩:=All2.get' hc2 hk
    rw[e] at ex
    cases ex
    rw[n2la] at hx; cases hx
   ·rw[z,n2la] at d2; cases d2
   ·rw[z,n8] at d7; cases d7
  have q1:WhlT wi ms lB tb H1 Q:=⟨fun r q' xs H' a1 a2 a3 a4 a5=>q.1 r q' xs H' a1 a2 a3 (fun c o h n=>a4 _ _ (e1 _ _ h) n) a5,fun r h' q' M hs H' a1 a2 a3 a4 a5 a6=>q.2 r h' q' M hs H' a1 a2 a3 a4 (fun c o h n=>a5 _ _ (e1 _ _ h) n) a6⟩
  refine⟨_,rfl,m,_,rfl, .inl (SqL.of (E18 _ _ d1)),((mus ms wi.toNat).length:Int),by rw[ab],by lia,by lia,jAY (lo:=0) (n:=(mus ms wi.toNat).length) (fun i σ H'=>∃ ca ta us lvs cs L t v5 v6 v7 v8,σ=[some (.ref b),some (.ref m),some (.ref ca),some (.ref ta),some (.ref la),v5,v6,v7,v8]/\WhS wi ms lB tb la H1 H' i ca ta us lvs cs L t) ⟨_,_,_,_,_,_,_,_,_,_,_,rfl,S0⟩ ?_ ?_⟩
  ·rintro i σ H9 hi ⟨ca,ta,us,lvs,cs,L,t,v5,v6,v7,v8,rfl,S⟩
   have e0:(0+(i:Int))=(i:Int):=by lia
   show (whL G PY hr).1 _ [some (.ref b),some (.ref m),some (.ref ca),some (.ref ta),some (.ref la),some (.int (0+(i:Int))),v6,v7,v8] H9
   rw[e0]
   exact jNB G PY hr (e1 _ _ b1) (hB.mono e1.tups) g d1 (tab.ext e1) hi S q1 fun ca' ta' us' lvs' cs' L' t' H2 v6 v7 v8 S'=>⟨_,_,_,_,_,_,_,_,_,_,_,rfl,S'⟩
  ·rintro σ H9 ⟨ca,ta,us,lvs,cs,L,t,v5,v6,v7,v8,rfl,S⟩
   have hm9:=S.kp _ _ d1 (jLP (tab.ext e1) d1)
   refine⟨_,rfl,_,rfl,m,_,rfl, .inl (SqL.of hm9),((mus ms wi.toNat).length:Int),by rw[ab],?_⟩
   dsimp only [jEL]
   refine⟨ta,_,rfl,SqL.of S.t,fun q9 n9=>?_⟩
   rw[cutN (by rw[S.w.lt]; lia)]
   have eA:Ext H9 (L2.upd H9 q9 (.lst ((t.drop (mus ms wi.toNat).length).map V.int))):=(Ext.refl _).new n9 _
   have dA:(L2.upd H9 q9 (.lst ((t.drop (mus ms wi.toNat).length).map V.int))) q9=some (.lst ((t.drop (mus ms wi.toNat).length).map V.int)):=j5
   generalize L2.upd H9 q9 (.lst ((t.drop (mus ms wi.toNat).length).map V.int))=HA at eA dA
   have tl:=S.w.lt
   refine⟨q9,rfl,⟨_,SqL.of dA⟩,jA8 (xs:=(t.drop (mus ms wi.toNat).length).map V.int) (fun σ=>∃ v,σ=[v]) (mapZ (t.drop (mus ms wi.toNat).length) fun x=>V.int (-x)) (mapZ.ok _ _) dA (by rw[ab,dI,aF]; lia) ⟨_,rfl⟩ ?_ ?_⟩
   ·rintro j x σ' H2 zs hx ⟨v,rfl⟩ e2 hz S1 S2 y1 n1
    obtain⟨x,hx',rfl⟩:=int_at hx
    dsimp only [kQ,yG]
    rw[ak rfl]
    exact⟨_,rfl,_,rfl,y1 _ _ _ ⟨_,rfl⟩ (Ext.refl _) (hz.yes hx')⟩
   ·rintro DB HB zs hb eB nB hz
    have hz:=hz.all (by rw[ab]; exact ai _)
    have hb':HB DB=some (.lst (((t.drop (mus ms wi.toNat).length).map fun x=> -x).map V.int)):=by rw[hb,hz,bN]; rfl
    refine⟨DB,_,rfl, .inl ⟨SqL.of hb',fun qC nC=>?_⟩⟩
    have eC:Ext HB (L2.upd HB qC (.tup (((t.drop (mus ms wi.toNat).length).map fun x=> -x).map V.int))):=(Ext.refl _).new nC _
    have dC:(L2.upd HB qC (.tup (((t.drop (mus ms wi.toNat).length).map fun x=> -x).map V.int))) qC=some (.tup (((t.drop (mus ms wi.toNat).length).map fun x=> -x).map V.int)):=j5
    generalize L2.upd HB qC (.tup (((t.drop (mus ms wi.toNat).length).map fun x=> -x).map V.int))=HC at eC dC
    refine⟨by show (2:Nat)<=_; decide,fun r HD dD eD=>?_⟩
    have E:=((eA.trans eB).trans eC).trans eD
    exact q1.1 r qC _ HD dD (eD _ _ dC) S.w.wholes (fun c o h n=>E _ _ (S.kp _ _ h n)) (S.tab.ext E)
end
theorem jTP {b:Bool}{A B:Prop}(h:b=true)(a:A):if b=true then A else B:=by rw[ak h]; exact a
theorem iteNo {b:Bool}{A B:Prop}(h:b=false)(a:B):if b=true then A else B:=by rw[aj (by rw[h]; decide)]; exact a
inductive TR (wi:Int) (ms:List Int) (lB:List (List Int×Int)) (H:Hp) (r:Addr):Bool->Prop where
 | wh (q:Addr) (xs:List Int) (h1:H r=some (.tup [.str "wholes", .ref q])) (h2:H q=some (.tup (xs.map V.int))) (h3:kP wi ms lB (.tup (xs.map Ob.int))=true):TR wi ms lB H r true
 | hu (h q:Addr) (M:Int) (hs:List Int) (h1:H r=some (.tup [.str "hues", .ref h])) (h2:H h=some (.tup [.int M, .ref q])) (h3:H q=some (.tup (hs.map V.int))) (h4:hueB wi ms lB (.tup [.int M, .tup (hs.map Ob.int)])=true):TR wi ms lB H r false
def wordS (b:Bool):PySem.Str:=if b then "wholes" else "hues"
theorem jKE {wi:Int}{ms:List Int}{lB:List (List Int×Int)}{tb:Addr}{H:Hp}{Q:VK}(h:∀ (r:Addr) (x:Bool) (H':Hp),TR wi ms lB H' r x->ExtT tb H H'->TabL H' tb->Q (.ref r) H'):WhlT wi ms lB tb H Q:=
 ⟨fun r q xs H' a1 a2 a3 a4 a5=>h r true H' (.wh q xs a1 a2 a3) a4 a5,fun r hh q M hs H' a1 a2 a3 a4 a5 a6=>h r false H' (.hu hh q M hs a1 a2 a3 a4) a5 a6⟩
theorem TR.word {wi:Int}{ms:List Int}{lB:List (List Int×Int)}{H:Hp}{r:Addr}{x:Bool}(h:TR wi ms lB H r x):∃ v,H r=some (.tup [.str (wordS x),v]):=by
 cases h with
 | wh q xs h1 h2 h3=>exact⟨_,h1⟩
 | hu hh q M hs h1 h2 h3 h4=>exact⟨_,h1⟩
theorem TR.has {wi:Int}{ms:List Int}{lB:List (List Int×Int)}{H:Hp}{r:Addr}{x:Bool}(g:Good 16 32 wi ms lB)(h:TR wi ms lB H r x):x=true↔∃ xs:List Int,kP wi ms lB (.tup (xs.map Ob.int))=true:=by
 cases h with
 | wh q xs h1 h2 h3=>exact⟨fun _=>⟨xs,h3⟩,fun _=>rfl⟩
 | hu hh q M hs h1 h2 h3 h4=>exact⟨(fun z=>by cases z),fun ⟨xs,h⟩=>(jJP g h h4).elim⟩
theorem jE0 {w:Int}{ms:List Int}{lB:List (List Int×Int)}{xs:List Int}(h:kP w ms lB (.tup (xs.map Ob.int))=true):xs.length=lB.length:=by
 rw[jBD,bD] at h
 exact aP h.1
theorem wholes_ones {w:Int}{ms:List Int}{lB:List (List Int×Int)}{xs:List Int} :kP w ms lB (.tup (xs.map Ob.int))=true↔xs.length=lB.length/\∀ j,j<(mus ms w.toNat).length->(sxS lB.length fun k=>aI (mus ms w.toNat) lB j k*cA xs k)=1:=by
 rw[jBD,bD,bW]
 constructor
 ·rintro ⟨a,b⟩
  exact⟨a,(jD8 a).mp b⟩
 ·rintro ⟨a,b⟩
  exact⟨a,(jD8 a).mpr b⟩
theorem atsI {H:Hp} :∀ ls:List Int,Ats H (ls.map Ob.int) (ls.map V.int)
 | []=>rfl
 | x::ls=>⟨_,_,rfl,rfl,atsI ls⟩
theorem jN4 {H:Hp}{q:Addr}{xs:List Int}(h:H q=some (.tup (xs.map V.int)))(hl:xs.length<=100):At H (.tup (xs.map Ob.int)) (.ref q):=jTY h (by rw[ab]; exact hl) (atsI xs)
def rowC (m:Nat)(c:List Int):List Int:=(List.range m).map fun (k:Nat)=>if (k:Int)∈c then (1:Int) else 0
theorem jKX {m:Nat}{c:List Int}{k:Nat}(h:k<m):cA (rowC m c) k=if (k:Int)∈c then 1 else 0:=by
 unfold rowC
 rw[jJC _ _ 0 (by rw[bv]; exact h),af,cV h]
 rfl
theorem jIT {ms:List Int}{n j:Nat}(h:j<(mus ms n).length):(mus ms n).getD j 0∈mus ms n:=by
 rw[af,ag h]
 exact bS h
theorem jMN {w:Int}{ms:List Int}{lB:List (List Int×Int)}{c:List Int}(g:Good 16 32 w ms lB)(h:IsCov w ms lB c):kP w ms lB (.tup ((rowC lB.length c).map Ob.int))=true:=by
 refine wholes_ones.mpr ⟨by unfold rowC; rw[ab,bv],fun j hj=>?_⟩
 have w0:=g.w0
 obtain⟨t0,t1,tm⟩:=mem_mus.mp (jIT hj)
 obtain⟨k,kc,hk⟩:=h.cov _ t0 (by lia) tm
 obtain⟨k0,k1⟩:=h.ris.bnd k kc
 have ek:((k.toNat:Nat):Int)=k:=by lia
 have hkn:k.toNat<lB.length:=by lia
 rw[jEM (i:=k.toNat) hkn fun o ho ne=>?_]
 ·rw[jKX hkn,ek,ak kc]
  unfold aI
  rw[ak (show _∈(lB.getD k.toNat ([],0)).1 from hk)]
  rfl
 ·rw[jKX ho]
  by_cases oc:(o:Int)∈c
  ·unfold aI
   rw[aj (fun z=>?_),Int.zero_mul]
   have:=h.dis (o:Int) oc k kc (by lia) _ (show _∈jD lB (o:Int) by unfold jD; rw[bB]; exact z)
   exact this hk
  ·rw[aj oc,Int.mul_zero]
def twice (xs ys:List Int):List Int:=zipWith (fun x y=>2*x - y) xs ys
theorem jS0 {w:Int}{ms:List Int}{lB:List (List Int×Int)}{xs ys:List Int}(hx:kP w ms lB (.tup (xs.map Ob.int))=true)(hy:kP w ms lB (.tup (ys.map Ob.int))=true):kP w ms lB (.tup ((twice xs ys).map Ob.int))=true:=by
 obtain⟨lx,hx⟩:=wholes_ones.mp hx
 obtain⟨ly,hy⟩:=wholes_ones.mp hy
 refine wholes_ones.mpr ⟨by unfold twice; rw[eG,lx,ly,Nat.min_self],fun j hj=>?_⟩
 have e:(sxS lB.length fun k=>aI (mus ms w.toNat) lB j k*cA (twice xs ys) k)=sxS lB.length fun k=>2*(aI (mus ms w.toNat) lB j k*cA xs k) - 1*(aI (mus ms w.toNat) lB j k*cA ys k):=jS fun k hk=>by
  have:cA (twice xs ys) k=2*cA xs k - cA ys k:=by
   unfold cA twice
   rw[af,af,af,dS,ag (by lia),ag (by lia)]
   rfl
  rw[this]
  grind
 rw[e,jEN,jAS,hx j hj,hy j hj]
 rfl
def latP (w:Int)(s:Bool)(pc:List Int×Int):List Int×Int:=(pc.1++(if s then [w] else []),pc.2)
theorem jLL {ms:List Int}{n:Nat} :mus (ms++[(n:Int)]) (n+1)=mus ms n:=by
 rw[jF5,aj (by simp),bg]
 unfold mus
 congr 1
 refine List.filter_congr fun t ht=>?_
 have:=bM.mp ht
 have:((t:Int)∈ms++[(n:Int)])↔(t:Int)∈ms:=by
  rw[ay,aO]
  constructor
  ·rintro (a | a)
   ·exact a
   ·lia
  ·exact .inl
 simp only [this]
theorem jO6 {w:Int}{ms:List Int}{lB:List (List Int×Int)}{xs:List Int}(s:Bool)(w0:0<=w):kP (w+1) (ms++[w]) (lB.map (latP w s)) (.tup (xs.map Ob.int))=true↔kP w ms lB (.tup (xs.map Ob.int))=true:=by
 have ew:(w+1).toNat=w.toNat+1:=by lia
 have en:((w.toNat:Nat):Int)=w:=by lia
 have em:mus (ms++[w]) (w+1).toNat=mus ms w.toNat:=by
  rw[ew]
  have:=jLL (ms:=ms) (n:=w.toNat)
  rw[en] at this
  exact this
 rw[wholes_ones,wholes_ones,em,ab]
 refine and_congr Iff.rfl (forall_congr' fun j=>forall_congr' fun hj=>?_)
 have e:(sxS lB.length fun k=>aI (mus ms w.toNat) (lB.map (latP w s)) j k*cA xs k)=sxS lB.length fun k=>aI (mus ms w.toNat) lB j k*cA xs k:=jS fun k hk=>by
  congr 1
  unfold aI
  have e1:(lB.map (latP w s)).getD k ([],0)=latP w s (lB.getD k ([],0)):=by
   rw[af,aY,af,ag hk]
   rfl
  rw[e1]
  obtain⟨t0,t1,tm⟩:=mem_mus.mp (jIT hj)
  have:(mus ms w.toNat).getD j 0∈(latP w s (lB.getD k ([],0))).1↔(mus ms w.toNat).getD j 0∈(lB.getD k ([],0)).1:=by
   unfold latP
   rw[ay]
   constructor
   ·rintro (a | a)
    ·exact a
    ·cases s with
     | true=>have:=aO.mp a; lia
     | false=>cases a
   ·exact .inl
  simp only [this]
 rw[e]
theorem jK3 {w:Int}{ms:List Int}{lB:List (List Int×Int)}(g:Good 12 16 w ms lB)(s:Bool):Good 16 32 (w+1) (ms++[w]) (lB.map (latP w s)):=by
 have w0:=g.w0
 have w1:=g.w1
 have pl:=g.pl
 have ris:∀ {ts:List Int},ts.Pairwise (· < ·)->(∀ z∈ts,0<=z/\z<w)->(ts++[w]).Pairwise (· < ·)/\∀ z∈ts++[w],0<=z/\z<w+1:=fun {ts} h hb=>by
  refine⟨bO.mpr ⟨h,by simp,fun a ha b hb'=>by rw[aO.mp hb']; exact(hb a ha).2⟩,fun z hz=>?_⟩
  rcases ay.mp hz with q | q
  ·have:=hb z q; lia
  ·rw[aO.mp q]; lia
 obtain⟨m1,m2⟩:=ris g.mr.ris g.mr.bnd
 refine⟨by lia,by lia,⟨m1,m2⟩,by rw[ab]; lia,fun pc hpc=>?_⟩
 obtain⟨p,hp,rfl⟩:=aZ.mp hpc
 have gp:=g.pg p hp
 cases s with
 | true=>
  obtain⟨r1,r2⟩:=ris gp.lot.ris gp.lot.bnd
  exact⟨⟨r1,r2,by unfold latP; simp⟩,gp.lo,gp.hi⟩
 | false=>
  have e:latP w false p=p:=by unfold latP; simp
  rw[e]
  exact⟨⟨gp.lot.ris,fun z hz=>by have:=gp.lot.bnd z hz; lia,gp.lot.ne⟩,gp.lo,gp.hi⟩
end Eo
section
namespace L2
open PySem PyProof.Rows
structure SeerF (P:Program)(K:W.Frag):Prop where
 tree:P.given.tree=none
 st:∃ o n,K.lookup cStatics=some o/\o.data= .dict #[] n
 md:∃ o es n,K.lookup sysModules=some o/\o.data= .dict es n/\StrKeys es/\nsFind es "_pylong" =none
end L2
namespace Eo
open PySem L2
structure T2 (H:Hp)(tb1 tb2:Addr):Prop where
 w:TabW H tb1
 l:TabL H tb2
theorem jEK {H:Hp}{tb:Addr}{p:Pos}{q:Str}(h:TabOk H tb p q):∃ x,H tb=some (.tbl x):=by
 rcases h with a | ⟨_,a,_⟩
 ·exact⟨_,a⟩
 ·exact⟨_,a⟩
theorem jAI {H H':Hp}{a b:Addr}{p p':Pos}{q q':Str}(h:TabOk H a p q)(hb:TabOk H b p' q')(e:ExtT b H H')(ne:a≠b):TabOk H' a p q:=by
 obtain⟨x,hx⟩:=jEK hb
 rcases h with z | ⟨c,z,z'⟩
 ·exact .inl (e _ _ z ne)
 ·exact .inr ⟨c,e _ _ z ne,e _ _ z' fun y=>by rw[y,hx] at z'; cases z'⟩
theorem T2.ext {H H':Hp}{tb1 tb2:Addr}(h:T2 H tb1 tb2)(e:Ext H H'):T2 H' tb1 tb2:=⟨h.w.ext e,h.l.ext e⟩
theorem T2.ne {H:Hp}{tb1 tb2 c:Addr}{o:HO}(h:T2 H tb1 tb2)(hc:H c=some o)(ho:∀ x,o≠ .tbl x):c≠tb1/\c≠tb2:=by
 obtain⟨x,hx⟩:=jEK h.w
 obtain⟨y,hy⟩:=jEK h.l
 exact⟨fun z=>by rw[z,hx] at hc; cases hc; exact ho _ rfl,fun z=>by rw[z,hy] at hc; cases hc; exact ho _ rfl⟩
theorem T2.keep {H H':Hp}{tb1 tb2 p:Addr}{xs:List V}(h:T2 H tb1 tb2)(hp:H p=some (.lst xs))(k:Keep H H' p):T2 H' tb1 tb2:=by
 have one:∀ {a:Addr}{po:Pos}{q:Str},TabOk H a po q->TabOk H' a po q:=fun t=>by
  rcases t with z | ⟨c,z,z'⟩
  ·exact .inl (k _ _ z fun y=>by rw[y,hp] at z; cases z)
  ·exact .inr ⟨c,k _ _ z (fun y=>by rw[y,hp] at z; cases z),k _ _ z' fun y=>by rw[y,hp] at z'; cases z'⟩
 exact⟨one h.w,one h.l⟩
theorem jGK {H:Hp}{p:Addr}{o:HO} :Keep H (L2.upd H p o) p:=fun x o hx n=>by rw[j7 n]; exact hx
theorem jOJ {K:W.Frag}{m:List (Option Nat)}{te:TE}{σ τ:St}{H:Hp}{Q:VK}{a d:Addr}{xs ys:List Int}(F:Int->Int->Int)(hσ:blkσ m σ=none::none::τ)(ha:H a=some (.tup (xs.map V.int)))(hd:H d=some (.tup (ys.map V.int)))(hl:xs.length<=100)
  (ht:∀ x y H' Q',x∈xs->y∈ys->Q' (.int (F x y)) H'->te (some (.int x)::some (.int y)::τ) H' Q')
  (k:∀ D H',H' D=some (.lst ((zipWith F xs ys).map V.int))->Ext H H'->H D=none->Q (.ref D) H'):qB m (gTup K 2 (qH (kQ 0) (qH (kQ 1) gNil))) yG te σ Q (Itz true true K a d) H:=by
 refine jFK (xs:=xs.map V.int) (ys:=ys.map V.int) (by rw[ab,aF]; lia) (fun D j σ' H' zs=>(∃ v1 v2,σ'=v1::v2::τ)/\zs=((zipWith F xs ys).take j).map V.int/\Ext H H'/\H' D=some (.lst zs)/\H D=none) ?_ ?_ ?_ ?_
 ·intro D hD
  exact⟨⟨_,_,hσ⟩,rfl,(Ext.refl _).new hD _,j5,hD⟩
 ·rintro D j σ' H' zs hD ⟨_,hz,e,hD',_⟩
  exact⟨SqT.of (e _ _ ha),SqT.of (e _ _ hd),hD',by rw[hz,ab,bq]; lia⟩
 ·rintro D j σ' H' zs x y Tp hD hx hy hT ⟨⟨v1,v2,rfl⟩,hz,e,hD',_⟩
  obtain⟨x,hx',rfl⟩:=int_at hx
  obtain⟨y,hy',rfl⟩:=int_at hy
  have e2:Ext H' (L2.upd H' Tp (.tup [.int x, .int y])):=(Ext.refl _).new hT _
  have d2:(L2.upd H' Tp (.tup [.int x, .int y])) Tp=some (.tup [.int x, .int y]):=j5
  generalize L2.upd H' Tp (.tup [.int x, .int y])=H2 at e2 d2
  refine⟨Tp,_,rfl,SqT.of d2,rfl,_,_,rfl,_,_,rfl,rfl,?_⟩
  dsimp only [yG]
  rw[ak rfl]
  refine ht x y H2 _ (aC hx') (aC hy') ⟨e2 _ _ hD',⟨_,_,rfl⟩,?_,(e.trans e2).updNew hD _,j5,hD⟩
  have:(zipWith F xs ys)[j]?=some (F x y):=by rw[dS,hx',hy']
  rw[hz,be,this,aQ]
  rfl
 ·rintro D2 σ' H2 zs hD ⟨_,hz,e,hD',_⟩
  rw[ab,ab,bC (by rw[eG]; exact ai _)] at hz
  exact k D2 H2 (by rw[hD',hz]) e hD
section
variable {tb1 tb2 fB fMn fWh fCa:Addr}{fdB fdMn fdWh fdCa:FuncData}
noncomputable abbrev nLaw:List Str:=["script","k","pot","box","amount","told","turn","some","row","other","share","pieces","later"]
theorem scLaw:FnScope nLaw ["script"] (j8 sLaw):= {}
abbrev XLaw (P:Program)(w:World)(K:W.Frag)(mg:Str->Option Value)(base:Heap)(f:Addr)(cdv:Value)(A:Around)(outer:List Env)(s:Shared)(H:Hp)(E:XK):Cx:=XOf nLaw "law" sLaw P w K mg base f cdv A outer s H E
structure LW (P:Program)(w:World)(K:W.Frag)(mg:Str->Option Value)(base:Heap)(tb1 tb2 fC fP fT fB fMn fWh fCa fA:Addr)(fdC fdP fdT fdB fdMn fdWh fdCa fdA:FuncData):Prop where
 T:Txt mg
 ne:tb1≠tb2
 CC:Can P w K mg base "_law_cell_at" 1 fC fdC ["script","k"] (jKU K)
 CP:Can P w K mg base "_law_pot" 1 fP fdP ["cell"] spPot
 CT:Can P w K mg base "_law_take" 1 fT fdT ["pot","wide"] yL
 CB:Can P w K mg base "_law_box" 3 fB fdB ["pot","most_things","most_pieces"] spBox
 CMn:Can P w K mg base "many" 6 fMn fdMn ["box"] (jKS tb1)
 CWh:Can P w K mg base "wholes" 35 fWh fdWh ["box"] (spWhl tb2)
 CCa:Can P w K mg base "covering_at" 6 fCa fdCa ["box","number"] (jHI tb1)
 CA:Can P w K mg base "are_wholes" 2 fA fdA ["box","thing"] spWho
abbrev lawL:List Stmt:=yT ((jC sLaw).getD 0 (.Pass ⟨0,0,0,0⟩))
section
variable (G:LW P w K mg base tb1 tb2 fC fP fT fB fMn fWh fCa fA fdC fdP fdT fdB fdMn fdWh fdCa fdA)(hr:Room 35 (XLaw P w K mg base f cdv A outer s H0 E).A)
def linA: { t:TS // JSs (XLaw P w K mg base f cdv A outer s H0 E) (yT (lawL.getD 5 (.Pass ⟨0,0,0,0⟩))) t} :=
 have nd:=scLaw.nd
 have _h:=G; have _h2:=hr
 ⟨_,(j9 (jE (i:=7) nd rfl qA (G.CCa.je (hr.mono (by decide)) gD (j3 (jv 3 rfl vC) (j3 (G.CT.je (hr.mono (by decide)) gD (j3 (jv 2 rfl vL) (j3 (jv 4 rfl vL) j6 j4) j4) j4) j6 jI) j4) j4) jK)
   (j9 (jE (i:=8) nd rfl lL (kJ jY gD G.T.tuple (by decide+kernel) (j3 (kU (m:=[none,some 7]) (Nc:=["piece","some"]) rfl (jA2 gD G.T.range (j3 (jH jO gD G.T.len (by decide+kernel) (j3 (jT kL (jv 3 rfl vC) (je_int) jF) j6 jV) jV) j6 jI) jI) rfl (by decide+kernel) (by decide+kernel) (jQ (psc:=j8 sLaw)) (jG (N:=nLaw) rfl rfl (by decide+kernel)) (fun cl C fp s H=>jN (i:=0) (show (["piece","some"]:List Str).Nodup by decide+kernel) rfl yH) (fun cl C fp s H=>kX) (fun cl C fp s H=>(kJ jC2 gl_b G.T.int (by decide+kernel) (j3 (jCF jF2 (jv 0 rfl jL) (jv 1 rfl kN) jLF) j6 jCR) jCR)) kI) j6 jW) jW) jK)
   (j9 (jE (i:=9) nd rfl lL (kJ jY gD G.T.tuple (by decide+kernel) (j3 (kU (m:=[none,none]) (Nc:=["one","more"]) rfl (jGN gD G.T.zip (j3 (jv 8 rfl vL) (j3 (jT kL (jv 5 rfl vL) (je_int) jF) j6 jV) j4) j4) rfl (by decide+kernel) (by decide+kernel) (jQ (psc:=j8 sLaw)) (jG (N:=nLaw) rfl rfl (by decide+kernel)) (fun cl C fp s H=>jAB (i:=0) (j:=1) rfl (show (["one","more"]:List Str).Nodup by decide+kernel) rfl rfl (by decide+kernel) (by decide+kernel)) (fun cl C fp s H=>kX) (fun cl C fp s H=>(jR jCX (jR yS (je_int) (jv 0 rfl jL)) (jv 1 rfl jL))) kI) j6 jW) jW) jK)
   (jB (yX (jt_w (jw_or (jGM (jGL (G.CA.je (hr.mono (by decide)) gD (j3 (jv 3 rfl vC) (j3 (jv 8 rfl vL) j6 j4) j4) j4) jDH)) (jIX (jGM (jGL (G.CA.je (hr.mono (by decide)) gD (j3 (jv 3 rfl vC) (j3 (jv 9 rfl vL) j6 j4) j4) j4) jDH))))) (jB (jX (je_bl))) yA)))))⟩
def lt6A: { t:TS // JSs (XLaw P w K mg base f cdv A outer s H0 E) (lawL.drop 6) t} :=
 have nd:=scLaw.nd
 have _h:=G; have _h2:=hr
 ⟨_,(j9 (jE (i:=10) nd rfl qA (G.CT.je (hr.mono (by decide)) gD (j3 (jv 2 rfl vL) (j3 (je_int) j6 jZ) j4) j4) jK)
   (j9 (jAX (i:=11) nd rfl lL ⟨by rfl⟩ (m:=[none,none,some 3,some 10]) (Nc:=["held","weight","box","share"]) rfl (jM1 (jT kL (jv 3 rfl vC) (je_int) jF)) rfl (by decide+kernel) (by decide+kernel) (jQ (psc:=j8 sLaw)) (jG (N:=nLaw) rfl rfl (by decide+kernel)) (fun cl C fp s H=>jAB (i:=0) (j:=1) rfl (show (["held","weight","box","share"]:List Str).Nodup by decide+kernel) rfl rfl (by decide+kernel) (by decide+kernel)) (fun cl C fp s H=>kX) (fun cl C fp s H=>(yK (j3 (jR jL8 (jv 0 rfl jL) (jR jQN (yK (j3 (jT jBX (jv 2 rfl kN) (je_int) jF) j6 jV)) (kJ jC2 gl_b G.T.int (by decide+kernel) (j3 (jCF op_gt (jv 3 rfl kN) (je_int) (jM _)) j6 jCR) jCR))) (j3 (jv 1 rfl jL) j6 j4) kY))) jEC)
   (j9 (jE (i:=12) nd rfl lL (yK (j3 (jR yF (jT kL (jv 3 rfl vC) (je_int) jF) (je_int)) (j3 (jR jL8 (jT kL (jv 3 rfl vC) (je_int) jF) (yK (j3 (jT kL (jv 3 rfl vC) (je_int) jF) j6 jV))) (j3 (kJ jY gD G.T.tuple (by decide+kernel) (j3 (jv 11 rfl vL) j6 j4) j4) j6 jI) kY) kY)) jOW)
   (j9 (yX (jJ qI (jT kL (G.CWh.je hr gD (j3 (jv 12 rfl vL) j6 j4) j4) (je_int) jF) (jT kL (jv 5 rfl vL) (je_int) jF) (jM _)) (jB (jX (je_bl))) yA)
   (jB (yX (jt_w (jPA (jJ yW (jT kL (jv 5 rfl vL) (je_int) jF) (jJ0) (jM _)) (jLY (jt_w (jw_or (jJ op_gt (jv 4 rfl vL) (je_int) (jM _)) (jIX (jJ op_gt (G.CMn.je (hr.mono (by decide)) gD (j3 (jv 12 rfl vL) j6 j4) j4) (je_int) (jM _)))))))) (jB (jX (je_bl))) yA))))))⟩
def lt5A: { t:TS // JSs (XLaw P w K mg base f cdv A outer s H0 E) (lawL.drop 5) t} :=
 have nd:=scLaw.nd
 ⟨_,(j9 (yO bx rfl (jA2 gD G.T.range (j3 (jR yS (je_int) (kJ jC2 gD G.T.int (by decide+kernel) (j3 (jCF op_gt (jv 4 rfl vL) (je_int) (jM _)) j6 jCR) jCR)) j6 kY) kY) (jN (i:=6) nd rfl lL) (linA G hr).2 kI) (lt6A G hr).2)⟩
def lt0A: { t:TS // JSs (XLaw P w K mg base f cdv A outer s H0 E) lawL t} :=
 have nd:=scLaw.nd
 ⟨_,(j9 (jE (i:=2) nd rfl lL (G.CP.je (hr.mono (by decide)) gD (j3 (G.CC.je (hr.mono (by decide)) gD (j3 (jv 0 rfl vL) (j3 (jv 1 rfl vL) j6 j4) j4) j4) j6 jI) jI) jK) (j9 (jE (i:=3) nd rfl qA (G.CB.je (hr.mono (by decide)) gD (j3 (jv 2 rfl vL) (j3 (je_int) (j3 (je_int) j6 jZ) jZ) j4) j4) jK) (j9 (jE (i:=4) nd rfl lL (G.CMn.je (hr.mono (by decide)) gD (j3 (jv 3 rfl vC) j6 j4) j4) jK) (j9 (jE (i:=5) nd rfl lL (G.CWh.je hr gD (j3 (jv 3 rfl vC) j6 j4) j4) jK) (j9 (yX (jt_w (jPA (jJ op_gt (jv 4 rfl vL) (je_int) (jM _)) (jLY (jJ qI (jT kL (jv 5 rfl vL) (je_int) jF) (jJ0) (jM _))))) (jB (jX (je_bl))) yA) (lt5A G hr).2)))))⟩
def lawA: { t:TS // JSs (XLaw P w K mg base f cdv A outer s H0 E) (jC sLaw) t} :=
 have nd:=scLaw.nd
 ⟨_,(j9 (yO bx rfl (jA2 gD G.T.range (j3 (jH (jMY rfl) gD G.T.max (by decide+kernel) (j3 (je_int) (j3 (jH (jMX rfl) gD G.T.min (by decide+kernel) (j3 (jH jO gD G.T.len (by decide+kernel) (j3 (jv 0 rfl vL) j6 j4) j4) (j3 (je_int) j6 jZ) jI) jI) j6 jI) jZ) jZ) j6 jI) jI) (jN (i:=1) nd rfl lL) (lt0A G hr).2 kI) (jB (jX (je_bl))))⟩
theorem jO4 {D:Ends}{H:Hp}{p b r q0:Addr}{N:Int}{wi:Int}{ms:List Int}{lB:List (List Int×Int)}{xs:List Int}{v0 v1 v6 v7 v8 v9 v10 v11 v12:Option V}(hp:H p=some (.lst [.int N]))(hN:0<=N)(hB:BoxAt H b wi ms lB)(g:Good 16 32 wi ms lB)(tab:T2 H tb1 tb2)(M0:(0:Int)<((cvs wi ms lB).length:Int))(M1:((cvs wi ms lB).length:Int)<2 ^ 64)(h1:H r=some (.tup [.str "wholes", .ref q0]))(h2:H q0=some (.tup (xs.map V.int)))(h3:kP wi ms lB (.tup (xs.map Ob.int))=true)
  (nx:∀ H' N' v7 v8 v9,(∀ c o,H c=some o->c≠p->c≠tb1->c≠tb2->H' c=some o)->H' p=some (.lst [.int N'])->0<=N'->T2 H' tb1 tb2->D.nx [v0,v1,some (.ref p),some (.ref b),some (natV (cvs wi ms lB).length),some (.ref r),v6,v7,v8,v9,v10,v11,v12] H'):
  (linA G hr).1 D [v0,v1,some (.ref p),some (.ref b),some (natV (cvs wi ms lB).length),some (.ref r),v6,v7,v8,v9,v10,v11,v12] H:=by
 have xl:=jE0 h3
 have pl:=g.pl
 refine⟨_,rfl,_,rfl,_,rfl,p,N,_,rfl,hp,hN,M0,M1,fun N1 r1 a1 a2 a3=>?_⟩
 obtain⟨n,rfl⟩:∃ n:Nat,r1=(n:Int):=⟨r1.toNat,by lia⟩
 have hp1:(L2.upd H p (.lst [.int N1])) p=some (.lst [.int N1]):=j5
 have k1:Keep H (L2.upd H p (.lst [.int N1])) p:=jGK
 generalize L2.upd H p (.lst [.int N1])=H1 at hp1 k1
 have tab1:=tab.keep hp k1
 have tu1:Tups H H1:=fun c xs h=>k1 _ _ h fun z=>by rw[z,hp] at h; cases h
 have hn:n<(cvs wi ms lB).length:=by lia
 have hc:=ag hn
 have C:IsCov wi ms lB (cvs wi ms lB)[n]:=(jHS g).mp (bS hn)
 generalize (cvs wi ms lB)[n]=c at hc C
 refine⟨b,n,wi,ms,lB,c,rfl,hB.mono tu1,g,tab1.w,hc,fun q H2 d2 e2 t2=>?_⟩
 have tu2:Tups H1 H2:=fun c xs h=>e2 _ _ h (tab1.ne h (fun _ z=>by cases z)).1
 have tab2:T2 H2 tb1 tb2:=⟨t2,jAI tab1.l tab1.w e2 G.ne.symm⟩
 have hB2:=(hB.mono tu1).mono tu2
 obtain⟨qm,qp,ps,b1,b2,b3,b4⟩:=id hB2.ex
 have psl:=b4.len
 refine⟨_,rfl,b,_,2,_,rfl,rfl,SqT.of b1,rfl,qp,_,rfl, .inr (SqT.of b3),(lB.length:Int),by rw[psl],by lia,by lia,jFM (n:=lB.length) (fun σ=>∃ v,σ=[v,some (.ref q)]) (mapZ (List.range lB.length) fun (k:Nat)=>V.int (if (k:Int)∈c then 1 else 0)) (mapZ.ok _ _) (by rw[aF]; lia) ⟨_,rfl⟩ ?_ ?_⟩
 ·rintro j σ' H3 zs hj ⟨v,rfl⟩ e3 hz S1 S2 y1 n1
  have e0:(0+(j:Int))=(j:Int):=by lia
  rw[e0]
  dsimp only [kQ,yG]
  rw[ak rfl]
  refine⟨_,rfl,_,rfl,q,_,rfl, .inr (SqT.of (e3 _ _ d2)),rfl,jAZ _,?_⟩
  rw[jBY]
  refine .inr ⟨_,rfl,?_⟩
  refine y1 _ _ _ ⟨_,rfl⟩ (Ext.refl _) (hz.yesV (cV hj) ?_)
  by_cases h:(j:Int)∈c <;> simp [h]
 ·rintro D3 H3 zs h3' e3 n3 hz
  have hz:=hz.all (by rw[bv]; exact ai _)
  have h3'':H3 D3=some (.lst ((rowC lB.length c).map V.int)):=by rw[h3',hz]; unfold rowC; rw[bN]; rfl
  refine⟨D3,_,rfl, .inl ⟨SqL.of h3'',fun q4 n4=>?_⟩⟩
  have e4:Ext H3 (L2.upd H3 q4 (.tup ((rowC lB.length c).map V.int))):=(Ext.refl _).new n4 _
  have d4:(L2.upd H3 q4 (.tup ((rowC lB.length c).map V.int))) q4=some (.tup ((rowC lB.length c).map V.int)):=j5
  generalize L2.upd H3 q4 (.tup ((rowC lB.length c).map V.int))=H4 at e4 d4
  have E4:=e3.trans e4
  have tu4:Tups H H4:=fun c xs h=>E4 _ _ (tu2 _ _ (tu1 _ _ h))
  have rl:(rowC lB.length c).length=lB.length:=by unfold rowC; rw[ab,bv]
  refine⟨_,rfl,_,rfl,r,_,1,_,rfl,rfl,SqT.of (tu4 _ _ h1),rfl,true,true,q4,q0,rfl,⟨_,SqT.of d4⟩,⟨_,SqT.of (tu4 _ _ h2)⟩,jOJ (τ:=[]) (fun x y=>2*x - y) rfl d4 (tu4 _ _ h2) (by lia) (fun x y H' Q' hx hy q'=>?_) fun D5 H5 d5 e5 n5=>?_⟩
  ·exact⟨_,rfl,_,_,rfl,rfl, .inl ⟨by decide,by decide⟩,_,rfl,_,_,rfl,rfl,q'⟩
  ·refine⟨D5,_,rfl, .inl ⟨SqL.of d5,fun q6 n6=>?_⟩⟩
   have e6:Ext H5 (L2.upd H5 q6 (.tup ((zipWith (fun x y=>2*x - y) (rowC lB.length c) xs).map V.int))):=(Ext.refl _).new n6 _
   have d6:(L2.upd H5 q6 (.tup ((zipWith (fun x y=>2*x - y) (rowC lB.length c) xs).map V.int))) q6=some (.tup ((twice (rowC lB.length c) xs).map V.int)):=j5
   generalize L2.upd H5 q6 (.tup ((zipWith (fun x y=>2*x - y) (rowC lB.length c) xs).map V.int))=H6 at e6 d6
   have E6:=(E4.trans e5).trans e6
   have cw:=jMN g C
   have tw:=jS0 cw h3
   refine⟨_,rfl,_,rfl,b,_,_,wi,ms,lB,rfl,hB2.mono E6.tups,g,jN4 ((e5.trans e6) _ _ d4) (by lia),fun H7 e7=>?_⟩
   rw[cw]
   refine⟨_,rfl,iteF ?_⟩
   refine⟨_,rfl,_,rfl,b,_,_,wi,ms,lB,rfl,(hB2.mono E6.tups).mono e7.tups,g,jN4 (e7 _ _ d6) (by have:=jE0 tw; lia),fun H8 e8=>?_⟩
   rw[tw]
   refine⟨_,rfl,iteF ?_⟩
   have E8:=(E6.trans e7).trans e8
   exact nx H8 N1 _ _ _ (fun c o h n1 n2 n3=>E8 _ _ (e2 _ _ (k1 _ _ h n1) n2)) (E8 _ _ (e2 _ _ hp1 (tab1.ne hp1 (fun _ z=>by cases z)).1)) a1 (tab2.ext E8)
theorem jPS {D:Ends}{H:Hp}{p b r:Addr}{N:Int}{wi:Int}{ms:List Int}{lB:List (List Int×Int)}{x:Bool}{v0 v1 v6 v7 v8 v9 v10 v11 v12:Option V}(hp:H p=some (.lst [.int N]))(hN:0<=N)(hB:BoxAt H b wi ms lB)(g:Good 12 16 wi ms lB)(tab:T2 H tb1 tb2)(tr:TR wi ms lB H r x)(hx:0<(cvs wi ms lB).length->x=true)
  (nx:∀ H' v10 v11 v12,(∀ c o,H c=some o->c≠p->c≠tb1->c≠tb2->H' c=some o)->T2 H' tb1 tb2->D.nx [v0,v1,some (.ref p),some (.ref b),some (natV (cvs wi ms lB).length),some (.ref r),v6,v7,v8,v9,v10,v11,v12] H'):
  (lt6A G hr).1 D [v0,v1,some (.ref p),some (.ref b),some (natV (cvs wi ms lB).length),some (.ref r),v6,v7,v8,v9,v10,v11,v12] H:=by
 have pl:=g.pl
 have w0:=g.w0
 refine⟨_,rfl,p,N,3,rfl,hp,hN,by decide,by decide,fun N1 s1 a1 a2 a3=>?_⟩
 have hp1:(L2.upd H p (.lst [.int N1])) p=some (.lst [.int N1]):=j5
 have k1:Keep H (L2.upd H p (.lst [.int N1])) p:=jGK
 generalize L2.upd H p (.lst [.int N1])=H1 at hp1 k1
 have tab1:=tab.keep hp k1
 have tu1:Tups H H1:=fun c xs h=>k1 _ _ h fun z=>by rw[z,hp] at h; cases h
 obtain⟨qm,qp,ps,b1,b2,b3,b4⟩:=id (hB.mono tu1).ex
 have psl:=b4.len
 refine⟨_,rfl,b,_,2,_,rfl,rfl,SqT.of b1,rfl,qp,rfl,⟨_,SqT.of b3⟩,jOL (xs:=ps) (fun σ=>∃ v1 v2,σ=[v1,v2,some (.ref b),some (.int s1)]) (fun H' zs j=>PcsAt H' zs ((lB.take j).map (latP wi (decide (0<s1))))) ⟨fun H=>trivial,fun H H' zs t tu hz=>hz.mono tu,fun H zs t hz=>?_⟩ b3 (by rw[aF]; lia) ⟨_,_,rfl⟩ ?_ ?_⟩
 ·rw[hz.len,ab,bq]
  lia
 ·rintro j v σ' H2 zs hv ⟨v1,v2,rfl⟩ e2 hz S1 S2 y1 n2
  obtain⟨pc,hpc,pa,pq,rfl,c1,c2⟩:=b4.at hv
  refine⟨pa,_,rfl,SqT.of (e2 _ _ c1),rfl,_,_,rfl,_,_,rfl,rfl,?_⟩
  dsimp only [yG]
  rw[ak rfl]
  refine⟨_,rfl,_,rfl,b,_,0,_,rfl,rfl,SqT.of (e2 _ _ b1),rfl,by show (1:Nat)<=_; decide,fun t3 H3 d3 e3=>?_⟩
  refine⟨_,rfl,_,_,rfl,rfl, .inr ⟨_,rfl,?_⟩⟩
  refine⟨t3,_,[.int wi],rfl,rfl,d3,by split <;> decide,by split <;> decide,by rw[aF]; split <;> (show 1*_<=_; decide),fun t4 H4 d4 e4=>?_⟩
  have d4':H4 t4=some (.tup ((if decide (0<s1)=true then [wi] else []).map V.int)):=by
   rw[d4]
   by_cases h:0<s1 <;> simp [h]
  have tl:pc.1.length<=16:=by
   have gp:=g.pg pc (aC hpc)
   have:=jEW pc.1 0 wi gp.lot.ris gp.lot.bnd
   have:=g.w1
   lia
  have E4:=(e2.trans e3).trans e4
  refine⟨pq,t4,_,_,rfl,rfl,E4 _ _ c2,d4',by rw[ab,ab,aF]; split <;> (show _+_<=_; simp; lia),fun t5 H5 d5 e5=>?_⟩
  refine⟨_,rfl,by show (2:Nat)<=_; decide,fun t6 H6 d6 e6=>y1 _ _ _ ⟨_,_,rfl⟩ (((e3.trans e4).trans e5).trans e6) ?_⟩
  show PcsAt H6 (zs++[.ref t6]) ((lB.take (j+1)).map (latP wi (decide (0<s1))))
  rw[be,hpc,aQ]
  refine PcsAt.snoc (p:=latP wi (decide (0<s1)) pc) ⟨t6,t5,rfl,d6,?_⟩ (hz.mono ((((e3.trans e4).trans e5).trans e6).tups))
  rw[e6 _ _ d5]
  unfold latP
  rw[aQ]
 ·rintro D2 H2 zs h2 e2 n2 hz
  have hz:PcsAt H2 zs (lB.map (latP wi (decide (0<s1)))):=by rw[psl,bP] at hz; exact hz
  have zl:=hz.len
  rw[ab] at zl
  have gl:=jK3 g (decide (0<s1))
  have ml:=jEW ms 0 wi g.mr.ris g.mr.bnd
  have w1:=g.w1
  have b1':=e2 _ _ b1
  refine⟨_,rfl,b,_,0,_,rfl,rfl,SqT.of b1',rfl,_,_,rfl,rfl,?_⟩
  refine⟨_,rfl,b,_,1,_,rfl,rfl,SqT.of b1',rfl,_,rfl,b,_,0,_,rfl,rfl,SqT.of b1',rfl,by show (1:Nat)<=_; decide,fun t7 H7 d7 e7=>?_⟩
  refine⟨qm,t7,_,_,rfl,rfl,(e2.trans e7) _ _ b2,d7,by rw[ab,aF]; show _+1<=_; lia,fun t8 H8 d8 e8=>?_⟩
  have E8:=e7.trans e8
  refine⟨_,rfl,D2,_,rfl, .inl ⟨SqL.of (E8 _ _ h2),fun t9 n9=>?_⟩⟩
  have e9:Ext H8 (L2.upd H8 t9 (.tup zs)):=(Ext.refl _).new n9 _
  have d9:(L2.upd H8 t9 (.tup zs)) t9=some (.tup zs):=j5
  generalize L2.upd H8 t9 (.tup zs)=H9 at e9 d9
  refine⟨by show (3:Nat)<=_; decide,fun tA HA dA eA=>?_⟩
  have EA:=(E8.trans e9).trans eA
  have EE:=e2.trans EA
  have boxA:BoxAt HA tA (wi+1) (ms++[wi]) (lB.map (latP wi (decide (0<s1)))):=⟨t8,t9,zs,dA,by rw[(e9.trans eA) _ _ d8,aQ]; rfl,eA _ _ d9,hz.mono EA.tups⟩
  have tabA:=tab1.ext EE
  obtain⟨v,wd⟩:=tr.word
  have wdA:=EE _ _ (tu1 _ _ wd)
  refine⟨_,rfl,tA,_,_,_,rfl,boxA,gl,tabA.l,jKE fun r2 y HB trB eB tabB=>?_⟩
  have tuB:Tups HA HB:=fun c xs h=>eB _ _ h (tabA.ne h (fun _ z=>by cases z)).2
  have tabB2:T2 HB tb1 tb2:=⟨jAI tabA.w tabA.l eB G.ne,tabB⟩
  obtain⟨v',wdB⟩:=trB.word
  have g16:Good 16 32 wi ms lB:=⟨w0,by lia,g.mr,by lia,g.pg⟩
  have yx:y=x:=by
   have h1:=trB.has gl
   have h2:=tr.has g16
   have h3:(∃ xs:List Int,kP (wi+1) (ms++[wi]) (lB.map (latP wi (decide (0<s1)))) (.tup (xs.map Ob.int))=true)↔∃ xs:List Int,kP wi ms lB (.tup (xs.map Ob.int))=true:=lu fun xs=>jO6 _ w0
   have:y=true↔x=true:=h1.trans (h3.trans h2.symm)
   cases x <;> cases y <;> simp_all
  subst yx
  refine⟨r2,_,0,_,rfl,rfl,SqT.of wdB,rfl,_,rfl,r,_,0,_,rfl,rfl,SqT.of (tuB _ _ wdA),rfl,rfl,_,rfl,iteNo (by rw[aw rfl]; rfl) ?_⟩
  refine⟨_,rfl,r,_,0,_,rfl,rfl,SqT.of (tuB _ _ wdA),rfl,rfl,_,rfl,?_⟩
  have fin:∀ H' v10 v11 v12,(∀ c o,HB c=some o->c≠tb1->c≠tb2->H' c=some o)->T2 H' tb1 tb2->D.nx [v0,v1,some (.ref p),some (.ref b),some (natV (cvs wi ms lB).length),some (.ref r),v6,v7,v8,v9,v10,v11,v12] H':=fun H' v10 v11 v12 kk tt=>nx H' v10 v11 v12 (fun c o h n1 n2 n3=>kk _ _ (eB _ _ (EE _ _ (k1 _ _ h n1)) n3) n2 n3) tt
  cases y with
  | true=>exact iteNo (by decide+kernel) (fin HB _ _ _ (fun _ _ h _ _=>h) tabB2)
  | false=>
   have L0:(cvs wi ms lB).length=0:=by
    cases h:(cvs wi ms lB).length with
    | zero=>rfl
    | succ n=>have:=hx (by lia); cases this
   refine jTP (by decide+kernel) ?_
   refine⟨_,rfl,_,_,rfl,rfl,_,rfl,iteNo (aH (by rw[L0]; decide)) ?_⟩
   refine⟨_,rfl,tA,_,_,_,rfl,boxA.mono tuB,gl,tabB2.w,fun HC eC tC=>?_⟩
   have L1:(wk (chs (wi+1).toNat (ms++[wi]) (lB.map (latP wi (decide (0<s1))))) 0).length=0:=by
    rw[<- jI3]
    cases h:cvs (wi+1) (ms++[wi]) (lB.map (latP wi (decide (0<s1)))) with
    | nil=>rfl
    | cons c r=>
     have C:=(jHS gl).mp (show c∈cvs (wi+1) (ms++[wi]) (lB.map (latP wi (decide (0<s1)))) by rw[h]; exact ar ..)
     have:=(trB.has gl).mpr ⟨_,jMN gl C⟩
     cases this
   refine⟨_,_,rfl,rfl,_,rfl,iteNo (aH (by rw[L1]; decide)) ?_⟩
   exact fin HC _ _ _ (fun c o h n1 n2=>eC _ _ h n1) ⟨tC,jAI tabB2.l tabB2.w eC G.ne.symm⟩
theorem jPT {D:Ends}{H:Hp}{a:Addr}{ns:List Int}{k:Int}{v2 v3 v4 v5 v6 v7 v8 v9 v10 v11 v12:Option V}(hS:SqL K H a (ns.map V.int))(k0:0<=k)(tab:T2 H tb1 tb2)
  (nx:∀ H' v2 v3 v4 v5 v6 v7 v8 v9 v10 v11 v12,(∀ c o,H c=some o->c≠tb1->c≠tb2->H' c=some o)->T2 H' tb1 tb2->D.nx [some (.ref a),some (.int k),v2,v3,v4,v5,v6,v7,v8,v9,v10,v11,v12] H'):
  (lt0A G hr).1 D [some (.ref a),some (.int k),v2,v3,v4,v5,v6,v7,v8,v9,v10,v11,v12] H:=by
 refine⟨_,rfl,_,rfl,a,ns,k,rfl,hS,k0,fun c=>?_⟩
 refine⟨c,rfl,fun p N hp hN=>?_⟩
 refine⟨_,rfl,p,N,12,16,rfl,j5,hN,by decide,by decide,by decide,by decide,fun b N1 wi ms lB H1 hN1 hp1 hB c4 c5=>?_⟩
 have x1:Ext H H1:=c5.ext hp
 have g:Good 16 32 wi ms lB:=⟨c4.w0,by have:=c4.w1; lia,c4.mr,by have:=c4.pl; lia,c4.pg⟩
 have tab1:=tab.ext x1
 refine⟨_,rfl,b,wi,ms,lB,rfl,hB,g,tab1.w,fun H2 e2 t2=>?_⟩
 rw[<- jI3]
 have tab2:T2 H2 tb1 tb2:=⟨t2,jAI tab1.l tab1.w e2 G.ne.symm⟩
 have tu2:Tups H1 H2:=fun c xs h=>e2 _ _ h (tab1.ne h (fun _ z=>by cases z)).1
 have hB2:=hB.mono tu2
 refine⟨_,rfl,b,wi,ms,lB,rfl,hB2,g,tab2.l,jKE fun r x H3 tr e3 tab3=>?_⟩
 have tab3':T2 H3 tb1 tb2:=⟨jAI tab2.w tab2.l e3 G.ne,tab3⟩
 have tu3:Tups H2 H3:=fun c xs h=>e3 _ _ h (tab2.ne h (fun _ z=>by cases z)).2
 have hB3:=hB2.mono tu3
 have hp3:H3 p=some (.lst [.int N1]):=e3 _ _ (e2 _ _ hp1 (tab1.ne hp1 (fun _ z=>by cases z)).1) (tab2.ne (e2 _ _ hp1 (tab1.ne hp1 (fun _ z=>by cases z)).1) (fun _ z=>by cases z)).2
 have kp:∀ c o,H c=some o->c≠tb1->c≠tb2->H3 c=some o:=fun c o h n1 n2=>e3 _ _ (e2 _ _ (x1 _ _ h) n1) n2
 have hx:0<(cvs wi ms lB).length->x=true:=fun h=>by
  have C:=(jHS g).mp (bS h)
  exact(tr.has g).mpr ⟨_,jMN g C⟩
 obtain⟨v,wd⟩:=tr.word
 have ml:(cvs wi ms lB).length<=2 ^ 32:=by
  rw[jI3]
  have gl:=g.pl
  have:=jRT g 0 (eX _)
  have:=bV (n:=2) (by decide) (aX (jTX lB (lowN 0:Nat)) (show lB.length<=32 by lia))
  lia
 have M1:((cvs wi ms lB).length:Int)<2 ^ 64:=by
  have:(2:Nat) ^ 32<2 ^ 64:=by decide
  have:((2:Nat) ^ 64:Nat)=((2:Int) ^ 64).toNat:=by decide
  lia
 have rest:∀ v6 v7 v8 v9 v10 v11 v12,(lt5A G hr).1 D [some (.ref a),some (.int k),some (.ref p),some (.ref b),some (natV (cvs wi ms lB).length),some (.ref r),v6,v7,v8,v9,v10,v11,v12] H3:=fun v6 v7 v8 v9 v10 v11 v12=>by
  obtain⟨m,hm,mp⟩:∃ m:Nat,(4*(if decide ((natV (cvs wi ms lB).length:V)=natV (cvs wi ms lB).length)=true then (if decide (0<((cvs wi ms lB).length:Int))=true then (1:Int) else 0) else 0))=(m:Int)/\(0<m->0<(cvs wi ms lB).length):=by
   rw[aw rfl,ak rfl]
   by_cases h:0<((cvs wi ms lB).length:Int)
   ·exact⟨4,by rw[aw h]; rfl,fun _=>by lia⟩
   ·exact⟨0,by rw[aH h]; rfl,fun z=>absurd z (by decide)⟩
  rw[aw rfl,ak rfl] at hm
  have m4:m<=4:=by split at hm <;> lia
  refine⟨_,rfl,_,_,rfl,rfl, .inr ⟨_,rfl,_,_,rfl,rfl, .inl ⟨by decide,by decide⟩,(m:Int),?_,by lia,by lia,jAY (lo:=0) (n:=m) (fun i σ H'=>(∃ N' v6 v7 v8 v9 v10 v11 v12,σ=[some (.ref a),some (.int k),some (.ref p),some (.ref b),some (natV (cvs wi ms lB).length),some (.ref r),v6,v7,v8,v9,v10,v11,v12]/\H' p=some (.lst [.int N'])/\0<=N')/\T2 H' tb1 tb2/\∀ c o,H3 c=some o->c≠p->c≠tb1->c≠tb2->H' c=some o) ⟨⟨N1,_,_,_,_,_,_,_,rfl,hp3,hN1⟩,tab3',fun _ _ h _ _ _=>h⟩ ?_ ?_⟩⟩
  ·exact bA (fun z=> [V.int z]) hm
  ·rintro i σ H4 hi ⟨⟨N',v6,v7,v8,v9,v10,v11,v12,rfl,hp4,hN4⟩,t4,k4⟩
   have tu4:Tups H3 H4:=fun c xs h=>k4 _ _ h (fun z=>by rw[z,hp3] at h; cases h) (tab3'.ne h (fun _ z=>by cases z)).1 (tab3'.ne h (fun _ z=>by cases z)).2
   have L1:=mp (by lia)
   have hx1:=hx L1
   subst hx1
   cases tr with
   | wh q xs h1 h2 h3=>
    exact jO4 G hr hp4 hN4 (hB3.mono tu4) g t4 (by lia) M1 (tu4 _ _ h1) (tu4 _ _ h2) h3 fun H5 N5 v7 v8 v9 k5 hp5 hN5 t5=>⟨⟨N5,_,_,_,_,_,_,_,rfl,hp5,hN5⟩,t5,fun c o h n1 n2 n3=>k5 _ _ (k4 _ _ h n1 n2 n3) n1 n2 n3⟩
  ·rintro σ H4 ⟨⟨N',v6,v7,v8,v9,v10,v11,v12,rfl,hp4,hN4⟩,t4,k4⟩
   have tu4:Tups H3 H4:=fun c xs h=>k4 _ _ h (fun z=>by rw[z,hp3] at h; cases h) (tab3'.ne h (fun _ z=>by cases z)).1 (tab3'.ne h (fun _ z=>by cases z)).2
   have tr4:TR wi ms lB H4 r x:=by
    cases tr with
    | wh q xs h1 h2 h3=>exact .wh q xs (tu4 _ _ h1) (tu4 _ _ h2) h3
    | hu hh q M hs h1 h2 h3 h4=>exact .hu hh q M hs (tu4 _ _ h1) (tu4 _ _ h2) (tu4 _ _ h3) h4
   exact jPS G hr hp4 hN4 (hB3.mono tu4) c4 t4 tr4 hx fun H5 v10 v11 v12 k5 t5=>nx H5 _ _ _ _ _ _ _ _ _ _ _ (fun c o h n1 n2=>k5 _ _ (k4 _ _ (kp _ _ h n1 n2) (jA h hp) n1 n2) (jA h hp) n1 n2) t5
 refine⟨_,rfl,_,_,rfl,rfl,_,rfl,ite2 (fun h=>?_) (fun h=>?_)⟩
 ·have h:(0:Int)<((cvs wi ms lB).length:Int):=aP h
  have x1:=hx (by lia)
  subst x1
  refine⟨_,rfl,r,_,0,_,rfl,rfl,SqT.of wd,rfl,rfl,_,rfl,iteNo (by decide+kernel) ?_⟩
  exact rest _ _ _ _ _ _ _
 ·exact rest _ _ _ _ _ _ _
end
theorem sqT2 {H H':Hp}{a:Addr}{xs:List V}(h:SqL K H a xs)(e:∀ c o,H c=some o->c≠tb1->c≠tb2->H' c=some o)(t:T2 H tb1 tb2):SqL K H' a xs:=by
 rcases h with (h | ⟨o,h⟩) | h
 ·exact .inl (.inl (e _ _ h (t.ne h (fun _ z=>by cases z)).1 (t.ne h (fun _ z=>by cases z)).2))
 ·exact .inl (.inr ⟨o,e _ _ h (t.ne h (fun _ z=>by cases z)).1 (t.ne h (fun _ z=>by cases z)).2⟩)
 ·exact .inr h
def spLaw (K:W.Frag)(tb1 tb2:Addr):Sp:=fun vs H Q _=>∃ (a:Addr) (ns:List Int),vs=[.ref a]/\SqL K H a (ns.map V.int)/\ns.length<=63/\TabW H tb1/\TabL H tb2/\tb1≠tb2/\∀ H',Q (.bl true) H'
theorem jT4 {fd:FuncData}(F:Fun K "law" "law" sLaw f fd)(G:tb1≠tb2->LW P w K mg base tb1 tb2 fC fP fT fB fMn fWh fCa fA fdC fdP fdT fdB fdMn fdWh fdCa fdA):FnOk P w K mg base CX0 36 f fd ["script"] (spLaw K tb1 tb2):=by
 refine F.ok scLaw (fun vs H Q E h=>?_) (fun cdv A outer s H vs Q E hr h=>?_)
 ·obtain⟨_,_,rfl,_⟩:=h
  rfl
 ·obtain⟨a,ns,rfl,hS,hlen,tw,tl,ne,q⟩:=h
  have G:=G ne
  have tab:T2 H tb1 tb2:=⟨tw,tl⟩
  refine⟨_,(lawA G hr).2.h,?_⟩
  refine⟨_,rfl,a,_,rfl, .inl hS,_,_,rfl,_,_,rfl,_,rfl,?_,?_,jAY (fun i σ H2=>(∃ v1 v2 v3 v4 v5 v6 v7 v8 v9 v10 v11 v12,σ=[some (.ref a),v1,v2,v3,v4,v5,v6,v7,v8,v9,v10,v11,v12])/\(∀ c o,H c=some o->c≠tb1->c≠tb2->H2 c=some o)/\T2 H2 tb1 tb2) ⟨⟨_,_,_,_,_,_,_,_,_,_,_,_,rfl⟩,fun _ _ h _ _=>h,tab⟩ ?_ ?_⟩
  ·split <;> split <;> lia
  ·rw[ab]
   split <;> split <;> lia
  ·rintro i σ H2 hi ⟨⟨v1,v2,v3,v4,v5,v6,v7,v8,v9,v10,v11,v12,rfl⟩,x,t2⟩
   exact jPT G hr (sqT2 hS x tab) (by lia) t2 fun H' v2 v3 v4 v5 v6 v7 v8 v9 v10 v11 v12 x' t'=>⟨⟨_,_,_,_,_,_,_,_,_,_,_,_,rfl⟩,fun c o h n1 n2=>x' _ _ (x _ _ h n1 n2) n1 n2,t'⟩
  ·rintro σ H2 ⟨_,_,_⟩
   exact q H2
end
theorem lenU1 {P:List Value->Prop} :∀ {us:List Value},us.length=1->(∀ a,P [a])->P us
 | [a],_,h=>h a
theorem lenU2 {P:List Value->Prop} :∀ {us:List Value},us.length=2->(∀ a b,P [a,b])->P us
 | [a,b],_,h=>h a b
theorem lenU3 {P:List Value->Prop} :∀ {us:List Value},us.length=3->(∀ a b c,P [a,b,c])->P us
 | [a,b,c],_,h=>h a b c
theorem lenU5 {P:List Value->Prop} :∀ {us:List Value},us.length=5->(∀ a b c d e,P [a,b,c,d,e])->P us
 | [a,b,c,d,e],_,h=>h a b c d e
abbrev zN (K:W.Frag)(x:Str):=PySem.W.nsIn K mainGlobals x
abbrev zr (f:Addr):Option (Option Value):=some (some (.ref f))
abbrev zl (x:Str)(st:Stmt)(oc:Value)(od:Option Addr)(kV dc pm:Value)(an:Option Addr)(cd ct:Value)(sl:Array (Option Value)):Option Obj:=some ⟨oc,od, .func (PySem.W.fnOf x x (yC st) (jC st) (j8 st) .none kV dc pm an cd ct),sl⟩
abbrev zc:=PySem.W.codeIn
abbrev zk (K:W.Frag)(f:Addr):=keepIn K (.ref f)
theorem zb1 {K:W.Frag}{x q p1:Str}{st:Stmt}{f:Addr}{fd:FuncData}(F:Fun K x q st f fd)(h:∀ (kV doc pm:Value) (an:Option Addr) (cdv ct u1:Value),bindArgs (PySem.W.fnOf x q (yC st) (jC st) (j8 st) .none kV doc pm an cdv ct) ⟨[u1],[]⟩=pure [(p1,u1)]:=by intros; rfl):Binds K fd [p1] []:=F.binds fun kV doc pm an cdv ct us hl=>lenU1 (P:=fun us=>bindArgs _ ⟨us,[]⟩=pure (List.zip _ us)) hl fun u1=>h kV doc pm an cdv ct u1
theorem zb2 {K:W.Frag}{x q p1 p2:Str}{st:Stmt}{f:Addr}{fd:FuncData}(F:Fun K x q st f fd)(h:∀ (kV doc pm:Value) (an:Option Addr) (cdv ct u1 u2:Value),bindArgs (PySem.W.fnOf x q (yC st) (jC st) (j8 st) .none kV doc pm an cdv ct) ⟨[u1,u2],[]⟩=pure [(p1,u1),(p2,u2)]:=by intros; rfl):Binds K fd [p1,p2] []:=F.binds fun kV doc pm an cdv ct us hl=>lenU2 (P:=fun us=>bindArgs _ ⟨us,[]⟩=pure (List.zip _ us)) hl fun u1 u2=>h kV doc pm an cdv ct u1 u2
theorem zb3 {K:W.Frag}{x q p1 p2 p3:Str}{st:Stmt}{f:Addr}{fd:FuncData}(F:Fun K x q st f fd)(h:∀ (kV doc pm:Value) (an:Option Addr) (cdv ct u1 u2 u3:Value),bindArgs (PySem.W.fnOf x q (yC st) (jC st) (j8 st) .none kV doc pm an cdv ct) ⟨[u1,u2,u3],[]⟩=pure [(p1,u1),(p2,u2),(p3,u3)]:=by intros; rfl):Binds K fd [p1,p2,p3] []:=F.binds fun kV doc pm an cdv ct us hl=>lenU3 (P:=fun us=>bindArgs _ ⟨us,[]⟩=pure (List.zip _ us)) hl fun u1 u2 u3=>h kV doc pm an cdv ct u1 u2 u3
theorem zb5 {K:W.Frag}{x q p1 p2 p3 p4 p5:Str}{st:Stmt}{f:Addr}{fd:FuncData}(F:Fun K x q st f fd)(h:∀ (kV doc pm:Value) (an:Option Addr) (cdv ct u1 u2 u3 u4 u5:Value),bindArgs (PySem.W.fnOf x q (yC st) (jC st) (j8 st) .none kV doc pm an cdv ct) ⟨[u1,u2,u3,u4,u5],[]⟩=pure [(p1,u1),(p2,u2),(p3,u3),(p4,u4),(p5,u5)]:=by intros; rfl):Binds K fd [p1,p2,p3,p4,p5] []:=F.binds fun kV doc pm an cdv ct us hl=>lenU5 (P:=fun us=>bindArgs _ ⟨us,[]⟩=pure (List.zip _ us)) hl fun u1 u2 u3 u4 u5=>h kV doc pm an cdv ct u1 u2 u3 u4 u5
set_option autoImplicit true
set_option relaxedAutoImplicit true
set_option maxHeartbeats 8000000 in
theorem all_mk {l:PySem.W.OpenLaw}{w:World}{K:W.Frag}{h:Heap}{mg:Str->Option Value}{fa f1 f2 f3 f4 f5 f6 f7 f8 f9 f10 f11 f12 f13 f14 f15 f16 f17 f18 f19 f20 f21 f22 f23 f24 f25 f26 f27 f28 f29:Addr}(X:K.In h)(G:h.Ns mainGlobals mg)(hfa:mg "law" =some (.ref fa))
  (a1:zN K "is_whole" =zr f1) (l1:K.lookup f1=zl "is_whole" jBE oc1 od1 kV1 dc1 pm1 an1 cd1 ct1 sl1) (c1:zc K cd1 "is_whole" =true) (k1:zk K f1=true)
  (a2:zN K "mask_of" =zr f2) (l2:K.lookup f2=zl "mask_of" sMask oc2 od2 kV2 dc2 pm2 an2 cd2 ct2 sl2) (c2:zc K cd2 "mask_of" =true) (k2:zk K f2=true)
  (a3:zN K "common_divisor" =zr f3) (l3:K.lookup f3=zl "common_divisor" sGcd oc3 od3 kV3 dc3 pm3 an3 cd3 ct3 sl3) (c3:zc K cd3 "common_divisor" =true) (k3:zk K f3=true)
  (a4:zN K "musts_of" =zr f4) (l4:K.lookup f4=zl "musts_of" jCT oc4 od4 kV4 dc4 pm4 an4 cd4 ct4 sl4) (c4:zc K cd4 "musts_of" =true) (k4:zk K f4=true)
  (a5:zN K "are_wholes" =zr f5) (l5:K.lookup f5=zl "are_wholes" sAre oc5 od5 kV5 dc5 pm5 an5 cd5 ct5 sl5) (c5:zc K cd5 "are_wholes" =true) (k5:zk K f5=true)
  (a6:zN K "first_columns" =zr f6) (l6:K.lookup f6=zl "first_columns" jAD oc6 od6 kV6 dc6 pm6 an6 cd6 ct6 sl6) (c6:zc K cd6 "first_columns" =true) (k6:zk K f6=true)
  (a7:zN K "taken_off" =zr f7) (l7:K.lookup f7=zl "taken_off" jCS oc7 od7 kV7 dc7 pm7 an7 cd7 ct7 sl7) (c7:zc K cd7 "taken_off" =true) (k7:zk K f7=true)
  (a8:zN K "nearest_times" =zr f8) (l8:K.lookup f8=zl "nearest_times" sNear oc8 od8 kV8 dc8 pm8 an8 cd8 ct8 sl8) (c8:zc K cd8 "nearest_times" =true) (k8:zk K f8=true)
  (a9:zN K "goes_in" =zr f9) (l9:K.lookup f9=zl "goes_in" sGoes oc9 od9 kV9 dc9 pm9 an9 cd9 ct9 sl9) (c9:zc K cd9 "goes_in" =true) (k9:zk K f9=true)
  (a10:zN K "led_by_one" =zr f10) (l10:K.lookup f10=zl "led_by_one" sLed oc10 od10 kV10 dc10 pm10 an10 cd10 ct10 sl10) (c10:zc K cd10 "led_by_one" =true) (k10:zk K f10=true)
  (a11:zN K "numbers_of_row" =zr f11) (l11:K.lookup f11=zl "numbers_of_row" qF oc11 od11 kV11 dc11 pm11 an11 cd11 ct11 sl11) (c11:zc K cd11 "numbers_of_row" =true) (k11:zk K f11=true)
  (a12:zN K "least_not_dividing" =zr f12) (l12:K.lookup f12=zl "least_not_dividing" sLnd oc12 od12 kV12 dc12 pm12 an12 cd12 ct12 sl12) (c12:zc K cd12 "least_not_dividing" =true) (k12:zk K f12=true)
  (a13:zN K "hues_of_row" =zr f13) (l13:K.lookup f13=zl "hues_of_row" jBO oc13 od13 kV13 dc13 pm13 an13 cd13 ct13 sl13) (c13:zc K cd13 "hues_of_row" =true) (k13:zk K f13=true)
  (a14:zN K "wholes" =zr f14) (l14:K.lookup f14=zl "wholes" yD oc14 od14 kV14 dc14 pm14 an14 cd14 ct14 sl14) (c14:zc K cd14 "wholes" =true) (k14:zk K f14=true)
  (a15:zN K "choices_of" =zr f15) (l15:K.lookup f15=zl "choices_of" y8 oc15 od15 kV15 dc15 pm15 an15 cd15 ct15 sl15) (c15:zc K cd15 "choices_of" =true) (k15:zk K f15=true)
  (a16:zN K "full_mask" =zr f16) (l16:K.lookup f16=zl "full_mask" sFull oc16 od16 kV16 dc16 pm16 an16 cd16 ct16 sl16) (c16:zc K cd16 "full_mask" =true) (k16:zk K f16=true)
  (a17:zN K "choices_at" =zr f17) (l17:K.lookup f17=zl "choices_at" sAt oc17 od17 kV17 dc17 pm17 an17 cd17 ct17 sl17) (c17:zc K cd17 "choices_at" =true) (k17:zk K f17=true)
  (a18:zN K "masks_met" =zr f18) (l18:K.lookup f18=zl "masks_met" sMet oc18 od18 kV18 dc18 pm18 an18 cd18 ct18 sl18) (c18:zc K cd18 "masks_met" =true) (k18:zk K f18=true)
  (a19:zN K "gathered" =zr f19) (l19:K.lookup f19=zl "gathered" qG oc19 od19 kV19 dc19 pm19 an19 cd19 ct19 sl19) (c19:zc K cd19 "gathered" =true) (k19:zk K f19=true)
  (a20:zN K "ways_of" =zr f20) (l20:K.lookup f20=zl "ways_of" qE oc20 od20 kV20 dc20 pm20 an20 cd20 ct20 sl20) (c20:zc K cd20 "ways_of" =true) (k20:zk K f20=true)
  (a21:zN K "many" =zr f21) (l21:K.lookup f21=zl "many" sMany oc21 od21 kV21 dc21 pm21 an21 cd21 ct21 sl21) (c21:zc K cd21 "many" =true) (k21:zk K f21=true)
  (a22:zN K "covering_along" =zr f22) (l22:K.lookup f22=zl "covering_along" jBP oc22 od22 kV22 dc22 pm22 an22 cd22 ct22 sl22) (c22:zc K cd22 "covering_along" =true) (k22:zk K f22=true)
  (a23:zN K "covering_at" =zr f23) (l23:K.lookup f23=zl "covering_at" jCU oc23 od23 kV23 dc23 pm23 an23 cd23 ct23 sl23) (c23:zc K cd23 "covering_at" =true) (k23:zk K f23=true)
  (a24:zN K "_law_cell_at" =zr f24) (l24:K.lookup f24=zl "_law_cell_at" sCell oc24 od24 kV24 dc24 pm24 an24 cd24 ct24 sl24) (c24:zc K cd24 "_law_cell_at" =true) (k24:zk K f24=true)
  (a25:zN K "_law_pot" =zr f25) (l25:K.lookup f25=zl "_law_pot" sPot oc25 od25 kV25 dc25 pm25 an25 cd25 ct25 sl25) (c25:zc K cd25 "_law_pot" =true) (k25:zk K f25=true)
  (a26:zN K "_law_take" =zr f26) (l26:K.lookup f26=zl "_law_take" sTake oc26 od26 kV26 dc26 pm26 an26 cd26 ct26 sl26) (c26:zc K cd26 "_law_take" =true) (k26:zk K f26=true)
  (a27:zN K "_law_lot" =zr f27) (l27:K.lookup f27=zl "_law_lot" sLot oc27 od27 kV27 dc27 pm27 an27 cd27 ct27 sl27) (c27:zc K cd27 "_law_lot" =true) (k27:zk K f27=true)
  (a28:zN K "_law_box" =zr f28) (l28:K.lookup f28=zl "_law_box" sBox oc28 od28 kV28 dc28 pm28 an28 cd28 ct28 sl28) (c28:zc K cd28 "_law_box" =true) (k28:zk K f28=true)
  (a29:zN K "law" =zr f29) (l29:K.lookup f29=zl "law" sLaw oc29 od29 kV29 dc29 pm29 an29 cd29 ct29 sl29) (c29:zc K cd29 "law" =true) (k29:zk K f29=true)
   (z1:zN K "len" =some none) (z2:zN K "range" =some none) (z3:zN K "tuple" =some none) (z4:zN K "sorted" =some none) (z5:zN K "set" =some none) (z6:zN K "list" =some none) (z7:zN K "int" =some none) (z8:zN K "isinstance" =some none) (z9:zN K "bool" =some none) (z10:zN K "str" =some none) (z11:zN K "all" =some none) (z12:zN K "zip" =some none) (z13:zN K "max" =some none) (z14:zN K "min" =some none) (z15:zN K "any" =some none) (z16:zN K "abs" =some none) (z17:zN K "sum" =some none) (z18:zN K "enumerate" =some none) (z19:zN K "reversed" =some none) (z20:zN K "dict" =some none) (sk:SeerF l.prog K) {tb1 cc1:Addr}(cde1:cd20= .ref cc1) (hcd1:codeHdIn K cc1 tb1=true) {tb2 cc2:Addr}(cde2:cd10= .ref cc2) (hcd2:codeHdIn K cc2 tb2=true) {bmA:Addr}(xb1:zN K "__builtins__" =zr bmA) (xb2:K.lookup bmA=some ⟨.type "module",some builtinsNs, .plain,#[]⟩) (xb3:bmA≠builtinsNs) (xb4:bmA≠mainGlobals):
  ∃ fd:FuncData,(∀ (s:Shared) (v:Value),BindsTo s fd ⟨[v],[]⟩ [("script",v)])/\∀ base:Heap,K.In base->base.Ns mainGlobals mg->FnOk l.prog w K mg base CX0 36 fa fd ["script"] (spLaw K tb1 tb2):=by
 have e:=hfa.symm.trans (fE X G a29)
 cases e
 have T:Txt mg:=⟨bb X G z1,bb X G z2,bb X G z3,bb X G z4,bb X G z5,bb X G z6,bb X G z7,bb X G z8,bb X G z9,bb X G z10,bb X G z11,bb X G z12,bb X G z13,bb X G z14,bb X G z15,bb X G z16,bb X G z17,bb X G z18,bb X G z19,bb X G z20⟩
 have F1:=kG (st:=jBE) l1 c1 k1
 have F2:=kG (st:=sMask) l2 c2 k2
 have F3:=kG (st:=sGcd) l3 c3 k3
 have F4:=kG (st:=jCT) l4 c4 k4
 have F5:=kG (st:=sAre) l5 c5 k5
 have F6:=kG (st:=jAD) l6 c6 k6
 have F7:=kG (st:=jCS) l7 c7 k7
 have F8:=kG (st:=sNear) l8 c8 k8
 have F9:=kG (st:=sGoes) l9 c9 k9
 have F10:=kG (st:=sLed) l10 c10 k10
 have b10:Binds K _ ["columns","row"] []:=zb2 F10
 have F11:=kG (st:=qF) l11 c11 k11
 have F12:=kG (st:=sLnd) l12 c12 k12
 have F13:=kG (st:=jBO) l13 c13 k13
 have F14:=kG (st:=yD) l14 c14 k14
 have F15:=kG (st:=y8) l15 c15 k15
 have F16:=kG (st:=sFull) l16 c16 k16
 have F17:=kG (st:=sAt) l17 c17 k17
 have F18:=kG (st:=sMet) l18 c18 k18
 have F19:=kG (st:=qG) l19 c19 k19
 have F20:=kG (st:=qE) l20 c20 k20
 have b20:Binds K _ ["choices"] []:=zb1 F20
 have F21:=kG (st:=sMany) l21 c21 k21
 have F22:=kG (st:=jBP) l22 c22 k22
 have F23:=kG (st:=jCU) l23 c23 k23
 have F24:=kG (st:=sCell) l24 c24 k24
 have F25:=kG (st:=sPot) l25 c25 k25
 have F26:=kG (st:=sTake) l26 c26 k26
 have F27:=kG (st:=sLot) l27 c27 k27
 have F28:=kG (st:=sBox) l28 c28 k28
 have F29:=kG (st:=sLaw) l29 c29 k29
 refine⟨PySem.W.fnOf "law" "law" (yC sLaw) (jC sLaw) (j8 sLaw) .none kV29 dc29 pm29 an29 cd29 ct29,fun s v=> .of_eq rfl,fun base KB _=>?_⟩
 have M:=fun {x:Str}{f:Addr}(a:PySem.W.nsIn K mainGlobals x=some (some (.ref f)))=>fE X G a
 have M':=fun {x:Str}{v:Value}(a:PySem.W.nsIn K mainGlobals x=some (some v))=>fE X G a
 have CD1:PySem.W.CodeHd base cc1 tb1:=gW KB hcd1
 have FC1:FunC K "ways_of" "ways_of" qE f20 _ cc1:=⟨_,_,_,_,_,_,_,_,rfl,cde1 ▸ l20,cde1 ▸ c20⟩
 have CD2:PySem.W.CodeHd base cc2 tb2:=gW KB hcd2
 have FC2:FunC K "led_by_one" "led_by_one" sLed f10 _ cc2:=⟨_,_,_,_,_,_,_,_,rfl,cde2 ▸ l10,cde2 ▸ c10⟩
 have BM:BltAt base mg:=⟨bmA,_,fE X G xb1,xb3,xb4,KB _ _ xb2,rfl,rfl,rfl⟩
 have SK:SeerK l.prog K mg:=⟨sk.tree,sk.st,sk.md,⟨bmA,_,fE X G xb1,xb2,rfl,rfl⟩⟩
 have C1:Can l.prog w K mg base "is_whole" 1 f1 _ ["thing"] spWh:=⟨jLA F1 T,M a1,k1,(zb1 F1)⟩
 have C2:Can l.prog w K mg base "mask_of" 1 f2 _ ["lot"] jG0:=⟨jQU F2 T,M a2,k2,(zb1 F2)⟩
 have C3:Can l.prog w K mg base "common_divisor" 1 f3 _ ["one","other"] spGcd:=⟨jT6 F3,M a3,k3,(zb2 F3)⟩
 have C4:Can l.prog w K mg base "musts_of" 1 f4 _ ["box"] jC9:=⟨jNT F4 T,M a4,k4,(zb1 F4)⟩
 have C5:Can l.prog w K mg base "are_wholes" 2 f5 _ ["box","thing"] spWho:=⟨jT8 F5 T C1 C4,M a5,k5,(zb2 F5)⟩
 have C6:Can l.prog w K mg base "first_columns" 1 f6 _ ["box","musts"] jER:=⟨jLB F6 T,M a6,k6,(zb2 F6)⟩
 have C7:Can l.prog w K mg base "taken_off" 1 f7 _ ["column","times","other"] jDK:=⟨jNS F7 T,M a7,k7,(zb3 F7)⟩
 have C8:Can l.prog w K mg base "nearest_times" 33 f8 _ ["entry","divisor"] jIF:=⟨jQT F8 T SK,M a8,k8,(zb2 F8)⟩
 have C9:Can l.prog w K mg base "goes_in" 1 f9 _ ["lead","entry"] jKT:=⟨jQW F9 T,M a9,k9,(zb2 F9)⟩
 have C10:Can l.prog w K mg base "led_by_one" 34 f10 _ ["columns","row"] (spLed tb2):=⟨jT3 FC2 T CD2 BM C7 C8,M a10,k10,b10⟩
 have C11:Can l.prog w K mg base "numbers_of_row" 33 f11 _ ["musts","row","leads"] jIE:=⟨jQS F11 T SK C3,M a11,k11,(zb3 F11)⟩
 have C12:Can l.prog w K mg base "least_not_dividing" 1 f12 _ ["number"] spLnd:=⟨jT2 F12 T,M a12,k12,(zb1 F12)⟩
 have C13:Can l.prog w K mg base "hues_of_row" 34 f13 _ ["box","musts","row","lead","leads"] jHG:=⟨jNV F13 T C11 C12,M a13,k13,(zb5 F13)⟩
 have C14:Can l.prog w K mg base "wholes" 35 f14 _ ["box"] (spWhl tb2):=⟨jSY F14 ⟨T,SK,C4,C6,C10,C9,C13,C7⟩,M a14,k14,(zb1 F14)⟩
 have C15:Can l.prog w K mg base "choices_of" 2 f15 _ ["box"] jAJ:=⟨jJO F15 T C2,M a15,k15,(zb1 F15)⟩
 have C16:Can l.prog w K mg base "full_mask" 1 f16 _ ["choices"] jCP:=⟨jQY F16 T,M a16,k16,(zb1 F16)⟩
 have C17:Can l.prog w K mg base "choices_at" 1 f17 _ ["choices","mask"] spAt:=⟨ok_at F17 T,M a17,k17,(zb2 F17)⟩
 have C18:Can l.prog w K mg base "masks_met" 2 f18 _ ["choices"] spMet:=⟨jT0 F18 T C16 C17,M a18,k18,(zb1 F18)⟩
 have C19:Can l.prog w K mg base "gathered" 4 f19 _ ["choices","at_end","join"] jHH:=⟨FnOk.ex fun x o=>(jQX F19 T C16 C18 C17 ((jT5 o T).mono (by decide)) ZT.st (zhW.ok _ _) (RWay.ok _) o).ok,M a19,k19,(zb3 F19)⟩
 have C20:Can l.prog w K mg base "ways_of" 5 f20 _ ["choices"] (jE4 tb1):=⟨jQQ FC1 T CD1 BM C19,M a20,k20,b20⟩
 have C21:Can l.prog w K mg base "many" 6 f21 _ ["box"] (jKS tb1):=⟨jQV F21 T C15 C20,M a21,k21,(zb1 F21)⟩
 have C22:Can l.prog w K mg base "covering_along" 2 f22 _ ["choices","ways","place"] jES:=⟨jNX F22 T C16 C17,M a22,k22,(zb3 F22)⟩
 have C23:Can l.prog w K mg base "covering_at" 6 f23 _ ["box","number"] (jHI tb1):=⟨jNW F23 T C15 C20 C22,M a23,k23,(zb2 F23)⟩
 have C24:Can l.prog w K mg base "_law_cell_at" 1 f24 _ ["script","k"] (jKU K):=⟨jQZ F24 T,M a24,k24,(zb2 F24)⟩
 have C25:Can l.prog w K mg base "_law_pot" 1 f25 _ ["cell"] spPot:=⟨jSZ F25 T,M a25,k25,(zb1 F25)⟩
 have C26:Can l.prog w K mg base "_law_take" 1 f26 _ ["pot","wide"] yL:=⟨jQR F26,M a26,k26,(zb2 F26)⟩
 have C27:Can l.prog w K mg base "_law_lot" 2 f27 _ ["pot","wide"] qD:=⟨jT1 F27 T C26,M a27,k27,(zb2 F27)⟩
 have C28:Can l.prog w K mg base "_law_box" 3 f28 _ ["pot","most_things","most_pieces"] spBox:=⟨jT7 F28 T C26 C27,M a28,k28,(zb3 F28)⟩
 exact jT4 F29 (fun ne=>⟨T,ne,C24,C25,C26,C28,C21,C14,C23,C5⟩)
theorem kSeer (P:Params):SeerF PySem.Challenge.rw_eachonce_k54_whole_coverings_are_wholes.prog (kK P):=⟨rfl,⟨_,_,(by kernel_rfl:(kK P).lookup cStatics=some { cls:= .none,data:= .dict #[]}),rfl⟩,⟨_,kS P,2,(by kernel_rfl:(kK P).lookup sysModules=some ⟨.type "dict",none, .dict (kS P) 2,#[]⟩),rfl,(fun e he=>by
 simp only [kS,List.mem_toArray,aM,bF,dE] at he
 rcases he with rfl | rfl <;> exact⟨_,_,rfl⟩),by kernel_rfl⟩⟩
theorem walk {l:PySem.W.OpenLaw}{q:Program}{loose:List Str}{XP:(Str->Option Value)->Heap->Prop}{YP:World->Heap->Prop}{d:DefRec}{K:Params->W.Frag}(hn:l.most=some 63)(hdf:d.params.defaults=[]){tb1 tb2:Addr}{cc1 cc2:Addr}
  (hY:∀ (w:World) (h:Heap),YP w h->(K w.params).In h/\∀ T∈[tb1,tb2],h.get? T=some (tabObj #[])) (hcd:∀ w:World,codeHdIn (K w.params) cc1 tb1=true/\codeHdIn (K w.params) cc2 tb2=true) (hKT:∀ w:World,∀ T∈[tb1,tb2],(K w.params).lookup T=none) (hnd:([tb1,tb2]:List Addr).Nodup)
  (F:∀ (w:World) (mg:Str->Option Value) (fa:Addr) (h:Heap),(K w.params).In h->h.Ns mainGlobals mg->mg d.name=some (.ref fa)->
   ∃ fd:FuncData,(∀ (s:Shared) (u:Value),BindsTo s fd ⟨[u],[]⟩ [("script",u)])/\∀ base:Heap,(K w.params).In base->base.Ns mainGlobals mg->FnOk l.prog w (K w.params) mg base CX0 36 fa fd ["script"] (spLaw (K w.params) tb1 tb2)):
  PySem.W.WalkO q loose XP YP l.row.toRowW d [] (fun f vs=>PySem.call f vs):=
 L2.walk_ofTs (cts:=[(cc1,tb1),(cc2,tb2)]) (n:=63) (k:=36) (x:= "script") (CX:=fun _=>CX0) (sp:=fun w=>spLaw (K w.params) tb1 tb2) hn (by decide) hdf ⟨rfl,by decide,by decide⟩ hY (fun w p hp=>by
  obtain⟨_h0,_h1⟩:=hcd w
  simp only [aM,bF,dE] at hp
  rcases hp with rfl | rfl <;> assumption) hKT F (fun _ H a ns hl hT hS=>⟨a,ns,rfl,hS,hl, .inl (hT _ ar), .inl (hT _ (az _ ar)),(fun z=>(cL.mp hnd).1 (by rw[z]; exact ar ..)),fun _=>rfl⟩) fun _ _ _ _ _ z=>z
end Eo
open PySem PySem.W PyProof.Rows
set_option maxRecDepth 100000 in
set_option maxHeartbeats 0 in
theorem PySem.Challenge.cw_eachonce_k54_whole_coverings_are_wholes_holds : PySem.Challenge.rw_eachonce_k54_whole_coverings_are_wholes.Holds := by
 w_on
 refine holds_law (by decide+kernel) fun said=>?_
 refine holds_open (q:=Eo.vw) (loose:=[]) (Xt:=fun s=>xlAt Eo.vw [] s&&recOk (RowW.records (OpenRow.toRowW PySem.Challenge.rw_eachonce_k54_whole_coverings_are_wholes.row)) s) (XP:=XL Eo.vw []) (Yf:=Hook.obs Eo.kH) (Ya:=Hook.val Eo.kH) (YP:=Hook.says Eo.kH) (N:=2900) Eo.left (Hook.of Eo.kH) (Hook.keeps Eo.kH) (fun s e=>xl_of s (gE.mp e).1) XL.keeps (by rfl) (by rfl) (by rfl) (fun s e=>recFacts_of (gE.mp e).2) rfl said (by decide+kernel) ⟨rfl,rfl,rfl,rfl,rfl,by decide+kernel⟩ ?hw ?hc
 case hw=>w_witness2
 refine Eo.walk (l:=PySem.Challenge.rw_eachonce_k54_whole_coverings_are_wholes) (K:=Eo.kK) rfl rfl (tb1:=152) (cc1:=156) (tb2:=69) (cc2:=71) (fun w h Y=>⟨PySem.W.km_in_of Y,PySem.W.km_tabs_of Y⟩) (fun w=>⟨by kernel_rfl,by kernel_rfl⟩) (fun w T hm=>by
   simp only [aM,bF,dE] at hm
   rcases hm with rfl | rfl <;> kernel_rfl) (by decide) ?F
 case F=>
  intro w mg fa h KX G hmg
  k_fill
  refine' Eo.all_mk KX G hmg _ _ _ _ _ _ _ _ _ _ _ _ _ _ _ _ _ _ _ _ _ _ _ _ _ _ _ _ _ _ _ _ _ _ _ _ _ _ _ _ _ _ _ _ _ _ _ _ _ _ _ _ _ _ _ _ _ _ _ _ _ _ _ _ _ _ _ _ _ _ _ _ _ _ _ _ _ _ _ _ _ _ _ _ _ _ _ _ _ _ _ _ _ _ _ _ _ _ _ _ _ _ _ _ _ _ _ _ _ _ _ _ _ _ _ _ _ _ _ _ _ _ _ _ _ _ _ _ _ _ _ _ _ _ _ _ (Eo.kSeer _) (tb1:=152) rfl (by kernel_rfl) (tb2:=69) rfl (by kernel_rfl) (bmA:=4) (by kernel_rfl) (by kernel_rfl) (by decide) (by decide)
  all_goals ((try delta Eo.zN); (try delta Eo.zr); (try delta Eo.zl); (try delta Eo.zc); (try delta Eo.zk); try k_is)
end
