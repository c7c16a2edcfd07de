import PyProof.Rows.All
import Flt.Lists
import Flt.WordCanon
import KE.KDictList
import KE.KDictOf
import KE.KIsAll
import KE.KLam
import KE.KNestM
import KE.KSortTup
import PySem.Challenge.RW_eachonce_k68_bars_of_many_things
noncomputable section
set_option Elab.async false
set_option linter.all false
set_option maxRecDepth 100000
theorem Aa{p:Prop}(h:p:=by lia):p:=h
theorem Ab{p:Prop}(h:p:=by decide+kernel):p:=h
theorem Ac{p:Prop}(h:p:=by decide):p:=h
def Ad{p:Prop}(h:p:=by simp):p:=h
abbrev Ae:=List (List Int×Int)
abbrev Af:=List (List Int)
abbrev Ag:=List Int
abbrev Ah:=PySem.Value->PySem.Shared->Prop
abbrev Ai:=List (PySem.Addr×PySem.Obj)
abbrev Aj:=List (PySem.Str×PySem.Addr)
abbrev Ak:=PySem.Str->Option PySem.Value
abbrev Al:=List PySem.Value
abbrev Am:=List PySem.Str
abbrev An:=Array PySem.Value
abbrev Ao:=Option PySem.Value
def ae:=@PySem.wpAny_bind
def af:=@PySem.Heap.get?_push_of_some
def ag:=@List.length_map
def ah:=@List.mem_cons_of_mem
def ai:=@List.mem_cons_self
def aj:=@PySem.wpAny_pure
def ak:=@List.mem_singleton
def am:=@List.getElem?_eq_some_iff
def ao:=@decide_eq_true
def aq:=@List.size_toArray
def ar:=@Nat.le_refl
def aw:=@PySem.Heap.get?_push_size
def ay:=@PySem.Heap.lt_size
def az:=@if_neg
def aA:=@if_pos
def aB:=@List.mem_cons
def aC:=@Bool.false_ne_true
def aE:=@List.mem_append_right
def aF:=@List.getElem?_eq_getElem
def aG:=@List.getD_eq_getElem?_getD
def aI:=@List.length_append
def aJ:=@PySem.sizeLine_eq
def aK:=@decide_eq_false
def aL:=@of_decide_eq_true
def aM:=@PyProof.Rows.wpS_bind
def aN:=@Array.length_toList
def aO:=@Nat.ne_of_lt
def aP:=@List.mem_append
def aQ:=@List.mem_of_getElem?
def aR:=@PyProof.Rows.wpS_pure
def aS:=@Nat.lt_of_lt_of_le
def aU:=@List.length_cons
def aV:=@List.append_nil
def aW:=@List.map_append
def aX:=@List.getElem?_map
def aY:=@List.append_assoc
def aZ:=@List.mem_map
def ba:=@List.mem_append_left
def be:=@List.mem_filter
def bf:=@List.lookup_cons
def bg:=@List.map_cons
def bh:=@Nat.le_trans
def bi:=@PySem.Heap.get?_update_other
def bo:=@Int.toNat_natCast
def bq:=@List.not_mem_nil
def br:=@Nat.zero_le
def bu:=@PySem.W.mg_none_of
def bv:=@List.take_add_one
def bw:=@List.getElem?_append_right
def bz:=@decide_eq_true_iff
def bA:=@Option.some.inj
def bB:=@PySem.wpAny_holding
def bC:=@List.length_take_le
def bD:=@Array.toList_append
def bE:=@List.take_of_length_le
def bF:=@PySem.wpAny_mono
def bG:=@PySem.mem_of_lookup
def bH:=@List.pairwise_map
def bI:=@List.mem_range
def bJ:=@Bool.and_eq_true
def bK:=@List.take_length
def bL:=@List.getElem?_of_mem
def bM:=@List.take_append_drop
def bN:=@List.length_filter_le
def bO:=@List.length_take
def bP:=@PySem.wpAny_newObj_type
def bQ:=@PySem.F.plainAttrs_list
def bR:=@Array.getElem?_toList
def bS:=@List.nodup_cons
def bU:=@List.filter_append
def bV:=@List.pairwise_iff_getElem
def bW:=@beq_eq_false_iff_ne
def bX:=@List.map_map
def bY:=@PySem.Around.under_plainId
def bZ:=@PySem.codeAny_builtin
def b7:=@List.length_range
def b9:=@Bool.eq_false_iff
def ce:=@congrArg
def cf:=@List.getElem?_append_left
def cg:=@Classical.byContradiction
def cj:=@Bool.eq_iff_iff
def ck:=@List.all_eq_true
def cm:=@Nat.testBit_or
def cn:=@PyProof.Rows.wpS_forRange
def cq:=@Bool.not_eq_true'
def cr:=@Nat.pow_le_pow_right
def cw:=@List.idxOf_lt_length_iff
def cx:=@PySem.Heap.get?_update_self
def cy:=@PySem.wpAny_field
def cz:=@List.length_nil
def cA:=@PySem.Heap.size_push
def cB:=@Nat.lt_succ_of_lt
def cC:=@PySem.wpAny_Call_Name_kw
def cD:=@PySem.W.kia_one
def cF:=@Nat.lt_irrefl
def cG:=@List.getElem?_take_of_lt
def cH:=@PySem.wpAny_call_entry
def cI:=@PySem.F.slot_list_append
def cJ:=@PySem.F.type_list_append
def cK:=@List.map_congr_left
def cL:=@or_false
def cM:=@PySem.wpAny_callSpecial?_slot
def cN:=@List.pairwise_append
def cP:=@Array.toArray_toList
def cQ:=@List.mem_of_mem_take
def cR:=@Array.perm_iff_toList_perm
def cS:=@PySem.wpAny_loadPart'
def cU:=@Nat.le_of_lt
def cV:=@Int.le_of_lt
def cW:=@List.filter_cons
def cX:=@Nat.testBit_two_pow
def cY:=@List.mem_map_of_mem
def cZ:=@Ne.symm
def da:=@List.getElem?_eq_none
def db:=@Bool.and_false
def de:=@Nat.ne_of_gt
def df:=@PySem.codeAny_mono
def dh:=@List.pairwise_cons
def di:=@PySem.wpAny_setField_rec
def dj:=@List.mem_of_mem_drop
def dq:=@List.getElem_mem
def dr:=@Nat.add_sub_cancel_left
def dv:=@decide_eq_false_iff_not
def dw:=@PyProof.Rows.callWith_type1
def dy:=@Nat.testBit_two_pow_sub_one
def dz:=@PySem.wpAny_pyIter_list
def dA:=@PySem.wpAny_rule
def dB:=@Int.le_trans
def dC:=@Nat.mod_two_eq_zero_or_one
def dD:=@List.getElem?_range
def dE:=@List.filter_sublist
def dF:=@Int.toNat_of_nonneg
def dG:=@List.of_mem_zip
def dH:=@PySem.PassesOwn.never
def dI:=@List.Perm.append_left
def dJ:=@List.any_eq_true
def dL:=@List.countP_cons
def dM:=@Nat.zero_testBit
def dN:=@PySem.wpAny_attempt
def dO:=@List.sublist_append_left
def dP:=@PySem.Calls.evalArgs_plain
def dQ:=@PyProof.Rows.wpS_mono
def dR:=@Int.le_refl
def dS:=@Array.toList_reverse
def dU:=@List.eq_nil_of_length_eq_zero
def dW:=@Bool.and_eq_true_iff
def dX:=@PySem.wpAny_setState_of
def dY:=@PySem.W.codeHd_of_K
def dZ:=@List.map_nil
def d0:=@PySem.sizeLine_eq
def eg:=@Bool.false_eq_true
def eh:=@List.perm_append_comm
def eB:=@List.extract_eq_take_drop
def eC:=@PySem.wpAny_passesOwn
def eD:=@Nat.not_lt_zero
def eE:=@List.find?_cons
def eF:=@Nat.testBit_and
def eG:=@Nat.two_pow_pos
def eI:=@PySem.wpAny_truthy_bool
def eJ:=@List.take_sublist
def eL:=@Array.toList_push
def eM:=@List.getElem?_inj
def eO:=@Nat.eq_of_testBit_eq
def eQ:=@PySem.wpAny_standAt
def eR:=@Option.isSome_iff_exists
def eS:=@PySem.plainId_quiet
def eT:=@PyProof.Rows.listUpdate_at
def eU:=@List.getElem_of_mem
def eV:=@Nat.lt_succ_self
def eW:=@PySem.F.plain_list_iadd
def eX:=@PySem.Around.in1_units
def eY:=@PySem.Heap.size_update
def eZ:=@List.pairwise_singleton
def fb:=@Nat.le_succ
def fe:=@PySem.wpAny_call
def ff:=@PySem.W.cellsFrom_some
def fg:=@List.zip_cons_cons
def fh:=@Nat.lt_trans
def fj:=@Bool.or_true
def fm:=@PyProof.Rows.wpS_modify
def fo:=@Nat.lt_or_ge
def fq:=@Int.zero_add
def fw:=@PySem.wpAny_execs_nil
def fz:=@PySem.wpAny_newList
def fE:=@List.nodup_append
def fJ:=@PySem.wpAny_load
def fQ:=@PySem.Around.frames_deeper
def fS:=@PySem.wpAny_newFunctionEnv_cells
def fU:=@Array.toList_extract
def fY:=@Array.getElem?_eq_some_iff
def fZ:=@PySem.wpAny_runValue
def gb:=@PySem.wpAny_setField
def gc:=@List.perm_ext_iff_of_nodup
def gd:=@PySem.wpAny_askSetting
def gf:=@Nat.testBit_zero
def gh:=@List.getLastD_eq_getLast?
def gj:=@List.getLast?_eq_getElem?
def gm:=@List.reverse_append
def gq:=@PySem.Paired.length
def gt:=@PySem.F.args_tuple_add_2
def gu:=@PyProof.Rows.get?_update_seq
def gw:=@List.range_succ
def gx:=@Int.natCast_nonneg
def gy:=@PySem.W.callWith_K
def gz:=@PySem.SeqAt.EqAt.int_int
def gA:=@beq_iff_eq
def gB:=@PySem.tupleKind_room_in1
def gC:=@of_decide_eq_false
def gE:=@List.getElem_idxOf
def gF:=@PySem.F.entry_tuple_add
def gG:=@List.length_eq_zero_iff
def gH:=@List.getElem?_set_self
def gI:=@Bool.false_and
def gJ:=@PySem.F.slot_tuple_add
def gL:=@PySem.Calls.callWith_builtin
def gM:=@Nat.lt_trichotomy
def gN:=@Option.some.injEq
def gO:=@List.Perm.append_right
def gP:=@Nat.sub_self
def gQ:=@Nat.testBit_lt_two_pow
def gR:=@List.pairwise_lt_range
def gS:=@Nat.testBit_eq_decide_div_mod_eq
def gU:=@Array.getElem?_setIfInBounds_ne
def gW:=@PySem.codeAny_call_function
def gX:=@List.length_singleton
def gY:=@PySem.builtinLookup_eq_fast
def gZ:=@List.length_drop
def g0:=@beq_self_eq_true
def g5:=@PySem.wpAny_isInstance
def g6:=@decide_eq_decide
def g7:=@List.any_cons
def g8:=@PySem.W.mg_of
def g9:=@PyProof.Rows.wpS_get
def hG:=@Sum.inl.inj
def hV:=@List.getElem?_set_ne
def ic:=@PySem.wpAny_newFunctionEnv
def ie:=@Nat.pow_lt_pow_right
def ig:=@Array.getElem_toList
def ik:=@Bool.or_eq_false_iff
def im:=@List.length_set
def io:=@not_or
def iq:=@PyProof.Rows.entry_list_sort
def ir:=@Bool.or_eq_true
def iu:=@List.filterMap_cons
def iw:=@PySem.Heap.SameBut.update
def ix:=@PySem.W.callWith_of
def iy:=@List.filter_eq_self
def iA:=@Nat.mul_le_mul_left
def iB:=@List.map_eq_nil_iff
def iC:=@PySem.wpAny_typeOf
def iE:=@PySem.F.plain_proto_collect
def iF:=@PyProof.Rows.listItems_at
def iG:=@PySem.F.slot_int_bit_length
def iH:=@PySem.F.type_int_bit_length
def iI:=@Array.append_assoc
def iJ:=@PySem.Calls.Name_function_global
def iK:=@Int.fdiv_eq_ediv_of_nonneg
def iM:=@PySem.W.codeRec_of
def iN:=@if_false
def iP:=@PyProof.Rows.slot_list_sort
def iQ:=@PyProof.Rows.size_push'
def iR:=@List.drop_zero
def iS:=@PySem.F.excBase_ValueError
def iT:=@List.drop_drop
def iU:=@List.getElem?_drop
def iV:=@PyProof.Rows.wpS_lift
def iW:=@List.take_zero
def iX:=@Array.toList_setIfInBounds
def iY:=@List.drop_eq_getElem_cons
def iZ:=@PySem.Calls.call_function_entry
def i4:=@List.drop_sublist
def i5:=@PySem.Heap.SameBut.refl
def i6:=@PySem.wpAny_of_eq
def i7:=@Option.isSome_map
def i8:=@PyProof.Rows.seqEpoch_at
def i9:=@bne_self_eq_false
def ja:=@Nat.or_lt_two_pow
def jc:=@decide_eq_true_eq
def jd:=@List.map_id
def jf:=@List.Sublist.refl
def jg:=@PySem.rangeSize_one
def jh:=@List.all_cons
def ji:=@PySem.wpAny_comprehension_free
def jk:=@Bool.false_or
def jl:=@Bool.true_and
def jm:=@List.Pairwise.imp_of_mem
def jn:=@PySem.wpAny_execs_cons
def jo:=@List.getElem?_replicate
def jp:=@PySem.noFill_tuple_add
def jq:=@PySem.entryFor_of_fast
def jr:=@PySem.F.attr_ValueError
def jt:=@List.ext_getElem
def ju:=@List.pairwise_mergeSort
def jw:=@List.mem_flatMap
def jx:=@PySem.call_meets
def jy:=@PySem.Walks.list
def jz:=@List.all_map
def ka:=@List.drop_eq_nil_of_le
def ke:=@PySem.F.plainAttrs_int
def kf:=@List.flatMap_singleton
def kg:=@List.forIn_cons
def kh:=@PySem.typeLookup_type
def kj:=@PySem.wpAny_specialOf
def km:=@PySem.Heap.DictOf.new
def kn:=@PySem.W.keeps_F
def ko:=@List.Perm.of_eq
def kq:=@List.nil_append
def ku:=@Array.Perm.refl
def kx:=@List.length_zip
def kz:=@List.filter_nil
def la:=@and_congr_right
def lc:=@List.length_replicate
def lg:=@PySem.F.slot_set_iter
def lh:=@List.set_append_right
def lj:=@List.nodup_nil
def lu:=@PySem.isSubtype_type
def lv:=@PySem.isSubtype_stop
def lw:=@List.range_eq_range'
def ly:=@PySem.W.looks_findIn
def lz:=@PySem.wpAny_newTuple
def lA:=@PySem.W.kla_callFunE
def lB:=@PySem.W.kla_codeExpr
def lC:=@List.reverse_reverse
def lE:=@if_true
def lF:=@List.take_succ_cons
def lG:=@List.mergeSort_perm
def lH:=@List.flatMap_append
def lI:=@Bool.not_true
def lJ:=@Bool.and_true
def lK:=@List.map_take
def lM:=@List.sum_cons
def lN:=@List.mem_filterMap
def lO:=@Nat.lt_of_le_of_lt
def lQ:=@Option.isSome_none
def lR:=@List.contains_cons
def lS:=@Array.empty_append
def lT:=@Int.emod_lt_of_pos
def lU:=@Nat.and_one_is_mod
def lV:=@Int.natAbs_natCast
def lW:=@Nat.add_comm
def lX:=@Nat.add_zero
def lY:=@getElem?_pos
def lZ:=@List.any_map
def l0:=@Int.mul_one
open PySem.W (clsIn codeHdIn envX findIn findObj fnMade instObj keepIn kitOne kitx_dict kitx_list kla_fn kla_obj lookIn methodObj mg_of mroIn plainGet specialIn tabObj takesIn)
open List (range')
open Nat (strongRecOn)
open Array (size_map)
open Option (bind_some getD_none map_some)
namespace L2
open PySem PySem.Spec PyProof.Rows
def yC(s:Stmt):Arguments:=match s with
 | .FunctionDef _ a _ _ _ _ _ _ _ _=>a
 |_=>{posonlyargs:=[],args:=[],vararg:=none,kwonlyargs:=[],kw_defaults:=[],kwarg:=none,defaults:=[]}
def jE(s:Stmt):List Stmt:=match s with
 | .FunctionDef _ _ b _ _ _ _ _ _ _=>b
 |_=>[]
def j8(s:Stmt):Scope:=match s with
 | .FunctionDef _ _ _ _ _ _ sc _ _ _=>sc
 |_=>{kind:=.function,names:=[],isGenerator:=false,isCoroutine:=false}
end L2
namespace Eo
open PySem L2
noncomputable def top(i:Nat):Stmt:=PySem.Challenge.pw_eachonce_k68_bars_of_many_things.main.body.getD i (.Pass ⟨0,0,0,0⟩)
abbrev jBN:Stmt:=top 1
abbrev jAK:Stmt:=top 2
abbrev jD6:Stmt:=top 3
abbrev sMask:Stmt:=top 4
abbrev jD5:Stmt:=top 5
abbrev y9:Stmt:=top 7
abbrev yH:Stmt:=top 21
abbrev sFull:Stmt:=top 22
abbrev sAt:Stmt:=top 23
abbrev sMet:Stmt:=top 24
abbrev qQ:Stmt:=top 25
abbrev qP:Stmt:=top 26
abbrev sMany:Stmt:=top 27
abbrev jB4:Stmt:=top 30
abbrev jAW:Stmt:=top 31
abbrev sBar:Stmt:=top 32
abbrev jB3:Stmt:=top 33
abbrev yZ:Stmt:=top 34
abbrev y8:Stmt:=top 35
abbrev kY:Stmt:=top 36
abbrev sCell:Stmt:=top 38
abbrev sPot:Stmt:=top 39
abbrev sTake:Stmt:=top 40
abbrev sLot:Stmt:=top 41
abbrev sBox:Stmt:=top 42
abbrev qR:Stmt:=top 43
abbrev sCovs:Stmt:=top 44
abbrev jAV:Stmt:=top 45
abbrev sTold:Stmt:=top 46
abbrev sLaw:Stmt:=top 47
noncomputable def kC(x:Str)(t:Nat)(l n:Int)(a:Nat)(X Y:Value)(z:Nat)(u:Int)(v:Nat):Obj:=⟨.type "code",none,.fields #[.str x t,.str x (t+1),.str "/claim/cut.py" (t+2),.int l 0,.int n 0,.int 0 0,.int 0 0,.int 3 0,.ref a,.bool true,.int 181 0,.ref (a+1),.none,X,Y,.ref z,.int u 0,.int l 0,.str "/claim/cut.py" v],#[]⟩
noncomputable def kF(x:Str)(s:Stmt)(m:Str)(t c:Nat):Obj:=⟨.type "function",none,.func (PySem.W.fnOf x x (yC s) (jE s) (j8 s) .none .none .none (.str m t) none (.ref c) .none),#[]⟩
noncomputable def kE(P:Params)(x:Str)(t:Nat)(v:Value):DictEntry:=⟨PyData.keyHash P x,.str x t,v⟩
noncomputable def kM(P:Params):Obj:=
 let e (x:Str) (t:Nat) (v:Value):DictEntry:=⟨PyData.keyHash P x,.str x t,v⟩
 ⟨.type "dict",none,.dict #[e "__name__" 165 (.str "law_eachonce_k68_bars_of_many_things" 525),e "__doc__" 166 (.none),e "__package__" 167 (.none),e "__loader__" 168 (.builtin "__main__.__loader__#opaque"),e "__spec__" 169 (.none),e "__annotations__" 170 (.ref 6),e "__builtins__" 171 (.ref 4),e "__file__" 173 (.str "/claim/cut.py" 172),e "__cached__" 174 (.none),e "is_whole" 195 (.ref 21),e "is_rising" 201 (.ref 26),e "is_lot" 209 (.ref 33),e "mask_of" 215 (.ref 38),e "lot_of" 221 (.ref 43),e "picked" 229 (.ref 48),e "OnceError" 249 (.ref 58),e "NoText" 274 (.ref 78),e "NoCovering" 290 (.ref 90),e "TooMany" 306 (.ref 102),e "NoThing" 322 (.ref 114),e "NoPiece" 338 (.ref 126),e "NoWeight" 354 (.ref 138),e "NoOrder" 370 (.ref 150),e "Held" 386 (.ref 162),e "NoDeed" 402 (.ref 174),e "NoRow" 418 (.ref 186),e "choices_of" 426 (.ref 193),e "full_mask" 433 (.ref 200),e "choices_at" 439 (.ref 205),e "masks_met" 452 (.ref 212),e "gathered" 458 (.ref 217),e "ways_of" 465 (.ref 224),e "many" 472 (.ref 231),e "MOST_THINGS_WITH_BARS" 476 (.int 9 475),e "have_common" 482 (.ref 236),e "narrowed" 488 (.ref 241),e "is_bar" 496 (.ref 248),e "is_within" 502 (.ref 253),e "least_lots" 508 (.ref 258),e "least_bars" 516 (.ref 265),e "least_mends" 524 (.ref 272),e "_law_cell_at" 534 (.ref 279),e "_law_pot" 544 (.ref 286),e "_law_take" 553 (.ref 293),e "_law_lot" 559 (.ref 298),e "_law_box" 565 (.ref 303),e "_law_from" 571 (.ref 308),e "_law_coverings" 577 (.ref 313),e "_law_others" 583 (.ref 318),e "_law_told" 592 (.ref 325),e "law" 598 (.ref 330)] 51,#[]⟩
noncomputable def kK(P:Params):W.Frag:=(nat_lit 3,kM P)::(nat_lit 4,⟨.type "module",some 0,.plain,#[]⟩)::(nat_lit 20,kC "is_whole" 189 2 1 15 (.ref 17) (.ref 18) 19 193 194)::(nat_lit 21,kF "is_whole" jBN "eachonce.kinds" 187 20)::(nat_lit 25,kC "is_rising" 196 4 1 22 (.none) (.none) 24 199 200)::(nat_lit 26,kF "is_rising" jAK "eachonce.kinds" 187 25)::(nat_lit 32,kC "is_lot" 202 10 2 27 (.ref 29) (.ref 30) 31 207 208)::(nat_lit 33,kF "is_lot" jD6 "eachonce.kinds" 187 32)::(nat_lit 37,kC "mask_of" 210 14 1 34 (.none) (.none) 36 213 214)::(nat_lit 38,kF "mask_of" sMask "eachonce.kinds" 187 37)::(nat_lit 42,kC "lot_of" 216 16 1 39 (.none) (.none) 41 219 220)::(nat_lit 43,kF "lot_of" jD5 "eachonce.kinds" 187 42)::(nat_lit 47,kC "picked" 224 19 3 44 (.none) (.none) 46 227 228)::(nat_lit 48,kF "picked" y9 "eachonce.boxes" 222 47)::(nat_lit 57,⟨.type "dict",none,.dict #[kE P "__module__" 239 (.str "eachonce.errors" 230),kE P "__firstlineno__" 243 (.int 26 242),kE P "__static_attributes__" 244 (.ref 56),kE P "__weakref__" 246 (.ref 59),kE P "__doc__" 247 (.none)] 3,#[]⟩)::(nat_lit 58,⟨.type "type",none,.cls {name:= "OnceError",bases:=[.type "ValueError"],mro:=[.ref 58,.type "ValueError",.type "Exception",.type "BaseException",.type "object"],ns:=57,qualname:= "OnceError",subclasses:=[.ref 78,.ref 90,.ref 102,.ref 114,.ref 126,.ref 138,.ref 150,.ref 162,.ref 174,.ref 186]},#[some (.ref 49),none,some (.str "OnceError" 232),some (.str "OnceError" 240),some (.builtin "ValueError.__new__"),some (.bool true)]⟩)::(nat_lit 78,⟨.type "type",none,.cls {name:= "NoText",bases:=[.ref 58],mro:=[.ref 78,.ref 58,.type "ValueError",.type "Exception",.type "BaseException",.type "object"],ns:=77,qualname:= "NoText",subclasses:=[]},#[some (.ref 62),none,some (.str "NoText" 250),some (.str "NoText" 258),some (.builtin "ValueError.__new__"),some (.bool true)]⟩)::(nat_lit 90,⟨.type "type",none,.cls {name:= "NoCovering",bases:=[.ref 58],mro:=[.ref 90,.ref 58,.type "ValueError",.type "Exception",.type "BaseException",.type "object"],ns:=89,qualname:= "NoCovering",subclasses:=[]},#[some (.ref 81),none,some (.str "NoCovering" 275),some (.str "NoCovering" 283),some (.builtin "ValueError.__new__"),some (.bool true)]⟩)::(nat_lit 101,⟨.type "dict",none,.dict #[kE P "__module__" 298 (.str "eachonce.errors" 230),kE P "__firstlineno__" 302 (.int 35 301),kE P "__static_attributes__" 303 (.ref 100),kE P "__doc__" 304 (.none)] 2,#[]⟩)::(nat_lit 102,⟨.type "type",none,.cls {name:= "TooMany",bases:=[.ref 58],mro:=[.ref 102,.ref 58,.type "ValueError",.type "Exception",.type "BaseException",.type "object"],ns:=101,qualname:= "TooMany",subclasses:=[]},#[some (.ref 93),none,some (.str "TooMany" 291),some (.str "TooMany" 299),some (.builtin "ValueError.__new__"),some (.bool true)]⟩)::(nat_lit 114,⟨.type "type",none,.cls {name:= "NoThing",bases:=[.ref 58],mro:=[.ref 114,.ref 58,.type "ValueError",.type "Exception",.type "BaseException",.type "object"],ns:=113,qualname:= "NoThing",subclasses:=[]},#[some (.ref 105),none,some (.str "NoThing" 307),some (.str "NoThing" 315),some (.builtin "ValueError.__new__"),some (.bool true)]⟩)::(nat_lit 126,⟨.type "type",none,.cls {name:= "NoPiece",bases:=[.ref 58],mro:=[.ref 126,.ref 58,.type "ValueError",.type "Exception",.type "BaseException",.type "object"],ns:=125,qualname:= "NoPiece",subclasses:=[]},#[some (.ref 117),none,some (.str "NoPiece" 323),some (.str "NoPiece" 331),some (.builtin "ValueError.__new__"),some (.bool true)]⟩)::(nat_lit 138,⟨.type "type",none,.cls {name:= "NoWeight",bases:=[.ref 58],mro:=[.ref 138,.ref 58,.type "ValueError",.type "Exception",.type "BaseException",.type "object"],ns:=137,qualname:= "NoWeight",subclasses:=[]},#[some (.ref 129),none,some (.str "NoWeight" 339),some (.str "NoWeight" 347),some (.builtin "ValueError.__new__"),some (.bool true)]⟩)::(nat_lit 150,⟨.type "type",none,.cls {name:= "NoOrder",bases:=[.ref 58],mro:=[.ref 150,.ref 58,.type "ValueError",.type "Exception",.type "BaseException",.type "object"],ns:=149,qualname:= "NoOrder",subclasses:=[]},#[some (.ref 141),none,some (.str "NoOrder" 355),some (.str "NoOrder" 363),some (.builtin "ValueError.__new__"),some (.bool true)]⟩)::(nat_lit 162,⟨.type "type",none,.cls {name:= "Held",bases:=[.ref 58],mro:=[.ref 162,.ref 58,.type "ValueError",.type "Exception",.type "BaseException",.type "object"],ns:=161,qualname:= "Held",subclasses:=[]},#[some (.ref 153),none,some (.str "Held" 371),some (.str "Held" 379),some (.builtin "ValueError.__new__"),some (.bool true)]⟩)::(nat_lit 174,⟨.type "type",none,.cls {name:= "NoDeed",bases:=[.ref 58],mro:=[.ref 174,.ref 58,.type "ValueError",.type "Exception",.type "BaseException",.type "object"],ns:=173,qualname:= "NoDeed",subclasses:=[]},#[some (.ref 165),none,some (.str "NoDeed" 387),some (.str "NoDeed" 395),some (.builtin "ValueError.__new__"),some (.bool true)]⟩)::(nat_lit 186,⟨.type "type",none,.cls {name:= "NoRow",bases:=[.ref 58],mro:=[.ref 186,.ref 58,.type "ValueError",.type "Exception",.type "BaseException",.type "object"],ns:=185,qualname:= "NoRow",subclasses:=[]},#[some (.ref 177),none,some (.str "NoRow" 403),some (.str "NoRow" 411),some (.builtin "ValueError.__new__"),some (.bool true)]⟩)::(nat_lit 192,kC "choices_of" 421 52 1 189 (.none) (.none) 191 424 425)::(nat_lit 193,kF "choices_of" yH "eachonce.coverings" 419 192)::(nat_lit 199,kC "full_mask" 427 57 1 194 (.ref 196) (.ref 197) 198 431 432)::(nat_lit 200,kF "full_mask" sFull "eachonce.coverings" 419 199)::(nat_lit 204,kC "choices_at" 434 59 2 201 (.none) (.none) 203 437 438)::(nat_lit 205,kF "choices_at" sAt "eachonce.coverings" 419 204)::(nat_lit 211,kC "masks_met" 440 62 1 206 (.ref 208) (.ref 209) 210 450 451)::(nat_lit 212,kF "masks_met" sMet "eachonce.coverings" 419 211)::(nat_lit 216,kC "gathered" 453 74 3 213 (.none) (.none) 215 456 457)::(nat_lit 217,kF "gathered" qQ "eachonce.coverings" 419 216)::(nat_lit 223,kC "ways_of" 459 83 1 218 (.ref 220) (.ref 221) 222 463 464)::(nat_lit 224,kF "ways_of" qP "eachonce.coverings" 419 223)::(nat_lit 230,kC "many" 466 85 1 225 (.ref 227) (.ref 228) 229 470 471)::(nat_lit 231,kF "many" sMany "eachonce.coverings" 419 230)::(nat_lit 235,kC "have_common" 477 89 2 232 (.none) (.none) 234 480 481)::(nat_lit 236,kF "have_common" jB4 "eachonce.bars" 473 235)::(nat_lit 240,kC "narrowed" 483 91 2 237 (.none) (.none) 239 486 487)::(nat_lit 241,kF "narrowed" jAW "eachonce.bars" 473 240)::(nat_lit 247,kC "is_bar" 489 95 2 242 (.ref 244) (.ref 245) 246 494 495)::(nat_lit 248,kF "is_bar" sBar "eachonce.bars" 473 247)::(nat_lit 252,kC "is_within" 497 97 2 249 (.none) (.none) 251 500 501)::(nat_lit 253,kF "is_within" jB3 "eachonce.bars" 473 252)::(nat_lit 257,kC "least_lots" 503 99 2 254 (.none) (.none) 256 506 507)::(nat_lit 258,kF "least_lots" yZ "eachonce.bars" 473 257)::(nat_lit 264,kC "least_bars" 509 105 1 259 (.ref 261) (.ref 262) 263 514 515)::(nat_lit 265,kF "least_bars" y8 "eachonce.bars" 473 264)::(nat_lit 271,kC "least_mends" 517 109 1 266 (.ref 268) (.ref 269) 270 522 523)::(nat_lit 272,kF "least_mends" kY "eachonce.bars" 473 271)::(nat_lit 278,kC "_law_cell_at" 527 113 2 273 (.ref 275) (.ref 276) 277 532 533)::(nat_lit 279,kF "_law_cell_at" sCell "law_eachonce_k68_bars_of_many_things" 525 278)::(nat_lit 285,kC "_law_pot" 535 117 1 280 (.ref 282) (.ref 283) 284 542 543)::(nat_lit 286,kF "_law_pot" sPot "law_eachonce_k68_bars_of_many_things" 525 285)::(nat_lit 292,kC "_law_take" 545 126 2 287 (.ref 289) (.ref 290) 291 551 552)::(nat_lit 293,kF "_law_take" sTake "law_eachonce_k68_bars_of_many_things" 525 292)::(nat_lit 297,kC "_law_lot" 554 130 2 294 (.none) (.none) 296 557 558)::(nat_lit 298,kF "_law_lot" sLot "law_eachonce_k68_bars_of_many_things" 525 297)::(nat_lit 302,kC "_law_box" 560 139 3 299 (.none) (.none) 301 563 564)::(nat_lit 303,kF "_law_box" sBox "law_eachonce_k68_bars_of_many_things" 525 302)::(nat_lit 307,kC "_law_from" 566 157 3 304 (.none) (.none) 306 569 570)::(nat_lit 308,kF "_law_from" qR "law_eachonce_k68_bars_of_many_things" 525 307)::(nat_lit 312,kC "_law_coverings" 572 170 1 309 (.none) (.none) 311 575 576)::(nat_lit 313,kF "_law_coverings" sCovs "law_eachonce_k68_bars_of_many_things" 525 312)::(nat_lit 317,kC "_law_others" 578 172 2 314 (.none) (.none) 316 581 582)::(nat_lit 318,kF "_law_others" jAV "law_eachonce_k68_bars_of_many_things" 525 317)::(nat_lit 324,kC "_law_told" 584 177 1 319 (.ref 321) (.ref 322) 323 590 591)::(nat_lit 325,kF "_law_told" sTold "law_eachonce_k68_bars_of_many_things" 525 324)::(nat_lit 329,kC "law" 593 188 1 326 (.none) (.none) 328 596 597)::(nat_lit 330,kF "law" sLaw "law_eachonce_k68_bars_of_many_things" 525 329)::[]
noncomputable def kA:List Addr:=[3,4,20,21,25,26,32,33,37,38,42,43,47,48,57,58,78,90,101,102,114,126,138,150,162,174,186,192,193,199,200,204,205,211,212,216,217,223,224,230,231,235,236,240,241,247,248,252,253,257,258,264,265,271,272,278,279,285,286,292,293,297,298,302,303,307,308,312,313,317,318,324,325,329,330]
noncomputable def vw:Program:= {PySem.Challenge.pw_eachonce_k68_bars_of_many_things with main:= {PySem.Challenge.pw_eachonce_k68_bars_of_many_things.main with body:=[top 1,top 2,top 3,top 4,top 5,top 7,top 9,top 10,top 11,top 12,top 13,top 14,top 15,top 16,top 17,top 18,top 19,top 21,top 22,top 23,top 24,top 25,top 26,top 27,top 29,top 30,top 31,top 32,top 33,top 34,top 35,top 36,top 38,top 39,top 40,top 41,top 42,top 43,top 44,top 45,top 46,top 47]}}
def kA_eq:∀P,kA=(kK P).map (·.1):=λ_=>by kernel_rfl
noncomputable abbrev kH:PySem.W.Hook:=PySem.W.kmHook kK kA kA_eq [45,219,255,260,267]
set_option maxHeartbeats 0 in
def left:PySem.W.LeftO PySem.Challenge.rw_eachonce_k68_bars_of_many_things.prog vw [] (λs=>PySem.W.xlAt vw [] s&&PySem.W.recOk (PySem.W.RowW.records (PySem.W.OpenRow.toRowW PySem.Challenge.rw_eachonce_k68_bars_of_many_things.row)) s) (PySem.W.Hook.obs kH) (PySem.W.Hook.val kH) 7100:=λw=>by kernel_rfl
end Eo
section
namespace L2
open PySem PySem.Spec PyProof.Rows
variable {f:Value->Value->Sem Value}{b a dx:Addr}{K:W.Frag}{u:Value}{x:Str}{op:CmpOp}{fp:List Addr}{body:List Stmt}{tg e c l:Expr}{o:Obj}{kindOf:Str->Option NameKind}{g:Int->Int->Int}{Aq:Heap}{es:List Expr}{mj:List Env}{N:Am}{E:Ah}{us:Al}{mg:Ak}{α:Type}{p:Pos}{j:Nat}{i:Int}
abbrev Key:=Sum Int Str
def keyIs:Key->Value->Bool
 | .inl k,v=>Value.isInt k v
 | .inr x,v=>Value.isStrOf x v
def keyH(w:World):Key->Int
 | .inl k=>hashInt k
 | .inr x=>hashStr w x
def jA1:∀{k:Key}{v:Value},keyIs k v=true->(∃i t,k=Sum.inl i/\v=Value.int i t)\/(∃x t,k=Sum.inr x/\v=Value.str x t)
 | .inl i,v,h=>by
  obtain⟨t,e⟩:=Value.isInt_shape (k:=i) (v:=v) h;exact .inl ⟨i,t,rfl,e⟩
 | .inr x,v,h=>by
  obtain⟨t,e⟩:=Value.isStrOf_shape (x:=x) (v:=v) h;exact .inr ⟨x,t,rfl,e⟩
def jOA(i:Int)(t:Tok):keyIs (.inl i) (.int i t)=true:=by simp[keyIs,Value.isInt]
def jO9(x:Str)(t:Tok):keyIs (.inr x) (.str x t)=true:=by simp[keyIs,Value.isStrOf]
theorem jWM(a b:Int):decide ((Sum.inl a:Key)=Sum.inl b)=(a==b):=by
 by_cases e:a=b
 .subst e;simp
 .have h:¬(Sum.inl a:Key)=Sum.inl b:=λq=>e (hG q);rw[aK h];exact(bW.mpr e).symm
theorem jWJ(a b:Str):decide ((Sum.inr a:Key)=Sum.inr b)=decide (a=b):=by
 by_cases e:a=b
 .subst e;simp
 .have h:¬(Sum.inr a:Key)=Sum.inr b:=λq=>e (Sum.inr.inj q);rw[aK h,aK e]
theorem jWL(a:Int)(b:Str):decide ((Sum.inl a:Key)=Sum.inr b)=false:=aK (λq=>nomatch q)
theorem jWK(a:Str)(b:Int):decide ((Sum.inr a:Key)=Sum.inl b)=false:=aK (λq=>nomatch q)
def kZ(prog:Program)(w:World):PySem.KeyKind prog w Key where
 is:=keyIs
 hash:=keyH w
 inj:=λv a b ha hb=>by
  rcases jA1 ha with ⟨i,t,rfl,rfl⟩|⟨x,t,rfl,rfl⟩
  .rcases jA1 hb with ⟨j,u,rfl,e⟩|⟨y,u,rfl,e⟩
   .injection e with e1 _;rw[e1]
   .exact nomatch e
  .rcases jA1 hb with ⟨j,u,rfl,e⟩|⟨y,u,rfl,e⟩
   .exact nomatch e
   .injection e with e1 _;rw[e1]
 byValue:=λk v h=>by
  rcases jA1 h with ⟨i,t,rfl,rfl⟩|⟨x,t,rfl,rfl⟩<;>rfl
 pyHash:=λhv h=>by
  rcases jA1 hv with ⟨i,t,rfl,rfl⟩|⟨x,t,rfl,rfl⟩
  .exact wpAny_pyHash_int h
  .exact wpAny_pyHash_str h
 eqBool:=λhu hv h=>by
  rcases jA1 hu with ⟨i,t,rfl,rfl⟩|⟨x,t,rfl,rfl⟩
  .rcases jA1 hv with ⟨j,u,rfl,rfl⟩|⟨y,u,rfl,rfl⟩
   .rw[jWM] at h;exact wpAny_eqBool_int h
   .rw[jWL] at h;exact SeqAt.EqAt.int_str i t y u _ _ _ _ h
  .rcases jA1 hv with ⟨j,u,rfl,rfl⟩|⟨y,u,rfl,rfl⟩
   .rw[jWK] at h;exact SeqAt.EqAt.str_int x t j u _ _ _ _ h
   .rw[jWJ] at h;exact wpAny_eqBool_str h
 «strs»:=λk x t v h=>by
  rcases jA1 h with ⟨i,u,rfl,e⟩|⟨y,u,rfl,e⟩
  .exact nomatch e
  .injection e with e1 _;subst e1;cases v<;>rfl
def jJ2(prog:Program)(w:World)(i:Int)(t:Tok):(kZ prog w).is (.inl i) (.int i t)=true:=jOA i t
def jJ1(prog:Program)(w:World)(x:Str)(t:Tok):(kZ prog w).is (.inr x) (.str x t)=true:=jO9 x t
inductive V where
 |non|bl (b:Bool)|int (i:Int)|str (x:Str)|byt (b:Array UInt8)|flt (b:UInt64)|ref (a:Addr)|ty (n:String)
 deriving DecidableEq
def RelV:V->Value->Prop
 | .non,u=>u=Value.none
 | .bl b,u=>u=Value.bool b
 | .int i,u=>∃t,u=Value.int i t
 | .str x,u=>∃t,u=Value.str x t
 | .byt b,u=>∃t,u=Value.bytes b t
 | .flt b,u=>∃t,u=Value.float b t
 | .ref a,u=>u=Value.ref a
 | .ty n,u=>u=Value.type n
abbrev Vals:List V->Al->Prop:=Paired RelV
def Vals.length{xs:List V}{us:Al}(r:Vals xs us):xs.length=us.length:=gq r
def Vals.get:∀{xs:List V}{us:Al}{i:Nat}{x:V},Vals xs us->xs[i]?=some x->∃u,us[i]?=some u/\RelV x u
 |_,_,_,_,.nil,e=>by simp at e
 |_,_,0,_,.cons r _,e=>by simp at e;subst e;exact⟨_,rfl,r⟩
 |_,_,i+1,x,.cons _ t,e=>by
  obtain⟨u,h1,h2⟩:=Vals.get (i:=i) (x:=x) t (by simpa using e);exact⟨u,by simpa using h1,h2⟩
def Vals.set{x:V}{u:Value}(r:RelV x u):∀{xs:List V}{us:Al}(i:Nat),Vals xs us->Vals (xs.set i x) (us.set i u)
 |_,_,_,.nil=> .nil
 |_,_,0,.cons _ t=> .cons r t
 |_,_,i+1,.cons q t=> .cons q (Vals.set r i t)
def Vals.append:∀{xs ys:List V}{us ws:Al},Vals xs us->Vals ys ws->Vals (xs++ys) (us++ws)
 |_,_,_,_,.nil,s=>s
 |_,_,_,_,.cons r t,s=> .cons r (Vals.append t s)
def Vals.take:∀{xs:List V}{us:Al}(n:Nat),Vals xs us->Vals (xs.take n) (us.take n)
 |_,_,0,_=> .nil
 |_,_,_+1,.nil=> .nil
 |_,_,n+1,.cons r t=> .cons r (Vals.take n t)
def Vals.drop:∀{xs:List V}{us:Al}(n:Nat),Vals xs us->Vals (xs.drop n) (us.drop n)
 |_,_,0,r=>r
 |_,_,_+1,.nil=> .nil
 |_,_,n+1,.cons _ t=>Vals.drop n t
def RelO:Option V->Ao->Prop
 |some v,some u=>RelV v u
 |none,none=>True
 |_,_=>False
def KV{κ:Type}:List (κ×V)->List (κ×Value)->Prop:=Paired λ(p:κ×V) (q:κ×Value)=>p.1=q.1/\RelV p.2 q.2
noncomputable def kV:Key->V
 | .inl i=> .int i
 | .inr x=> .str x
def TupO(h:Heap)(a:Addr)(items:An):Prop:=∃n,h.get? a=some {cls:=.type "tuple",data:=.seq items n}
def TupO.isTup{h:Heap}{items:An}(x:TupO h a items):IsTup h a items:=let ⟨n,e⟩:=x;⟨_,e,rfl,n,rfl⟩
def TupO.new(h:Heap)(items:An):TupO (h.push {cls:=.type "tuple",data:=.seq items}) h.objs.size items:=⟨0,aw _ rfl⟩
inductive HO where
  |lst (xs:List V)
  |tup (xs:List V)
  |dK (kvs:List (Key×V))|dT (kvs:List (List Key×V))
  |set (S:Int->Bool) (n:Nat)
  |ins (C dx:Addr) (fs:List (Str×V))
  |own (x:Addr)
  |xd (fs:List (Str×V))
  |met (f x:Addr)
  |rng (lo hi:Int)
  |frz (o:Obj) (u:HO)
  |tbl (ps:An)
  |ext (φ:Heap->Prop)
abbrev Hp:=Addr->Option HO
def upd(H:Hp)(a:Addr)(o:HO):Hp:=λb=>if b=a then some o else H b
variable {H:Hp}
def j7{o:HO}:upd H a o a=some o:=by unfold upd;rw[aA rfl]
def jA{o:HO}(h:b≠a):upd H a o b=H b:=by unfold upd;rw[az h]
def ne_of{o u:HO}(h:H a=some o)(h':H b=some u)(d:o≠u):a≠b:=by
 intro e;subst e;rw[h] at h';exact d (bA h')
def jC{o:HO}(h:H a=some o)(h':H b=none):a≠b:=by
 intro e;subst e;rw[h] at h';cases h'
section
variable (P:Program)(w:World)
def ObjOk(H:Hp)(h:Heap)(a:Addr):HO->Prop
 | .lst xs=>xs.length<=sizeLine/\∃(its:Al) (n:Nat),Vals xs its/\h.get? a=some {cls:=.type "list",data:=.seq its.toArray n}
 | .tup xs=>xs.length<=sizeLine/\∃its:Al,Vals xs its/\TupO h a its.toArray
 | .dK kvs=>kvs.length<=sizeLine/\(a==sysModules)=false/\∃vs,KV kvs vs/\h.DictOf (kZ P w) a vs
 | .dT kvs=>kvs.length<=sizeLine/\(a==sysModules)=false/\∃xs:List (List Key×Addr×Value),
   Paired (λ(p:List Key×V) (q:List Key×Addr×Value)=>p.1=q.1/\H q.2.1=some (.tup (p.1.map kV))/\RelV p.2 q.2.2) kvs xs/\
   ∃o es ep,h.get? a=some o/\o.ExactDict/\o.data=.dict es ep/\es.toList=xs.map (entryOfKey (tupleKind (kZ P w)))/\(xs.map (·.1)).Nodup
 | .set S n=>h.SetOf (intKind P w) a S n
 | .ins C dx fs=>H dx=some (.own a)/\fs.length<=1000/\dx≠a/\h.get? a=some (instObj C dx)/\
   ∃mA,h.Ns1 dx mA/\(∀f,RelO (fs.lookup f) (mA f))/\PySem.Within mA (fs.map (·.1))
 | .own _=>∃o,h.get? a=some o
 | .xd fs=>∃mA,h.Ns1 a mA/\∀f,RelO (fs.lookup f) (mA f)
 | .rng lo hi=>∃t u v,h.get? a=some {cls:=.type "range",data:=.fields #[.int lo t,.int hi u,.int 1 v]}
 | .frz o u=>h.get? a=some o/\ObjOk H h a u
 | .tbl ps=>h.get? a=some {cls:=.none,data:=.fields ps}
 | .met f x=>h.get? a=some (methodObj (.ref f) (.ref x))
 | .ext φ=>φ h/\(∃o,h.get? a=some o)/\∀h1 h2:Heap,φ h1->(∀o,h1.get? a=some o->h2.get? a=some o)->φ h2
def HOk(H:Hp)(h:Heap):Prop:=∀a o,H a=some o->ObjOk P w H h a o
end
variable {P:Program}{w:World}{H H':Hp}{h h':Heap}{a:Addr}
section
variable {o:HO}
def ObjOk.lt(x:ObjOk P w H h a o):a<h.objs.size:=by
 cases o with
 |lst xs=>obtain⟨_,_,_,_,e⟩:=x;exact ay e
 |tup xs=>obtain⟨_,_,_,_,e⟩:=x;exact ay e
 |dK kvs=>obtain⟨_,_,_,_,o,_,_,e,_⟩:=x;exact ay e
 |dT kvs=>obtain⟨_,_,_,_,o,_,_,e,_⟩:=x;exact ay e
 |set S n=>obtain⟨o,_,_,_,e,_⟩:=x;exact ay e
 |ins C dx fs=>obtain⟨_,_,_,e,_⟩:=x;exact ay e
 |own y=>obtain⟨_,e⟩:=x;exact ay e
 |xd fs=>obtain⟨_,⟨_,_,_,e,_⟩,_⟩:=x;exact ay e
 |rng lo hi=>obtain⟨_,_,_,e⟩:=x;exact ay e
 |frz ob u=>obtain⟨e,_⟩:=x;exact ay e
 |tbl ps=>exact ay (show h.get? a=some _ from x)
 |met f y=>exact ay (show h.get? a=some _ from x)
 |ext φ=>obtain⟨_,⟨_,e⟩,_⟩:=x;exact ay e
def Paired.mapP{β:Type}{F G:α->β->Prop}:∀{l₁:List α}{l₂:List β},Paired F l₁ l₂->(∀a b,F a b->G a b)->Paired G l₁ l₂
 |_,_,.nil,_=> .nil
 |_,_,.cons r t,f=> .cons (f _ _ r) (Paired.mapP t f)
def ObjOk.stay(x:ObjOk P w H h a o)(k:∀b u,(b=a\/H b=some (.own a))->h.get? b=some u->h'.get? b=some u)
  (ho:∀b,H b=some (.own a)->H' b=some (.own a)) (ht:∀b xs,H b=some (.tup xs)->H' b=some (.tup xs)):ObjOk P w H' h' a o:=by
 induction o with
 |lst xs=>obtain⟨z,its,n,r,e⟩:=x;exact⟨z,its,n,r,k _ _ (.inl rfl) e⟩
 |tup xs=>obtain⟨z,its,r,n,e⟩:=x;exact⟨z,its,r,n,k _ _ (.inl rfl) e⟩
 |dK kvs=>obtain⟨z,y,vs,r,ob,es,ep,e,c⟩:=x;exact⟨z,y,vs,r,ob,es,ep,k _ _ (.inl rfl) e,c⟩
 |dT kvs=>
  obtain⟨z,y,xs,r,ob,es,ep,e,c⟩:=x;exact⟨z,y,xs,Paired.mapP r λp q z=>⟨z.1,ht _ _ z.2.1,z.2.2⟩,ob,es,ep,k _ _ (.inl rfl) e,c⟩
 |set S n=>obtain⟨ob,es,ep,t,e,c⟩:=x;exact⟨ob,es,ep,t,k _ _ (.inl rfl) e,c⟩
 |ins C dx fs=>
  obtain⟨d,z,ne,e,mA,⟨od,es,ep,e2,c⟩,r⟩:=x;exact⟨ho _ d,z,ne,k _ _ (.inl rfl) e,mA,⟨od,es,ep,k _ _ (.inr d) e2,c⟩,r⟩
 |own y=>obtain⟨ob,e⟩:=x;exact⟨ob,k _ _ (.inl rfl) e⟩
 |xd fs=>obtain⟨mA,⟨od,es,ep,e,c⟩,r⟩:=x;exact⟨mA,⟨od,es,ep,k _ _ (.inl rfl) e,c⟩,r⟩
 |rng lo hi=>obtain⟨t,u,v,e⟩:=x;exact⟨t,u,v,k _ _ (.inl rfl) e⟩
 |frz ob u ih=>obtain⟨e,q⟩:=x;exact⟨k _ _ (.inl rfl) e,ih q⟩
 |tbl ps=>
  have e:h.get? a=some {cls:=.none,data:=.fields ps}:=x;show h'.get? a=some {cls:=.none,data:=.fields ps};exact k a _ (.inl rfl) e
 |met f y=>
  have e:h.get? a=some (methodObj (.ref f) (.ref y)):=x;show h'.get? a=some (methodObj (.ref f) (.ref y));exact k a _ (.inl rfl) e
 |ext φ=>obtain⟨p,⟨o,e⟩,st⟩:=x;exact⟨st _ _ p λo q=>k _ _ (.inl rfl) q,⟨o,k _ _ (.inl rfl) e⟩,st⟩
def HOk.lt(x:HOk P w H h)(e:H a=some o):a<h.objs.size:=(x a o e).lt
def HOk.fresh(x:HOk P w H h)(e:h.objs.size<=a):H a=none:=by
 cases q:H a with
 |none=>rfl
 |some u=>exact absurd (aS (x.lt q) e) (cF _)
def HOk.kept(x:HOk P w H h)(k:∀b u,h.get? b=some u->h'.get? b=some u):HOk P w H h':=λa o e=>
 (x a o e).stay (λb u _ q=>k b u q) (λ_ q=>q) λ_ _ q=>q
def HOk.laid(x:HOk P w H h)(k:∀b u,h.get? b=some u->h'.get? b=some u)(hp:h.objs.size<=a)(new:ObjOk P w (upd H a o) h' a o):HOk P w (upd H a o) h':=λb u e=>by
 have hn:=x.fresh hp;by_cases hb:b=a
 .subst hb;rw[j7] at e;cases e;exact new
 .rw[jA hb] at e;exact(x b u e).stay (λc v _ q=>k c v q) (λc q=>by rw[jA (jC q hn)];exact q) λc xs q=>by rw[jA (jC q hn)];exact q
end
def Rd(H:Hp)(a:Addr)(u:HO):Prop:=H a=some u\/∃o,H a=some (.frz o u)
def Rd.ok{u:HO}(r:Rd H a u)(x:HOk P w H h):ObjOk P w H h a u:=by
 rcases r with r|⟨o,r⟩
 .exact x a u r
 .obtain⟨_,q⟩:=x a _ r;exact q
def Mut:Option HO->Prop
 |some (.lst _)=>True
 |some (.dK _)=>True
 |some (.dT _)=>True
 |some (.set _ _)=>True
 |some (.ins _ _ _)=>True
 |some (.ext _)=>True
 |_=>False
variable {x:Addr}
section
variable {e:Addr}{o':HO}
def HOk.write(ok:HOk P w H h)(mu:Mut (H x))(he:e=x\/H e=some (.own x))(k:∀b u,b≠e->h.get? b=some u->h'.get? b=some u)(heo:∃u,h'.get? e=some u)
  (new:ObjOk P w (upd H x o') h' x o'):HOk P w (upd H x o') h':=λb u q=>by
 have nown:∀c y,H c=some (.own y)->c≠x:=λc y r z=>by subst z;rw[r] at mu;exact mu
 have ntup:∀c xs,H c=some (.tup xs)->c≠x:=λc xs r z=>by subst z;rw[r] at mu;exact mu
 by_cases hb:b=x
 .subst hb;rw[j7] at q;cases q;exact new
 .rw[jA hb] at q;by_cases hbe:b=e
  .have q':H b=some (.own x):=by
    rcases he with z|z
    .exact absurd (hbe.trans z) hb
    .rw[hbe];exact z
   rw[q] at q';cases q';obtain⟨v,hv⟩:=heo;exact⟨v,by rw[hbe];exact hv⟩
  .refine(ok b u q).stay (λc v hc r=>k c v ?_ r) (λc r=>by rw[jA (nown c b r)];exact r) λc xs r=>by rw[jA (ntup c xs r)];exact r
   rcases hc with rfl|hc
   .exact hbe
   .rintro rfl;rcases he with z|z
    .exact nown c b hc z
    .rw[hc] at z;cases z;exact hb rfl
end
structure Un (fs ex:List Addr)(H H':Hp)(h h':Heap):Prop where
 keep:∀b o,h.get? b=some o->H b=none->b∉fs->b∉ex->h'.get? b=some o
 slot:∀b o,h.get? b=some o->H b=none->b∈fs->b∉ex->∃sl,h'.get? b=some {o with slots:=sl}
 free:∀b o,h.get? b=some o->H b=none->b∉ex->H' b=none
 there:∀b o,h.get? b=some o->b∉ex->∃o',h'.get? b=some o'
 tups:∀b xs,H b=some (.tup xs)->H' b=some (.tup xs)
 frzs:∀b o u,H b=some (.frz o u)->H' b=some (.frz o u)
 tbls:∀b ps,H b=some (.tbl ps)->∃more,H' b=some (.tbl (ps++more))
section
variable {fs fs' ex ex':List Addr}{H1 H2:Hp}{h1 h2:Heap}{e:Addr}{o:HO}
def Un.any(u:Un fs ex H H1 h h1){ob:Obj}(q:h.get? b=some ob)(n:H b=none)(hx:b∉ex):∃sl,h1.get? b=some {ob with slots:=sl}:=by
 by_cases hb:b∈fs
 .exact u.slot b ob q n hb hx
 .exact⟨ob.slots,u.keep b ob q n hb hx⟩
def Un.trans(a:Un fs ex H H1 h h1)(b:Un fs ex H1 H2 h1 h2):Un fs ex H H2 h h2 where
 keep:=λc ob q n hc hx=>b.keep c ob (a.keep c ob q n hc hx) (a.free c ob q n hx) hc hx
 slot:=λc ob q n hc hx=>by
  obtain⟨sl,e1⟩:=a.slot c ob q n hc hx;obtain⟨sl',e2⟩:=b.slot c _ e1 (a.free c ob q n hx) hc hx;exact⟨sl',e2⟩
 free:=λc ob q n hx=>by
  obtain⟨o',e1⟩:=a.there c ob q hx;exact b.free c o' e1 (a.free c ob q n hx) hx
 there:=λc ob q hx=>by
  obtain⟨o',e1⟩:=a.there c ob q hx;exact b.there c o' e1 hx
 tups:=λc xs q=>b.tups c xs (a.tups c xs q)
 frzs:=λc ob xs q=>b.frzs c ob xs (a.frzs c ob xs q)
 tbls:=λc ps q=>by
  obtain⟨m1,e1⟩:=a.tbls c ps q;obtain⟨m2,e2⟩:=b.tbls c _ e1;exact⟨m1++m2,by rw[e2,iI]⟩
def Un.kept(k:∀b u,h.get? b=some u->h'.get? b=some u):Un fs ex H H h h':=
 ⟨λb ob q _ _ _=>k b ob q,λb ob q _ _ _=>⟨ob.slots,k b ob q⟩,λ_ _ _ n _=>n,λb ob q _=>⟨ob,k b ob q⟩,λ_ _ q=>q,λ_ _ _ q=>q,λ_ ps q=>⟨#[],by rw[q];simp⟩⟩
def Un.refl:Un fs ex H H h h:=Un.kept λ_ _ q=>q
def Un.laid(k:∀b u,h.get? b=some u->h'.get? b=some u)(hp:h.objs.size<=a)(hn:H a=none):Un fs ex H (upd H a o) h h' where
 keep:=λb u q _ _ _=>k b u q
 slot:=λb u q _ _ _=>⟨u.slots,k b u q⟩
 free:=λb u q n _=>by rw[jA (aO (aS (ay q) hp))];exact n
 there:=λb u q _=>⟨u,k b u q⟩
 tups:=λb xs q=>by rw[jA (jC q hn)];exact q
 frzs:=λb u xs q=>by rw[jA (jC q hn)];exact q
 tbls:=λb ps q=>⟨#[],by rw[jA (jC q hn),q];simp⟩
def Un.write(mu:Mut (H x))(he:e=x\/H e=some (.own x))(k:∀b u,b≠e->h.get? b=some u->h'.get? b=some u)(heo:∃u,h'.get? e=some u):Un fs ex H (upd H x o) h h':=by
 have hx:∀b,H b=none->b≠x:=λb n z=>by subst z;rw[n] at mu;exact mu
 have hb:∀b,H b=none->b≠e:=λb n z=>by
  subst z;rcases he with r|r
  .exact hx b n r
  .rw[n] at r;cases r
 have hm:∀b u,H b=some u->¬Mut (some u)->b≠x:=λb u q nm z=>by subst z;rw[q] at mu;exact nm mu
 refine⟨λb u q n _ _=>k b u (hb b n) q,λb u q n _ _=>⟨u.slots,k b u (hb b n) q⟩,λb u q n _=>by rw[jA (hx b n)];exact n,λb u q _=>?_,
  λb xs q=>by rw[jA (hm b _ q λz=>z)];exact q,λb u xs q=>by rw[jA (hm b _ q λz=>z)];exact q,λb ps q=>⟨#[],by rw[jA (hm b _ q λz=>z),q];simp⟩⟩
 by_cases hbe:b=e
 .subst hbe;exact heo
 .exact⟨u,k b u hbe q⟩
end
def trk(h:Heap)(H:Hp):List Addr:=(List.range h.objs.size).filter λa=>(H a).isSome
def hidT(h:Heap)(H:Hp):Heap:=PySem.W.hideAll h (trk h H)
def jOU(h:Heap)(H:Hp):(hidT h H).objs.size=h.objs.size:=PySem.W.hideAll_size _ _
def jR3(e:h.get? b=some o)(n:H b=none):(hidT h H).get? b=some o:=
 PySem.W.hideAll_get _ e λhm=>by
  have q:(H b).isSome=true:=(be.mp hm).2;rw[n] at q;simp at q
def jU0(e:(hidT h H).get? b=some o):h.get? b=some o/\H b=none:=by
 have e':h.get? b=some o:=PySem.W.of_hideAll (trk h H) e;refine⟨e',?_⟩;cases q:H b with
 |none=>rfl
 |some x=>
  have hm:b∈trk h H:=be.mpr ⟨bI.mpr (ay e'),by simp[q]⟩;have z:(hidT h H).get? b=none:=PySem.W.hideAll_none (trk h H) hm;rw[z] at e;cases e
structure Mod (K:W.Frag)(mg:Ak)(Aq:Heap):Prop where
 kin:K.In Aq
 glob:Aq.Ns mainGlobals mg
 blt:∃mb,Aq.Ns builtinsNs mb/\∀x:Str,x≠"__name__" ->mb x=bootBuiltins x
 nolimit:Aq.NoLimit
structure Cx where
 prog:Program
 w:World
 K:W.Frag
 mg:Ak
 Aq:Heap
 A:Around
 N:Am
 s₀:Shared
 H₀:Hp
 env:Env
 mj:List Env
 stack:List Env
 ex:List Addr
 fn:Str->Bool
 calm:Bool
 pn:Ai
 xe:Ah
def frs(l:List Env):List Addr:=l.filterMap (·.frame)
abbrev Cx.fs(X:Cx):List Addr:=frs X.mj
def Vis(sc:Scope)(x:Str):Prop:=sc.names.lookup x=some .local\/sc.names.lookup x=some .cell\/sc.names.lookup x=some .free
def Loc(sc:Scope)(x:Str):Prop:=sc.names.lookup x=some .local\/sc.names.lookup x=some .cell
def Look(env:Env)(h:Heap)(m:Ak)(x:Str)(u:Value):Prop:=
 (env.kindOf x=some .local/\m x=some u)\/((env.kindOf x=some .cell\/env.kindOf x=some .free)/\∃c,env.cells.lookup x=some c/\h.IsCell c (some u))
structure Cx.Ok (X:Cx):Prop where
 mod:Mod X.K X.mg X.Aq
 kind:X.env.scope.kind=.function
 glob:X.env.globals=mainGlobals
 blt:X.env.builtins=builtinsNs
 above:X.s₀.heap.objs.size<=X.env.locals
 inj:∀x y c,X.env.cells.lookup x=some c->X.env.cells.lookup y=some c->x=y
 has:∀x,(X.env.kindOf x=some .cell\/X.env.kindOf x=some .free)->∃c,X.env.cells.lookup x=some c
 cab:∀x c,X.fn x=true->X.env.cells.lookup x=some c->X.s₀.heap.objs.size<=c
 hd:X.calm=true->X.A.handled=none
 frames:X.A.frames=some X.stack
 stk:X.stack=X.mj\/(X.stack=X.env::X.mj/\X.env.frame=some X.env.locals)
 exf:∀b∈X.ex,b≠X.env.locals/\∀x c,X.env.cells.lookup x=some c->c≠b
 bs:∀b o,X.Aq.get? b=some o->X.s₀.heap.get? b=some o/\X.H₀ b=none
 bsz:X.Aq.objs.size<=X.s₀.heap.objs.size
 noex:∀b o,X.Aq.get? b=some o->b∉X.ex
 exfs:∀b∈X.ex,b∉X.fs
 funs:X.s₀.heap.FunFrames X.Aq X.mj
 frf:∀b∈X.fs,X.H₀ b=none
structure Inv (X:Cx)(ma:Ai)(σ:List (Option V))(H:Hp)(s:Shared):Prop where
 ok:X.Ok
 os:s.os=X.s₀.os
 bare:AllBare s.gens
 Aq:Un X.fs X.ex X.H₀ H X.s₀.heap s.heap
 loc:∃m,s.heap.Ns X.env.locals m/\∀(i:Nat) (x:Str) (v:V),X.N[i]?=some x->σ[i]?=some (some v)->Vis X.env.scope x->∃u,RelV v u/\Look X.env s.heap m x u
 cell:∀x c,X.env.cells.lookup x=some c->∃v,s.heap.IsCell c v
 free:H X.env.locals=none
 freeC:∀x c,X.env.cells.lookup x=some c->H c=none
 pin:∀p∈X.pn++ma,s.heap.get? p.1=some p.2/\H p.1=none/\p.1≠X.env.locals/\p.1∉X.fs/\∀v,p.2.data≠.cell v
 hok:HOk X.prog X.w H s.heap
 len:σ.length=X.N.length
variable {X:Cx}{ma:Ai}{s:Shared}
section
variable {σ:List (Option V)}
def Cx.Ok.nofr(ok:X.Ok)(e:X.Aq.get? b=some o):b∉X.fs:=λhb=>by
 have:=(ok.funs.mem hb).1;rw[e] at this;cases this
def Inv.bs(I:Inv X ma σ H s):∀b o,X.Aq.get? b=some o->s.heap.get? b=some o/\H b=none:=λb o e=>
 ⟨I.Aq.keep b o (I.ok.bs b o e).1 (I.ok.bs b o e).2 (I.ok.nofr e) (I.ok.noex b o e),I.Aq.free b o (I.ok.bs b o e).1 (I.ok.bs b o e).2 (I.ok.noex b o e)⟩
def Inv.bk(I:Inv X ma σ H s):∀b o,X.Aq.get? b=some o->s.heap.get? b=some o:=λb o e=>(I.bs b o e).1
def Inv.mod(I:Inv X ma σ H s):Mod X.K X.mg X.Aq:=I.ok.mod
def Inv.kIn(I:Inv X ma σ H s):X.K.In s.heap:=I.ok.mod.kin.keeps I.bk
def Inv.lt(I:Inv X ma σ H s):X.env.locals<s.heap.objs.size:=let ⟨_,hn,_⟩:=I.loc;hn.lt
def Inv.sz(I:Inv X ma σ H s):X.s₀.heap.objs.size<=s.heap.objs.size:=bh I.ok.above (cU I.lt)
def Inv.nofs(I:Inv X ma σ H s)(h:s.heap.objs.size<=a):a∉X.fs:=λhb=>by
 obtain⟨_,o,ho,_⟩:=I.ok.funs.mem hb;exact absurd (aS (ay ho) (bh I.sz h)) (cF _)
def Inv.cne(I:Inv X ma σ H s):∀x c,X.env.cells.lookup x=some c->c≠X.env.locals:=λx c e z=>by
 obtain⟨v,o,ho,hd⟩:=I.cell x c e;obtain⟨m,⟨o',es,ep,ho',hd',_⟩,_⟩:=I.loc;rw[z,ho'] at ho;cases ho;rw[hd'] at hd;cases hd
def Inv.funs(I:Inv X ma σ H s):s.heap.FunFrames X.Aq X.mj:=by
 have all:∀(l:List Env),(∀b∈frs l,b∈X.fs)->X.s₀.heap.FunFrames X.Aq l->s.heap.FunFrames X.Aq l:=by
  intro l
  induction l with
  |nil=>intro _ _;trivial
  |cons env r ih=>
   intro hs hl;obtain⟨hk,⟨L,o,hf,hn,ho,hd⟩,hr⟩:=hl;have hL:L∈X.fs:=hs L (by unfold frs;rw[iu,hf];exact ai);obtain⟨sl,e⟩:=I.Aq.slot L o ho (I.ok.frf L hL) hL λz=>I.ok.exfs L z hL;exact⟨hk,⟨L,_,hf,hn,e,hd⟩,ih (λb hb=>hs b (by unfold frs;rw[iu,hf];exact ah _ hb)) hr⟩
 exact all X.mj (λ_ hb=>hb) I.ok.funs
theorem Inv.stack(I:Inv X ma σ H s):s.heap.FunFrames X.Aq X.stack:=by
 rcases I.ok.stk with e|⟨e,hf⟩
 .rw[e];exact I.funs
 .rw[e];obtain⟨m,hn,_⟩:=I.loc;refine .cons (by rw[I.ok.kind];decide) hf hn ?_ I.funs;exact Heap.get?_none_of_le (bh I.ok.bsz I.ok.above)
def Inv.stkSub(I:Inv X ma σ H s):∀b∈frs X.stack,b∈X.env.locals::X.fs:=λb hb=>by
 rcases I.ok.stk with e|⟨e,hf⟩
 .rw[e] at hb;exact ah _ hb
 .rw[e] at hb;unfold frs at hb;rw[iu,hf] at hb;exact hb
def Inv.stkFree(I:Inv X ma σ H s):∀b∈frs X.stack,H b=none:=λb hb=>by
 rcases aB.mp (I.stkSub b hb) with e|hb
 .rw[e];exact I.free
 .obtain⟨_,o,ho,_⟩:=I.ok.funs.mem hb;exact I.Aq.free b o ho (I.ok.frf b hb) λz=>I.ok.exfs b z hb
def Inv.step{g':Array GenState}{t':Nat}{d':Drawn}{ch:List Addr}(I:Inv X ma σ H s)
  (hch:∀b∈ch,(b∈X.ex\/X.s₀.heap.objs.size<=b)/\b≠X.env.locals/\(∀x c,X.env.cells.lookup x=some c->c≠b)/\∀p∈X.pn++ma,p.1≠b)
  (keep:∀b o,b≠X.env.locals->b∉X.fs->b∉ch->s.heap.get? b=some o->H b=none->h'.get? b=some o)
  (slot:∀b o,b≠X.env.locals->b∈X.fs->b∉ch->s.heap.get? b=some o->H b=none->∃sl,h'.get? b=some {o with slots:=sl}) (free:∀b o,b∉ch->s.heap.get? b=some o->H b=none->H' b=none)
  (there:∀b o,b∉ch->s.heap.get? b=some o->∃o',h'.get? b=some o')
  (tups:∀b xs,H b=some (.tup xs)->H' b=some (.tup xs)) (frzs:∀b o u,H b=some (.frz o u)->H' b=some (.frz o u)) (tbls:∀b ps,H b=some (.tbl ps)->∃more,H' b=some (.tbl (ps++more)))
  (ns:∀m,s.heap.Ns X.env.locals m->h'.Ns X.env.locals m) (hok:HOk X.prog X.w H' h') (hg:AllBare g'):
  Inv X ma σ H' {s with heap:=h',gens:=g',drawn:=d',toks:=t'}:=by
 have neL:∀b o,X.s₀.heap.get? b=some o->b≠X.env.locals:=λb o e=>aO (aS (ay e) I.ok.above);have neC:∀b o,X.s₀.heap.get? b=some o->b∉X.ex->b∉ch:=λb o e hx hb=>by
  rcases (hch b hb).1 with z|z
  .exact hx z
  .exact absurd (aS (ay e) z) (cF _)
 have cellK:∀x c,X.env.cells.lookup x=some c->∀v,s.heap.IsCell c v->h'.IsCell c v:=λx c e v ⟨o,ho,hd⟩=>by
  have nch:c∉ch:=λz=>(hch c z).2.2.1 x c e rfl;by_cases hc:c∈X.fs
  .obtain⟨sl,q⟩:=slot c o (I.cne x c e) hc nch ho (I.freeC x c e);exact⟨_,q,hd⟩
  .exact⟨o,keep c o (I.cne x c e) hc nch ho (I.freeC x c e),hd⟩
 refine⟨I.ok,I.os,hg,⟨λb o e n hb hx=>?_,λb o e n hb hx=>?_,λb o e n hx=>?_,λb o e hx=>?_,λb xs e=>tups b xs (I.Aq.tups b xs e),λb o xs e=>frzs b o xs (I.Aq.frzs b o xs e),λb ps e=>?_⟩,?_,λx c e=>?_,?_,λx c e=>?_,λp hp=>?_,hok,I.len⟩
 .exact keep b o (neL b o e) hb (neC b o e hx) (I.Aq.keep b o e n hb hx) (I.Aq.free b o e n hx)
 .obtain⟨sl,e1⟩:=I.Aq.slot b o e n hb hx;obtain⟨sl',e2⟩:=slot b _ (neL b o e) hb (neC b o e hx) e1 (I.Aq.free b o e n hx);exact⟨sl',e2⟩
 .obtain⟨o',e1⟩:=I.Aq.there b o e hx;exact free b o' (neC b o e hx) e1 (I.Aq.free b o e n hx)
 .obtain⟨o',e1⟩:=I.Aq.there b o e hx;exact there b o' (neC b o e hx) e1
 .obtain⟨m1,e1⟩:=I.Aq.tbls b ps e;obtain⟨m2,e2⟩:=tbls b _ e1;exact⟨m1++m2,by rw[e2,iI]⟩
 .obtain⟨m,hn,hl⟩:=I.loc;refine⟨m,ns m hn,λi x v e1 e2 e3=>?_⟩;obtain⟨u,r,l⟩:=hl i x v e1 e2 e3;refine⟨u,r,?_⟩;rcases l with l|⟨k,c,e,z⟩
  .exact .inl l
  .exact .inr ⟨k,c,e,cellK x c e _ z⟩
 .obtain⟨v,z⟩:=I.cell x c e;exact⟨v,cellK x c e v z⟩
 .obtain⟨m,⟨o,_,_,ho,_⟩,_⟩:=I.loc;exact free _ o (λz=>(hch _ z).2.1 rfl) ho I.free
 .obtain⟨v,o,ho,hd⟩:=I.cell x c e;exact free c o (λz=>(hch c z).2.2.1 x c e rfl) ho (I.freeC x c e)
 .obtain⟨e,n,ne,nf,d⟩:=I.pin p hp;have nch:p.1∉ch:=λz=>(hch p.1 z).2.2.2 p hp rfl;exact⟨keep p.1 p.2 ne nf nch e n,free p.1 p.2 nch e n,ne,nf,d⟩
def Inv.un{t':Nat}(I:Inv X ma σ H s)(u:Un X.fs [] H H' s.heap h')(hok:HOk X.prog X.w H' h'):Inv X ma σ H' {s with heap:=h',toks:=t'}:=by
 obtain⟨m,⟨o,es,ep,ho,r⟩,_⟩:=id I.loc;obtain⟨sl,hL⟩:=u.any ho I.free Ad;exact I.step (g':=s.gens) (d':=s.drawn) (ch:=[]) (λ_ z=>nomatch z) (λb o _ hb _ e n=>u.keep b o e n hb Ad) (λb o _ hb _ e n=>u.slot b o e n hb Ad) (λb o _ e n=>u.free b o e n Ad) (λb o _ e=>u.there b o e Ad) u.tups u.frzs u.tbls (λm' hm=>by
  obtain⟨o',es',ep',ho',r'⟩:=hm;rw[ho] at ho';cases ho';exact⟨_,es',ep',hL,r'⟩) hok I.bare
def Inv.call{g':Array GenState}{t':Nat}{d':Drawn}{ch:List Addr}(I:Inv X ma σ H s)(u:Un (frs X.stack) ch H H' s.heap h')(hok:HOk X.prog X.w H' h')(hg:AllBare g')
  (hch:∀b∈ch,(b∈X.ex\/X.s₀.heap.objs.size<=b)/\b≠X.env.locals/\(∀x c,X.env.cells.lookup x=some c->c≠b)/\∀p∈X.pn++ma,p.1≠b):
  Inv X ma σ H' {s with heap:=h',gens:=g',drawn:=d',toks:=t'}:=by
 obtain⟨m,⟨o,es,ep,ho,r⟩,_⟩:=id I.loc;obtain⟨sl,hL⟩:=u.any ho I.free λz=>(hch _ z).2.1 rfl;exact I.step (ch:=ch) hch (λb o hL hb hc e n=>u.keep b o e n (λz=>(aB.mp (I.stkSub b z)).elim hL hb) hc) (λb o _ _ hc e n=>u.any e n hc) (λb o hc e n=>u.free b o e n hc) (λb o hc e=>u.there b o e hc) u.tups u.frzs u.tbls (λm' hm=>by
  obtain⟨o',es',ep',ho',r'⟩:=hm;rw[ho] at ho';cases ho';exact⟨_,es',ep',hL,r'⟩) hok hg
def Inv.turned{t':Nat}{it:Addr}(I:Inv X ma σ H s)(k:∀b o,b≠it->s.heap.get? b=some o->h'.get? b=some o)(hn:H it=none)(hL:it≠X.env.locals)
  (h1:it∈X.ex\/X.s₀.heap.objs.size<=it) (h2:∀x c,X.env.cells.lookup x=some c->c≠it) (h3:∀p∈X.pn++ma,p.1≠it):Inv X ma σ H {s with heap:=h',toks:=t'}:=by
 have nit:∀b u,H b=some u->b≠it:=λb u e z=>by rw[z,hn] at e;cases e
 refine I.step (g':=s.gens) (d':=s.drawn) (ch:=[it]) (λb hb=>?_) (λb o _ _ hc e _=>k b o (λz=>hc (by simp[z])) e) (λb o _ _ hc e _=>⟨o.slots,k b o (λz=>hc (by simp[z])) e⟩) (λ_ _ _ _ n=>n)
  (λb o hc e=>⟨o,k b o (λz=>hc (by simp[z])) e⟩) (λ_ _ e=>e) (λ_ _ _ e=>e) (λb ps e=>⟨#[],by rw[e];simp⟩) (λm hm=>?_) (λb u e=>?_) I.bare
 .have e:b=it:=by simpa using hb
  subst e;exact⟨h1,hL,h2,h3⟩
 .obtain⟨o,es,ep,ho,r⟩:=hm;exact⟨o,es,ep,k _ o (cZ hL) ho,r⟩
 .refine(I.hok b u e).stay (λc v hc q=>k c v ?_ q) (λ_ q=>q) λ_ _ q=>q;rcases hc with z|z
  .rw[z];exact nit b u e
  .exact nit c _ z
def Inv.tok(I:Inv X ma σ H s)(t:Nat):Inv X ma σ H {s with toks:=t}:=I.un (h':=s.heap) (t':=t) Un.refl I.hok
def Inv.kept{t':Nat}(I:Inv X ma σ H s)(k:∀b u,s.heap.get? b=some u->h'.get? b=some u):Inv X ma σ H {s with heap:=h',toks:=t'}:=I.un (Un.kept k) (I.hok.kept k)
def Inv.laid{a:Addr}{o:HO}{t':Nat}(I:Inv X ma σ H s)(k:∀b u,s.heap.get? b=some u->h'.get? b=some u)(hp:s.heap.objs.size<=a)(new:ObjOk X.prog X.w (upd H a o) h' a o):
  Inv X ma σ (upd H a o) {s with heap:=h',toks:=t'}:=I.un (Un.laid k hp (I.hok.fresh hp)) (I.hok.laid k hp new)
def Inv.write{x e:Addr}{o:HO}{t':Nat}(I:Inv X ma σ H s)(mu:Mut (H x))(he:e=x\/H e=some (.own x))(k:∀b u,b≠e->s.heap.get? b=some u->h'.get? b=some u)(heo:∃u,h'.get? e=some u)
  (new:ObjOk X.prog X.w (upd H x o) h' x o):Inv X ma σ (upd H x o) {s with heap:=h',toks:=t'}:=I.un (Un.write mu he k heo) (I.hok.write mu he k heo new)
def Inv.pins_of{ma':Ai}(I:Inv X ma σ H s)(h:∀p∈ma',s.heap.get? p.1=some p.2/\H p.1=none/\p.1≠X.env.locals/\p.1∉X.fs/\∀v,p.2.data≠.cell v):Inv X ma' σ H s:=
 ⟨I.ok,I.os,I.bare,I.Aq,I.loc,I.cell,I.free,I.freeC,λp hp=>(aP.mp hp).elim (λz=>I.pin p (ba _ z)) (h p),I.hok,I.len⟩
def jKF(hN:N.Nodup){i:Nat}{x:Str}(a:N[i]?=some x)(b:N[j]?=some x):i=j:=by
 obtain⟨h1,e1⟩:=am.mp a;obtain⟨h2,e2⟩:=am.mp b;exact(List.getElem_inj hN).mp (e1.trans e2.symm)
def jH2{M:Model}{A:Around}{E:Ah}{i:Nat}{x:Str}{v:V}{u:Value}{Q:Unit->Shared->Prop}(I:Inv X ma σ H s)(hN:X.N.Nodup)(hi:X.N[i]?=some x)(hx:Loc X.env.scope x)(r:RelV v u)
  (h:∀s',Inv X ma (σ.set i (some v)) H s'->(∃a,Heap.SameBut a s.heap s'.heap/\(a=X.env.locals\/X.env.cells.lookup x=some a))->Q () s') (hf:X.fn x=true\/X.env.scope.names.lookup x=some .local:=by first|exact .inl rfl|exact .inr rfl|assumption):wpAny M A (storeName X.env x u) Q E s:=by
 obtain⟨m,hn,hl⟩:=id I.loc;have hcls:(X.env.scope.kind==.class || (X.env.scope.kind==.module&&X.env.locals != X.env.globals))=false:=by rw[I.ok.kind];rfl
 have hiσ:i<σ.length:=by rw[I.len];exact(am.mp hi).1
 have cne:=I.cne;have tracked:∀{a:Addr}{h':Heap},(∃o,s.heap.get? a=some o/\H a=none)->Heap.SameBut a s.heap h'->HOk X.prog X.w H h':=λ{a h'} ha hs b ob e=>by
  obtain⟨_,_,hfree⟩:=ha;refine(I.hok b ob e).stay (λc w' hc q=>(hs.2 c ?_).trans q) (λ_ q=>q) λ_ _ q=>q;rintro rfl;rcases hc with rfl|hc
  .rw[hfree] at e;cases e
  .rw[hfree] at hc;cases hc
 rcases hx with hk|hk
 .refine wpAny_storeName_local hk hn (λh' hn' hs=>?_) hcls;obtain⟨oL,_,_,hoL,_⟩:=id hn;refine h _ ⟨I.ok,I.os,I.bare,⟨λb o e n hb hx=>?_,λb o e n hb hx=>?_,I.Aq.free,λb o e hx=>?_,I.Aq.tups,I.Aq.frzs,I.Aq.tbls⟩,⟨_,hn',λj y v' e1 e2 e3=>?_⟩,λy c e=>?_,I.free,I.freeC,λp hp=>?_,tracked ⟨oL,hoL,I.free⟩ hs,by simpa using I.len⟩ ⟨_,hs,.inl rfl⟩
  .exact(hs.2 b (aO (aS (ay e) I.ok.above))).trans (I.Aq.keep b o e n hb hx)
  .obtain⟨sl,e1⟩:=I.Aq.slot b o e n hb hx;exact⟨sl,(hs.2 b (aO (aS (ay e) I.ok.above))).trans e1⟩
  .obtain⟨o',e1⟩:=I.Aq.there b o e hx;exact⟨o',(hs.2 b (aO (aS (ay e) I.ok.above))).trans e1⟩
  .by_cases hj:j=i
   .subst hj;rw[hi] at e1;cases e1;rw[gH hiσ] at e2;cases e2;exact⟨u,r,.inl ⟨hk,Ad⟩⟩
   .rw[hV (cZ hj)] at e2;obtain⟨u',r',q⟩:=hl j y v' e1 e2 e3;refine⟨u',r',?_⟩;rcases q with ⟨k,e⟩|⟨k,c,e,z⟩
    .refine .inl ⟨k,?_⟩;have:y≠x:=λe=>hj (jKF hN e1 (e ▸ hi));simp[this,e]
    .exact .inr ⟨k,c,e,z.sameBut hs (cne y c e)⟩
  .obtain⟨w',z⟩:=I.cell y c e;exact⟨w',z.sameBut hs (cne y c e)⟩
  .obtain⟨e,n,ne,nf,d⟩:=I.pin p hp;exact⟨(hs.2 p.1 ne).trans e,n,ne,nf,d⟩
 .have hfn:X.fn x=true:=by
   rcases hf with z|z
   .exact z
   .rw[z] at hk;cases hk
  obtain⟨c,hc⟩:=I.ok.has x (.inl hk);obtain⟨w',z⟩:=I.cell x c hc;refine wpAny_storeName_cell I.ok.kind hk hc z (λh' hc' hs=>?_);obtain⟨oc,hoc,hocd⟩:=id z;refine h {s with heap:=h'} ⟨I.ok,I.os,I.bare,⟨λb o e n hb hx=>?_,λb o e n hb hx=>?_,I.Aq.free,λb o e hx=>?_,I.Aq.tups,I.Aq.frzs,I.Aq.tbls⟩,⟨m,hn.sameBut hs (cZ (cne x c hc)),λj y v' e1 e2 e3=>?_⟩,λy c' e=>?_,I.free,I.freeC,λp hp=>?_,tracked ⟨oc,hoc,I.freeC x c hc⟩ hs,by simpa using I.len⟩ ⟨c,hs,.inr hc⟩
  .exact(hs.2 b (aO (aS (ay e) (I.ok.cab x c hfn hc)))).trans (I.Aq.keep b o e n hb hx)
  .obtain⟨sl,e1⟩:=I.Aq.slot b o e n hb hx;exact⟨sl,(hs.2 b (aO (aS (ay e) (I.ok.cab x c hfn hc)))).trans e1⟩
  .obtain⟨o',e1⟩:=I.Aq.there b o e hx;exact⟨o',(hs.2 b (aO (aS (ay e) (I.ok.cab x c hfn hc)))).trans e1⟩
  .by_cases hj:j=i
   .subst hj;rw[hi] at e1;cases e1;rw[gH hiσ] at e2;cases e2;exact⟨u,r,.inr ⟨.inl hk,c,hc,hc'⟩⟩
   .rw[hV (cZ hj)] at e2;obtain⟨u',r',q⟩:=hl j y v' e1 e2 e3;refine⟨u',r',?_⟩;rcases q with q|⟨k,c',e,z'⟩
    .exact .inl q
    .refine .inr ⟨k,c',e,z'.sameBut hs ?_⟩;rintro rfl;exact hj (jKF hN e1 (I.ok.inj _ _ _ e hc ▸ hi))
  .by_cases hcc:c'=c
   .subst hcc;exact⟨_,hc'⟩
   .obtain⟨w2,z2⟩:=I.cell y c' e;exact⟨w2,z2.sameBut hs hcc⟩
  .obtain⟨e,n,ne,nf,d⟩:=I.pin p hp;refine⟨(hs.2 p.1 ?_).trans e,n,ne,nf,d⟩;intro q;rw[q,hoc] at e;have q':oc=p.2:=bA e;exact d w' (by rw[<- q'];exact hocd)
def jBY{M:Model}{A:Around}{E:Ah}{i:Nat}{x:Str}{v:V}{u:Value}{Q:Unit->Shared->Prop}(I:Inv X ma σ H s)(hN:X.N.Nodup)(hi:X.N[i]?=some x)(hx:Loc X.env.scope x)(r:RelV v u)
  (h:∀s',Inv X ma (σ.set i (some v)) H s'->Q () s') (hf:X.fn x=true\/X.env.scope.names.lookup x=some .local:=by first|exact .inl rfl|exact .inr rfl|assumption):wpAny M A (storeName X.env x u) Q E s:=
 jH2 I hN hi hx r (λs' I' _=>h s' I') hf
def Inv.call'{s':Shared}{ch:List Addr}(I:Inv X ma σ H s)(ho:s'.os=s.os)(u:Un (frs X.stack) ch H H' s.heap s'.heap)(hok:HOk X.prog X.w H' s'.heap)(hg:AllBare s'.gens)
  (hch:∀b∈ch,(b∈X.ex\/X.s₀.heap.objs.size<=b)/\b≠X.env.locals/\(∀x c,X.env.cells.lookup x=some c->c≠b)/\∀p∈X.pn++ma,p.1≠b):Inv X ma σ H' s':=by
 obtain⟨h',g',d',t',o'⟩:=s';have e:o'=s.os:=ho;subst e;exact I.call (g':=g') (t':=t') (d':=d') u hok hg hch
end
abbrev XK:=Value->Option Addr->Hp->Prop
abbrev St:=List (Option V)
abbrev VK:=V->Hp->Prop
abbrev TE:=St->Hp->VK->Prop
abbrev TT:=St->Hp->(Bool->Hp->Prop)->Prop
abbrev TA:=St->Hp->(List V->Hp->Prop)->Prop
structure Ends where
 nx:St->Hp->Prop
 rt:VK
 bk:St->Hp->Prop:=λ_ _=>False
 ct:St->Hp->Prop:=λ_ _=>False
abbrev TS:=Ends->St->Hp->Prop
def EP(X:Cx)(ma:Ai)(σ:St)(Q:VK)(u:Value)(s':Shared):Prop:=∃v H',Inv X ma σ H' s'/\RelV v u/\Q v H'
def TP(X:Cx)(ma:Ai)(σ:St)(Q:Bool->Hp->Prop)(b:Bool)(s':Shared):Prop:=∃H',Inv X ma σ H' s'/\Q b H'
def AP(X:Cx)(ma:Ai)(σ:St)(Q:List V->Hp->Prop)(us:Al)(s':Shared):Prop:=∃vs H',Inv X ma σ H' s'/\Vals vs us/\Q vs H'
def SP(X:Cx)(ma:Ai)(D:Ends)(f:Flow)(s':Shared):Prop:=
 match f with
 | .next=>∃σ' H',Inv X ma σ' H' s'/\D.nx σ' H'
 | .brk=>∃σ' H',Inv X ma σ' H' s'/\D.bk σ' H'
 | .cont=>∃σ' H',Inv X ma σ' H' s'/\D.ct σ' H'
 | .ret u=>∃v σ' H',Inv X ma σ' H' s'/\RelV v u/\D.rt v H'
def PE(X:Cx)(e:Expr)(t:TE):Prop:=
 ∀(ma:Ai) (s:Shared) (σ:St) (H:Hp) (Q:VK),Inv X ma σ H s->t σ H Q->wpAny (model X.prog X.w) X.A (eval e X.env) (EP X ma σ Q) X.xe s
def PT(X:Cx)(e:Expr)(t:TT):Prop:=
 ∀(ma:Ai) (s:Shared) (σ:St) (H:Hp) (Q:Bool->Hp->Prop),Inv X ma σ H s->t σ H Q->wpAny (model X.prog X.w) X.A (isTrue e X.env (eval e X.env)) (TP X ma σ Q) X.xe s
def PW(X:Cx)(e:Expr)(t:TT):Prop:=
 ∀(whole:Sem Value) (ma:Ai) (s:Shared) (σ:St) (H:Hp) (Q:Bool->Hp->Prop),Inv X ma σ H s->t σ H Q->wpAny (model X.prog X.w) X.A (isTrue e X.env whole) (TP X ma σ Q) X.xe s
def PW.pt{t:TT}(h:PW X e t):PT X e t:=h _
def PA(X:Cx)(es:List Expr)(t:TA):Prop:=
 ∀(pos:Pos) (ma:Ai) (s:Shared) (σ:St) (H:Hp) (Q:List V->Hp->Prop),Inv X ma σ H s->t σ H Q->wpAny (model X.prog X.w) X.A (spliced (backTo pos (starEach es X.env))) (AP X ma σ Q) X.xe s
def PS(X:Cx)(st:Stmt)(t:TS):Prop:=
 ∀(ma:Ai) (s:Shared) (σ:St) (H:Hp) (D:Ends),Inv X ma σ H s->t D σ H->wpAny (model X.prog X.w) X.A (exec st X.env) (SP X ma D) X.xe s
def PSs(X:Cx)(st:List Stmt)(t:TS):Prop:=
 ∀(ma:Ai) (s:Shared) (σ:St) (H:Hp) (D:Ends),Inv X ma σ H s->t D σ H->wpAny (model X.prog X.w) X.A (execs st X.env) (SP X ma D) X.xe s
def mo{t:Sem α}{Q Q':α->Shared->Prop}{M:Model}{A:Around}(h:wpAny M A t Q E s)(hQ:∀a s,Q a s->Q' a s):wpAny M A t Q' E s:=bF h hQ λ_ _ x=>x
variable {b:Expr}{ta tb:TE}{pos:Pos}
variable {σ:St}{t:TE}
section
def tVar(i:Nat):TE:=λσ H Q=>∃v,σ[i]?=some (some v)/\Q v H
def tC(v:V):TE:=λ_ H Q=>Q v H
theorem jHG{i:Nat}{x:Str}{pos:Pos}(hN:X.N[i]?=some x)(hv:Vis X.env.scope x)(hd:(x==("__debug__":Str))=false:=by decide)(hcd:(x==("__classdict__":Str))=false:=by decide):PE X (.Name x pos) (tVar i):=by
 intro ma s σ H Q I h;obtain⟨v,e,h⟩:=h;obtain⟨m,hn,hl⟩:=I.loc;obtain⟨u,r,l⟩:=hl i x v hN e hv;have fin:EP X ma σ Q u s:=⟨v,H,I,r,h⟩;rcases l with ⟨hk,hm⟩|⟨hk,c,hc,hcell⟩
 .exact wpAny_Name (wpAny_loadName_local I.ok.kind hk hn hm fin) hd
 .rcases hk with hk|hk
  .exact wpAny_Name (wpAny_loadName_cell I.ok.kind hk hc hcell fin) hd
  .exact wpAny_Name (wpAny_loadName_free I.ok.kind hk hc hcell fin hcd) hd
def jP{i j pos}:PE X (.Constant (.int i) j pos) (tC (.int i)):=λ_ _ _ H _ I h=>wpAny_Constant_int ⟨.int i,H,I.tok _,⟨_,rfl⟩,h⟩
def pe_bl{b j pos}:PE X (.Constant (.bool b) j pos) (tC (.bl b)):=λ_ _ _ H _ I h=>Constant_bool ⟨.bl b,H,I,rfl,h⟩
def jVQ{x j pos}:PE X (.Constant (.str x) j pos) (tC (.str x)):=λ_ _ _ H _ I h=>Calls.Constant_str ⟨.str x,H,I.tok _,⟨_,rfl⟩,h⟩
def Gl(X:Cx)(x:Str):Prop:=X.env.kindOf x=some .globalImplicit
theorem jBR{E:Ah}{ma:Ai}{s:Shared}{σ:St}{H:Hp}{x:Str}{u:Value}{pos:Pos}{Q:Ah}(I:Inv X ma σ H s)(hg:Gl X x)(hm:X.mg x=some u)(h:Q u s)
  (hd:(x==("__debug__":Str))=false:=by decide):wpAny (model X.prog X.w) X.A (eval (.Name x pos) X.env) Q E s:=
 iJ I.ok.kind hg (Calls.loadGlobal_global (by rw[I.ok.glob];exact I.mod.glob.keeps I.bk) hm h) hd
theorem jDB{x:Str}{Q:Ah}(I:Inv X ma σ H s)(hg:Gl X x)(hm:X.mg x=none)(hv:bootBuiltins x=some u)(h:Q u s)
  (hn:x≠"__name__" :=by decide) (hd:(x==("__debug__":Str))=false:=by decide):wpAny (model X.prog X.w) X.A (eval (.Name x pos) X.env) Q E s:=by
 obtain⟨mb,h1,h2⟩:=I.mod.blt;exact iJ I.ok.kind hg (Calls.loadGlobal_builtin (by rw[I.ok.glob];exact I.mod.glob.keeps I.bk) hm (by rw[I.ok.blt];exact h1.keeps I.bk) ((h2 x hn).trans hv) h) hd
theorem jTG{x:Str}{v:V}(hg:Gl X x)(hm:X.mg x=some u)(r:RelV v u)(hd:(x==("__debug__":Str))=false:=by decide):PE X (.Name x pos) (tC v):=
 λ_ _ _ H _ I h=>jBR I hg hm ⟨v,H,I,r,h⟩ hd
theorem jTN{x:Str}{v:V}(hg:Gl X x)(hm:X.mg x=none)(hv:bootBuiltins x=some u)(r:RelV v u)(hn:x≠"__name__" :=by decide)(hd:(x==("__debug__":Str))=false:=by decide):PE X (.Name x pos) (tC v):=
 λ_ _ _ H _ I h=>jDB I hg hm hv ⟨v,H,I,r,h⟩ hn hd
variable {a:Expr}
def PC(X:Cx)(op:CmpOp)(a b:Expr)(t:TE):Prop:=
 ∀(ma:Ai) (s:Shared) (σ:St) (H:Hp) (Q:VK),Inv X ma σ H s->t σ H Q->
  wpAny (model X.prog X.w) X.A (eval a X.env) (λv s₁=>wpAny (model X.prog X.w) X.A (eval b X.env) (λu s₂=>wpAny (model X.prog X.w) X.A (compareOp op v u) (EP X ma σ Q) X.xe s₂) X.xe s₁) X.xe s
def tB(t:TE):TT:=λσ H Q=>t σ H λx H1=>∃c,x=.bl c/\Q c H1
theorem jS2(h:PC X op a b t)(h1:behindInMarks op b=false:=by first|exact nobehind _ Ac Ac|rfl):PT X (.Compare a [op] [b] pos) (tB t):=by
 intro ma s σ H Q I hw;refine wpAny_isTrue_Compare1 (mo (h ma s σ H _ I hw) λv s1 h1=>mo h1 λu s2 h2=>mo h2 λc s3 ⟨x,H1,I1,r1,q1⟩=>?_) h1;obtain⟨d,rfl,q⟩:=q1;cases r1;exact eI ⟨H1,I1,q⟩
def jVH(h:PE X e t)(he:∀whole,isTrue e X.env whole=(do let v <- whole;standAt e.pos;holding [v] (truthy v)):=by intro _;rfl):PT X e (tB t):=by
 intro ma s σ H Q I hw;refine isTrue_plain (mo (h ma s σ H _ I hw) λv s1 ⟨x,H1,I1,r1,q1⟩=>?_) (he _);obtain⟨d,rfl,q⟩:=q1;cases r1;exact eI ⟨H1,I1,q⟩
variable {tA tB':TT}{rest:List Expr}
def tAnd(t u:TT):TT:=λσ H Q=>t σ H λc H1=>if c=true then u σ H1 Q else Q false H1
def tOr(t u:TT):TT:=λσ H Q=>t σ H λc H1=>if c=true then Q true H1 else u σ H1 Q
def tNot(t:TT):TT:=λσ H Q=>t σ H λc H1=>Q (!c) H1
def jT2(ha:PT X a tA):PW X (.BoolOp .And [a] pos) tA:=by
 intro wh ma s σ H Q I h;refine isTrue_and (mo (ha ma s σ H Q I h) λc s1 e=>?_);cases c with
 |true=>exact isTrue_and_nil e
 |false=>exact e
def jVF(ha:PT X a tA):PW X (.BoolOp .Or [a] pos) tA:=by
 intro wh ma s σ H Q I h;refine isTrue_or (mo (ha ma s σ H Q I h) λc s1 e=>?_);cases c with
 |false=>exact isTrue_or_nil e
 |true=>exact e
def jVG(ha:PT X a tA)(hb:PW X (.BoolOp .And (b::rest) pos) tB'):PW X (.BoolOp .And (a::b::rest) pos) (tAnd tA tB'):=by
 intro wh ma s σ H Q I h;refine isTrue_and (mo (ha ma s σ H _ I h) λc s1 ⟨H1,I1,q1⟩=>?_);cases c with
 |true=>exact hb wh ma s1 σ H1 Q I1 q1
 |false=>exact⟨H1,I1,q1⟩
def pw_or(ha:PT X a tA)(hb:PW X (.BoolOp .Or (b::rest) pos) tB'):PW X (.BoolOp .Or (a::b::rest) pos) (tOr tA tB'):=by
 intro wh ma s σ H Q I h;refine isTrue_or (mo (ha ma s σ H _ I h) λc s1 ⟨H1,I1,q1⟩=>?_);cases c with
 |true=>exact⟨H1,I1,q1⟩
 |false=>exact hb wh ma s1 σ H1 Q I1 q1
def jVI(ha:PT X a tA):PT X (.UnaryOp .Not a pos) (tNot tA):=by
 intro ma s σ H Q I h;exact isTrue_not (ha ma s σ H (λc H1=>Q (!c) H1) I h)
def tAndV(ta tb:TE):TE:=λσ H Q=>ta σ H λx H1=>∃c,x=.bl c/\if c=true then tb σ H1 Q else Q (.bl false) H1
def tOrV(ta tb:TE):TE:=λσ H Q=>ta σ H λx H1=>∃c,x=.bl c/\if c=true then Q (.bl true) H1 else tb σ H1 Q
def tNotV(ta:TE):TE:=λσ H Q=>ta σ H λx H1=>∃c,x=.bl c/\Q (.bl (!c)) H1
def jVR{op}(h:PE X a t):PE X (.BoolOp op [a] pos) t:=λma s σ H Q I hw=>BoolOp_one (h ma s σ H Q I hw)
def jVV(ha:PE X a ta)(hb:PE X (.BoolOp .And (b::rest) pos) tb):PE X (.BoolOp .And (a::b::rest) pos) (tAndV ta tb):=by
 intro ma s σ H Q I h;refine BoolOp_and (mo (ha ma s σ H _ I h) λv s1 ⟨x,H1,I1,r1,q1⟩=>?_);obtain⟨c,rfl,q1⟩:=q1;cases r1;refine eI ?_;cases c with
 |true=>exact hb ma s1 σ H1 Q I1 q1
 |false=>exact⟨.bl false,H1,I1,rfl,q1⟩
def pe_or(ha:PE X a ta)(hb:PE X (.BoolOp .Or (b::rest) pos) tb):PE X (.BoolOp .Or (a::b::rest) pos) (tOrV ta tb):=by
 intro ma s σ H Q I h;refine BoolOp_or (mo (ha ma s σ H _ I h) λv s1 ⟨x,H1,I1,r1,q1⟩=>?_);obtain⟨c,rfl,q1⟩:=q1;cases r1;refine eI ?_;cases c with
 |false=>exact hb ma s1 σ H1 Q I1 q1
 |true=>exact⟨.bl true,H1,I1,rfl,q1⟩
def jVS(ha:PE X a ta):PE X (.UnaryOp .Not a pos) (tNotV ta):=by
 intro ma s σ H Q I h;refine UnaryOp_ (mo (ha ma s σ H _ I h) λv s1 ⟨x,H1,I1,r1,q1⟩=>?_);obtain⟨c,rfl,q1⟩:=q1;cases r1;exact not_of (eI ⟨.bl (!c),H1,I1,rfl,q1⟩)
def tIf(t:TT)(ta tb:TE):TE:=λσ H Q=>t σ H λc H1=>if c=true then ta σ H1 Q else tb σ H1 Q
def jQC(hc:PT X c tA)(ha:PE X a ta)(hb:PE X b tb):PE X (.IfExp c a b pos) (tIf tA ta tb):=by
 intro ma s σ H Q I h;refine wpAny_IfExp (mo (hc ma s σ H _ I h) λd s1 ⟨H1,I1,q1⟩=>?_);cases d with
 |true=>exact ha ma s1 σ H1 Q I1 q1
 |false=>exact hb ma s1 σ H1 Q I1 q1
end
def SqL(K:W.Frag)(H:Hp)(a:Addr)(xs:List V):Prop:=
 Rd H a (.lst xs)\/
  ∃(o:Obj) (its:An) (n:Nat),K.lookup a=some o/\o.cls=.type "list" /\o.dict=none/\o.data=.seq its n/\its.size<=sizeLine/\Vals xs its.toList
def SqT(K:W.Frag)(H:Hp)(a:Addr)(xs:List V):Prop:=
 Rd H a (.tup xs)\/
  ∃(o:Obj) (its:An) (n:Nat),K.lookup a=some o/\o.cls=.type "tuple" /\o.data=.seq its n/\its.size<=sizeLine/\Vals xs its.toList
noncomputable def absV:Value->Option V
 | .none=>some .non
 | .bool b=>some (.bl b)
 | .int i _=>some (.int i)
 | .str x _=>some (.str x)
 | .bytes b _=>some (.byt b)
 | .float b _=>some (.flt b)
 | .ref a=>some (.ref a)
 | .type n=>some (.ty n)
 |_=>none
def RelV.abs{x:V}(r:RelV x u):absV u=some x:=by
 cases x with
 |non=>cases r;rfl
 |bl _=>cases r;rfl
 |int _=>obtain⟨t,rfl⟩:=r;rfl
 |str _=>obtain⟨t,rfl⟩:=r;rfl
 |byt _=>obtain⟨t,rfl⟩:=r;rfl
 |flt _=>obtain⟨t,rfl⟩:=r;rfl
 |ref _=>cases r;rfl
 |ty _=>cases r;rfl
def RelV.inj{x y:V}{u:Value}(r:RelV x u)(q:RelV y u):x=y:=bA (r.abs.symm.trans q.abs)
def Vals.inj:∀{xs ys:List V}{us:Al},Vals xs us->Vals ys us->xs=ys
 |_,_,_,.nil,.nil=>rfl
 |_,_,_,.cons r t,.cons r' t'=>by rw[r.inj r',Vals.inj t t']
section
variable {σ:St}{xs ys:List V}
def SqL.of{K:W.Frag}(h:H a=some (.lst xs)):SqL K H a xs:=.inl (.inl h)
def SqT.of{K:W.Frag}(h:H a=some (.tup xs)):SqT K H a xs:=.inl (.inl h)
theorem Inv.list(I:Inv X ma σ H s)(h:SqL X.K H a xs):∃its:Al,Vals xs its/\PlainL s.heap a its.toArray/\xs.length<=sizeLine:=by
 rcases h with h|⟨o,its,n,hk,hc,hd,hs,hz,r⟩
 .obtain⟨z,its,n,r,e⟩:=h.ok I.hok;exact⟨its,r,⟨_,n,e,rfl,rfl,rfl⟩,z⟩
 .refine⟨its.toList,r,⟨o,n,I.kIn a o hk,hc,hd,by simpa using hs⟩,?_⟩;have e:=r.length;simp only[aN] at e;lia
theorem Inv.tuple(I:Inv X ma σ H s)(h:SqT X.K H a xs):∃its:Al,Vals xs its/\IsTup s.heap a its.toArray/\xs.length<=sizeLine:=by
 rcases h with h|⟨o,its,n,hk,hc,hs,hz,r⟩
 .obtain⟨z,its,r,p⟩:=h.ok I.hok;exact⟨its,r,p.isTup,z⟩
 .refine⟨its.toList,r,⟨o,I.kIn a o hk,hc,n,by simpa using hs⟩,?_⟩;have e:=r.length;simp only[aN] at e;lia
def Inv.list_inj(I:Inv X ma σ H s)(h:SqL X.K H a xs)(h':SqL X.K H a ys):xs=ys:=by
 obtain⟨its,r,⟨o,n,e,_,_,d⟩,_⟩:=I.list h;obtain⟨its',r',⟨o',n',e',_,_,d'⟩,_⟩:=I.list h';rw[e] at e';cases e';rw[d] at d';injection d' with d1 _;have:its=its':=by simpa using ce Array.toList d1
 subst this;exact r.inj r'
def Inv.tuple_inj(I:Inv X ma σ H s)(h:SqT X.K H a xs)(h':SqT X.K H a ys):xs=ys:=by
 obtain⟨its,r,⟨o,e,_,n,d⟩,_⟩:=I.tuple h;obtain⟨its',r',⟨o',e',_,n',d'⟩,_⟩:=I.tuple h';rw[e] at e';cases e';rw[d] at d';injection d' with d1 _;have:its=its':=by simpa using ce Array.toList d1
 subst this;exact r.inj r'
end
noncomputable abbrev Cx.wish(X:Cx)(E:Ah):Cx:= {X with xe:=E}
noncomputable abbrev Cx.nox(X:Cx):Cx:=X.wish λ_ _=>False
noncomputable def Cx.Ok.wish(ok:X.Ok)(E:Ah):(X.wish E).Ok:=
 ⟨ok.mod,ok.kind,ok.glob,ok.blt,ok.above,ok.inj,ok.has,ok.cab,ok.hd,ok.frames,ok.stk,ok.exf,ok.bs,ok.bsz,ok.noex,ok.exfs,ok.funs,ok.frf⟩
def Cx.Ok.unwish(ok:(X.wish E).Ok):X.Ok:=
 ⟨ok.mod,ok.kind,ok.glob,ok.blt,ok.above,ok.inj,ok.has,ok.cab,ok.hd,ok.frames,ok.stk,ok.exf,ok.bs,ok.bsz,ok.noex,ok.exfs,ok.funs,ok.frf⟩
variable {E:Ah}
section
variable {σ:St}
noncomputable def Inv.wish(I:Inv X ma σ H s)(E:Ah):Inv (X.wish E) ma σ H s:=⟨I.ok.wish E,I.os,I.bare,I.Aq,I.loc,I.cell,I.free,I.freeC,I.pin,I.hok,I.len⟩
def Inv.unwish(I:Inv (X.wish E) ma σ H s):Inv X ma σ H s:=⟨I.ok.unwish,I.os,I.bare,I.Aq,I.loc,I.cell,I.free,I.freeC,I.pin,I.hok,I.len⟩
def SP.unwish{D:Ends}{f:Flow}{s':Shared}(h:SP (X.wish E) ma D f s'):SP X ma D f s':=by
 cases f with
 |next=>obtain⟨σ',H',I,q⟩:=h;exact⟨σ',H',I.unwish,q⟩
 |brk=>obtain⟨σ',H',I,q⟩:=h;exact⟨σ',H',I.unwish,q⟩
 |cont=>obtain⟨σ',H',I,q⟩:=h;exact⟨σ',H',I.unwish,q⟩
 |ret u=>obtain⟨v,σ',H',I,r,q⟩:=h;exact⟨v,σ',H',I.unwish,r,q⟩
noncomputable def PT.nox{t:TT}(h:PT X.nox e t):PT X e t:=λma s σ H Q I hw=>
 bF (h ma s σ H Q (I.wish _) hw) (λ_ _ ⟨H',I',q⟩=>⟨H',I'.unwish,q⟩) λ_ _ z=>False.elim z
noncomputable def PSs.nox{st:List Stmt}{t:TS}(h:PSs X.nox st t):PSs X st t:=λma s σ H D I hw=>
 bF (h ma s σ H D (I.wish _) hw) (λ_ _ q=>q.unwish) λ_ _ z=>False.elim z
end
variable {e:Expr}{te:TE}
section
variable {st:Stmt}{rest:List Stmt}{t u:TS}
def tNext:TS:=λD σ H=>D.nx σ H
def tSeq(t u:TS):TS:=λD σ H=>t {D with nx:=u D} σ H
def jG2:PSs X [] tNext:=λ_ _ σ H _ I h=>fw ⟨σ,H,I,h⟩
def y0(h1:PS X st t)(h2:PSs X rest u):PSs X (st::rest) (tSeq t u):=by
 intro ma s σ H D I h;refine jn (mo (h1 ma s σ H {D with nx:=u D} I h) λf s1 q=>?_);cases f with
 |next=>
  obtain⟨σ',H',I',q⟩:=q;exact h2 ma s1 σ' H' D I' q
 |ret v=>exact q
 |brk=>exact q
 |cont=>exact q
def jAX(h1:PS X st t):PSs X [st] t:=by
 intro ma s σ H D I h;refine jn (mo (h1 ma s σ H D I h) λf s1 q=>?_);cases f with
 |next=>exact fw q
 |ret v=>exact q
 |brk=>exact q
 |cont=>exact q
def Inv.quiet(I:Inv X ma σ H s):interactive X.env=false:=by simp[interactive,I.ok.kind]
def tDrop(te:TE):TS:=λD σ H=>te σ H λ_ H1=>D.nx σ H1
def jT5(he:PE X e te)(hs:swapsWith e none pos.line X.env=pure false:=by rfl):PS X (.Expr e pos) (tDrop te):=by
 intro ma s σ H D I h;exact wpAny_Expr_any (mo (he ma s σ H _ I h) λv s1 ⟨x,H1,I1,r1,q1⟩=>⟨σ,H1,I1,q1⟩) I.quiet hs
def tRet(te:TE):TS:=λD σ H=>te σ H D.rt
def jD7(he:PE X e te):PS X (.Return (some e) pos) (tRet te):=by
 intro ma s σ H D I h;exact wpAny_Return_some (mo (he ma s σ H _ I h) λv s1 ⟨x,H1,I1,r1,q1⟩=>⟨x,σ,H1,I1,r1,q1⟩)
def tIfS(c:TT)(t u:TS):TS:=λD σ H=>c σ H λb H1=>if b=true then t D σ H1 else u D σ H1
def ps_if{a b:List Stmt}{tc:TT}(hc:PT X c tc)(ha:PSs X a t)(hb:PSs X b u):PS X (.If c a b pos) (tIfS tc t u):=by
 intro ma s σ H D I h;refine wpAny_If (mo (hc ma s σ H _ I h) λd s1 ⟨H1,I1,q1⟩=>?_);cases d with
 |true=>exact ha ma s1 σ H1 D I1 q1
 |false=>exact hb ma s1 σ H1 D I1 q1
end
abbrev TG:=V->St->Hp->(St->Hp->Prop)->Prop
abbrev TGs:=List V->St->Hp->(St->Hp->Prop)->Prop
def PG(X:Cx)(target:Expr)(t:TG):Prop:=
 ∀(ma:Ai) (s:Shared) (σ:St) (H:Hp) (v:V) (u:Value) (Q:St->Hp->Prop),Inv X ma σ H s->RelV v u->t v σ H Q->
  wpAny (model X.prog X.w) X.A (assign target X.env u) (λ_ s'=>∃σ' H',Inv X ma σ' H' s'/\Q σ' H') X.xe s
def PGs(X:Cx)(ts:List Expr)(t:TGs):Prop:=
 ∀(ma:Ai) (s:Shared) (σ:St) (H:Hp) (vs:List V) (us:Al) (Q:St->Hp->Prop),Inv X ma σ H s->Vals vs us->t vs σ H Q->
  wpAny (model X.prog X.w) X.A (assignInOrder ((assignEach ts X.env).map (·.2)) us) (λ_ s'=>∃σ' H',Inv X ma σ' H' s'/\Q σ' H') X.xe s
abbrev TSet:=V->V->V->Hp->(Hp->Prop)->Prop
def PSet(X:Cx)(t:TSet):Prop:=
 ∀(ma:Ai) (s:Shared) (σ:St) (H:Hp) (o i v:V) (ov iv u:Value) (Q:Hp->Prop),Inv X ma σ H s->RelV o ov->RelV i iv->RelV v u->t o i v H Q->
  wpAny (model X.prog X.w) X.A (setItem ov iv u) (λ_ s'=>∃H',Inv X ma σ H' s'/\Q H') X.xe s
def kX(i:Nat):TG:=λv σ H Q=>Q (σ.set i (some v)) H
def jG3{i:Nat}{x:Str}(hN:X.N.Nodup)(hi:X.N[i]?=some x)(hx:Loc X.env.scope x)(hf:X.fn x=true\/X.env.scope.names.lookup x=some .local:=by first|exact .inl rfl|exact .inr rfl|assumption):PG X (.Name x pos) (kX i):=by
 intro ma s σ H v u Q I r h;exact wpAny_assign_Name (jBY I hN hi hx r (λs' I'=>⟨_,H,I',h⟩) hf)
def gNil:TGs:=λvs σ H Q=>vs=[]/\Q σ H
def gCons(t:TG)(u:TGs):TGs:=λvs σ H Q=>∃v r,vs=v::r/\t v σ H λσ' H'=>u r σ' H' Q
def jTF:PGs X [] gNil:=by
 intro ma s σ H vs us Q I r h;obtain⟨e,h⟩:=h;subst e;cases r;exact assignInOrder_nil ⟨σ,H,I,h⟩
def jQA{t:TG}{u:TGs}(h1:PG X e t)(h2:PGs X es u)
  (hs:(assignEach (e::es) X.env).map (·.2)=assign e X.env::(assignEach es X.env).map (·.2):=by rfl):PGs X (e::es) (gCons t u):=by
 intro ma s σ H vs us Q I r h;obtain⟨v,vr,e1,h⟩:=h;subst e1;cases r with
 |cons r rr=>
  rw[hs];refine assignInOrder_cons (mo (h1 ma s σ H _ _ _ I r h) λ_ s1 ⟨σ1,H1,I1,q1⟩=>?_);exact h2 ma s1 σ1 H1 _ _ Q I1 rr q1
def gTup(K:W.Frag)(n:Nat)(t:TGs):TG:=λv σ H Q=>∃a xs,v=.ref a/\SqT K H a xs/\xs.length=n/\t xs σ H Q
def jVM{k:Nat}{t:TGs}{n:Nat}(hc:X.calm=true)(h:PGs X es t)
  (hn:(assignEach es X.env).length=n:=by rfl) (hst:(assignEach es X.env).findIdx? (·.1)=none:=by rfl):PG X (.Tuple es k pos) (gTup X.K n t):=by
 intro ma s σ H v u Q I r hw;obtain⟨a,xs,e1,hq,hl,hw⟩:=hw;subst e1;cases r;obtain⟨its,rv,ht,hz⟩:=I.tuple hq;refine assign_Tuple_tuple (I.ok.hd hc) ht (by simp[hn,<- hl,rv.length]) hst λh' hx=>?_;have I1:Inv X ma σ H {s with heap:=h'}:=I.kept (t':=s.toks) λb o e=>hx b o (aO (ay e)) e;exact h ma _ σ H xs _ Q I1 (by simpa using rv) hw
def gSub(to ti:TE)(t:TSet):TG:=λv σ H Q=>to σ H λo H1=>ti σ H1 λi H2=>t o i v H2 λH3=>Q σ H3
def jVN{o i:Expr}{to ti:TE}{t:TSet}(ho:PE X o to)(hi:PE X i ti)(hs:PSet X t)
  (ha:∀v,assign (.Subscript o i pos) X.env v=(do
   let ov <- holding [v] (eval o X.env)
   let iv <- holding [v,ov] (eval i X.env)
   standAt pos
   holding [v,ov,iv] (setItem ov iv v)
   release [v,ov,iv] []):=by intro _;rfl):PG X (.Subscript o i pos) (gSub to ti t):=by
 intro ma s σ H v u Q I r h;rw[ha];refine ae (bB (mo (ho ma s σ H _ I h) λov s1 ⟨x,H1,I1,r1,q1⟩=>?_));refine ae (bB (mo (hi ma s1 σ H1 _ I1 q1) λiv s2 ⟨y,H2,I2,r2,q2⟩=>?_));refine ae (eQ (ae (bB (mo (hs ma s2 σ H2 x y v ov iv u _ I2 r1 r2 r q2) λ_ s3 ⟨H3,I3,q3⟩=>?_))));exact wpAny_release ⟨σ,H3,I3,q3⟩
def tAsg(te:TE)(g:TG):TS:=λD σ H=>te σ H λx H1=>g x σ H1 D.nx
def jS4{g:TG}(he:PE X e te)(hg:PG X tg g)(hs:swapsWithSole [tg] e pos.line X.env=pure false:=by rfl)(hw:swappedStores [tg] e X.env=pure none:=by rfl)
  (h1:(assignEach [tg] X.env).map (·.2)=[assign tg X.env]:=by rfl):PS X (.Assign [tg] e pos) (tAsg te g):=by
 intro ma s σ H D I h;refine wpAny_Assign_stores (mo (he ma s σ H _ I h) λv s1 ⟨x,H1,I1,r1,q1⟩=>?_) hs hw;rw[h1];exact mo (hg ma s1 σ H1 x v _ I1 r1 q1) λ_ s2 q=>q
def qH{i:Nat}{x:Str}{e:Expr}{te:TE}{pos':Pos}(hN:X.N.Nodup)(hi:X.N[i]?=some x)(hx:Loc X.env.scope x)(he:PE X e te)(hs:swapsWith e (some (.Name x pos')) pos.line X.env=pure false:=by rfl)(hf:X.fn x=true\/X.env.scope.names.lookup x=some .local:=by first|exact .inl rfl|exact .inr rfl|assumption):
  PS X (.Assign [.Name x pos'] e pos) (tAsg te (kX i)):=by
 intro ma s σ H D I h;refine wpAny_Assign_Name (mo (he ma s σ H _ I h) λv s1 ⟨y,H1,I1,r1,q1⟩=>?_) hs;exact jBY I1 hN hi hx r1 (λs2 I2=>⟨_,H1,I2,q1⟩) hf
def jRT(c:TT)(tb:TS):TS:=λD σ H=>∃W:Nat->St->Hp->Prop,(∃m,W m σ H)/\∀m σ H,W m σ H->
 c σ H λb H1=>if b=true then ∃N:St->Hp->Prop,(∀σ' H',N σ' H'->∃m',m'<m/\W m' σ' H')/\tb {D with nx:=N,ct:=N,bk:=D.nx} σ H1 else D.nx σ H1
def jQ3{tc:TT}{tb:TS}(hp:PassesOwn (model X.prog X.w) X.A X.env X.xe)(hc:PT X c tc)(hb:PSs X body tb):PS X (.While c body [] pos) (jRT tc tb):=by
 intro ma s σ H D I h;obtain⟨W,⟨m0,w0⟩,turn⟩:=h;refine wpAny_While (codeAny_whileLoop (λn s'=>∃σ' H',Inv X ma σ' H' s'/\W n σ' H') ?_ m0 ⟨σ,H,I,w0⟩);rintro n s1 ⟨σ1,H1,I1,w1⟩;refine eC hp (mo (hc ma s1 σ1 H1 _ I1 (turn n σ1 H1 w1)) λb s2 ⟨H2,I2,q2⟩=>?_);cases b with
 |true=>
  obtain⟨N,hN,q2⟩:=q2;rw[aA rfl];refine eC hp (mo (hb ma s2 σ1 H2 _ I2 q2) λf s3 q3=>?_);cases f with
  |next=>
   obtain⟨σ3,H3,I3,n3⟩:=q3;obtain⟨m',hm,w3⟩:=hN σ3 H3 n3;exact⟨m',hm,σ3,H3,I3,w3⟩
  |cont=>
   obtain⟨σ3,H3,I3,n3⟩:=q3;obtain⟨m',hm,w3⟩:=hN σ3 H3 n3;exact⟨m',hm,σ3,H3,I3,w3⟩
  |brk=>exact q3
  |ret v=>exact q3
 |false=>
  rw[az aC];exact fw ⟨σ1,H2,I2,q2⟩
structure It where
 go:Nat->Hp->Prop
 yld:Nat->Hp->V->Hp->Prop
 stop:Nat->Hp->Prop
def FpOk(X:Cx)(ma:Ai)(H:Hp)(b:Addr):Prop:=
 H b=none/\b≠X.env.locals/\b∉X.fs/\(b∈X.ex\/X.s₀.heap.objs.size<=b)/\(∀x c,X.env.cells.lookup x=some c->c≠b)/\∀p∈X.pn++ma,p.1≠b
def Inv.fpOk{b:Addr}(I:Inv X ma σ H s)(hb:s.heap.objs.size<=b)(hn:H' b=none):FpOk X ma H' b:=by
 refine⟨hn,de (aS I.lt hb),I.nofs hb,.inr (bh I.sz hb),λx c e z=>?_,λp hp z=>?_⟩
 .obtain⟨v,q⟩:=I.cell x c e;exact absurd (aS q.lt (by rw[z];exact hb)) (cF _)
 .exact absurd (aS (ay (I.pin p hp).1) (by rw[z];exact hb)) (cF _)
structure Turn (P:Program)(w:World)(K:W.Frag)(tg:Expr)(J:It)(fp:List Addr)(it:Addr)(tn:Nat->Heap->Prop):Prop where
 mem:it∈fp
 obj:∀i h,tn i h->∀b∈fp,∃o,h.get? b=some o/\∀v,o.data≠.cell v
 keep:∀i h h',tn i h->(∀b∈fp,∀o,h.get? b=some o->h'.get? b=some o)->tn i h'
 item:∀(X:Cx),X.prog=P->X.w=w->X.K=K->X.calm=true->∀(i:Nat) (ma:Ai) (s:Shared) (σ:St) (H:Hp) (E:Ah),Inv X ma σ H s->(∀b∈fp,FpOk X ma H b)->tn i s.heap->J.go i H->
  wpAny (model P w) X.A (pyNext (.ref it)) (λr s1=>∃u,r=some u/\
   wpAny (model P w) X.A (letOwnedTupleGo tg (.ref it) u) (λ_ s2=>∃x H',Inv X ma σ H' s2/\RelV x u/\J.yld i H x H'/\tn (i+1) s2.heap/\∀b∈fp,H' b=none) E s1) E s
 done:∀(X:Cx),X.prog=P->X.w=w->X.K=K->X.calm=true->∀(i:Nat) (ma:Ai) (s:Shared) (σ:St) (H:Hp) (E:Ah),Inv X ma σ H s->(∀b∈fp,FpOk X ma H b)->tn i s.heap->J.stop i H->
  wpAny (model P w) X.A (pyNext (.ref it)) (λr s1=>r=none/\Inv X ma σ H s1) E s
 self:∀(A:Around) (i:Nat) (s:Shared) (Q:Ah) (E:Ah),tn i s.heap->Q (.ref it) s->wpAny (model P w) A (pyIter (.ref it)) Q E s
abbrev TI:=St->Hp->(It->Hp->Prop)->Prop
def PIE(X:Cx)(ma:Ai)(σ:St)(tg:Expr)(R:It->Hp->Prop)(itv:Value)(s2:Shared):Prop:=
 ∃(it:Addr) (fp:List Addr) (tn:Nat->Heap->Prop) (J:It) (H':Hp),itv=.ref it/\Inv X ma σ H' s2/\Turn X.prog X.w X.K tg J fp it tn/\tn 0 s2.heap/\(∀b∈fp,FpOk X ma H' b)/\R J H'
def PI(X:Cx)(tg iter:Expr)(wi:TI):Prop:=
 ∀(ma:Ai) (s:Shared) (σ:St) (H:Hp) (R:It->Hp->Prop),Inv X ma σ H s->wi σ H R->
  wpAny (model X.prog X.w) X.A (eval iter X.env) (λv s1=>wpAny (model X.prog X.w) X.A (pyIter v) (PIE X ma σ tg R) X.xe s1) X.xe s
def go_of{M:Model}{A:Around}{E:Ah}{s:Shared}{tg:Expr}{it:Addr}{u:Value}{o:Obj}{n:String}{vs:An}{Q:Unit->Shared->Prop}(ho:s.heap.get? it=some o)(hc:o.cls=.type n)(hd:o.data=.fields vs)
  (hn: ["enumerate","zip","dict_itemiterator","dict_reverseitemiterator","odict_iterator","itertools.zip_longest","itertools.pairwise"].contains n=false) (hQ:Q () s):wpAny M A (letOwnedTupleGo tg (.ref it) u) Q E s:=by
 unfold letOwnedTupleGo;cases tg<;>first
  |exact aj hQ
  | (cases u<;>first
    |exact aj hQ
    | (refine ae (fJ ho ?_)
       rw [hc, hd];show wpAny M A (if (["enumerate", "zip", "dict_itemiterator", "dict_reverseitemiterator", "odict_iterator", "itertools.zip_longest", "itertools.pairwise"].contains n && vs[0]? == some (rawInt _)) = true then _ else _) Q E s;rw [az (by intro h;rw [hn, gI] at h;cases h)];exact aj hQ))
def Itl(K:W.Frag)(a:Addr):It:=
 ⟨λi H=>∃xs x,SqL K H a xs/\xs[i]?=some x,λi H x H'=>H'=H/\∀xs,SqL K H a xs->xs[i]?=some x,λi H=>∃xs,SqL K H a xs/\xs.length<=i⟩
def Itt(K:W.Frag)(a:Addr):It:=
 ⟨λi H=>∃xs x,SqT K H a xs/\xs[i]?=some x,λi H x H'=>H'=H/\∀xs,SqT K H a xs->xs[i]?=some x,λi H=>∃xs,SqT K H a xs/\xs.length<=i⟩
def Itr(lo:Int)(n:Nat):It:=⟨λi _=>i<n,λi H x H'=>H'=H/\x=.int (lo+i),λi _=>n<=i⟩
theorem jME(a it:Addr):Turn P w K tg (Itl K a) [it] it (λi h=>h.IsListIter it a i) where
 mem:=by simp
 obj:=λi h st b hb=>by
  have e:b=it:=by simpa using hb
  subst e;obtain⟨o,e,c,d⟩:=st;exact⟨o,e,λv z=>by rw[d] at z;cases z⟩
 keep:=λi h h' st k=>st.at λo e=>k it Ad o e
 item:=by
  intro X hP hw hK hc i ma s σ H E I hf st hg;subst hP hw hK;obtain⟨xs,x,hq,hx⟩:=hg;obtain⟨its,rv,p,hz⟩:=I.list hq;obtain⟨u,hu,ru⟩:=rv.get hx;obtain⟨f0,f1,f2,f3,f4,f5⟩:=hf it Ad;refine wpAny_pyNext_list_item st p.isList (x:=u) (by simpa using hu) λh' st' sb=>?_;have I1:Inv X ma σ H {s with heap:=h'}:=I.turned (t':=s.toks) (λb o hb e=>(sb.2 b hb).trans e) f0 f1 f3 f4 f5;obtain⟨o,e,c,d⟩:=id st';exact⟨u,rfl,go_of (s:= {s with heap:=h'}) e c d Ac ⟨x,H,I1,ru,⟨rfl,λys hy=>by rw[I.list_inj hy hq];exact hx⟩,st',λb hb=>(hf b hb).1⟩⟩
 done:=by
  intro X hP hw hK hc i ma s σ H E I hf st hg;subst hP hw hK;obtain⟨xs,hq,hx⟩:=hg;obtain⟨its,rv,p,hz⟩:=I.list hq;obtain⟨f0,f1,f2,f3,f4,f5⟩:=hf it Ad;have hl:=rv.length;exact wpAny_pyNext_list_end (I.ok.hd hc) st p.isList (by simp;lia) λh' eb=>⟨rfl,I.turned (t':=s.toks) (λb o hb e=>eb b o hb e) f0 f1 f3 f4 f5⟩
 self:=λ_ _ _ _ _ st h=>wpAny_pyIter_listiter st h
theorem jLC(a it:Addr):Turn P w K tg (Itt K a) [it] it (λi h=>h.IsTupleIter it a i) where
 mem:=by simp
 obj:=λi h st b hb=>by
  have e:b=it:=by simpa using hb
  subst e;obtain⟨o,e,c,d⟩:=st;exact⟨o,e,λv z=>by rw[d] at z;cases z⟩
 keep:=λi h h' st k=>st.at λo e=>k it Ad o e
 item:=by
  intro X hP hw hK hc i ma s σ H E I hf st hg;subst hP hw hK;obtain⟨xs,x,hq,hx⟩:=hg;obtain⟨its,rv,p,hz⟩:=I.tuple hq;obtain⟨u,hu,ru⟩:=rv.get hx;obtain⟨f0,f1,f2,f3,f4,f5⟩:=hf it Ad;refine wpAny_pyNext_tuple_item st (show s.heap.IsTuple a its.toArray from p) (x:=u) (by simpa using hu) λh' st' sb=>?_;have I1:Inv X ma σ H {s with heap:=h'}:=I.turned (t':=s.toks) (λb o hb e=>(sb.2 b hb).trans e) f0 f1 f3 f4 f5;obtain⟨o,e,c,d⟩:=id st';exact⟨u,rfl,go_of (s:= {s with heap:=h'}) e c d Ac ⟨x,H,I1,ru,⟨rfl,λys hy=>by rw[I.tuple_inj hy hq];exact hx⟩,st',λb hb=>(hf b hb).1⟩⟩
 done:=by
  intro X hP hw hK hc i ma s σ H E I hf st hg;subst hP hw hK;obtain⟨xs,hq,hx⟩:=hg;obtain⟨its,rv,p,hz⟩:=I.tuple hq;obtain⟨f0,f1,f2,f3,f4,f5⟩:=hf it Ad;have hl:=rv.length;exact wpAny_pyNext_tuple_end (I.ok.hd hc) st (show s.heap.IsTuple a its.toArray from p) (by simp;lia) λh' eb=>⟨rfl,I.turned (t':=s.toks) (λb o hb e=>eb b o hb e) f0 f1 f3 f4 f5⟩
 self:=λ_ _ _ _ _ st h=>wpAny_pyIter_tupleiter st h
theorem jLD(it:Addr)(lo:Int)(n:Nat):Turn P w K tg (Itr lo n) [it] it (λi h=>IsRangeIter h it (lo+(i:Nat)*1) ((n:Int)-(i:Nat)) 1) where
 mem:=by simp
 obj:=λi h st b hb=>by
  have e:b=it:=by simpa using hb
  subst e;exact⟨_,st,λv z=>by
   have z':Data.fields _=Data.cell v:=z;cases z'⟩
 keep:=λi h h' st k=>k it Ad _ st
 item:=by
  intro X hP hw hK hc i ma s σ H E I hf st hg;subst hP hw hK;obtain⟨f0,f1,f2,f3,f4,f5⟩:=hf it Ad;have W:=Walks.range (prog:=X.prog) (w:=X.w) (I.ok.hd hc) it lo 1 n;refine W.item i s _ _ hg st λv h' tk hv st' kk=>?_;obtain⟨t,rfl⟩:=hv;have I1:Inv X ma σ H {s with heap:=h',toks:=tk}:=I.turned (λb o hb e=>kk b o (by simpa using hb) e) f0 f1 f3 f4 f5;refine⟨_,rfl,go_of (s:= {s with heap:=h',toks:=tk}) (n:= "range_iterator") st' rfl rfl Ac ⟨.int (lo+i),H,I1,⟨t,?_⟩,⟨rfl,rfl⟩,st',λb hb=>(hf b hb).1⟩⟩;rw[l0]
 done:=by
  intro X hP hw hK hc i ma s σ H E I hf st hg;subst hP hw hK;obtain⟨f0,f1,f2,f3,f4,f5⟩:=hf it Ad;exact wpAny_pyNext_range_end (I.ok.hd hc) st (by have:n<=i:=hg;lia) λh' eb=>⟨rfl,I.turned (t':=s.toks) (λb o hb e=>eb b o hb e) f0 f1 f3 f4 f5⟩
 self:=λ_ _ _ _ _ st h=>wpAny_pyIter_rangeiter st h
section
variable {tg:Expr}
def iList(K:W.Frag)(tl:TE):TI:=λσ H R=>tl σ H λx H1=>∃a,x=.ref a/\(∃xs,SqL K H1 a xs)/\R (Itl K a) H1
def iTup(K:W.Frag)(tl:TE):TI:=λσ H R=>tl σ H λx H1=>∃a,x=.ref a/\(∃xs,SqT K H1 a xs)/\R (Itt K a) H1
def jTD{tl:TE}(hl:PE X l tl):PI X tg l (iList X.K tl):=by
 intro ma s σ H R I h;refine mo (hl ma s σ H _ I h) λv s1 ⟨x,H1,I1,r1,q1⟩=>?_;obtain⟨a,e,⟨xs,hq⟩,q⟩:=q1;subst e;cases r1;obtain⟨its,rv,p,hz⟩:=I1.list hq;refine dz p.isList ?_;refine⟨s1.heap.objs.size,[s1.heap.objs.size],_,_,H1,rfl,I1.kept (t':=s1.toks) λb o e=>af _ e,jME a _,⟨_,aw _ rfl,rfl,rfl⟩,λb hb=>?_,q⟩;have e:b=s1.heap.objs.size:=by simpa using hb
 subst e;exact I1.fpOk (ar _) (I1.hok.fresh (ar _))
def jVL{tl:TE}(hl:PE X l tl):PI X tg l (iTup X.K tl):=by
 intro ma s σ H R I h;refine mo (hl ma s σ H _ I h) λv s1 ⟨x,H1,I1,r1,q1⟩=>?_;obtain⟨a,e,⟨xs,hq⟩,q⟩:=q1;subst e;cases r1;obtain⟨its,rv,p,hz⟩:=I1.tuple hq;refine wpAny_pyIter_tuple (show s1.heap.IsTuple a its.toArray from p) ?_;refine⟨s1.heap.objs.size,[s1.heap.objs.size],_,_,H1,rfl,I1.kept (t':=s1.toks) λb o e=>af _ e,jLC a _,⟨_,aw _ rfl,rfl,rfl⟩,λb hb=>?_,q⟩;have e:b=s1.heap.objs.size:=by simpa using hb
 subst e;exact I1.fpOk (ar _) (I1.hok.fresh (ar _))
theorem jK4{R:It->Hp->Prop}{lo hi:Int}{t u v:Tok}{tk:Nat}(I:Inv X ma σ H s)(h1: -(2^62)<=lo)(h2:lo<2^62)(h3: -(2^62)<=hi)(h4:hi<2^62)
  (q:R (Itr lo (hi-lo).toNat) H):wpAny (model X.prog X.w) X.A (pyIter (.ref s.heap.objs.size)) (PIE X ma σ tg R) E {s with heap:=s.heap.push {cls:=.type "range",data:=.fields #[.int lo t,.int hi u,.int 1 v]},toks:=tk}:=by
 refine wpAny_pyIter_range (IsRange.new ..) (small_one h1 h2 h3 h4) ?_;have I1:Inv X ma σ H {s with heap:=s.heap.push {cls:=.type "range",data:=.fields #[.int lo t,.int hi u,.int 1 v]},toks:=tk}:=I.kept λb o e=>af _ e;refine⟨(s.heap.push {cls:=.type "range",data:=.fields #[.int lo t,.int hi u,.int 1 v]}).objs.size,[(s.heap.push {cls:=.type "range",data:=.fields #[.int lo t,.int hi u,.int 1 v]}).objs.size],_,_,H,rfl,
  I1.kept (t':=tk) λb o e=>af _ e,jLD _ lo (hi-lo).toNat,?_,λb hb=>?_,q⟩
 .have e1:lo+((0:Nat):Int)*1=lo:=Ad;have e2:(((hi-lo).toNat:Nat):Int)-((0:Nat):Int)=Builtin.Range.rangeSize lo hi 1:=by rw[jg];split<;>lia
  show IsRangeIter _ _ (lo+((0:Nat):Int)*1) ((((hi-lo).toNat:Nat):Int)-((0:Nat):Int)) 1;rw[e1,e2];exact aw _ rfl
 .have e:b=(s.heap.push {cls:=.type "range",data:=.fields #[.int lo t,.int hi u,.int 1 v]}).objs.size:=by simpa using hb
  subst e;exact I1.fpOk (ar _) (I1.hok.fresh (ar _))
def iRng1(ta:TA):TI:=λσ H R=>ta σ H λvs H1=>∃j:Int,vs=[.int j]/\ -(2^62)<=j/\j<2^62/\R (Itr 0 j.toNat) H1
def iRng2(ta:TA):TI:=λσ H R=>ta σ H λvs H1=>∃i j:Int,vs=[.int i,.int j]/\(-(2^62)<=i/\i<2^62/\ -(2^62)<=j/\j<2^62)/\R (Itr i (j-i).toNat) H1
theorem jC3{a:Expr}{ta:TA}(hg:Gl X "range")(hm:X.mg "range" =none)(ha:PA X [a] ta)(hs:starEach [a] X.env=[(false,eval a X.env)]:=by rfl):PI X tg (.Call (.Name "range" p) [a] [] pos) (iRng1 ta):=by
 intro ma s σ H R I h;refine Call_ (jDB I hg hm boot_range (dw (mo (ha pos ma s σ H _ I h) λus s1 ⟨vs,H1,I1,r1,q1⟩=>?_) hs rfl));obtain⟨j,e,q1,q2,q⟩:=q1;subst e;cases r1 with
 |cons r rr=>
  cases rr;obtain⟨t,rfl⟩:=r;exact call_range_1 (jK4 I1 Aa Aa q1 q2 (by simpa using q))
def jN6{a:Expr}{ta:TA}(hg:Gl X "range")(hm:X.mg "range" =none)(ha:PA X [a,b] ta)(hs:starEach [a,b] X.env=[(false,eval a X.env),(false,eval b X.env)]:=by rfl)(hs2:starEach [b] X.env=[(false,eval b X.env)]:=by rfl):
  PI X tg (.Call (.Name "range" p) [a,b] [] pos) (iRng2 ta):=by
 intro ma s σ H R I h;refine Call_ (jDB I hg hm boot_range (dw (mo (ha pos ma s σ H _ I h) λus s1 ⟨vs,H1,I1,r1,q1⟩=>?_) (by rw[hs,hs2]) (by rw[hs2];rfl)));obtain⟨i,j,e,⟨q1,q2,q3,q4⟩,q⟩:=q1;subst e;cases r1 with
 |cons r rr=>
  cases rr with
  |cons r' rr=>
   cases rr;obtain⟨t,rfl⟩:=r;obtain⟨t',rfl⟩:=r';exact call_range_2 (jK4 I1 q1 q2 q3 q4 q)
def tFor(wi:TI)(g:TG)(tb:TS):TS:=λD σ H=>wi σ H λJ H1=>∃W:Nat->Nat->St->Hp->Prop,(∃m,W 0 m σ H1)/\∀i m σ H,W i m σ H->
 (J.stop i H/\D.nx σ H)\/(J.go i H/\∃N:St->Hp->Prop,(∀σ' H',N σ' H'->∃m',m'<m/\W (i+1) m' σ' H')/\∀x H',J.yld i H x H'->g x σ H' λσ2 H2=>tb {D with nx:=N,ct:=N,bk:=D.nx} σ2 H2)
def jFA(fp:List Addr)(h:Heap):Ai:=fp.filterMap λb=>(h.get? b).map λo=>(b,o)
def jAD{b:Addr}(hb:b∈fp)(e:h.get? b=some o):(b,o)∈jFA fp h:=lN.mpr ⟨b,hb,by rw[e];rfl⟩
def jNK{p:Addr×Obj}(hp:p∈jFA fp h):p.1∈fp/\h.get? p.1=some p.2:=by
 obtain⟨b,hb,e⟩:=lN.mp hp;cases q:h.get? b with
 |none=>rw[q] at e;cases e
 |some o=>
  rw[q] at e;have e':(b,o)=p:=bA e;subst e';exact⟨hb,q⟩
def Inv.pinned(I:Inv X ma σ H s)(hf:∀b∈fp,FpOk X ma H b)(ho:∀b∈fp,∃o,s.heap.get? b=some o/\∀v,o.data≠.cell v):Inv X (ma++jFA fp s.heap) σ H s:=
 I.pins_of λp hp=>(aP.mp hp).elim (λz=>I.pin p (aE _ z)) λz=>by
  obtain⟨hb,e⟩:=jNK z;obtain⟨f0,f1,f2,_⟩:=hf p.1 hb;obtain⟨o,e',d⟩:=ho p.1 hb;rw[e] at e';cases e';exact⟨e,f0,f1,f2,d⟩
def Inv.unpinned{pl:Ai}(I:Inv X (ma++pl) σ H s):Inv X ma σ H s:=I.pins_of λp hp=>I.pin p (aE _ (ba _ hp))
def jS3{iter:Expr}{wi:TI}{g:TG}{tb:TS}(hp:PassesOwn (model X.prog X.w) X.A X.env X.xe)(hc:X.calm=true)(hi:PI X tg iter wi)(hg:PG X tg g)(hb:PSs X body tb)
  (hs:∀x,foldedSetIterable iter X.env x=pure x:=by intro _;rfl):PS X (.For tg iter body [] pos) (tFor wi g tb):=by
 intro ma s σ H D I h;refine wpAny_For (mo (hi ma s σ H _ I h) λv s1 h1=>mo h1 λitv s2 h2=>?_) hs;obtain⟨it,fp,tn,J,H2,e,I2,T,st2,f2,W,⟨m0,w0⟩,turn⟩:=h2;subst e;have stat:∀{H':Hp},(∀b∈fp,H' b=none)->∀b∈fp,FpOk X ma H' b:=λhn b hb=>⟨hn b hb,(f2 b hb).2⟩;refine codeAny_forLoop_any (λn s'=>∃i σ' H',Inv X ma σ' H' s'/\tn i s'.heap/\(∀b∈fp,H' b=none)/\W i n σ' H') ?_ m0 ⟨0,σ,H2,I2,st2,λb hb=>(f2 b hb).1,w0⟩;rintro n s3 ⟨i,σ3,H3,I3,st3,fr3,w3⟩;rcases turn i n σ3 H3 w3 with ⟨stop,qn⟩|⟨go,N,hN,step⟩
 .refine eC hp (mo (T.done X rfl rfl rfl hc i ma s3 σ3 H3 X.xe I3 (stat fr3) st3 stop) λr s4 ⟨hr,I4⟩=>?_);subst hr;exact fw ⟨σ3,H3,I4,qn⟩
 .refine eC hp (mo (T.item X rfl rfl rfl hc i ma s3 σ3 H3 X.xe I3 (stat fr3) st3 go) λr s4 ⟨u,hr,h4⟩=>?_);subst hr;refine eC hp (mo h4 λ_ s5 ⟨x,H5,I5,r5,y5,st5,fr5⟩=>?_);have I5':=I5.pinned (stat fr5) (T.obj _ _ st5);refine eC hp (mo (hg _ s5 σ3 H5 x u _ I5' r5 (step x H5 y5)) λ_ s6 ⟨σ6,H6,I6,q6⟩=>?_);refine eC hp (mo (hb _ s6 σ6 H6 _ I6 q6) λf s7 q7=>?_);have again:∀{σ7:St}{H7:Hp},Inv X (ma++jFA fp s5.heap) σ7 H7 s7->N σ7 H7->∃m,m<n/\∃i σ' H',Inv X ma σ' H' s7/\tn i s7.heap/\(∀b∈fp,H' b=none)/\W i m σ' H':=λ{σ7 H7} I7 n7=>by
   obtain⟨m',hm,w7⟩:=hN σ7 H7 n7;refine⟨m',hm,i+1,σ7,H7,I7.unpinned,T.keep _ _ _ st5 λb hb o e=>(I7.pin (b,o) (aE _ (aE _ (jAD hb e)))).1,λb hb=>?_,w7⟩;obtain⟨o,e,d⟩:=T.obj _ _ st5 b hb;exact(I7.pin (b,o) (aE _ (aE _ (jAD hb e)))).2.1
  cases f with
  |next=>obtain⟨σ7,H7,I7,n7⟩:=q7;exact again I7 n7
  |cont=>obtain⟨σ7,H7,I7,n7⟩:=q7;exact again I7 n7
  |brk=>obtain⟨σ7,H7,I7,q7⟩:=q7;exact⟨σ7,H7,I7.unpinned,q7⟩
  |ret v=>obtain⟨x7,σ7,H7,I7,r7,q7⟩:=q7;exact⟨x7,σ7,H7,I7.unpinned,r7,q7⟩
end
theorem jGM{K:W.Frag}{a:Addr}{xs:List V}{g:TG}{tb:TS}{D:Ends}{σ:St}{H:Hp}(Pv:Nat->St->Hp->Prop)(h0:Pv 0 σ H)(hl:∀i σ H,i<=xs.length->Pv i σ H->SqL K H a xs)
  (hs:∀i x σ H,xs[i]?=some x->Pv i σ H->g x σ H λσ2 H2=>tb {D with nx:=Pv (i+1),ct:=Pv (i+1),bk:=D.nx} σ2 H2) (hd:∀σ H,Pv xs.length σ H->D.nx σ H):
  ∃W:Nat->Nat->St->Hp->Prop,(∃m,W 0 m σ H)/\∀i m σ H,W i m σ H->
   ((Itl K a).stop i H/\D.nx σ H)\/((Itl K a).go i H/\∃N:St->Hp->Prop,(∀σ' H',N σ' H'->∃m',m'<m/\W (i+1) m' σ' H')/\∀x H',(Itl K a).yld i H x H'->g x σ H' λσ2 H2=>tb {D with nx:=N,ct:=N,bk:=D.nx} σ2 H2):=by
 refine⟨λi m σ H=>m=xs.length-i/\i<=xs.length/\Pv i σ H,⟨xs.length,Ad,br _,h0⟩,?_⟩;rintro i m σ H ⟨rfl,hi,p⟩;have q:=hl i σ H hi p;by_cases hlt:i<xs.length
 .refine .inr ⟨⟨xs,xs[i],q,by simp[hlt]⟩,Pv (i+1),λσ' H' p'=>⟨xs.length-(i+1),Aa,rfl,hlt,p'⟩,λx H' y=>?_⟩;obtain⟨e,y⟩:=y;subst e;exact hs i x σ _ (y xs q) p
 .have e:i=xs.length:=Aa;subst e;exact .inl ⟨⟨xs,q,ar _⟩,hd σ H p⟩
theorem jUH{K:W.Frag}{a:Addr}{xs:List V}{g:TG}{tb:TS}{D:Ends}{σ:St}{H:Hp}(Pv:Nat->St->Hp->Prop)(h0:Pv 0 σ H)(hl:∀i σ H,i<=xs.length->Pv i σ H->SqT K H a xs)
  (hs:∀i x σ H,xs[i]?=some x->Pv i σ H->g x σ H λσ2 H2=>tb {D with nx:=Pv (i+1),ct:=Pv (i+1),bk:=D.nx} σ2 H2) (hd:∀σ H,Pv xs.length σ H->D.nx σ H):
  ∃W:Nat->Nat->St->Hp->Prop,(∃m,W 0 m σ H)/\∀i m σ H,W i m σ H->
   ((Itt K a).stop i H/\D.nx σ H)\/((Itt K a).go i H/\∃N:St->Hp->Prop,(∀σ' H',N σ' H'->∃m',m'<m/\W (i+1) m' σ' H')/\∀x H',(Itt K a).yld i H x H'->g x σ H' λσ2 H2=>tb {D with nx:=N,ct:=N,bk:=D.nx} σ2 H2):=by
 refine⟨λi m σ H=>m=xs.length-i/\i<=xs.length/\Pv i σ H,⟨xs.length,Ad,br _,h0⟩,?_⟩;rintro i m σ H ⟨rfl,hi,p⟩;have q:=hl i σ H hi p;by_cases hlt:i<xs.length
 .refine .inr ⟨⟨xs,xs[i],q,by simp[hlt]⟩,Pv (i+1),λσ' H' p'=>⟨xs.length-(i+1),Aa,rfl,hlt,p'⟩,λx H' y=>?_⟩;obtain⟨e,y⟩:=y;subst e;exact hs i x σ _ (y xs q) p
 .have e:i=xs.length:=Aa;subst e;exact .inl ⟨⟨xs,q,ar _⟩,hd σ H p⟩
theorem jEO{lo:Int}{n:Nat}{g:TG}{tb:TS}{D:Ends}{σ:St}{H:Hp}(Pv:Nat->St->Hp->Prop)(h0:Pv 0 σ H)
  (hs:∀i σ H,i<n->Pv i σ H->g (.int (lo+i)) σ H λσ2 H2=>tb {D with nx:=Pv (i+1),ct:=Pv (i+1),bk:=D.nx} σ2 H2) (hd:∀σ H,Pv n σ H->D.nx σ H):
  ∃W:Nat->Nat->St->Hp->Prop,(∃m,W 0 m σ H)/\∀i m σ H,W i m σ H->
   ((Itr lo n).stop i H/\D.nx σ H)\/((Itr lo n).go i H/\∃N:St->Hp->Prop,(∀σ' H',N σ' H'->∃m',m'<m/\W (i+1) m' σ' H')/\∀x H',(Itr lo n).yld i H x H'->g x σ H' λσ2 H2=>tb {D with nx:=N,ct:=N,bk:=D.nx} σ2 H2):=by
 refine⟨λi m σ H=>m=n-i/\i<=n/\Pv i σ H,⟨n,Ad,br _,h0⟩,?_⟩;rintro i m σ H ⟨rfl,hi,p⟩;by_cases hlt:i<n
 .refine .inr ⟨hlt,Pv (i+1),λσ' H' p'=>⟨n-(i+1),Aa,rfl,hlt,p'⟩,λx H' y=>?_⟩;obtain⟨e,y⟩:=y;subst e y;exact hs i σ _ hlt p
 .have e:i=n:=Aa;subst e;exact .inl ⟨ar _,hd σ H p⟩
abbrev R2:=V->V->Hp->VK->Prop
def OpR(X:Cx)(f:Value->Value->Sem Value)(r:R2):Prop:=
 ∀(ma:Ai) (s:Shared) (σ:St) (H:Hp) (x y:V) (v u:Value) (Q:VK),Inv X ma σ H s->RelV x v->RelV y u->r x y H Q->
  wpAny (model X.prog X.w) X.A (f v u) (EP X ma σ Q) X.xe s
def UnR(X:Cx)(f:Value->Sem Value)(r:V->Hp->VK->Prop):Prop:=
 ∀(ma:Ai) (s:Shared) (σ:St) (H:Hp) (x:V) (v:Value) (Q:VK),Inv X ma σ H s->RelV x v->r x H Q->
  wpAny (model X.prog X.w) X.A (f v) (EP X ma σ Q) X.xe s
def yQ(X:Cx)(f:Value)(r:List V->Hp->VK->Prop):Prop:=
 ∀(ma:Ai) (s:Shared) (σ:St) (H:Hp) (xs:List V) (us:Al) (Q:VK),Inv X ma σ H s->Vals xs us->r xs H Q->
  wpAny (model X.prog X.w) X.A (call f us) (EP X ma σ Q) X.xe s
def tOp(r:R2)(ta tb:TE):TE:=λσ H Q=>ta σ H λx H1=>tb σ H1 λy H2=>r x y H2 Q
def tUn(r:V->Hp->VK->Prop)(ta:TE):TE:=λσ H Q=>ta σ H λx H1=>r x H1 Q
def rI(C:Int->Int->Prop)(g:Int->Int->V):R2:=λx y H Q=>∃i j,x=.int i/\y=.int j/\C i j/\Q (g i j) H
def rI0(g:Int->Int->V):R2:=λx y H Q=>∃i j,x=.int i/\y=.int j/\Q (g i j) H
def rU(g:Int->V):V->Hp->VK->Prop:=λx H Q=>∃i,x=.int i/\Q (g i) H
variable {c:Expr}{tc:TE}
section
variable {a:Expr}
def binT(ha:PE X a ta)(hb:PE X b tb){R:V->V->Hp->Prop}(I:Inv X ma σ H s)
  (h:ta σ H λx H1=>tb σ H1 λy H2=>R x y H2) {Q:Ah}
  (hf:∀v u s2 x y H2,Inv X ma σ H2 s2->RelV x v->RelV y u->R x y H2->wpAny (model X.prog X.w) X.A (f v u) Q X.xe s2):
  wpAny (model X.prog X.w) X.A (eval a X.env) (λv s₁=>wpAny (model X.prog X.w) X.A (eval b X.env) (λu s₂=>wpAny (model X.prog X.w) X.A (f v u) Q X.xe s₂) X.xe s₁) X.xe s:=by
 refine mo (ha ma s σ H _ I h) λv s1 ⟨x,H1,I1,r1,q1⟩=>?_;refine mo (hb ma s1 σ H1 _ I1 q1) λu s2 ⟨y,H2,I2,r2,q2⟩=>?_;exact hf v u s2 x y H2 I2 r1 r2 q2
def kU{op:Operator}{r:R2}(ho:OpR X (binaryOp op) r)(ha:PE X a ta)(hb:PE X b tb):PE X (.BinOp a op b pos) (tOp r ta tb):=by
 intro ma s σ H Q I h;exact wpAny_BinOp (binT ha hb I h λv u s2 x y H2 I2 rx ry q=>ho ma s2 σ H2 x y v u Q I2 rx ry q)
def pe_un{op:UnaryOp}{r:V->Hp->VK->Prop}(ho:UnR X (unaryOp op) r)(ha:PE X a ta):PE X (.UnaryOp op a pos) (tUn r ta):=by
 intro ma s σ H Q I h;exact UnaryOp_ (mo (ha ma s σ H _ I h) λv s1 ⟨x,H1,I1,r1,q1⟩=>ho ma s1 σ H1 x v Q I1 r1 q1)
def opI{C:Int->Int->Prop}
  (rule:∀(i j:Int) (t u:Tok) (s:Shared) (Q:Ah) (E:Ah),C i j->Q (.int (g i j) s.toks) {s with toks:=s.toks+1} ->wpAny (model X.prog X.w) X.A (f (.int i t) (.int j u)) Q E s):
  OpR X f (rI C λi j=> .int (g i j)):=by
 intro ma s σ H x y v u Q I rx ry h;obtain⟨i,j,rfl,rfl,hc,q⟩:=h;obtain⟨t,rfl⟩:=rx;obtain⟨t',rfl⟩:=ry;exact rule i j t t' s _ _ hc ⟨.int (g i j),H,I.tok _,⟨_,rfl⟩,q⟩
def opI0 
  (rule:∀(i j:Int) (t u:Tok) (s:Shared) (Q:Ah) (E:Ah),Q (.int (g i j) s.toks) {s with toks:=s.toks+1} ->wpAny (model X.prog X.w) X.A (f (.int i t) (.int j u)) Q E s):
  OpR X f (rI0 λi j=> .int (g i j)):=by
 intro ma s σ H x y v u Q I rx ry h;obtain⟨i,j,rfl,rfl,q⟩:=h;obtain⟨t,rfl⟩:=rx;obtain⟨t',rfl⟩:=ry;exact rule i j t t' s _ _ ⟨.int (g i j),H,I.tok _,⟨_,rfl⟩,q⟩
def opB0{g:Int->Int->Bool}
  (rule:∀(i j:Int) (t u:Tok) (s:Shared) (Q:Ah) (E:Ah),Q (.bool (g i j)) s->wpAny (model X.prog X.w) X.A (f (.int i t) (.int j u)) Q E s):
  OpR X f (rI0 λi j=> .bl (g i j)):=by
 intro ma s σ H x y v u Q I rx ry h;obtain⟨i,j,rfl,rfl,q⟩:=h;obtain⟨t,rfl⟩:=rx;obtain⟨t',rfl⟩:=ry;exact rule i j t t' s _ _ ⟨.bl (g i j),H,I,rfl,q⟩
def CPow(i j:Int):Prop:=0<=j/\j<=1000000/\i.natAbs<2^64
def CMul(i j:Int):Prop:=(-(2^64)<i/\i<2^64)\/(-(2^64)<j/\j<2^64)
def CMul.ok{j:Int}(h:CMul i j):IntMulOk i j:=by
 rcases h with ⟨h1,h2⟩|⟨h1,h2⟩
 .exact .of_left (intBits_le_64 h1 h2)
 .exact .of_right (intBits_le_64 h1 h2)
def jLB(k:Nat):(0:Int)<=2^k:=by
 rw[two_pow_cast];exact gx _
def yE:OpR X (binaryOp .Add) (rI0 λi j=> .int (i+j)):=opI0 λ_ _ _ _ _ _ _ q=>add_int q
def jD9:OpR X (binaryOp .Sub) (rI0 λi j=> .int (i-j)):=opI0 λ_ _ _ _ _ _ _ q=>sub_int q
def jDA:OpR X (binaryOp .Mult) (rI CMul λi j=> .int (i*j)):=opI λ_ _ _ _ _ _ _ hc q=>mul_int q hc.ok
theorem jHJ:OpR X (binaryOp .Mod) (rI (λ_ j=>0<j) λi j=> .int (i%j)):=opI λi j _ _ _ _ _ hc q=>by
 have h1:(0:Int)<j:=hc;exact mod_int' Aa (by rw[Int.fmod_eq_emod_of_nonneg i Aa];exact q)
def jN9:OpR X (binaryOp .Pow) (rI CPow λi j=> .int (i^j.toNat)):=opI λ_ _ _ _ _ _ _ hc q=>pow_int_small hc.1 hc.2.1 hc.2.2 q
def jHH:OpR X (binaryOp .LShift) (rI CPow λi j=> .int (i*2^j.toNat)):=opI λ_ _ _ _ _ _ _ hc q=>lshift_int_small hc.1 hc.2.1 hc.2.2 q
def jS7:OpR X (binaryOp .RShift) (rI (λ_ j=>0<=j) λi j=> .int (i/2^j.toNat)):=opI λi j _ _ _ _ _ hc q=>
 rshift_int hc (by rw[iK i (jLB _)];exact q)
def jKC:OpR X (binaryOp .BitAnd) (rI0 λi j=> .int (Builtin.bitAnd i j)):=opI0 λ_ _ _ _ _ _ _ q=>and_int q
def op_or:OpR X (binaryOp .BitOr) (rI0 λi j=> .int (Builtin.bitOr i j)):=opI0 λ_ _ _ _ _ _ _ q=>or_int q
def unI{f:Value->Sem Value}{g:Int->Int}
  (rule:∀(i:Int) (t:Tok) (s:Shared) (Q:Ah) (E:Ah),Q (.int (g i) s.toks) {s with toks:=s.toks+1} ->wpAny (model X.prog X.w) X.A (f (.int i t)) Q E s):
  UnR X f (rU λi=> .int (g i)):=by
 intro ma s σ H x v Q I rx h;obtain⟨i,rfl,q⟩:=h;obtain⟨t,rfl⟩:=rx;exact rule i t s _ _ ⟨.int (g i),H,I.tok _,⟨_,rfl⟩,q⟩
def jRO:UnR X (unaryOp .USub) (rU λi=> .int (-i)):=unI λ_ _ _ _ _ q=>neg_int q
def jV0:UnR X (unaryOp .Invert) (rU λi=> .int (Builtin.bitNot i)):=unI λ_ _ _ _ _ q=>invert_int q
end
noncomputable def scal:V->V->Bool
 | .non,.non=>true| .non,.int _=>true| .int _,.non=>true| .non,.bl _=>true| .bl _,.non=>true| .non,.str _=>true| .str _,.non=>true
 | .int _,.int _=>true| .bl _,.bl _=>true| .str _,.str _=>true| .byt _,.byt _=>true
 | .int _,.str _=>true| .str _,.int _=>true| .bl _,.str _=>true| .str _,.bl _=>true
 |_,_=>false
def rEq:R2:=λx y H Q=>scal x y=true/\Q (.bl (decide (x=y))) H
def rNe:R2:=λx y H Q=>scal x y=true/\Q (.bl (!decide (x=y))) H
theorem jET{j:Int}:decide (V.int i=V.int j)=(i==j):=by
 rw[cj];simp
theorem jSO{i j:Bool}:decide (V.bl i=V.bl j)=(i==j):=by
 rw[cj];simp
theorem jP4{i j:Str}:decide (V.str i=V.str j)=(i==j):=by
 rw[cj];simp
theorem jP5{i j:Array UInt8}:decide (V.byt i=V.byt j)=(i.toList==j.toList):=by
 rw[cj];cases i;cases j;simp
variable {Q:VK}
section
variable {a:Expr}
def kB{k k':Bool}(I:Inv X ma σ H s)(q:Q (.bl k) H)(e:k=k'):EP X ma σ Q (.bool k') s:=by
 subst e;exact⟨.bl k,H,I,rfl,q⟩
def qC:OpR X (compareOp .Eq) rEq:=by
 intro ma s σ H x y v u Q I rx ry h;obtain⟨hs,q⟩:=h;cases x with
 |non=>
  cases rx;cases y with
  |non=>cases ry;exact PySem.EqNone.eq_none_none (kB I q Ad)
  |bl j=>cases ry;exact PySem.EqNone.eq_none_bool (kB I q Ad)
  |int j=>obtain⟨t',rfl⟩:=ry;exact PySem.EqNone.eq_none_int (kB I q Ad)
  |str j=>obtain⟨t',rfl⟩:=ry;exact PySem.EqNone.eq_none_str (kB I q Ad)
  |_=>exact absurd (show false=true from hs) aC
 |bl i=>
  cases rx;cases y with
  |non=>cases ry;exact PySem.EqNone.eq_bool_none (kB I q Ad)
  |bl j=>cases ry;exact eq_bool (kB I q jSO)
  |str j=>obtain⟨t',rfl⟩:=ry;exact PySem.EqMixed.eq_bool_str (kB I q Ad)
  |_=>exact absurd (show false=true from hs) aC
 |int i=>
  obtain⟨t,rfl⟩:=rx;cases y with
  |non=>cases ry;exact PySem.EqNone.eq_int_none (kB I q Ad)
  |int j=>obtain⟨t',rfl⟩:=ry;exact eq_int (kB I q jET)
  |str j=>obtain⟨t',rfl⟩:=ry;exact PySem.EqMixed.eq_int_str (kB I q Ad)
  |_=>exact absurd (show false=true from hs) aC
 |str i=>
  obtain⟨t,rfl⟩:=rx;cases y with
  |non=>cases ry;exact PySem.EqNone.eq_str_none (kB I q Ad)
  |bl j=>cases ry;exact PySem.EqMixed.eq_str_bool (kB I q Ad)
  |int j=>obtain⟨t',rfl⟩:=ry;exact PySem.EqMixed.eq_str_int (kB I q Ad)
  |str j=>obtain⟨t',rfl⟩:=ry;exact eq_str (kB I q jP4)
  |_=>exact absurd (show false=true from hs) aC
 |byt i=>
  obtain⟨t,rfl⟩:=rx;cases y with
  |byt j=>obtain⟨t',rfl⟩:=ry;exact PySem.W.eq_bytes (kB I q jP5)
  |_=>exact absurd (show false=true from hs) aC
 |_=>cases y<;>exact absurd (show false=true from hs) aC
def op_ne:OpR X (compareOp .NotEq) rNe:=by
 intro ma s σ H x y v u Q I rx ry h;obtain⟨hs,q⟩:=h;cases x with
 |non=>
  cases rx;cases y with
  |non=>cases ry;exact PySem.EqNone.ne_none_none (kB I q Ad)
  |bl j=>cases ry;exact PySem.EqNone.ne_none_bool (kB I q Ad)
  |int j=>obtain⟨t',rfl⟩:=ry;exact PySem.EqNone.ne_none_int (kB I q Ad)
  |str j=>obtain⟨t',rfl⟩:=ry;exact PySem.EqNone.ne_none_str (kB I q Ad)
  |_=>exact absurd (show false=true from hs) aC
 |bl i=>
  cases rx;cases y with
  |non=>cases ry;exact PySem.EqNone.ne_bool_none (kB I q Ad)
  |bl j=>cases ry;exact ne_bool (kB I q (ce not jSO))
  |str j=>obtain⟨t',rfl⟩:=ry;exact PySem.EqMixed.ne_bool_str (kB I q Ad)
  |_=>exact absurd (show false=true from hs) aC
 |int i=>
  obtain⟨t,rfl⟩:=rx;cases y with
  |non=>cases ry;exact PySem.EqNone.ne_int_none (kB I q Ad)
  |int j=>obtain⟨t',rfl⟩:=ry;exact ne_int (kB I q (ce not jET))
  |str j=>obtain⟨t',rfl⟩:=ry;exact PySem.EqMixed.ne_int_str (kB I q Ad)
  |_=>exact absurd (show false=true from hs) aC
 |str i=>
  obtain⟨t,rfl⟩:=rx;cases y with
  |non=>cases ry;exact PySem.EqNone.ne_str_none (kB I q Ad)
  |bl j=>cases ry;exact PySem.EqMixed.ne_str_bool (kB I q Ad)
  |int j=>obtain⟨t',rfl⟩:=ry;exact PySem.EqMixed.ne_str_int (kB I q Ad)
  |str j=>obtain⟨t',rfl⟩:=ry;exact ne_str (kB I q (ce not jP4))
  |_=>exact absurd (show false=true from hs) aC
 |byt i=>
  obtain⟨t,rfl⟩:=rx;cases y with
  |byt j=>obtain⟨t',rfl⟩:=ry;exact PySem.W.ne_bytes (kB I q (ce not jP5))
  |_=>exact absurd (show false=true from hs) aC
 |_=>cases y<;>exact absurd (show false=true from hs) aC
theorem op_lt:OpR X (compareOp .Lt) (rI0 λi j=> .bl (decide (i<j))):=opB0 λ_ _ _ _ _ _ _ q=>lt_int q
theorem op_gt:OpR X (compareOp .Gt) (rI0 λi j=> .bl (decide (j<i))):=opB0 λ_ _ _ _ _ _ _ q=>gt_int q
theorem op_ge:OpR X (compareOp .GtE) (rI0 λi j=> .bl (decide (j<=i))):=opB0 λ_ _ _ _ _ _ _ q=>ge_int q
theorem jR(b:Expr)(h:op≠.In:=by decide)(h2:op≠.NotIn:=by decide):behindInMarks op b=false:=by
 have e1:(op==CmpOp.In)=false:=by cases op<;>first|rfl|exact absurd rfl h
 have e2:(op==CmpOp.NotIn)=false:=by cases op<;>first|rfl|exact absurd rfl h2
 cases b<;>simp[behindInMarks,e1,e2]
def jTL{r:R2}(ho:OpR X (compareOp op) r)(ha:PE X a ta)(hb:PE X b tb)(hm:behindInMarks op b=false):PE X (.Compare a [op] [b] pos) (tOp r ta tb):=by
 intro ma s σ H Q I h;exact wpAny_Compare1 (binT ha hb I h λv u s2 x y H2 I2 rx ry q=>ho ma s2 σ H2 x y v u Q I2 rx ry q) hm
def tTest(t:TE):TT:=λσ H Q=>t σ H λx H'=>∃k,x=.bl k/\Q k H'
def jE0{r:R2}(ho:OpR X (compareOp op) r)(ha:PE X a ta)(hb:PE X b tb)(hm:behindInMarks op b=false):PT X (.Compare a [op] [b] pos) (tTest (tOp r ta tb)):=by
 intro ma s σ H Q I h;refine wpAny_isTrue_Compare1 (mo (ha ma s σ H _ I h) λv s1 ⟨x,H1,I1,r1,q1⟩=>mo (hb ma s1 σ H1 _ I1 q1) λu s2 ⟨y,H2,I2,r2,q2⟩=>
  mo (ho ma s2 σ H2 x y v u _ I2 r1 r2 q2) λc s3 ⟨z,H3,I3,r3,k,e,q3⟩=>?_) hm
 subst e;cases r3;exact eI ⟨H3,I3,q3⟩
theorem jHQ:(sizeLine:Nat)<2^63:=by rw[d0];decide
def vals1{x:V}(r:Vals [x] us):∃u,us=[u]/\RelV x u:=by
 cases r with
 |cons r1 r2=>cases r2;exact⟨_,rfl,r1⟩
def jPH:yQ X (.type "int") (λxs H Q=>(∃i,xs=[.int i]/\Q (.int i) H)\/∃k,xs=[.bl k]/\Q (.int (if k then 1 else 0)) H):=by
 intro ma s σ H xs us Q I r h;rcases h with ⟨i,rfl,q⟩|⟨k,rfl,q⟩
 .obtain⟨u,rfl,t,rfl⟩:=vals1 r;exact call_int_int ⟨.int i,H,I,⟨_,rfl⟩,q⟩
 .obtain⟨u,rfl,r1⟩:=vals1 r;cases r1;exact call_int_bool ⟨.int (if k then 1 else 0),H,I.tok _,⟨_,rfl⟩,q⟩
end
structure ObjM (h:Heap)(x dx C:Addr)(mA:Ak):Prop where
 obj:h.get? x=some (instObj C dx)
 ns:h.Ns1 dx mA
 ne:dx≠x
def jO2{mA:Ak}(n:h.Ns1 dx mA):∃od,h.get? dx=some od/\∀name,lookIn name od=some (mA name):=by
 obtain⟨o,es,ep,ho,hd,hk,_,hm⟩:=n;refine⟨o,ho,λname=>?_⟩;have e:=hm name;unfold nsFind findBy at e;rw[<- Array.find?_toList] at e;unfold lookIn;rw[hd];dsimp only;split
 .rename_i y q;rw[q] at e;exact ce some e
 .rename_i q;rw[q] at e;have a:es.toList.any (·.refKey)=false:=by
   rw[List.any_eq_false];intro y hy;obtain⟨z,t,hkey⟩:=hk y (Array.mem_toList_iff.mp hy);simp[DictEntry.refKey,hkey]
  have a':¬es.toList.any (·.refKey)=true:=by rw[a];exact aC
  rw[az a'];exact ce some e
def ObjM.look{C:Addr}{mA:Ak}(I:ObjM h x dx C mA):∃od,PySem.W.InstAt h x (instObj C dx) C (some od)/\∀name,lookIn name od=some (mA name):=
 let ⟨od,ho,hl⟩:=jO2 I.ns
 ⟨od,⟨I.obj,rfl,rfl,ho⟩,hl⟩
variable {A:Around}{dx C f:Addr}
section
variable {prog:Program}{K:W.Frag}{mA:Ak}{name:Str}{v:Value}
end
def RelO.some_of{v:V}{o:Ao}(r:RelO (some v) o):∃u,o=some u/\RelV v u:=by
 cases o with
 |none=>exact(show False from r).elim
 |some u=>exact⟨u,rfl,r⟩
section
variable {fs fs':List (Str×V)}
def jUA(hok:HOk P w H h)(e:H a=some (.ins C dx fs)):∃mA,ObjM h a dx C mA/\(∀f,RelO (fs.lookup f) (mA f))/\PySem.Within mA (fs.map (·.1))/\fs.length<=1000/\H dx=some (.own a):=by
 obtain⟨d,z,ne,ob,mA,n,r,q⟩:=(show ObjOk P w H h a (.ins C dx fs) from hok a _ e);exact⟨mA,⟨ob,n,ne⟩,r,q,z,d⟩
end
structure Cls (K:W.Frag)(C:Addr):Prop where
 pg:plainGet K C Str.empty=true
 hd:PySem.W.hasDictIn K C=true
 po:PySem.W.plainOver K C=true
 sa:findIn K (.ref C) "__setattr__" =some (some (.builtin "object.__setattr__"))
def Cls.get{K:W.Frag}{C:Addr}(c:Cls K C)(f:Str):plainGet K C f=true:=c.pg
section
variable {σ:St}{fs:List (Str×V)}{f:Str}{v:V}
end
variable {o:Expr}
section
variable {value:Expr}{f:Str}{pos' tpos:Pos}{tv:TE}
end
section
variable {σ:St}{Q:Ah}{c:Value}{b:Bool}
inductive TyOf (K:W.Frag) (H:Hp):V->Value->Prop where
 |non:TyOf K H .non (.type "NoneType")
 |bl (x:Bool):TyOf K H (.bl x) (.type "bool")
 |int (i:Int):TyOf K H (.int i) (.type "int")
 |str (x:Str):TyOf K H (.str x) (.type "str")
 |flt (x:UInt64):TyOf K H (.flt x) (.type "float")
 |lst {a:Addr}{xs:List V}(e:H a=some (.lst xs)):TyOf K H (.ref a) (.type "list")
 |frz {a:Addr}{o:Obj}{xs:List V}(e:H a=some (.frz o (.lst xs))):TyOf K H (.ref a) (.type "list")
 |tup {a:Addr}{xs:List V}(e:H a=some (.tup xs)):TyOf K H (.ref a) (.type "tuple")
 |dK {a:Addr}{kvs:List (Key×V)}(e:H a=some (.dK kvs)):TyOf K H (.ref a) (.type "dict")
 |dT {a:Addr}{kvs:List (List Key×V)}(e:H a=some (.dT kvs)):TyOf K H (.ref a) (.type "dict")
 |ins {a C dx:Addr}{fs:List (Str×V)}(e:H a=some (.ins C dx fs)) (cl:Cls K C) (ha:findIn K (.ref C) "__class__" =some (some (.builtin "object.__class__")))
   (hn:specialIn K (.builtin "object.__class__") "__get__" =some (some (.builtin "getset_descriptor.__get__"))) (htk:takesIn K (.builtin "object.__class__")=some true)
   (hm:mroIn K C (.type "object")=some true):TyOf K H (.ref a) (.ref C)
def jOQ{x:V}{t:Value}(I:Inv X ma σ H s)(rx:RelV x u)(ty:TyOf X.K H x t)(e:kitOne X.K t c=some b)(h:∀tk,Q (.bool b) {s with toks:=tk}):
  wpAny (model X.prog X.w) A (call (.builtin "isinstance") [u,c]) Q E s:=by
 cases ty with
 |non=>cases (show u=Value.none from rx);exact cD PySem.W.kitx_none I.kIn True.intro e (λz=>nomatch z) h
 |bl y=>cases (show u=Value.bool y from rx);exact cD PySem.W.kitx_bool I.kIn True.intro e (λz=>nomatch z) h
 |int i=>obtain⟨t,q⟩:=(show ∃t,u=Value.int i t from rx);cases q;exact cD PySem.W.kitx_int I.kIn True.intro e (λz=>nomatch z) h
 |str y=>obtain⟨t,q⟩:=(show ∃t,u=Value.str y t from rx);cases q;exact cD PySem.W.kitx_str I.kIn True.intro e (λz=>nomatch z) h
 |flt y=>obtain⟨t,q⟩:=(show ∃t,u=Value.float y t from rx);cases q;exact cD PySem.W.kitx_float I.kIn True.intro e (λz=>nomatch z) h
 | @lst a xs ea=>
  cases (show u=Value.ref a from rx);obtain⟨_,_,n,_,h1⟩:=(show ObjOk X.prog X.w H s.heap a (.lst xs) from I.hok a _ ea);exact cD kitx_list I.kIn ⟨_,h1,rfl⟩ e (λz=>nomatch z) h
 | @frz a ob xs ea=>
  cases (show u=Value.ref a from rx);obtain⟨_,_,_,n,_,h1⟩:=(show ObjOk X.prog X.w H s.heap a (.frz ob (.lst xs)) from I.hok a _ ea);exact cD kitx_list I.kIn ⟨_,h1,rfl⟩ e (λz=>nomatch z) h
 | @tup a xs ea=>
  cases (show u=Value.ref a from rx);obtain⟨_,_,_,p⟩:=(show ObjOk X.prog X.w H s.heap a (.tup xs) from I.hok a _ ea);obtain⟨o,h1,h2,_⟩:=p.isTup;exact cD PySem.W.kitx_tuple I.kIn ⟨o,h1,h2⟩ e (λz=>nomatch z) h
 | @dK a kvs ea=>
  cases (show u=Value.ref a from rx);obtain⟨_,_,vs,_,p⟩:=(show ObjOk X.prog X.w H s.heap a (.dK kvs) from I.hok a _ ea);obtain⟨o,es,ep,h1,h2,_⟩:=p;exact cD kitx_dict I.kIn ⟨o,h1,h2.1⟩ e (λz=>nomatch z) h
 | @dT a kvs ea=>
  cases (show u=Value.ref a from rx);obtain⟨_,_,xs,_,o,es,ep,h1,h2,_⟩:=(show ObjOk X.prog X.w H s.heap a (.dT kvs) from I.hok a _ ea);exact cD kitx_dict I.kIn ⟨o,h1,h2.1⟩ e (λz=>nomatch z) h
 | @ins a C dx fs ea cl ha hn htk hm=>
  cases (show u=Value.ref a from rx);obtain⟨mA,O,_⟩:=jUA I.hok ea;obtain⟨od,J,_⟩:=O.look;exact cD (PySem.W.kitx_own (cl.get _) cl.hd ha hn htk hm) I.kIn J e (λz=>nomatch z) h
end
structure Room (k:Nat)(A:Around):Prop where
 hd:A.handled=none
 dp:A.depth+3*k+5<recursionLimit
 un:A.units+16*k+200<cLine
theorem Room.mono{k:Nat}(r:Room k A)(h:j<=k):Room j A:=⟨r.hd,by have:=r.dp;lia,by have:=r.un;lia⟩
theorem Room.deeper{k:Nat}(r:Room (k+1) A)(env:Env):Room k (A.deeper env):=
 ⟨r.hd,by have:=r.dp;show A.depth+1+3*k+5<_;lia,by have:=r.un;show A.units+3+16*k+200<_;lia⟩
theorem Room.in1{k:Nat}(r:Room (k+1) A):Room k A.in1:=
 ⟨r.hd,by have:=r.dp;show A.depth+3*k+5<_;lia,by have:=r.un;show A.units+1+16*k+200<_;lia⟩
theorem Room.depth{k:Nat}(r:Room k A):A.depth<recursionLimit:=by have:=r.dp;lia
theorem Room.units{k:Nat}(r:Room k A):A.units+64<cLine:=by have:=r.un;lia
theorem Room.units0{k:Nat}(r:Room k A):A.units<cLine:=by have:=r.un;lia
def tNil:TA:=λ_ H Q=>Q [] H
def tCons(ta:TE)(tr:TA):TA:=λσ H Q=>ta σ H λx H1=>tr σ H1 λxs H2=>Q (x::xs) H2
variable {es:List Expr}{t:TA}
def yJ:PA X [] tNil:=λ_ _ _ _ H Q I h=>Calls.spliced_nil ⟨[],H,I,.nil,h⟩
def jX(ha:PE X e te)(hr:PA X es t)(hs:starEach (e::es) X.env=(false,eval e X.env)::starEach es X.env:=by rfl):PA X (e::es) (tCons te t):=by
 intro pos ma s σ H Q I h;rw[hs];show wpAny _ _ (spliced ((false,eval e X.env)::backTo pos (starEach es X.env))) _ _ s;refine Calls.spliced_cons (mo (ha ma s σ H _ I h) λu s1 ⟨x,H1,I1,r1,q1⟩=>?_);exact mo (hr pos ma s1 σ H1 _ I1 q1) λus s2 ⟨xs,H2,I2,r2,q2⟩=>⟨x::xs,H2,I2,.cons r1 r2,q2⟩
def tTup(t:TA):TE:=λσ H Q=>t σ H λxs H1=>xs.length<=sizeLine/\∀p,H1 p=none->Q (.ref p) (upd H1 p (.tup xs))
def tLst(t:TA):TE:=λσ H Q=>t σ H λxs H1=>xs.length<=sizeLine/\∀p,H1 p=none->Q (.ref p) (upd H1 p (.lst xs))
def jVP{x1}(h:PA X es t):PE X (.Tuple es x1 pos) (tTup t):=by
 intro ma s σ H Q I hq;refine wpAny_Tuple_spliced (mo (h pos ma s σ H _ I hq) λus s1 ⟨xs,H1,I1,r,z,q⟩=>⟨by rw[<- r.length];exact z,?_⟩);have hf:H1 s1.heap.objs.size=none:=I1.hok.fresh (ar _);refine⟨.ref s1.heap.objs.size,upd H1 s1.heap.objs.size (.tup xs),I1.laid (t':=s1.toks) (λb u e=>af _ e) (ar _) ?_,rfl,q _ hf⟩;exact⟨z,us,r,TupO.new _ _⟩
def jKA(h:PA X es t):PE X (.List es pos) (tLst t):=by
 intro ma s σ H Q I hq;refine wpAny_List_spliced (mo (h pos ma s σ H _ I hq) λus s1 ⟨xs,H1,I1,r,z,q⟩=>⟨by rw[<- r.length];exact z,?_⟩);have hf:H1 s1.heap.objs.size=none:=I1.hok.fresh (ar _);refine⟨.ref s1.heap.objs.size,upd H1 s1.heap.objs.size (.lst xs),I1.laid (t':=s1.toks) (λb u e=>af _ e) (ar _) ?_,rfl,q _ hf⟩;exact⟨z,us,0,r,aw _ rfl⟩
abbrev Sp:=List V->Hp->VK->XK->Prop
abbrev CXT:=List Env->Hp->Shared->XK->Ah
structure Env0 (P:Program)(w:World)(K:W.Frag)(mg:Ak)(Aq:Heap)(A:Around)(mj:List Env)(s:Shared)(H:Hp):Prop where
 frames:A.frames=some mj
 mod:Mod K mg Aq
 bs:∀b o,Aq.get? b=some o->s.heap.get? b=some o/\H b=none
 bsz:Aq.objs.size<=s.heap.objs.size
 funs:s.heap.FunFrames Aq mj
 frf:∀b∈frs mj,H b=none
 hok:HOk P w H s.heap
 bare:AllBare s.gens
def CE(mj:List Env)(P:Program)(w:World)(H:Hp)(s:Shared)(Q:VK)(u:Value)(s':Shared):Prop:=
 ∃v H',s'.os=s.os/\AllBare s'.gens/\Un (frs mj) [] H H' s.heap s'.heap/\HOk P w H' s'.heap/\RelV v u/\Q v H'
def CR(CX:CXT)(mj:List Env)(P:Program)(w:World)(H:Hp)(s:Shared)(Q:VK)(E:XK)(r:Result)(s':Shared):Prop:=
 match r with
 | .ok (.ret u)=>CE mj P w H s Q u s'
 | .ok _=>False
 | .error e=>CX mj H s E e s'
structure FnOk (P:Program)(w:World)(K:W.Frag)(mg:Ak)(Aq:Heap)(CX:CXT)(k:Nat)(f:Addr)(fd:FuncData)(ps:Am)(sp:Sp):Prop where
 len:∀vs H Q E,sp vs H Q E->vs.length=ps.length
 run:∀(A:Around) (mj:List Env) (s:Shared) (H:Hp) (args:Args) (us:Al) (vs:List V) (Q:VK) (E:XK),Room k A->Env0 P w K mg Aq A mj s H->BindsTo s fd args (ps.zip us)->Vals vs us->sp vs H Q E->
  codeAny (model P w) A (.call (.ref f) args) (CR CX mj P w H s Q E) s
def Env0.in1(e:Env0 P w K mg Aq A mj s H):
  Env0 P w K mg Aq A.in1 mj s H:=⟨e.frames,e.mod,e.bs,e.bsz,e.funs,e.frf,e.hok,e.bare⟩
section
variable {σ:St}{s':Shared}
def Inv.env0(I:Inv X ma σ H s):Env0 X.prog X.w X.K X.mg X.Aq X.A X.stack s H:=
 ⟨I.ok.frames,I.ok.mod,I.bs,bh I.ok.bsz I.sz,I.stack,I.stkFree,I.hok,I.bare⟩
def Inv.after(I:Inv X ma σ H s)(h:CE X.stack X.prog X.w H s Q u s'):EP X ma σ Q u s':=by
 obtain⟨v,H',os,bare,un,hok,r,q⟩:=h;obtain⟨hh,g,d,t,os'⟩:=s';obtain rfl:os'=s.os:=os;exact⟨v,H',I.call (h':=hh) (g':=g) (d':=d) (t':=t) (ch:=[]) un hok bare (λb z=>absurd z Ad),r,q⟩
end
def tCall(sp:Sp)(dvs:List V)(E:XK)(t:TA):TE:=λσ H Q=>t σ H λvs H1=>sp (vs++dvs) H1 Q E
def Binds(K:W.Frag)(fd:FuncData)(ps:Am)(ds:Al):Prop:=
 ∀(s:Shared) (us:Al),K.In s.heap->(us++ds).length=ps.length->BindsTo s fd ⟨us,[]⟩ (ps.zip (us++ds))
def Binds.all{fd:FuncData}{ps:Am}(h:∀us:Al,us.length=ps.length->bindArgs fd ⟨us,[]⟩=pure (ps.zip us)):Binds K fd ps []:=λs us _ hl=>by
 rw[aV] at hl ⊢;exact .of_eq (h us hl)
def jL7(CX:CXT)(X:Cx)(E:XK):Prop:=∀(ma:Ai) (σ:St) (H:Hp) (s:Shared) (e:Value) (s':Shared),Inv X ma σ H s->CX X.stack H s E e s'->X.xe e s'
variable {CX:CXT}{fd:FuncData}{ps:Am}{sp:Sp}{m:Str}{p apos:Pos}
variable {vs:List V}
section
variable {k:Nat}{dvs:List V}{ds:Al}{E:XK}{x:Str}
def jVD(F:FnOk X.prog X.w X.K X.mg X.Aq CX k f fd ps sp)(hr:Room k X.A)(hb:Binds X.K fd ps ds)(hd:Vals dvs ds)(hx:jL7 CX X E)
  (I:Inv X ma σ H s) (r:Vals vs us) (h:sp (vs++dvs) H Q E):wpAny (model X.prog X.w) X.A (call (.ref f) us) (EP X ma σ Q) X.xe s:=by
 have r2:Vals (vs++dvs) (us++ds):=r.append hd;have hl:(us++ds).length=ps.length:=by rw[<- r2.length];exact F.len _ _ _ _ h
 refine fe (df (F.run X.A X.stack s H ⟨us,[]⟩ (us++ds) (vs++dvs) Q E hr I.env0 (hb s us I.kIn hl) r2 h) λr s' hq=>?_);cases r with
 |error e=>exact hx ma σ H s e s' I hq
 |ok fl=>
  cases fl with
  |ret u=>exact I.after hq
  |next=>exact False.elim hq
  |brk=>exact False.elim hq
  |cont=>exact False.elim hq
theorem jN7(F:FnOk X.prog X.w X.K X.mg X.Aq CX k f fd ps sp)(hr:Room k X.A)(hg:Gl X x)(hm:X.mg x=some (.ref f))(hk:keepIn X.K (.ref f)=true)(hb:Binds X.K fd ps ds)(hd:Vals dvs ds)(hx:jL7 CX X E)
  (ha:PA X (e::es) t) (hdb:(x==("__debug__":Str))=false:=by decide) (he:starEach (e::es) X.env=(false,eval e X.env)::starEach es X.env:=by rfl) (hpl:(backTo pos (starEach es X.env)).any (·.1)=false:=by rfl):
  PE X (.Call (.Name x p) (e::es) [] pos) (tCall sp dvs E t):=by
 intro ma s σ H Q I h;refine cC (jBR I hg hm ?_ hdb);refine gy (h₀:=X.Aq) I.ok.mod.kin hk (mo (ha pos ma s σ H _ I h) λus s1 ⟨vs,H1,I1,r,q⟩=>⟨I1.kIn,?_⟩) he hpl;exact jVD F hr hb hd hx I1 r q
end
def PK(X:Cx)(kws:List Keyword)(t:TA):Prop:=
 ∀(pos:Pos) (ma:Ai) (s:Shared) (σ:St) (H:Hp) (Q:List V->Hp->Prop),Inv X ma σ H s->t σ H Q->wpAny (model X.prog X.w) X.A (evalAll ((backToKw pos (keywordEach kws X.env)).map (·.2))) (AP X ma σ Q) X.xe s
section
variable {k:Nat}{ks:Am}{E:XK}{x:Str}{kpos:Pos}{kws:List Keyword}{tk:TA}{nm:Option Str}
def jVK:PK X [] tNil:=λ_ _ _ _ H Q I h=>wpAny_evalAll_nil ⟨[],H,I,.nil,h⟩
def jTA(ha:PE X e te)(hr:PK X kws t):PK X (⟨nm,e,kpos⟩::kws) (tCons te t):=by
 intro pos ma s σ H Q I h;show wpAny _ _ (evalAll ((do let v <- eval e X.env;standAt pos;pure v)::(backToKw pos (keywordEach kws X.env)).map (·.2))) _ _ s;refine wpAny_evalAll_cons (ae (mo (ha ma s σ H _ I h) λu s1 ⟨x,H1,I1,r1,q1⟩=>ae (eQ (aj ?_))));exact mo (hr pos ma s1 σ H1 _ I1 q1) λus s2 ⟨xs,H2,I2,r2,q2⟩=>⟨x::xs,H2,I2,.cons r1 r2,q2⟩
variable {g:Al->Al->Al}{gV:List V->List V->List V}
end
structure FnScope (N P:Am)(sc:Scope):Prop where
 kind:sc.kind=.function:=by rfl
 co:sc.isCoroutine=false:=by rfl
 gen:sc.isGenerator=false:=by rfl
 nd:N.Nodup:=by decide+kernel
 pre:N.take P.length=P:=by rfl
 par:∀x∈P,sc.names.lookup x=some .local\/sc.names.lookup x=some .cell:=by decide+kernel
 nofree:∀y∈sc.names,y.2≠.free:=by decide+kernel
def jIB{x:Str}:∀{binds:List (Str×Value)}{m:Ak},(∀v,(x,v)∉binds)->bindL kindOf binds m x=m x
 |[],_,_=>rfl
 | (n,v)::r,m,h=>by
  unfold bindL;rw[jIB λw hw=>h w (ah _ hw)];split
  .have:x≠n:=by rintro rfl;exact h v ai
   simp[this]
  .rfl
def jID{x:Str}:∀{binds:List (Str×Value)}{m:Ak},(∀v,(x,v)∉binds)->bindC kindOf binds m x=m x
 |[],_,_=>rfl
 | (n,v)::r,m,h=>by
  unfold bindC;rw[jID λw hw=>h w (ah _ hw)];split
  .rfl
  .have:x≠n:=by rintro rfl;exact h v ai
   simp[this]
def jIC{kindOf:Str->Option NameKind}{x:Str}{v:Value}:∀{P:Am}{vs:Al}{i:Nat}{m:Ak},P.Nodup->P[i]?=some x->vs[i]?=some v->kindOf x=some .local->
  bindL kindOf (P.zip vs) m x=some v
 |[],_,_,_,_,h,_,_=>by simp at h
 |_::_,[],_,_,_,_,h,_=>by simp at h
 |p::P,w::vs,0,m,nd,h1,h2,hk=>by
  simp at h1 h2;subst h1;subst h2;show bindL kindOf ((p,w)::P.zip vs) m p=_;unfold bindL;rw[jIB λv hv=>(bS.mp nd).1 (dG hv).1,aA hk];simp
 |p::P,w::vs,i+1,m,nd,h1,h2,hk=>by
  show bindL kindOf ((p,w)::P.zip vs) m x=_;unfold bindL;exact jIC (i:=i) (bS.mp nd).2 (by simpa using h1) (by simpa using h2) hk
def jIE{kindOf:Str->Option NameKind}{x:Str}{v:Value}:∀{P:Am}{vs:Al}{i:Nat}{m:Ak},P.Nodup->P[i]?=some x->vs[i]?=some v->kindOf x≠some .local->
  bindC kindOf (P.zip vs) m x=some v
 |[],_,_,_,_,h,_,_=>by simp at h
 |_::_,[],_,_,_,_,h,_=>by simp at h
 |p::P,w::vs,0,m,nd,h1,h2,hk=>by
  simp at h1 h2;subst h1;subst h2;show bindC kindOf ((p,w)::P.zip vs) m p=_;unfold bindC;rw[jID λv hv=>(bS.mp nd).1 (dG hv).1,az hk];simp
 |p::P,w::vs,i+1,m,nd,h1,h2,hk=>by
  show bindC kindOf ((p,w)::P.zip vs) m x=_;unfold bindC;exact jIE (i:=i) (bS.mp nd).2 (by simpa using h1) (by simpa using h2) hk
def kT(N:Am)(vs:List V):St:=vs.map some++List.replicate (N.length-vs.length) none
def cxOf(CX:CXT)(P:Program)(w:World)(K:W.Frag)(mg:Ak)(Aq:Heap)(N:Am)(qual:Str)(scope:Scope)(f:Addr)(cd:Value)(A:Around)(mj:List Env)(s:Shared)(H:Hp)(E:XK):Cx where
 prog:=P
 w:=w
 K:=K
 mg:=mg
 Aq:=Aq
 A:=A.deeper (envOfC qual scope s.heap.objs.size f cd)
 N:=N
 s₀:=s
 H₀:=H
 env:=envOfC qual scope s.heap.objs.size f cd
 mj:=mj
 stack:=envOfC qual scope s.heap.objs.size f cd::mj
 ex:=[]
 calm:=true
 fn:=λ_=>true
 pn:=[]
 xe:=λe s'=>wpAny (model P w) (A.deeper (envOfC qual scope s.heap.objs.size f cd)) (leaving (envOfC qual scope s.heap.objs.size f cd) e) (λ_ s''=>CX mj H s E e s'') (λe' s''=>CX mj H s E e' s'') s'
def jL4{sc:Scope}{n:Nat}{x:Str}(h:sc.names.lookup x=some .cell):∃c,(cellsFrom n sc.names []).lookup x=some c:=by
 have q:=ff sc.names n [] (.inl h);exact eR.mp q
theorem jEJ{qual:Str}{scope:Scope}{cd:Value}{s1:Shared}{E:XK}
  (S:FnScope N ps scope) (hd:A.handled=none) (e0:Env0 P w K mg Aq A mj s H) (hl:vs.length=ps.length) (r:Vals vs us)
  (x:InCallC s s.heap.objs.size (bindL (envOfC qual scope s.heap.objs.size f cd).kindOf (ps.zip us) λ_=>none) (cellsFrom (s.heap.objs.size+1) scope.names []) (bindC (envOfC qual scope s.heap.objs.size f cd).kindOf (ps.zip us) λ_=>none) s1):
  Inv (cxOf CX P w K mg Aq N qual scope f cd A mj s H E) [] (kT N vs) H s1:=by
 have hpl:ps.length<=N.length:=by have:=ce List.length S.pre;rw[bO] at this;lia
 obtain⟨h1,tk,rfl,hk⟩:=x.done;have noA:∀b:Addr,b∉(cxOf CX P w K mg Aq N qual scope f cd A mj s H E).ex:=λb z=>absurd (show b∈([]:List Addr) from z) Ad;refine⟨⟨e0.mod,S.kind,rfl,rfl,ar _,λy z c h1 h2=>?_,λy hy=>?_,λy c _ h=>?_,λ_=>hd,fQ e0.frames,.inr ⟨rfl,rfl⟩,λb z=>absurd z (noA b),e0.bs,e0.bsz,λb _ _=>noA b,λb z=>absurd z (noA b),e0.funs,e0.frf⟩,
  rfl,e0.bare,Un.kept hk,⟨_,x.toInCall.ns,λi y v h1 h2 h3=>?_⟩,λy c h=>⟨_,x.cell y c h⟩,e0.hok.fresh (ar _),λy c h=>?_,λp hp=>absurd (show p∈([]:Ai) from hp) Ad,e0.hok.kept hk,?_⟩
 .exact name_of_addr x.apart (bG h1) (bG h2)
 .have hy:scope.names.lookup y=some .cell\/scope.names.lookup y=some .free:=hy;rcases hy with hy|hy
  .exact jL4 hy
  .exact absurd rfl (S.nofree _ (bG hy))
 .exact cU (x.above y c (bG h))
 .have hi:i<vs.length:=by
   unfold kT at h2;by_cases hi:i<vs.length
   .exact hi
   .rw[bw (by simpa using hi)] at h2;rw[jo] at h2;split at h2<;>cases h2
  have ha:vs[i]?=some v:=by
   unfold kT at h2;rw[cf (by simpa using hi),aX] at h2;cases e:vs[i]? with
   |none=>rw[e] at h2;cases h2
   |some a=>rw[e] at h2;cases h2;rfl
  obtain⟨u,hu,rv⟩:=r.get ha;have hp:ps[i]?=some y:=by
   rw[<- S.pre,cG Aa];exact h1
  have ndP:ps.Nodup:=by rw[<- S.pre];exact S.nd.sublist (eJ _ _)
  refine⟨u,rv,?_⟩;rcases S.par y (aQ hp) with k|k
  .exact .inl ⟨k,jIC ndP hp hu k⟩
  .obtain⟨c,e⟩:=jL4 (n:=s.heap.objs.size+1) k;refine .inr ⟨.inl k,c,e,?_⟩;have q:=x.cell y c e;rw[jIE ndP hp hu (by show scope.names.lookup y≠_;rw[k];decide)] at q;exact q
 .exact e0.hok.fresh (cU (x.above y c (bG h)))
 .unfold kT;show _=N.length;rw[aI,ag,lc];lia
def fn_of{k:Nat}{name qual:Str}{params:Arguments}{scope:Scope}{dV kV doc pm mn ct oc:Value}{an od:Option Addr}
  {osl:Array (Ao)}(lk:K.lookup f=some ⟨oc,od,.func (PySem.W.fnOf name qual params body scope dV kV doc pm an mn ct),osl⟩) (hcd:PySem.W.codeIn K mn qual=true) (S:FnScope N ps scope)
  (len:∀vs H Q E,sp vs H Q E->vs.length=ps.length)
  (hbody:∀(A:Around) (mj:List Env) (s:Shared) (H:Hp) (vs:List V) (Q:VK) (E:XK),Room k (A.deeper (envOfC qual scope s.heap.objs.size f mn))->sp vs H Q E->
   ∃t,PSs (cxOf CX P w K mg Aq N qual scope f mn A mj s H E) body t/\t {nx:=λ_ H'=>Q .non H',rt:=Q} (kT N vs) H):
  FnOk P w K mg Aq CX (k+1) f (PySem.W.fnOf name qual params body scope dV kV doc pm an mn ct) ps sp:=by
 refine⟨len,λA mj s H args us vs Q E hr e0 hb r hsp=>?_⟩;have hl:=len _ _ _ _ hsp;have KX:K.In s.heap:=e0.mod.kin.keeps λb o e=>(e0.bs b o e).1;have lim:s.heap.NoLimit:=e0.mod.nolimit.keeps λb o e=>(e0.bs b o e).1;have hkind:∀y∈ps.zip us,scope.names.lookup y.1=some .local\/(scope.names.lookup y.1=some .cell/\((cellsFrom (s.heap.objs.size+1) scope.names []).lookup y.1).isSome=true):=λ⟨n,v⟩ hy=>by
  rcases S.par n (dG hy).1 with q|q
  .exact .inl q
  .exact .inr ⟨q,ff _ _ _ (.inl q)⟩
 refine gW hr.depth (KX _ _ lk) rfl S.co S.gen rfl (iM KX hcd) (hb _ _ _ _ ?_);refine fS S.kind hkind λenv he s1 x=>?_;subst he;refine⟨lim.keeps x.toInCall.keep,codeAny_func ?_⟩;obtain⟨t,ht,hq⟩:=hbody A mj s H vs Q E (hr.deeper _) hsp;have I:Inv (cxOf CX P w K mg Aq N qual scope f mn A mj s H E) [] (kT N vs) H s1:=jEJ S hr.hd e0 hl r x;refine bF (ht [] s1 (kT N vs) H _ I hq) (λfl s' hs=>?_) λe s' hs=>hs;have fin:∀{σ':St}{H':Hp}{v:V}{u:Value},Inv (cxOf CX P w K mg Aq N qual scope f mn A mj s H E) [] σ' H' s'->RelV v u->Q v H'->CE mj P w H s Q u s':=
  λ{σ' H' v u} J rv q=>⟨v,H',J.os,J.bare,J.Aq,J.hok,rv,q⟩
 cases fl with
 |ret u=>
  obtain⟨v,σ',H',J,rv,q⟩:=hs;exact fin J rv q
 |next=>
  obtain⟨σ',H',J,q⟩:=hs;exact fin (v:=V.non) (u:=Value.none) J rfl q
 |brk=>
  obtain⟨_,_,_,q⟩:=hs;exact False.elim q
 |cont=>
  obtain⟨_,_,_,q⟩:=hs;exact False.elim q
section
variable {x:Str}{id T:String}{r:List V->Hp->VK->Prop}
def tCB(r:List V->Hp->VK->Prop)(t:TA):TE:=λσ H Q=>t σ H λvs H1=>r vs H1 Q
theorem jG4(hc:yQ X (.builtin id) r)(hg:Gl X x)(hm:X.mg x=none)(hv:bootBuiltins x=some (.builtin id))(ha:PA X (e::es) t)(hn:x≠"__name__" :=by decide)(hdb:(x==("__debug__":Str))=false:=by decide)
  (he:starEach (e::es) X.env=(false,eval e X.env)::starEach es X.env:=by rfl) (hpl:(backTo pos (starEach es X.env)).any (·.1)=false:=by rfl):PE X (.Call (.Name x p) (e::es) [] pos) (tCB r t):=by
 intro ma s σ H Q I h;refine cC (jDB I hg hm hv ?_ hn hdb);exact PyProof.Rows.callWith_builtin1 (mo (ha pos ma s σ H _ I h) λus s1 ⟨vs,H1,I1,r1,q1⟩=>hc ma s1 σ H1 vs us Q I1 r1 q1) he hpl
theorem jC4(hc:yQ X (.type T) r)(hg:Gl X x)(hm:X.mg x=none)(hv:bootBuiltins x=some (.type T))(ha:PA X (e::es) t)(hn:x≠"__name__" :=by decide)(hdb:(x==("__debug__":Str))=false:=by decide)
  (he:starEach (e::es) X.env=(false,eval e X.env)::starEach es X.env:=by rfl) (hpl:(backTo pos (starEach es X.env)).any (·.1)=false:=by rfl):PE X (.Call (.Name x p) (e::es) [] pos) (tCB r t):=by
 intro ma s σ H Q I h;refine cC (jDB I hg hm hv ?_ hn hdb);exact dw (mo (ha pos ma s σ H _ I h) λus s1 ⟨vs,H1,I1,r1,q1⟩=>hc ma s1 σ H1 vs us Q I1 r1 q1) he hpl
end
end L2
namespace HT
open PySem PyProof.Rows
noncomputable def lexLt:Ag->Ag->Bool
 |[],[]=>false
 |[],_::_=>true
 |_::_,[]=>false
 |x::xs,y::ys=>if x=y then lexLt xs ys else decide (x<y)
theorem lexLt_cons(x y:Int)(xs ys:Ag):lexLt (x::xs) (y::ys)=if x=y then lexLt xs ys else decide (x<y):=rfl
def jGG:lexLt [] []=false:=rfl
def jEX(y:Int)(ys:Ag):lexLt [] (y::ys)=true:=rfl
def jEY(x:Int)(xs:Ag):lexLt (x::xs) []=false:=rfl
def jR6(A:Around)(s:Shared)(a:Int)(t:Tok)(c:Int)(u:Tok):∃e,SeqAt.EqAt A s (.int a t) (.int c u) e/\(e=true↔a=c):=
 ⟨(a==c),gz a t c u,Ad⟩
theorem rcLt_int(A:Around)(s:Shared)(a:Int)(t:Tok)(c:Int)(u:Tok)(prog:Program)(w:World)(E:Ah)(Q:Ah)(h:Q (.bool (decide (a<c))) s):
  wpAny (model prog w) A (richCompare .Lt (.int a t) (.int c u)) Q E s:=
 (PyProof.Rows.lt_int h:wpAny (model prog w) A (compareOp .Lt (.int a t) (.int c u)) Q E s)
section
open PySem.SeqAt
open PySem.AutoSeq1 (wpAny_loadPart')
open PySem.MeetsSeq PySem.MeetsSeq2 PySem.MeetsSeq3
theorem jFW(l b:Addr)(items items2:An)(n n2:Nat)(dd dd2:Option Addr)(sl sl2:Array (Ao))(ns ms:Ag)(hi:IntsAre items.toList ns)(hj:IntsAre items2.toList ms):
  Meets (Builtin.«tuple.__lt__» ⟨[.ref l,.ref b],[]⟩)
   (λ_ R s=>s.heap.get? l=some {cls:=.type "tuple",dict:=dd,data:=.seq items n,slots:=sl} /\s.heap.get? b=some {cls:=.type "tuple",dict:=dd2,data:=.seq items2 n2,slots:=sl2} /\
    R (.ok (.ret (.bool (lexLt ns ms)))) s):=
 .of_wp λprog w A R s h=>by
  obtain⟨hp,g,d,tk,os⟩:=s;obtain⟨hl,hb,h⟩:=h;have f2:=AutoSeq1.sub_tuple_tuple;have z1:items.size=ns.length:=by rw[<- hi.length];simp
  have z2:items2.size=ms.length:=by rw[<- hj.length];simp
  wp_walk using cS hl,cS hb,wpAny_forIn_list _ (λrest b s'=>b.1=none/\s'=⟨hp,g,d,tk,os⟩/\∃(vs ws:Al) (ns' ms':Ag),rest=vs.zip ws/\
   IntsAre vs ns'/\IntsAre ws ms'/\ns'.length+items2.size=ms'.length+items.size/\R (.ok (.ret (.bool (lexLt ns' ms')))) ⟨hp,g,d,tk,os⟩) _
  case turn=>
   rintro ⟨y,x⟩ rest b s' ⟨hb',rfl,vs,ws,ns',ms',hz,hvi,hwi,hlen,hR⟩;cases hvi with
   |nil=>rw[List.zip_nil_left] at hz;cases hz
   |cons a t hvi'=>
    cases hwi with
    |nil=>rw[List.zip_nil_right] at hz;cases hz
    |cons c u hwi'=>
     rw[fg] at hz;injection hz with hyx hrest;injection hyx with hy hx;subst hy hx;rw[lexLt_cons] at hR;simp only[aU] at hlen;obtain⟨e,he,hiff⟩:=jR6 A.in1 ⟨hp,g,d,tk,os⟩ a t c u;refine ae (he prog w _ _ ?_);cases e with
     |true=>
      rw[aA (hiff.mp rfl)] at hR
      wp_walk
      exact⟨rfl,rfl,_,_,_,_,hrest,hvi',hwi',Aa,hR⟩
     |false=>
      rw[az (λq=>absurd (hiff.mpr q) aC)] at hR;have hri:=rcLt_int A.in1 ⟨hp,g,d,tk,os⟩ a t c u prog w
      wp_walk using hri
      exact⟨_,rfl,by simpa using hR⟩
  case fin=>
   rintro ⟨b1,b2⟩ s' ⟨hb',rfl,vs,ws,ns',ms',hz,hvi,hwi,hlen,hR⟩;simp only at hb';subst hb';have hv:lexLt ns' ms'=decide (items.size<items2.size):=by
    cases hvi with
    |nil=>
     cases hwi with
     |nil=>
      simp only[cz] at hlen;rw[jGG];exact(aK Aa).symm
     |cons c u hw=>
      simp only[cz,aU] at hlen;rw[jEX];exact(ao Aa).symm
    |cons a t hv=>
     cases hwi with
     |nil=>
      simp only[cz,aU] at hlen;rw[jEY];exact(aK Aa).symm
     |cons c u hw=>
      rw[fg] at hz;cases hz
   rw[hv] at hR
   wp_walk
   exact⟨_,rfl,by simpa [Builtin.Tuple.tupleCompareSizes] using hR⟩
  case h=>
   exact⟨rfl,rfl,items.toList,items2.toList,ns,ms,rfl,hi,hj,Aa,h⟩
end
section
variable {prog:Program}{w:World}{A:Around}{E:Ah}{s:Shared}
def lt_tupInts{l b:Addr}{items items2:An}{ns ms:Ag}{Q:Ah}(hl:IsTup s.heap l items)(hb:IsTup s.heap b items2)(hi:IntsAre items.toList ns)(hj:IntsAre items2.toList ms)
  (hu:A.units<cLine) (h:Q (.bool (lexLt ns ms)) s):wpAny (model prog w) A (compareOp .Lt (.ref l) (.ref b)) Q E s:=by
 obtain⟨⟨cls,dd,data,sl⟩,ho,hc,n,hd⟩:=id hl;obtain⟨⟨cls2,dd2,data2,sl2⟩,ho2,hc2,n2,hd2⟩:=id hb;simp only at hc hd hc2 hd2;subst hc hd hc2 hd2;exact richCompare_meets_room (op:=.Lt) ⟨_,ho,rfl⟩ ⟨_,ho2,rfl⟩ PySem.F.slot_tuple_lt PySem.F.entry_tuple_lt (PySem.F.args_tuple_lt_2 _ _) (jFW l b items items2 n n2 dd dd2 sl sl2 ns ms hi hj)
  ⟨ho,ho2,show Value.bool (lexLt ns ms)≠Value.notImplemented/\Q (.bool (lexLt ns ms)) s from ⟨(λx=>nomatch x),h⟩⟩ hu
def cat_tup{t b:Addr}{vs ws:Al}{Q:Ah}(ht:IsTup s.heap t vs.toArray)(hb:IsTup s.heap b ws.toArray)(hv:vs≠[])
  (h1:ws=[]->Q (.ref t) s) (h2:ws≠[]->Q (.ref s.heap.objs.size) {s with heap:=s.heap.push {cls:=.type "tuple",data:=.seq (vs++ws).toArray}})
  (hsz:vs.length+ws.length<=sizeLine):wpAny (model prog w) A (binaryOp .Add (.ref t) (.ref b)) Q E s:=by
 obtain⟨⟨cls,dd,data,sl⟩,ho,hc,n,hd⟩:=id ht;obtain⟨⟨cls2,dd2,data2,sl2⟩,ho2,hc2,n2,hd2⟩:=id hb;simp only at hc hd hc2 hd2;subst hc hd hc2 hd2;have e:vs.toArray++ws.toArray=(vs++ws).toArray:=Ad;by_cases hw:ws=[]
 .exact concat_meets ⟨_,ho,rfl⟩ ⟨_,ho2,rfl⟩ jp seq_tuple_add gJ gF (gt _ _)
   (tuple_addW1 t b vs.toArray ws.toArray n n2 dd dd2 sl sl2 (by simpa using hv) (by simp[hw])) ⟨ho,ho2,h1 hw⟩
 .refine concat_meets ⟨_,ho,rfl⟩ ⟨_,ho2,rfl⟩ jp seq_tuple_add gJ gF (gt _ _)
   (tuple_addW2 t b vs.toArray ws.toArray n n2 dd dd2 sl sl2 (by simpa using hv) (by simpa using hw) (by rw[aq,aq];exact hsz)) ⟨ho,ho2,?_⟩
  rw[e];exact h2 hw
noncomputable def sIx(n d:Nat):Option Int->Nat
 |none=>d
 |some v=>if v<0 then (v+(n:Int)).toNat else min v.toNat n
end
end HT
namespace L2
open PySem PySem.Spec PyProof.Rows
variable {s:Shared}{xs:List V}{x:V}{v u:Value}{α:Type}{n:Nat}{A:Around}{i:Int}
abbrev TO:=St->Hp->(Option Int->Hp->Prop)->Prop
def PO(X:Cx)(e:Option Expr)(t:TO):Prop:=
 ∀(ma:Ai) (s:Shared) (σ:St) (H:Hp) (Q:Option Int->Hp->Prop),Inv X ma σ H s->t σ H Q->
  wpAny (model X.prog X.w) X.A (evalPart e X.env) (λu s'=>∃o H',Inv X ma σ H' s'/\IsPart u o/\Q o H') X.xe s
def jMK:TO:=λ_ H Q=>Q none H
def tPart(t:TE):TO:=λσ H Q=>t σ H λx H1=>∃i,x=.int i/\Q (some i) H1
def jM0{ns:Ag}:∀{us:Al},Vals (ns.map V.int) us->IntsAre us ns:=by
 induction ns with
 |nil=>intro us r;rw[dZ] at r;cases r;exact .nil
 |cons n ns ih=>
  intro us r;rw[bg] at r;cases r with
  |cons r1 r2=>
   obtain⟨t,e⟩:=r1;subst e;exact .cons n t (ih r2)
variable {X:Cx}{e:Expr}{pos:Pos}
section
variable {te:TE}{lo hi:Option Expr}{tl th:TO}{p2:Pos}
def jT9:PO X none jMK:=by
 intro ma s σ H Q I h;rw[evalPart_none];exact aj ⟨none,H,I,.none,h⟩
def jT8(h:PE X e te):PO X (some e) (tPart te):=by
 intro ma s σ H Q I hw;rw[evalPart_some];refine mo (h ma s σ H _ I hw) λu s1 ⟨x,H1,I1,r1,q1⟩=>?_;obtain⟨i,rfl,q⟩:=q1;obtain⟨t,rfl⟩:=r1;exact⟨some i,H1,I1,.int i t,q⟩
def SlR(X:Cx)(r:V->Option Int->Option Int->Hp->VK->Prop):Prop:=
 ∀(ma:Ai) (s:Shared) (σ:St) (H:Hp) (x:V) (v vl vu:Value) (lo hi:Option Int) (sl:Addr) (Q:VK),Inv X ma σ H s->RelV x v->s.heap.IsSliceOf sl vl vu .none->IsPart vl lo->IsPart vu hi->r x lo hi H Q->
  ∃T id,typeLookup (.type T) "__getitem__" =pure (some (.builtin id))/\s.TypeIs v T/\wpAny (model X.prog X.w) X.A (getItem v (.ref sl)) (EP X ma σ Q) X.xe s
def tSl(r:V->Option Int->Option Int->Hp->VK->Prop)(te:TE)(tl th:TO):TE:=λσ H Q=>te σ H λx H1=>tl σ H1 λl H2=>th σ H2 λu H3=>r x l u H3 Q
def jQB{r:V->Option Int->Option Int->Hp->VK->Prop}(hr:SlR X r)(he:PE X e te)(hl:PO X lo tl)(hu:PO X hi th):PE X (.Subscript e (.Slice lo hi none p2) pos) (tSl r te tl th):=by
 intro ma s σ H Q I h;refine Subscript_ (mo (he ma s σ H _ I h) λv s1 ⟨x,H1,I1,r1,q1⟩=>?_);refine wpAny_Slice (mo (hl ma s1 σ H1 _ I1 q1) λvl s2 ⟨l,H2,I2,pl,q2⟩=>mo (hu ma s2 σ H2 _ I2 q2) λvu s3 ⟨u,H3,I3,pu,q3⟩=>?_);rw[evalPart_none];refine aj ?_;have I4:Inv X ma σ H3 {s3 with heap:=s3.heap.push {cls:=.type "slice",data:=.fields #[vl,vu,.none]}}:=I3.kept (t':=s3.toks) λb ob q=>af _ q;obtain⟨T,id,hT,ht,hg⟩:=hr ma {s3 with heap:=s3.heap.push {cls:=.type "slice",data:=.fields #[vl,vu,.none]}} σ H3 x v vl vu l u s3.heap.objs.size Q I4 r1 (Heap.IsSliceOf.new ..) pl pu q3;show wpAny (model X.prog X.w) X.A (subscriptTail e (.Slice lo hi none p2) v (.ref s3.heap.objs.size)) (EP X ma σ Q) X.xe {s3 with heap:=s3.heap.push {cls:=.type "slice",data:=.fields #[vl,vu,.none]}};exact tail_any (ops:=[.ref s3.heap.objs.size,v]) ht hT hg (by with_unfolding_all rfl)
def cutV(xs:List V)(lo hi:Option Int):List V:=(xs.drop (HT.sIx xs.length 0 lo)).take (HT.sIx xs.length xs.length hi-HT.sIx xs.length 0 lo)
theorem jJK(xs:List V)(lo hi:Option Int):(cutV xs lo hi).length<=xs.length:=by
 unfold cutV;rw[bO,gZ];lia
def rCatT(K:W.Frag):R2:=λx y H Q=>∃a b xs ys,x=.ref a/\y=.ref b/\SqT K H a xs/\SqT K H b ys/\xs≠[]/\xs.length+ys.length<=sizeLine/\
 (ys=[]->Q (.ref a) H)/\(ys≠[]->∀p,H p=none->Q (.ref p) (upd H p (.tup (xs++ys))))
def Vals.nil_iff{us:Al}(r:Vals xs us):us=[]↔xs=[]:=by
 cases r with
 |nil=>simp
 |cons _ _=>simp
def jTP:OpR X (binaryOp .Add) (rCatT X.K):=by
 intro ma s σ H x y v u Q I rx ry h;obtain⟨a,b,xs,ys,rfl,rfl,ha,hb,hx,hz,q1,q2⟩:=h;cases rx;cases ry;obtain⟨its,r1,p1,_⟩:=I.tuple ha;obtain⟨its2,r2,p2,_⟩:=I.tuple hb;refine HT.cat_tup p1 p2 (λz=>hx (r1.nil_iff.mp z)) (λz=>⟨.ref a,H,I,rfl,q1 (r2.nil_iff.mp z)⟩) (λz=>?_) (by rw[<- r1.length,<- r2.length];exact hz);refine⟨.ref s.heap.objs.size,_,I.laid (t':=s.toks) (o:=.tup (xs++ys)) (λb ob q=>af _ q) (ar _) ?_,rfl,q2 (λw=>z (r2.nil_iff.mpr w)) _ (I.hok.fresh (ar _))⟩;exact⟨by rw[aI];exact hz,_,r1.append r2,TupO.new _ _⟩
end
noncomputable def ixN(n:Nat)(i:Int):Option Nat:=if 0<=i then (if i<n then some i.toNat else none) else if -(n:Int)<=i then some (i+n).toNat else none
def atI(xs:List α)(i:Int):Option α:=(ixN xs.length i).bind λj=>xs[j]?
theorem jOO{j:Nat}(h:ixN n i=some j):seqIndex? i n=some j/\j<n/\ -(n:Int)<=i/\i<n:=by
 unfold ixN at h;by_cases h0:0<=i
 .rw[aA h0] at h;by_cases h1:i<n
  .rw[aA h1] at h;have e:i.toNat=j:=bA h;exact⟨by rw[seqIndex_of h0 h1,e],Aa,Aa,h1⟩
  .rw[az h1] at h;cases h
 .rw[az h0] at h;by_cases h1: -(n:Int)<=i
  .rw[aA h1] at h;have e:(i+n).toNat=j:=bA h;exact⟨by rw[seqIndex_neg Aa h1,e],Aa,h1,Aa⟩
  .rw[az h1] at h;cases h
def jPO{xs:List α}{v:α}(h:atI xs i=some v):∃j,seqIndex? i xs.length=some j/\xs[j]?=some v/\j<xs.length/\ -(xs.length:Int)<=i/\i<xs.length:=by
 unfold atI at h;cases e:ixN xs.length i with
 |none=>rw[e] at h;cases h
 |some j=>
  rw[e] at h;obtain⟨h1,h2,h3,h4⟩:=jOO e;exact⟨j,h1,h,h2,h3,h4⟩
theorem jAN{α:Type}{xs:List α}{j:Nat}{v:α}(h:xs[j]?=some v):atI xs (j:Int)=some v:=by
 have hj:j<xs.length:=(am.mp h).1;have e:ixN xs.length (j:Int)=some j:=by
  unfold ixN;rw[aA Aa,aA Aa];simp
 unfold atI;rw[e];exact h
def jB1(b:Expr):Prop:=∀o i,subscripted b false o i=operate [o,i] (getItem o i)
def IxR(X:Cx)(r:R2):Prop:=
 ∀(value slice:Expr) (ma:Ai) (s:Shared) (σ:St) (H:Hp) (x y:V) (v u:Value) (Q:VK),Inv X ma σ H s->RelV x v->RelV y u->r x y H Q->
  subscripted slice false v u=operate [v,u] (getItem v u)->wpAny (model X.prog X.w) X.A (subscriptTail value slice v u) (EP X ma σ Q) X.xe s
def MtR(X:Cx)(id:String)(r:V->List V->Hp->VK->Prop):Prop:=
 ∀(ma:Ai) (s:Shared) (σ:St) (H:Hp) (x:V) (xs:List V) (v:Value) (us:Al) (Q:VK),Inv X ma σ H s->RelV x v->Vals xs us->r x xs H Q->
  wpAny (model X.prog X.w) X.A (call (.builtin id) (v::us)) (EP X ma σ Q) X.xe s
section
variable {a b:Expr}{ta tb:TE}
def pe_ix{r:R2}(hr:IxR X r)(ha:PE X a ta)(hb:PE X b tb)(hs:jB1 b):PE X (.Subscript a b pos) (tOp r ta tb):=by
 intro ma s σ H Q I h;exact Subscript_ (binT ha hb I h λv u s2 x y H2 I2 rx ry q=>hr a b ma s2 σ H2 x y v u Q I2 rx ry q (hs _ _))
def rIxL(K:W.Frag):R2:=λx y H Q=>∃p xs i v,x=.ref p/\y=.int i/\SqL K H p xs/\atI xs i=some v/\Q v H
def rIxT(K:W.Frag):R2:=λx y H Q=>∃p xs i v,x=.ref p/\y=.int i/\SqT K H p xs/\atI xs i=some v/\Q v H
theorem jBT:IxR X (rIxL X.K):=by
 intro value slice ma s σ H x y v u Q I rx ry h hs;obtain⟨p,xs,i,z,rfl,rfl,hq,he,q⟩:=h;cases rx;obtain⟨t,rfl⟩:=ry;obtain⟨its,r,pl,hz⟩:=I.list hq;obtain⟨j,h1,h2,h3,h4,h5⟩:=jPO he;obtain⟨w,ew,rw'⟩:=r.get h2;have hl:=r.length;have hn:=jHQ;have fin:EP X ma σ Q w s:=⟨z,H,I,rw',q⟩;by_cases h0:0<=i
 .have hj:i.toNat=j:=by
   rw[seqIndex_of h0 h5] at h1;exact bA h1
  exact item_listR pl.isList h0 Aa (by rw[hj];simpa using ew) fin hs
 .have hj:(i+(its.toArray.size:Int)).toNat=j:=by
   rw[seqIndex_neg Aa h4] at h1;rw[aq,<- hl];exact bA h1
  exact subscriptTail_builtinR (x:=w) pl.isList.typeIs slot_list_getitem.lookup
   (wpAny_getItem_list_neg (Q:=λr s'=>r=w/\EP X ma σ Q r s') pl.isList Aa (by rw[aq]<;>lia) Aa (by rw[hj];simpa using ew) ⟨rfl,fin⟩) hs
theorem kP:IxR X (rIxT X.K):=by
 intro value slice ma s σ H x y v u Q I rx ry h hs;obtain⟨p,xs,i,z,rfl,rfl,hq,he,q⟩:=h;cases rx;obtain⟨t,rfl⟩:=ry;obtain⟨its,r,pl,hz⟩:=I.tuple hq;obtain⟨j,h1,h2,h3,h4,h5⟩:=jPO he;obtain⟨w,ew,rw'⟩:=r.get h2;have hl:=r.length;have hn:=jHQ;have fin:EP X ma σ Q w s:=⟨z,H,I,rw',q⟩;exact subscriptTail_builtinR (x:=w) pl.typeIs slot_tuple_getitem.lookup
  (getItem_tuple (j:=j) (Q:=λr s'=>r=w/\EP X ma σ Q r s') pl Aa Aa (by rw[aq,<- hl];exact h1) (by simpa using ew) ⟨rfl,fin⟩) hs
def jLT(its:Al)(n j:Nat)(u:Value):Obj.mapSeq (·.setIfInBounds j u) {cls:=.type "list",data:=.seq its.toArray n} = {cls:=.type "list",data:=.seq (its.set j u).toArray n}:=by
 simp[Obj.mapSeq]
def Inv.lst{ma:Ai}{σ:St}{H:Hp}{s:Shared}{p:Addr}{xs:List V}(I:Inv X ma σ H s)(h:H p=some (.lst xs)):
  ∃(its:Al) (n:Nat),Vals xs its/\s.heap.get? p=some {cls:=.type "list",data:=.seq its.toArray n} /\xs.length<=sizeLine:=by
 obtain⟨z,its,n,r,e⟩:=I.hok p _ h;exact⟨its,n,r,e,z⟩
def Inv.lstUpd{ma:Ai}{σ:St}{H:Hp}{p:Addr}{ys:List V}{its its':Al}{n':Nat}{f:Obj->Obj}(I:Inv X ma σ H s)(h:H p=some (.lst xs))
  (ho:s.heap.get? p=some {cls:=.type "list",data:=.seq its.toArray n}) (hf:f {cls:=.type "list",data:=.seq its.toArray n} = {cls:=.type "list",data:=.seq its'.toArray n'}) (r:Vals ys its') (hz:ys.length<=sizeLine) (t:Nat):
  Inv X ma σ (upd H p (.lst ys)) {s with heap:=s.heap.update p f,toks:=t}:=by
 have e:(s.heap.update p f).get? p=some {cls:=.type "list",data:=.seq its'.toArray n'}:=by
  rw[cx f ho (by rw[hf]<;>rfl),hf]
 refine I.write (x:=p) (e:=p) (by rw[h];trivial) (.inl rfl) (λb u hb q=>(bi _ _ (cZ hb)).trans q) ⟨_,e⟩ ?_;exact⟨hz,its',n',r,e⟩
def rSetL:V->V->V->Hp->(Hp->Prop)->Prop:=λo i v H Q=>∃p xs k j,o=.ref p/\i=.int k/\H p=some (.lst xs)/\ixN xs.length k=some j/\Q (upd H p (.lst (xs.set j v)))
theorem jQ0:PSet X rSetL:=by
 intro ma s σ H o i v ov iv u Q I ro ri rv h;obtain⟨p,xs,k,j,rfl,rfl,hp,hj,q⟩:=h;cases ro;obtain⟨t,rfl⟩:=ri;obtain⟨its,n,r,ho,hz⟩:=I.lst hp;obtain⟨h1,h2,h3,h4⟩:=jOO hj;have hl:=r.length;have hn:=jHQ;have I':Inv X ma σ (upd H p (.lst (xs.set j v))) {s with heap:=s.heap.update p (Obj.mapSeq (·.setIfInBounds j u))}:=
  I.lstUpd hp ho (jLT its n j u) (r.set rv j) (by rw[im];exact hz) s.toks
 by_cases h0:0<=k
 .have hk:k.toNat=j:=by
   rw[seqIndex_of h0 h4] at h1;exact bA h1
  exact PySem.W.ki_setAt ho h0 Aa (by rw[aq,<- hl];exact h4) (by rw[hk];exact⟨_,I',q⟩)
 .have hk:(k+(its.toArray.size:Int)).toNat=j:=by
   rw[seqIndex_neg Aa h3] at h1;rw[aq,<- hl];exact bA h1
  exact PySem.W.ki_setBack ho Aa (by rw[aq,<- hl];exact h3) Aa (by rw[hk];exact⟨_,I',q⟩)
theorem jH8(lo hi:Option Int)(n:Nat):(sliceBounds lo hi none n).1=((HT.sIx n 0 lo:Nat):Int)/\(sliceBounds lo hi none n).2.1=((HT.sIx n n hi:Nat):Int)/\(sliceBounds lo hi none n).2.2=1:=by
 refine⟨?_,?_,rfl⟩
 .cases lo with
  |none=>simp[sliceBounds,HT.sIx]
  |some i=>
   simp only[sliceBounds,HT.sIx,getD_none,show (1:Int)>0 by decide,lE];by_cases h:i<0
   .simp only[h,lE]<;>lia
   .simp only[h,iN]<;>lia
 .cases hi with
  |none=>simp[sliceBounds,HT.sIx]
  |some i=>
   simp only[sliceBounds,HT.sIx,getD_none,show (1:Int)>0 by decide,lE];by_cases h:i<0
   .simp only[h,lE]<;>lia
   .simp only[h,iN]<;>lia
def jFZ(its:Al)(lo hi:Option Int):slicePick its.toArray lo hi none=((its.drop (HT.sIx its.length 0 lo)).take (HT.sIx its.length its.length hi-HT.sIx its.length 0 lo)).toArray:=by
 obtain⟨h1,h2,h3⟩:=jH8 lo hi its.toArray.size;unfold slicePick;rw[h1,h2,h3];simp only[sliceRange_one,pick_run,aq]<;>rfl
def rSlL(K:W.Frag):V->Option Int->Option Int->Hp->VK->Prop:=λx lo hi H Q=>∃a xs,x=.ref a/\SqL K H a xs/\∀p,H p=none->Q (.ref p) (upd H p (.lst (cutV xs lo hi)))
theorem jMU:SlR X (rSlL X.K):=by
 intro ma s σ H x v vl vu lo hi sl Q I rx hs pl pu h;obtain⟨a,xs,rfl,hx,q⟩:=h;cases rx;obtain⟨its,r,ht,hz⟩:=I.list hx;have hlen:=r.length;refine⟨"list",_,slot_list_getitem.lookup,ht.isList.typeIs,?_⟩;refine wpAny_getItem_list_slice ht.isList hs pl pu .none Ad ?_ (by rw[aq]<;>lia);rw[jFZ,<- hlen];refine⟨.ref s.heap.objs.size,_,I.laid (t':=s.toks) (o:=.lst (cutV xs lo hi)) (λb ob q=>af _ q) (ar _) ?_,rfl,q _ (I.hok.fresh (ar _))⟩;exact⟨bh (jJK xs lo hi) hz,_,0,(r.drop (HT.sIx xs.length 0 lo)).take (HT.sIx xs.length xs.length hi-HT.sIx xs.length 0 lo),aw _ rfl⟩
def flatV:V->Bool
 | .non=>true
 | .bl _=>true
 | .int _=>true
 | .str _=>true
 |_=>false
noncomputable def eqV:V->V->Bool
 | .non,.non=>true
 | .bl a,.bl b=>a==b
 | .bl a,.int b=>(if a then 1 else 0)==b
 | .int a,.bl b=>a==(if b then 1 else 0)
 | .int a,.int b=>a==b
 | .str a,.str b=>a==b
 |_,_=>false
def jSM{y:V}(ry:RelV y u)(rx:RelV x v)(fy:flatV y=true)(fx:flatV x=true):SeqAt.EqAt A s u v (eqV y x):=by
 cases y with
 |non=>
  cases ry;cases x with
  |non=>cases rx;exact SeqAt.EqAt.same _
  |bl b=>cases rx;exact SeqAt.EqAt.none_bool b
  |int b=>obtain⟨t,rfl⟩:=rx;exact SeqAt.EqAt.none_int b t
  |str b=>obtain⟨t,rfl⟩:=rx;exact SeqAt.EqAt.none_str b t
  |_=>exact absurd (show false=true from fx) aC
 |bl a=>
  cases ry;cases x with
  |non=>cases rx;exact SeqAt.EqAt.bool_none a
  |bl b=>cases rx;exact SeqAt.EqAt.bool_bool a b
  |int b=>obtain⟨t,rfl⟩:=rx;exact SeqAt.EqAt.bool_int a b t
  |str b=>obtain⟨t,rfl⟩:=rx;exact SeqAt.EqAt.bool_str a b t
  |_=>exact absurd (show false=true from fx) aC
 |int a=>
  obtain⟨t',rfl⟩:=ry;cases x with
  |non=>cases rx;exact SeqAt.EqAt.int_none a t'
  |bl b=>cases rx;exact SeqAt.EqAt.int_bool a t' b
  |int b=>obtain⟨t,rfl⟩:=rx;exact gz a t' b t
  |str b=>obtain⟨t,rfl⟩:=rx;exact SeqAt.EqAt.int_str a t' b t
  |_=>exact absurd (show false=true from fx) aC
 |str a=>
  obtain⟨t',rfl⟩:=ry;cases x with
  |non=>cases rx;exact SeqAt.EqAt.str_none a t'
  |bl b=>cases rx;exact SeqAt.EqAt.str_bool a t' b
  |int b=>obtain⟨t,rfl⟩:=rx;exact SeqAt.EqAt.str_int a t' b t
  |str b=>obtain⟨t,rfl⟩:=rx;exact SeqAt.EqAt.str_str a t' b t
  |_=>exact absurd (show false=true from fx) aC
 |_=>exact absurd (show false=true from fy) aC
noncomputable def eqU(x:V)(u:Value):Bool:=match u with
 | .none=>eqV .non x
 | .bool b=>eqV (.bl b) x
 | .int i _=>eqV (.int i) x
 | .str z _=>eqV (.str z) x
 |_=>false
def jSL{y:V}(r:RelV y u)(f:flatV y=true):eqU x u=eqV y x:=by
 cases y with
 |non=>cases r;rfl
 |bl b=>cases r;rfl
 |int i=>obtain⟨t,rfl⟩:=r;rfl
 |str z=>obtain⟨t,rfl⟩:=r;rfl
 |_=>exact absurd (show false=true from f) aC
def jEW:∀{xs:List V}{us:Al},Vals xs us->xs.all flatV=true->us.any (eqU x)=xs.any λy=>eqV y x
 |_,_,.nil,_=>rfl
 |y::xs,u::us,.cons r t,f=>by
  rw[jh,bJ] at f;rw[g7,g7,jSL r f.1,jEW t f.2]
def jC5(rx:RelV x v)(fx:flatV x=true):∀{xs:List V}{us:Al},Vals xs us->xs.all flatV=true->∀u∈us,SeqAt.EqAt A s u v (eqU x u)
 |_,_,.nil,_=>λu hu=>by cases hu
 |y::xs,u::us,.cons r t,f=>λu' hu=>by
  rw[jh,bJ] at f;rcases aB.mp hu with rfl|hu
  .rw[jSL r f.1];exact jSM r rx f.1 fx
  .exact jC5 rx fx t f.2 u' hu
def inV(x:V)(xs:List V):Bool:=xs.any λy=>eqV y x
def rIn(K:W.Frag)(neg:Bool):R2:=λx y H Q=>∃p xs,y=.ref p/\(SqL K H p xs\/SqT K H p xs)/\flatV x=true/\xs.all flatV=true/\Q (.bl (if neg then !inV x xs else inV x xs)) H
def jE4:OpR X (compareOp .In) (rIn X.K false):=by
 intro ma s σ H x y v u Q I rx ry h;obtain⟨p,xs,rfl,hq,fx,fs,q⟩:=h;cases ry;rcases hq with hq|hq
 .obtain⟨its,r,pl,hz⟩:=I.list hq;refine SeqAt.in_listAt (eqU x) pl.isList (λw hw=>jC5 rx fx r fs w (by simpa using hw)) ⟨.bl _,H,I,rfl,?_⟩;rw[show its.toArray.any (eqU x)=its.any (eqU x) by simp,jEW r fs];exact q
 .obtain⟨its,r,pl,hz⟩:=I.tuple hq;refine SeqAt.in_tupleAt (eqU x) pl (λw hw=>jC5 rx fx r fs w (by simpa using hw)) ⟨.bl _,H,I,rfl,?_⟩;rw[show its.toArray.any (eqU x)=its.any (eqU x) by simp,jEW r fs];exact q
def jHI:OpR X (compareOp .NotIn) (rIn X.K true):=by
 intro ma s σ H x y v u Q I rx ry h;obtain⟨p,xs,rfl,hq,fx,fs,q⟩:=h;cases ry;rcases hq with hq|hq
 .obtain⟨its,r,pl,hz⟩:=I.list hq;refine SeqAt.notIn_listAt (eqU x) pl.isList (λw hw=>jC5 rx fx r fs w (by simpa using hw)) ⟨.bl _,H,I,rfl,?_⟩;rw[show its.toArray.any (eqU x)=its.any (eqU x) by simp,jEW r fs];exact q
 .obtain⟨its,r,pl,hz⟩:=I.tuple hq;refine SeqAt.notIn_tupleAt (eqU x) pl (λw hw=>jC5 rx fx r fs w (by simpa using hw)) ⟨.bl _,H,I,rfl,?_⟩;rw[show its.toArray.any (eqU x)=its.any (eqU x) by simp,jEW r fs];exact q
theorem jA0:yQ X (.builtin "len") (λxs H Q=>∃p ys,xs=[.ref p]/\(SqL X.K H p ys\/SqT X.K H p ys)/\Q (.int ys.length) H):=by
 intro ma s σ H xs us Q I r h;obtain⟨p,ys,rfl,hq,q⟩:=h;obtain⟨u,rfl,rx⟩:=vals1 r;cases rx;have hn:=jHQ;rcases hq with hq|hq
 .obtain⟨its,r',pl,hz⟩:=I.list hq;have hlen:=r'.length;exact Calls.call_len_list pl.isList (by simp only[aq]<;>lia) ⟨.int ys.length,H,I.tok _,⟨s.toks+1,by rw[aq,hlen]⟩,q⟩
 .obtain⟨its,r',pl,hz⟩:=I.tuple hq;have hlen:=r'.length;exact len_tuple pl (by simp only[aq]<;>lia) ⟨.int ys.length,H,I.tok _,⟨s.toks+1,by rw[aq,hlen]⟩,q⟩
theorem jV:yQ X (.type "tuple") (λxs H Q=>∃p ys,xs=[.ref p]/\((SqL X.K H p ys/\∀l,H l=none->Q (.ref l) (upd H l (.tup ys)))\/(SqT X.K H p ys/\Q (.ref p) H))):=by
 intro ma s σ H xs us Q I r h;obtain⟨p,ys,rfl,h⟩:=h;obtain⟨u,rfl,rx⟩:=vals1 r;cases rx;rcases h with ⟨hq,q⟩|⟨hq,q⟩
 .obtain⟨its,r',pl,hz⟩:=I.list hq;have hlen:=r'.length;refine call_tuple_list pl.isList (λh' kp=>?_) (by simp only[aq]<;>lia);have I1:Inv X ma σ H {s with heap:=h'}:=I.kept (t':=s.toks) kp;have I2:Inv X ma σ (upd H h'.objs.size (.tup ys)) {s with heap:=h'.push {cls:=.type "tuple",data:=.seq its.toArray}}:=
   I1.laid (t':=s.toks) (λb o e=>af _ e) (ar _) (show ObjOk X.prog X.w _ _ _ (.tup ys) from ⟨hz,its,r',TupO.new _ _⟩)
  exact⟨.ref h'.objs.size,_,I2,rfl,q _ (I1.hok.fresh (ar _))⟩
 .obtain⟨its,r',pl,hz⟩:=I.tuple hq;exact call_tuple_same pl ⟨.ref p,H,I,rfl,q⟩
def tyV(K:W.Frag)(T:String)(x:V)(H:Hp):Prop:=match x with
 | .str _=>T= "str"
 | .int _=>T= "int"
 | .ref p=>(T= "list" /\∃xs,SqL K H p xs)\/(T= "tuple" /\∃o,K.lookup p=some o/\o.cls=.type "tuple" /\o.dict=none)\/
   (T= "dict" /\((∃kvs,H p=some (.dK kvs))\/∃kvs,H p=some (.dT kvs)))\/(T= "set" /\∃S n,H p=some (.set S n))
 |_=>False
def jMD{ma:Ai}{σ:St}{H:Hp}{T:String}(I:Inv X ma σ H s)(r:RelV x v)(ty:tyV X.K T x H):
  s.TypeIs v T/\∀a,v=.ref a->∃ob,s.heap.get? a=some ob/\ob.dict=none:=by
 cases x with
 |str z=>
  obtain⟨t,rfl⟩:=r;cases (show T= "str" from ty);exact⟨typeIs_str s z t,λ_ e=>nomatch e⟩
 |int i=>
  obtain⟨t,rfl⟩:=r;cases (show T= "int" from ty);exact⟨typeIs_int s i t,λ_ e=>nomatch e⟩
 |ref p=>
  cases r;rcases ty with ⟨rfl,xs,hq⟩|⟨rfl,o,hk,hc,hd⟩|⟨rfl,hk⟩|⟨rfl,S,n,hk⟩
  .obtain⟨its,_,pl,_⟩:=I.list hq;refine⟨pl.isList.typeIs,λa e=>?_⟩;cases e;obtain⟨o,n,e,c,hd,_⟩:=pl;exact⟨o,e,hd⟩
  .refine⟨⟨o,I.kIn p o hk,hc⟩,λa e=>?_⟩;cases e;exact⟨o,I.kIn _ o hk,hd⟩
  .have z:∃o,s.heap.get? p=some o/\o.ExactDict:=by
    rcases hk with ⟨kvs,hk⟩|⟨kvs,hk⟩
    .obtain⟨_,_,_,_,o,_,_,e,ex,_⟩:=I.hok p _ hk;exact⟨o,e,ex⟩
    .obtain⟨_,_,_,_,o,_,_,e,ex,_⟩:=I.hok p _ hk;exact⟨o,e,ex⟩
   obtain⟨o,e,ex⟩:=z;refine⟨⟨o,e,ex.1⟩,λa e2=>?_⟩;cases e2;exact⟨o,e,ex.2.1⟩
  .obtain⟨o,_,_,_,e,ex,_⟩:=I.hok p _ hk;refine⟨⟨o,e,ex.1⟩,λa e2=>?_⟩;cases e2;exact⟨o,e,ex.2.1⟩
 |_=>exact False.elim ty
def tBM0(K:W.Frag)(T:String)(r:V->List V->Hp->VK->Prop)(to:TE):TE:=λσ H Q=>to σ H λx H1=>tyV K T x H1/\r x [] H1 Q
def tBM(K:W.Frag)(T:String)(r:V->List V->Hp->VK->Prop)(to:TE)(t:TA):TE:=λσ H Q=>to σ H λx H1=>tyV K T x H1/\t σ H1 λxs H2=>r x xs H2 Q
variable {o:Expr}{es:List Expr}{to:TE}{t:TA}{name:Str}{apos cpos:Pos}{T id:String}{r:V->List V->Hp->VK->Prop}
def jVT(pa:PlainAttrs T)(slot:Slot T name id)(hty:typeOf (.builtin id)=pure (.type "method_descriptor"))(hm:MtR X id r)(ho:PE X o to)
  (hbase:attributeBase o name X.env (eval o X.env)=eval o X.env:=by rfl) (hline:(apos.endLine==cpos.line)=true:=by rfl):PE X (.Call (.Attribute o name apos) [] [] cpos) (tBM0 X.K T r to):=by
 intro ma s σ H Q I h;refine wpAny_Call_method0_late hbase hline (mo (ho ma s σ H _ I h) λv s1 ⟨x,H1,I1,r1,ty,q1⟩=>?_);obtain⟨h1,h2⟩:=jMD I1 r1 ty;exact⟨T,id,pa,slot,hty,h1,h2,gL rfl (PySem.evalArgs_none (hm ma s1 σ H1 x [] v [] Q I1 r1 .nil q1))⟩
theorem pe_bm(pa:PlainAttrs T)(slot:Slot T name id)(hty:typeOf (.builtin id)=pure (.type "method_descriptor"))(hm:MtR X id r)(ho:PE X o to)(ha:PA X (e::es) t)
  (hbase:attributeBase o name X.env (eval o X.env)=eval o X.env:=by rfl)
  (hfew:((backTo cpos (starEach (e::es) X.env)).all (λx=>!x.1)&&(backToKw cpos (keywordEach [] X.env)).all (λx=>x.1.isSome)
   &&decide ((e::es).length+([]:List Keyword).length+(if ([]:List Keyword).isEmpty then 0 else 1)<30))=true:=by rfl)
  (hline:(apos.endLine==cpos.line)=true:=by rfl) (hs:starEach (e::es) X.env=(false,eval e X.env)::starEach es X.env:=by rfl) (hplain:(backTo cpos (starEach es X.env)).any (·.1)=false:=by rfl):
  PE X (.Call (.Attribute o name apos) (e::es) [] cpos) (tBM X.K T r to t):=by
 intro ma s σ H Q I h;refine wpAny_Call_method_late hbase hfew hline rfl (mo (ho ma s σ H _ I h) λv s1 ⟨x,H1,I1,r1,ty,q1⟩=>?_);obtain⟨h1,h2⟩:=jMD I1 r1 ty;refine⟨T,id,pa,slot,hty,h1,h2,?_⟩;have hA:=ha cpos ma s1 σ H1 _ I1 q1;rw[hs] at hA ⊢;refine gL (by show (false || (backTo cpos (starEach es X.env)).any (·.1))=false;rw[hplain]<;>rfl) (dP ?_);exact mo hA λus s2 ⟨vs,H2,I2,r2,q2⟩=>hm ma s2 σ H2 x vs v us Q I2 r1 r2 q2
/- xs.append(e),list.index on a module's tuple .. are MtR facts of 06m -/
end
def MtM(X:Cx)(id:String)(r:V->List V->Hp->VK->Prop):Prop:=
 ∀(ma:Ai) (s:Shared) (σ:St) (H:Hp) (x:V) (xs:List V) (v:Value) (us:Al) (Q:VK),Inv X ma σ H s->RelV x v->Vals xs us->r x xs H Q->
  wpAny (model X.prog X.w) X.A (call (.builtin id) (v::us)) (EP X ma σ Q) X.xe s
def Vals.one:∀{x:V}{us:Al},Vals [x] us->∃u,us=[u]/\RelV x u
 |_,_,.cons r .nil=>⟨_,rfl,r⟩
def Vals.two:∀{x y:V}{us:Al},Vals [x,y] us->∃u v,us=[u,v]/\RelV x u/\RelV y v
 |_,_,_,.cons r (.cons q .nil)=>⟨_,_,rfl,r,q⟩
def Vals.zero:∀{us:Al},Vals [] us->us=[]
 |_,.nil=>rfl
def Vals.dropLast{us:Al}(h:Vals xs us):Vals xs.dropLast us.dropLast:=by
 induction h with
 |nil=>exact .nil
 |cons r t ih=>
  cases t with
  |nil=>exact .nil
  |cons q t'=>exact .cons r ih
theorem jM3(l:List α):l.eraseIdx (l.length-1)=l.dropLast:=by
 induction l with
 |nil=>rfl
 |cons a r ih=>
  cases r with
  |nil=>rfl
  |cons b r=>
   have e:(a::b::r).length-1=((b::r).length-1)+1:=by
    have h1:(a::b::r).length=r.length+2:=rfl;have h2:(b::r).length=r.length+1:=rfl;lia
   rw[e,List.eraseIdx_cons_succ,ih]
   all_goals rfl
variable {s:Shared}
section
variable {ma:Ai}{σ:St}{H:Hp}{l b:Addr}{xs ys zs:List V}
def Inv.lset{its its':Al}{n:Nat}{f:An->An}{t':Nat}(I:Inv X ma σ H s)(hH:H l=some (.lst xs))
  (e:s.heap.get? l=some {cls:=.type "list",data:=.seq its.toArray n}) (hf:f its.toArray=its'.toArray) (hv:Vals ys its') (hz:ys.length<=sizeLine):
  Inv X ma σ (upd H l (.lst ys)) {s with heap:=s.heap.update l (Obj.mapSeq f),toks:=t'}:=by
 have q:=PySem.IsL.update e f;rw[hf] at q;refine I.write (x:=l) (e:=l) (by rw[hH];exact trivial) (.inl rfl) (λb' u hb hu=>(bi s.heap (Obj.mapSeq f) (cZ hb)).trans hu) ⟨_,q⟩ ?_;exact⟨hz,its',_,hv,q⟩
def Inv.lnew{its:Al}{t':Nat}(I:Inv X ma σ H s)(hv:Vals ys its)(hz:ys.length<=sizeLine):
  Inv X ma σ (upd H s.heap.objs.size (.lst ys)) {s with heap:=s.heap.push {cls:=.type "list",data:=.seq its.toArray},toks:=t'}:=
 I.laid (λ_ _ q=>af _ q) (ar _) ⟨hz,its,0,hv,aw _ rfl⟩
def Inv.fresh(I:Inv X ma σ H s):H s.heap.objs.size=none:=I.hok.fresh (ar _)
def Inv.lstM(I:Inv X ma σ H s)(hH:H l=some (.lst xs)):xs.length<=sizeLine/\∃(its:Al) (n:Nat),Vals xs its/\xs.length=its.length/\s.heap.get? l=some {cls:=.type "list",data:=.seq its.toArray n}:=by
 obtain⟨z,its,n,r,e⟩:=I.hok l _ hH;exact⟨z,its,n,r,r.length,e⟩
theorem jQL(h:n<=sizeLine):Builtin.List.listTooLong n=false:=by
 unfold Builtin.List.listTooLong;exact aK Aa
end
def jT0:V->List V->Hp->VK->Prop:=λx vs H Q=>∃l xs y,x=.ref l/\vs=[y]/\H l=some (.lst xs)/\xs.length<sizeLine/\Q .non (upd H l (.lst (xs++[y])))
theorem jA4:MtM X "list.append" jT0:=by
 intro ma s σ H x vs v us Q I rx rv h;obtain⟨l,xs,y,rfl,rfl,hH,hz,q⟩:=h;cases rx;obtain⟨u,rfl,ru⟩:=rv.one;obtain⟨z,its,n,r,hl,e⟩:=I.lstM hH;refine jx F.slot_list_append ⟨_,e,rfl⟩ F.entry_list_append (F.args_list_append_2 _ _) (PySem.list_append l its.toArray n u (by rw[aq];lia)) ⟨e,?_⟩;refine⟨.non,_,I.lset (its':=its++[u]) hH e Ad (r.append (.cons ru .nil)) ?_,rfl,q⟩;rw[aI,gX];lia
def rPop:V->List V->Hp->VK->Prop:=λx vs H Q=>∃l xs y,x=.ref l/\vs=[]/\H l=some (.lst xs)/\xs[xs.length-1]?=some y/\Q y (upd H l (.lst xs.dropLast))
theorem jWB:MtM X "list.pop" rPop:=by
 intro ma s σ H x vs v us Q I rx rv h;obtain⟨l,xs,y,rfl,rfl,hH,hy,q⟩:=h;cases rx;have hus:=rv.zero;subst hus;obtain⟨z,its,n,r,hl,e⟩:=I.lstM hH;obtain⟨u,hu,ru⟩:=r.get hy;have hy':its.toArray[its.toArray.size-1]?=some u:=by
  show its.toArray[its.length-1]?=some u;rw[<- bR,<- hl];exact hu
 refine jx F.slot_list_pop ⟨_,e,rfl⟩ F.entry_list_pop (F.args_list_pop_1 _) (MeetsSeq.list_pop_last l its.toArray n u hy' (by rw[aq];lia)) ⟨e,?_⟩;refine⟨y,_,I.lset (its':=its.dropLast) hH e ?_ r.dropLast ?_,ru,q⟩
 .show its.toArray.eraseIdxIfInBounds (its.toArray.size-1)=its.dropLast.toArray;rw[aq,List.eraseIdxIfInBounds_toArray,jM3]
 .rw[List.length_dropLast];lia
def rCat:R2:=λx y H Q=>∃l b xs zs,x=.ref l/\y=.ref b/\H l=some (.lst xs)/\H b=some (.lst zs)/\xs.length+zs.length<=sizeLine/\∀p,H p=none->Q (.ref p) (upd H p (.lst (xs++zs)))
theorem jVY:OpR X (binaryOp .Add) rCat:=by
 intro ma s σ H x y v u Q I rx ry h;obtain⟨l,b,xs,zs,rfl,rfl,hH,hB,hz,q⟩:=h;cases rx;cases ry;obtain⟨z,its,n,r,hl,e⟩:=I.lstM hH;obtain⟨z2,its2,n2,r2,hl2,e2⟩:=I.lstM hB;refine PySem.P.add_list e e2 ?_ (by rw[aq,aq];lia);have ea:its.toArray++its2.toArray=(its++its2).toArray:=Ad;rw[ea];exact⟨.ref _,_,I.lnew (t':=s.toks) (r.append r2) (by rw[aI];lia),rfl,q _ I.fresh⟩
section
variable {prog:Program}{w:World}{A:Around}{E:Ah}
set_option maxRecDepth 100000 in
end
end L2
namespace Att
open PySem PySem.W PySem.Calls PyProof.Rows
variable {l:OpenLaw}{P:Params}{h:Heap}{n:Nat}
def jEK:∀(ns:Ag) (vs:Al),WellAll P h vs (ns.map WData.int)->IntsAre vs ns:=by
 intro ns
 induction ns with
 |nil=>
  intro vs w;rw[dZ] at w;cases w;exact .nil
 |cons n ns ih=>
  intro vs w;rw[bg] at w;cases w with
  |cons a b=>
   cases a;exact .cons _ _ (ih _ b)
theorem jMX(hn:l.most=some n){args:List WData}{vals:Al}
  (hpre:l.row.toRowW.claim.pre args=true) (hwl:WellAll P h vals args):
  ∃a vs ns,vals=[Value.ref a]/\args=[WData.list (ns.map WData.int)]/\h.get? a=some {cls:=.type "list",data:=.seq vs.toArray} /\IntsAre vs ns/\ns.length<=n:=by
 have hsh:WShape.hasAll [] args [.list .int]=true:=(pre_splitW hpre).1;have hc:l.pre.holds [] {args:=args} =true:=(pre_splitW hpre).2;obtain⟨d,r,rfl,h1,h2⟩:=hasAllW_cons hsh;obtain rfl:=hasAllW_nil h2;obtain⟨xs,rfl,h3⟩:=hasW_list h1;obtain⟨ns,rfl⟩:=items_int h3;have hlen:ns.length<=n:=by
  unfold OpenLaw.pre at hc;have h4:(WTm.not (.lt (.lit (.int (n:Int))) (.len (.arg 0)))).holds [] {args:=[.list (ns.map .int)]} =true:=by
   have h4:=(holds_andW hc).1;rw[hn] at h4;exact h4
  have h5:=condW_of h4 (w_not (w_lt w_lit (w_len_list (w_arg rfl))));rw[ag] at h5;refine Nat.le_of_not_lt λq=>?_;have q':(n:Int)<((ns.length:Nat):Int):=Aa
  first
   | (rw[ao q'] at h5;exact absurd h5 Ac)
   | (simp at h5;lia)
 cases hwl with
 |cons w1 w2=>
  cases w2;cases w1 with
  |list ho hall=>exact⟨_,_,ns,rfl,rfl,ho,jEK ns _ hall,hlen⟩
theorem jN4(l:OpenLaw)(args:List WData):l.row.toRowW.claim.post args (.bool true) args=true:=
 postW_of (r:=l.row.toRowW) (X:=(true==true))
  (show WShape.has [] (.bool true) .bool=true by first|rfl|decide|simp[WShape.has,WShape.arms,WShape.armsAll])
  (show (WTm.eq .res (.lit (.bool true))).value [] {args:=args,res:=some (.bool true),after:=args} =some (.bool (true==true)) from w_eq_bool (w_res rfl) w_lit) rfl
def attach_call{q:Program}{loose:Am}{XP:(Ak)->Heap->Prop}{YP:World->Heap->Prop}{d:DefRec}
  (hn:l.most=some n) (hdf:d.params.defaults=[])
  (call:∀(w:World) (s₀ s₁:Shared) (mg mb:Ak) (fa:Addr) (o:Obj) (pm cd doc:Value) (a:Addr) (vs:Al) (ns:Ag),
   Ground q loose [] XP w s₀ mg mb s₁.heap->YP w s₁.heap->
   s₁.heap.get? fa=some o->o.data=.func (docDef d.name d.params d.body d.scope pm cd doc)->s₁.heap.CodeRec cd d.name->mg d.name=some (.ref fa)->
   s₁.heap.get? a=some {cls:=.type "list",data:=.seq vs.toArray} ->IntsAre vs ns->ns.length<=n->s₁.gens=#[]->
   codeAny (model l.prog w) callerA (.call (.ref fa) ⟨[.ref a],[]⟩) (λr s'=>r=.ok (.ret (.bool true))/\OldK s₁.heap s'.heap/\s'.os=s₁.os/\AllBare s'.gens) s₁):
  WalkO q loose XP YP l.row.toRowW d [] (λf vs=>PySem.call f vs):=by
 intro w s₀ s₁ mg mb G Y fa o pm cd doc dV kV ho hd hcd hD hmg hg args vals as hpre hlay hrd hwl hlo;obtain rfl:dV=.none:=Dflts.none hD hdf;obtain rfl:kV=.none:=Dflts.noKw hD;obtain⟨a,vs,ns,rfl,rfl,hobj,hints,hlen⟩:=jMX hn hpre hwl;refine enter_call (df (call w s₀ s₁ mg mb fa o pm cd doc a vs ns G Y ho (fd_plain hd) hcd hmg hobj hints hlen hg) λr s' hq=>?_);obtain⟨rfl,h2,h3,h4⟩:=hq;exact⟨.inl ⟨.bool true,.bool true,[],rfl,λ_=>rfl,.bool true,jN4 l _,λ_=>⟨List.Pairwise.nil,λ_ hm=>(nomatch hm)⟩⟩,h2,h3,h4⟩
section
variable {prog:Program}{w:World}{A:Around}{E:Ah}{s:Shared}{K:Frag}
end
end Att
namespace L2
open PySem PySem.Spec PyProof.Rows
def jH0:∀{vs:Al}{ns:Ag},IntsAre vs ns->Vals (ns.map V.int) vs
 |_,_,.nil=> .nil
 |_,_,.cons n t h=> .cons ⟨t,rfl⟩ (jH0 h)
end L2
/- THE LAST THEOREM (shape;LID,My.* are yours):
  My.Adr:a structure of the addresses that your layer names (classes,functions);My.Txt K t:a structure (Prop) of the equations over K;
  My.txt_mk: {K} {implicit addresses ..} (e1:nsIn K mainGlobals "law" =some (some (.ref f))) (e2:K.lookup f=some ⟨oc,od,.func (fnOf "law" "law" params body scope dV kV doc pm an mn ct),sl⟩) (e3:codeIn K mn "law" =true) .. :∃t,My.Txt K t
set_option maxRecDepth 100000 in
set_option maxHeartbeats 0 in
theorem PySem.Challenge.cw_LID_holds : PySem.Challenge.rw_LID.Holds := by
 w_on;o_law;k_head;(case hw=>w_witness2)
 k_fill
 refine L2.walk_of (l:=PySem.Challenge.rw_LID) (n:=63) (k:=40) (x:= "script") (CX:=λw=> ..) (sp:=λ_=>My.sp_law) rfl Ac rfl ⟨rfl,Ac,Ac⟩ (λw h Y=>PySem.W.kIn_of Y) ?F ?S ?C
 case F=>
  intro w mg fa h KX G hmg;have T:∃t,My.Txt (L2.KOf KX) t:=by
   dsimp only[L2.KOf] -- K must stand as «<heap const>w.params» for k_is
   refine' My.txt_mk ?e1 ?e2 ?e3 ..
   (case e1=>PySem.W.k_is) -- in the order:a name->its address->its object->its parts
   (case e2=>PySem.W.k_is)
   ..
  obtain⟨t,T⟩:=T;have e0:=hmg.symm.trans (g8 KX G T.law);cases e0 -- fa is the law's own address;exact⟨_,λs u=> .of_eq rfl,λAq kb nb=>My.law_fn T kb nb⟩ -- if «.of_eq rfl» comes too early:refine' ⟨_,?b,λAq kb nb=>My.law_fn T kb nb⟩;exact λs u=> .of_eq rfl
 case S=>exact λw H a ns hl hO hS=> ..
 case C=>exact ..
(the tactic k_is has no namespace:write k_is) -/
namespace L2
open PySem PySem.Spec PyProof.Rows
variable {x:Str}{B A:Prop}{fd:FuncData}{env:Env}{sc:Scope}{f C:Addr}{h2 h1:Heap}
abbrev CX0:CXT:=λ_ _ _ _ _ _=>False
abbrev E0:XK:=λ_ _ _=>False
def pass0{X:Cx}:jL7 CX0 X E0:=λ_ _ _ _ _ _ _ h=>h.elim
structure Fun (K:W.Frag)(x qual:Str)(st:Stmt)(f:Addr)(fd:FuncData):Prop where
 ex:∃(oc:Value) (od:Option Addr) (kV doc pm:Value) (an:Option Addr) (mn ct:Value) (osl:Array (Ao)),
  fd=PySem.W.fnOf x qual (yC st) (jE st) (j8 st) .none kV doc pm an mn ct/\K.lookup f=some ⟨oc,od,.func fd,osl⟩/\PySem.W.codeIn K mn qual=true
 kp:keepIn K (.ref f)=true
variable {w:World}
section
variable {P:Program}{K:W.Frag}{mg:Ak}{Aq:Heap}
def Fun.ok{qual:Str}{st:Stmt}{N ps:Am}{k:Nat}{sp:Sp}(F:Fun K x qual st f fd)(S:FnScope N ps (j8 st))(len:∀vs H Q E,sp vs H Q E->vs.length=ps.length)
  (hbody:∀(mn:Value) (A:Around) (mj:List Env) (s:Shared) (H:Hp) (vs:List V) (Q:VK) (E:XK),Room k (A.deeper (envOfC qual (j8 st) s.heap.objs.size f mn))->sp vs H Q E->
   ∃t,PSs (cxOf CX0 P w K mg Aq N qual (j8 st) f mn A mj s H E).nox (jE st) t/\t {nx:=λ_ H'=>Q .non H',rt:=Q} (kT N vs) H):FnOk P w K mg Aq CX0 (k+1) f fd ps sp:=by
 obtain⟨oc,od,kV,doc,pm,an,mn,ct,osl,rfl,lk,hcd⟩:=F.ex;refine fn_of lk hcd S len λA mj s H vs Q E hr hsp=>?_;obtain⟨t,h,q⟩:=hbody mn A mj s H vs Q E hr hsp;exact⟨t,h.nox,q⟩
def Fun.binds{qual:Str}{st:Stmt}{ps:Am}(F:Fun K x qual st f fd)
  (h:∀(kV doc pm:Value) (an:Option Addr) (mn ct:Value) (us:Al),us.length=ps.length->bindArgs (PySem.W.fnOf x qual (yC st) (jE st) (j8 st) .none kV doc pm an mn ct) ⟨us,[]⟩=pure (ps.zip us)):Binds K fd ps []:=by
 obtain⟨oc,od,kV,doc,pm,an,mn,ct,osl,rfl,lk,hcd⟩:=F.ex;exact .all (h kV doc pm an mn ct)
def jZ{x qual:Str}{st:Stmt}{f:Addr}{oc:Value}{od an:Option Addr}{osl:Array (Ao)}{kV doc pm mn ct:Value}(l:K.lookup f=some ⟨oc,od,.func (PySem.W.fnOf x qual (yC st) (jE st) (j8 st) .none kV doc pm an mn ct),osl⟩)
  (c:PySem.W.codeIn K mn qual=true) (k:keepIn K (.ref f)=true):Fun K x qual st f (PySem.W.fnOf x qual (yC st) (jE st) (j8 st) .none kV doc pm an mn ct):=⟨⟨oc,od,kV,doc,pm,an,mn,ct,osl,rfl,l,c⟩,k⟩
end
theorem hu_of{A:Around}{k:Nat}(hr:Room k A):A.units+1<cLine:=lO (Nat.add_le_add_left (by decide:1<=64) _) hr.units
variable {X:Cx}
theorem pv(i:Nat){pos:Pos}(hN:X.N[i]?=some x:=by rfl)(hv:Vis X.env.scope x:=by first|exact Or.inl rfl|exact Or.inr (Or.inl rfl)|exact Or.inr (Or.inr rfl))(hd:(x==("__debug__":Str))=false:=by decide)
  (hcd:(x==("__classdict__":Str))=false:=by decide):PE X (.Name x pos) (tVar i):=jHG hN hv hd hcd
def iteF(h:B):if false=true then A else B:=by
 rw[az aC];exact h
def iteT(h:A):if true=true then A else B:=by
 rw[aA rfl];exact h
def ite2{c:Prop} [Decidable c](h1:c->A)(h2:¬c->B):if c then A else B:=by
 by_cases h:c
 .rw[aA h];exact h1 h
 .rw[az h];exact h2 h
noncomputable def jM(cells:Aj):List (Str×NameKind)->Aj->Aj
 |[],acc=>acc
 | (n,k)::r,acc=>if k=.free then jM cells r ((n,(cells.lookup n).getD 0)::acc) else jM cells r acc
def jD0:∀(l:List (Str×NameKind)) (acc:Aj),(∀y∈l,y.2=.free->∃c,env.cells.lookup y.1=some c)->
  (forIn l acc λ(x:Str×NameKind) (cs:Aj)=>(if (x.2==NameKind.free)=true then (do let a <- cellOf env x.1;pure (ForInStep.yield ((x.1,a)::cs))) else pure (ForInStep.yield cs):Sem (ForInStep (Aj))))=pure (jM env.cells l acc)
 |[],acc,_=>rfl
 | (n,k)::r,acc,h=>by
  have hr:∀y∈r,y.2=.free->∃c,env.cells.lookup y.1=some c:=λy hy=>h y (ah _ hy);rw[kg];by_cases hk:k=.free
  .subst hk;obtain⟨c,hc⟩:=h (n,.free) ai rfl;have e:cellOf env n=pure c:=by unfold cellOf;rw[hc]
   have e2:jM env.cells ((n,NameKind.free)::r) acc=jM env.cells r ((n,c)::acc):=by
    show (if NameKind.free=NameKind.free then jM env.cells r ((n,(env.cells.lookup n).getD 0)::acc) else _)=_;rw[aA rfl,hc];rfl
   rw[e2,<- jD0 r ((n,c)::acc) hr];show ((do let a <- cellOf env n;pure (ForInStep.yield ((n,a)::acc))) >>= _)=_;rw[e];rfl
  .have hb:(k==NameKind.free)=false:=by cases k<;>first|rfl|exact absurd rfl hk
   have e2:jM env.cells ((n,k)::r) acc=jM env.cells r acc:=by
    show (if k=NameKind.free then _ else jM env.cells r acc)=_;rw[az hk]
   rw[e2,<- jD0 r acc hr];show ((if (k==NameKind.free)=true then _ else pure (ForInStep.yield acc)) >>= _)=_;rw[hb];rfl
def jGT(h:∀y∈sc.names,y.2=.free->∃c,env.cells.lookup y.1=some c):closureFor sc env=pure (jM env.cells sc.names []):=by
 unfold closureFor;show (forIn sc.names [] _ >>= λcs=>pure cs)=_;rw[show (forIn sc.names ([]:Aj) _:Sem _)=_ from jD0 sc.names [] h];rfl
def jAE{cells:Aj}:∀(l:List (Str×NameKind)) (acc:Aj),(∀y∈l,y.2=.free->∃c,cells.lookup y.1=some c)->
  (∀x c,acc.lookup x=some c->cells.lookup x=some c)->∀x c,(jM cells l acc).lookup x=some c->cells.lookup x=some c
 |[],acc,_,ha=>ha
 | (n,k)::r,acc,h,ha=>by
  have hr:∀y∈r,y.2=.free->∃c,cells.lookup y.1=some c:=λy hy=>h y (ah _ hy);unfold jM;by_cases hk:k=.free
  .rw[aA hk];obtain⟨c0,hc⟩:=h (n,k) ai hk;refine jAE r _ hr λx c e=>?_;rw[bf] at e;cases hx:x==n with
   |true=>
    rw[hx] at e;have exn:x=n:=eq_of_beq hx;subst exn;have hc':cells.lookup x=some c0:=hc;rw[hc'] at e ⊢;exact e
   |false=>rw[hx] at e;exact ha x c e
  .rw[az hk];exact jAE r acc hr ha
def jAR{cells:Aj}{x:Str}:∀(l:List (Str×NameKind)) (acc:Aj),((x,NameKind.free)∈l\/∃c,acc.lookup x=some c)->∃c,(jM cells l acc).lookup x=some c
 |[],acc,h=>by
  rcases h with h|h
  .cases h
  .exact h
 | (n,k)::r,acc,h=>by
  unfold jM;by_cases hk:k=.free
  .rw[aA hk];refine jAR r _ ?_;by_cases e:x=n
   .subst e;exact .inr ⟨_,by rw[bf,g0]⟩
   .rcases h with h|⟨c,h⟩
    .rcases aB.mp h with q|q
     .cases q;exact absurd rfl e
     .exact .inl q
    .refine .inr ⟨c,?_⟩;rw[bf,bW.mpr e];exact h
  .rw[az hk];refine jAR r _ ?_;rcases h with h|h
   .rcases aB.mp h with q|q
    .cases q;exact absurd rfl hk
    .exact .inl q
   .exact .inr h
def jAO{k:NameKind}:∀{l:List (Str×NameKind)},l.lookup x=some k->(x,k)∈l
 |[],h=>by cases h
 | (n,k')::r,h=>by
  rw[bf] at h;cases hx:x==n with
  |true=>rw[hx] at h;cases h;rw[eq_of_beq hx];exact ai
  |false=>rw[hx] at h;exact ah _ (jAO h)
def jCP{env:Env}{x:Str}{k:NameKind}(hk:k=.cell\/k=.free):∀{l:List (Str×NameKind)},(∀y∈l,y.2≠.cell)->
  (l.map λ(n,k)=>if (k==NameKind.free&&env.scope.kind==.function&&env.kindOf n==some .cell) then (n,NameKind.cell) else (n,k)).lookup x=some k->l.lookup x=some .free
 |[],_,h=>by simp at h
 | (n,k')::r,hc,h=>by
  have ih:= @jCP env x k hk r (λy hy=>hc y (ah _ hy));have hc0:k'≠.cell:=hc (n,k') ai;rw[bf];rw[bg] at h;dsimp only at h;by_cases hb:(k'==NameKind.free&&env.scope.kind==.function&&env.kindOf n==some .cell)=true
  .rw[aA hb,bf] at h;cases hx:x==n with
   |true=>
    have:k'=.free:=by
     simp only[bJ] at hb;exact eq_of_beq hb.1.1
    rw[this]
   |false=>rw[hx] at h;exact ih h
  .rw[az hb,bf] at h;cases hx:x==n with
   |true=>
    rw[hx] at h;have e:k'=k:=bA h;rcases hk with q|q
    .exact absurd (e.trans q) hc0
    .rw[e,q]
   |false=>rw[hx] at h;exact ih h
def jCW{env:Env}{x:Str}:∀{l:List (Str×NameKind)},l.lookup x=some .free->
  (l.map λ(n,k)=>if (k==NameKind.free&&env.scope.kind==.function&&env.kindOf n==some .cell) then (n,NameKind.cell) else (n,k)).lookup x=some .cell\/
  (l.map λ(n,k)=>if (k==NameKind.free&&env.scope.kind==.function&&env.kindOf n==some .cell) then (n,NameKind.cell) else (n,k)).lookup x=some .free
 |[],h=>by cases h
 | (n,k')::r,h=>by
  have ih:= @jCW env x r;rw[bf] at h;rw[bg];dsimp only;by_cases hb:(k'==NameKind.free&&env.scope.kind==.function&&env.kindOf n==some .cell)=true
  .rw[aA hb,bf];cases hx:x==n with
   |true=>exact .inl rfl
   |false=>rw[hx] at h;exact ih h
  .rw[az hb,bf];cases hx:x==n with
   |true=>rw[hx] at h;exact .inr h
   |false=>rw[hx] at h;exact ih h
section
variable {prog:Program}{A:Around}{R:Result->Shared->Prop}{s:Shared}
abbrev jMH(ifs:List Expr)(env:Env):Sem Bool:=forIn ifs true λc r=>if r=true then do let ok <- isTrue c env (eval c env);pure (ForInStep.yield ok) else pure (ForInStep.yield r)
def jFN{elt tg iter:Expr}{ifs:List Expr}{pos:Pos}{it acc:Value}(J:Nat->Shared->Prop)
  (turn:∀n z,J n z->wpAny (model prog w) A (pyNext it) (λr z1=>match r with
   |none=>R (.ok .next) z1
   |some v=>wpAny (model prog w) A (letOwnedTupleGo tg it v) (λ_ z2=>wpAny (model prog w) A (assign tg env v) (λ_ z3=>wpAny (model prog w) A (jMH ifs env) (λok z4=>
     if ok=true then wpAny (model prog w) A (eval elt env) (λx z5=>wpAny (model prog w) A (call (.builtin "list.append") [acc,x]) (λ_ z6=>∃k,k<n/\J k z6) (λ_ _=>False) z5) (λ_ _=>False) z4
     else ∃k,k<n/\J k z4) (λ_ _=>False) z3) (λ_ _=>False) z2) (λ_ _=>False) z1) (λ_ _=>False) z)
  (n:Nat) (h:J n s):codeAny (model prog w) A (.compLoop (.ListComp elt [⟨tg,iter,ifs,0⟩] sc pos) 0 it acc env) R s:=by
 refine codeAny_loop rfl J (λk z hJ=>?_) n h;have noE:∀{α:Type}{t:Sem α}{Q:α->Shared->Prop}{E:Ah}{z:Shared},wpAny (model prog w) A t Q (λ_ _=>False) z->wpAny (model prog w) A t Q E z:=
  λq=>bF q (λ_ _ a=>a) λ_ _ f=>f.elim
 show wpAny _ A ((compTurn (.ListComp elt [⟨tg,iter,ifs,0⟩] sc pos) 0 it acc env).onRaise (λx=>do noteFrame x env;theTreesLotGoes x)) _ _ z;refine wpAny_noted ?_;rw[compTurn_list];refine ae (eQ (ae (bF (turn k z hJ) (λr z1 q1=>?_) λ_ _ f=>f.elim)));cases r with
 |none=>exact aj q1
 |some v=>
  refine ae (bF q1 (λ_ z2 q2=>?_) λ_ _ f=>f.elim);refine ae (bF q2 (λ_ z3 q3=>?_) λ_ _ f=>f.elim);refine ae (bF q3 (λok z4 q4=>?_) λ_ _ f=>f.elim);cases ok with
  |false=>exact aj ⟨rfl,q4⟩
  |true=>
   refine ae (ae (bF q4 (λx z5 q5=>?_) λ_ _ f=>f.elim));exact ae (bF q5 (λ_ z6 q6=>aj (aj ⟨rfl,q6⟩)) λ_ _ f=>f.elim)
end
noncomputable def blk(X:Cx)(sc:Scope)(cl:Aj)(C:Addr)(Nc:Am)(fp:List Addr)(s:Shared)(H:Hp):Cx where
 prog:=X.prog
 w:=X.w
 K:=X.K
 mg:=X.mg
 Aq:=X.Aq
 A:=X.A
 N:=Nc
 s₀:=s
 H₀:=H
 env:=compEnvC sc cl C X.env
 mj:=X.stack
 stack:=X.stack
 ex:=fp
 fn:=λ_=>false
 calm:=X.calm
 pn:=[]
 xe:=λ_ _=>False
def blkσ(m:List (Option Nat))(σ:St):St:=m.map λo=>match o with
 |none=>none
 |some i=>(σ[i]?).getD none
def PTs(X:Cx)(ifs:List Expr)(t:TT):Prop:=
 ∀(ma:Ai) (s:Shared) (σ:St) (H:Hp) (Q:Bool->Hp->Prop),Inv X ma σ H s->t σ H Q->wpAny (model X.prog X.w) X.A (jMH ifs X.env) (TP X ma σ Q) X.xe s
def yR:TT:=λ_ H Q=>Q true H
def jN1:PTs X [] yR:=λ_ _ _ H _ I h=>wpAny_tests_nil ⟨H,I,h⟩
def jN0{c:Expr}{t:TT}(h:PT X c t):PTs X [c] t:=λma s σ H Q I q=>wpAny_tests_one (h ma s σ H Q I q)
def qK(m:List (Option Nat))(g:TG)(tt:TT)(te:TE)(σ:St)(Q:VK)(J:It)(H1:Hp):Prop:=∀D,H1 D=none->∃W:Nat->Nat->St->Hp->List V->Prop,
  (∃n,W 0 n (blkσ m σ) (upd H1 D (.lst [])) [])/\∀i n σ' H' ys,W i n σ' H' ys->H' D=some (.lst ys)/\ys.length<sizeLine/\
   ((J.stop i H'/\Q (.ref D) H')\/(J.go i H'/\∃N:St->Hp->List V->Prop,(∀σ2 H2 zs,N σ2 H2 zs->∃n',n'<n/\W (i+1) n' σ2 H2 zs)/\∀x H'',J.yld i H' x H''->g x σ' H'' λσ2 H2=>tt σ2 H2 λb H3=>
    if b=true then te σ2 H3 λv H4=>H4 D=some (.lst ys)/\N σ2 (upd H4 D (.lst (ys++[v]))) (ys++[v])
    else N σ2 H3 ys))
def tComp(m:List (Option Nat))(wi:TI)(g:TG)(tt:TT)(te:TE):TE:=λσ H Q=>wi σ H (qK m g tt te σ Q)
def Un.sameBut{fs ex:List Addr}{H H':Hp}{h:Heap}(u:Un fs ex H H' h h1)(sb:Heap.SameBut C h1 h2)(hC:h.objs.size<=C):Un fs ex H H' h h2:=by
 have ne:∀{b:Addr}{o:Obj},h.get? b=some o->b≠C:=λe=>aO (aS (ay e) hC);refine⟨λb o e n hf hx=>(sb.2 b (ne e)).trans (u.keep b o e n hf hx),λb o e n hf hx=>?_,u.free,λb o e hx=>?_,u.tups,u.frzs,u.tbls⟩
 .obtain⟨sl,q⟩:=u.slot b o e n hf hx;exact⟨sl,(sb.2 b (ne e)).trans q⟩
 .obtain⟨o',q⟩:=u.there b o e hx;exact⟨o',(sb.2 b (ne e)).trans q⟩
def HOk.sameBut{P:Program}{H:Hp}(x:HOk P w H h1)(sb:Heap.SameBut C h1 h2)(hC:H C=none):HOk P w H h2:=λa o e=>
 (x a o e).stay (λb u hb q=>(sb.2 b (by
  rintro rfl;rcases hb with rfl|hb
  .rw[hC] at e;cases e
  .rw[hC] at hb;cases hb)).trans q) (λ_ q=>q) λ_ _ q=>q
variable {g:TG}{tt:TT}{te:TE}{m:List (Option Nat)}
section
variable {tg iter elt:Expr}{ifs:List Expr}{sc:Scope}{pos:Pos}{wi:TI}{Nc:Am}
def qF(X:Cx)(sc:Scope)(Nc:Am)(m:List (Option Nat)):Prop:=
 m.length=Nc.length/\∀(k i:Nat),m[k]?=some (some i)->∃x,Nc[k]?=some x/\X.N[i]?=some x/\sc.names.lookup x=some .free
abbrev Fq(X:Cx)(sc:Scope):Prop:=∀y∈sc.names,y.2=.free->X.env.scope.names.lookup y.1=some .cell\/X.env.scope.names.lookup y.1=some .free
def jI9{ma:Ai}{s:Shared}{σ:St}{H:Hp}{fp:List Addr}(I:Inv X ma σ H s)(hkind:sc.kind=.function)(hcell:∀y∈sc.names,y.2≠.cell)
  (hfree:Fq X sc) (hm:qF X sc Nc m) (hfp:∀b∈fp,FpOk X ma H b) (hlt:∀b∈fp,b<s.heap.objs.size)
  {h1:Heap}{tk:Nat}{md:Ak}(hns:h1.Ns s.heap.objs.size md) (old:∀b o,s.heap.get? b=some o->h1.get? b=some o):
  Inv (blk X sc (jM X.env.cells sc.names []) s.heap.objs.size Nc fp s H) [] (blkσ m σ) H {s with heap:=h1,toks:=tk}:=by
 have hcl:∀y∈sc.names,y.2=.free->∃c,X.env.cells.lookup y.1=some c:=λy hy hf=>I.ok.has y.1 (hfree y hy hf);have sub:∀x c,(jM X.env.cells sc.names []).lookup x=some c->X.env.cells.lookup x=some c:=jAE sc.names [] hcl (λx c e=>by cases e);have isfree:∀x,(compEnvC sc (jM X.env.cells sc.names []) s.heap.objs.size X.env).kindOf x=some .cell\/(compEnvC sc (jM X.env.cells sc.names []) s.heap.objs.size X.env).kindOf x=some .free->sc.names.lookup x=some .free:=λx h=>by
  rcases h with h|h
  .exact jCP (.inl rfl) hcell h
  .exact jCP (.inr rfl) hcell h
 refine⟨⟨I.ok.mod,hkind,I.ok.glob,I.ok.blt,ar _,λx y c h1 h2=>I.ok.inj x y c (sub x c h1) (sub y c h2),λx hx=>?_,λx c hf _=>?_,I.ok.hd,I.ok.frames,.inl rfl,λb hb=>?_,I.bs,bh I.ok.bsz I.sz,λb o e hb=>?_,λb hb hz=>?_,I.stack,I.stkFree⟩,
  rfl,I.bare,Un.kept old,⟨md,hns,λk x v e1 e2 e3=>?_⟩,λx c e=>?_,I.hok.fresh (ar _),λx c e=>I.freeC x c (sub x c e),λp hp=>absurd (show p∈([]:Ai) from hp) Ad,I.hok.kept old,?_⟩
 .exact jAR sc.names [] (.inl (jAO (isfree x hx)))
 .exact absurd (show false=true from hf) aC
 .obtain⟨f0,f1,f2,f3,f4,f5⟩:=hfp b hb;exact⟨aO (hlt b hb),λx c e=>f4 x c (sub x c e)⟩
 .obtain⟨f0,f1,f2,f3,f4,f5⟩:=hfp b hb;rcases f3 with q|q
  .exact I.ok.noex b o e q
  .exact absurd (aS (ay (I.ok.bs b o e).1) q) (cF _)
 .obtain⟨f0,f1,f2,f3,f4,f5⟩:=hfp b hb;rcases aB.mp (I.stkSub b hz) with q|q
  .exact f1 q
  .exact f2 q
 .have e2':∃i,m[k]?=some (some i)/\σ[i]?=some (some v):=by
   unfold blkσ at e2;rw[aX] at e2;cases q:m[k]? with
   |none=>rw[q] at e2;cases e2
   |some o=>
    rw[q] at e2;cases o with
    |none=>cases e2
    |some i=>
     refine⟨i,rfl,?_⟩;have e2:(σ[i]?).getD none=some v:=bA e2;cases r:σ[i]? with
     |none=>rw[r] at e2;cases e2
     |some z=>rw[r] at e2;exact ce some e2
  obtain⟨i,q1,q2⟩:=e2';obtain⟨x',a1,a2,a3⟩:=hm.2 k i q1;have e1':Nc[k]?=some x:=e1;rw[e1'] at a1;cases a1;have vis:=hfree (x,.free) (jAO a3) rfl;obtain⟨m0,hn0,hl0⟩:=I.loc;obtain⟨u,r,l⟩:=hl0 i x v a2 q2 (.inr vis);refine⟨u,r,.inr ⟨jCW a3,?_⟩⟩;obtain⟨c,hc⟩:=jAR (cells:=X.env.cells) (x:=x) sc.names [] (.inl (jAO a3));rcases l with ⟨lk,_⟩|⟨_,c',hc',o,ho,hd⟩
  .have lk':X.env.scope.names.lookup x=some .local:=lk;rcases vis with z|z
   .rw[lk'] at z;cases z
   .rw[lk'] at z;cases z
  .have:=sub x c hc;rw[hc'] at this;cases this;exact⟨c,hc,o,old _ _ ho,hd⟩
 .obtain⟨v,o,ho,hd⟩:=I.cell x c (sub x c e);exact⟨v,o,old _ _ ho,hd⟩
 .show (blkσ m σ).length=Nc.length;unfold blkσ;rw[ag];exact hm.1
def jGS{tf:St->TE}(hc:X.calm=true)(hi:PI X tg iter wi)(hkind:sc.kind=.function)(hcell:∀y∈sc.names,y.2≠.cell)(hnames:∀y∈sc.names,y.2=.local->sc.names.lookup y.1=some .local)
  (hfree:Fq X sc) (hm:qF X sc Nc m)
  (hg:∀cl C fp s H,PG (blk X sc cl C Nc fp s H) tg g) (ht:∀cl C fp s H,PTs (blk X sc cl C Nc fp s H) ifs tt) (he:∀cl C fp s H ma σ,Inv X ma σ H s->(∀b∈fp,FpOk X ma H b)->PE (blk X sc cl C Nc fp s H) elt (tf σ))
  (hs:∀x,foldedSetIterable iter X.env x=pure x) {fpos:Pos}{use:Option (Value->Sem Unit)}{R:Ah}{ma:Ai}{s:Shared}{σ:St}{H:Hp}{Q:VK}(I:Inv X ma σ H s) (h:tComp m wi g tt (tf σ) σ H Q)
  (fin:∀(D C:Addr) (H5:Hp) (z1:Shared) (r:Flow),(∃mm,z1.heap.Ns C mm)->FpOk X ma H5 C->(∀h',Heap.SameBut C z1.heap h'->Inv X ma σ H5 {z1 with heap:=h'})->Q (.ref D) H5->compPost (model X.prog X.w) X.A X.xe use R (.ref D) C (.ok r) z1):
  wpAny (model X.prog X.w) X.A (comprehension (.ListComp elt [⟨tg,iter,ifs,0⟩] sc pos) sc X.env fpos (newList []) false (eval iter X.env) use) R X.xe s:=by
 have hcl:∀y∈sc.names,y.2=.free->∃c,X.env.cells.lookup y.1=some c:=λy hy hf=>I.ok.has y.1 (hfree y hy hf);refine ji (use:=use) rfl hs (jGT hcl) hkind hnames (mo (hi ma s σ H _ I h) λv s1 h1=>mo h1 λitv s2 h2=>?_);obtain⟨it,fp,tn,J,H2,e,I2,T,st2,f2,hQ⟩:=h2;subst e;have hlt:∀b∈fp,b<s2.heap.objs.size:=λb hb=>by
  obtain⟨o,e,_⟩:=T.obj 0 _ st2 b hb;exact ay e
 refine bP (ic hcell (by intro y hy;simp at hy) (λh₁ hns₁ hsb₁=>?_) hkind);have I3:Inv X ma σ (upd H2 s2.heap.objs.size (.lst [])) {s2 with heap:=s2.heap.push {cls:=.type "list",data:=.seq ([]:Al).toArray}}:=I2.lnew (t':=s2.toks) .nil (br _);obtain⟨W,⟨n0,w0⟩,turn⟩:=hQ s2.heap.objs.size I2.fresh;have hD3:∀b∈fp,b≠s2.heap.objs.size:=λb hb=>aO (hlt b hb);have f3:∀b∈fp,FpOk X ma (upd H2 s2.heap.objs.size (.lst [])) b:=λb hb=>by
  obtain⟨a0,a1⟩:=f2 b hb;exact⟨by rw[jA (hD3 b hb)];exact a0,a1⟩
 generalize hE:({s2 with heap:=s2.heap.push {cls:=.type "list",data:=.seq ([]:Al).toArray}}:Shared)=s3 at I3 hns₁ hsb₁ ⊢;generalize hH3:upd H2 s2.heap.objs.size (.lst [])=H3 at I3 f3 w0;have hsz3:s3.heap.objs.size=s2.heap.objs.size+1:=by rw[<- hE];exact cA _ _
 have old:∀b o,s3.heap.get? b=some o->h₁.get? b=some o:=λb o e=>hsb₁.extBut b o (aO (ay e)) (af _ e);have old2:∀b o,s2.heap.get? b=some o->h₁.get? b=some o:=λb o e=>old b o (by rw[<- hE];exact af _ e);have I4:=jI9 (fp:=fp) (tk:=s3.toks+([]:List (Str×Value)).length) I3 hkind hcell hfree hm f3 (λb hb=>show b<s3.heap.objs.size by rw[hsz3];exact cB (hlt b hb)) hns₁ old;have st4:tn 0 h₁:=T.keep _ _ _ st2 λb hb o e=>old2 b o e;have loop:codeAny (model X.prog X.w) X.A (.compLoop (.ListComp elt [⟨tg,iter,ifs,0⟩] sc pos) 0 (.ref it) (.ref s2.heap.objs.size) (compEnvC sc (jM X.env.cells sc.names []) s3.heap.objs.size X.env))
   (compPost (model X.prog X.w) X.A X.xe use R (.ref s2.heap.objs.size) s3.heap.objs.size) {s3 with heap:=h₁,toks:=s3.toks+([]:List (Str×Value)).length}:=by
  generalize hX:blk X sc (jM X.env.cells sc.names []) s3.heap.objs.size Nc fp s3 H3=Xb at I4;have eP:Xb.prog=X.prog:=by rw[<- hX];rfl
  have ew:Xb.w=X.w:=by rw[<- hX];rfl
  have eK:Xb.K=X.K:=by rw[<- hX];rfl
  have eA:Xb.A=X.A:=by rw[<- hX];rfl
  have ec:Xb.calm=true:=by rw[<- hX];exact hc
  have ee:Xb.env=compEnvC sc (jM X.env.cells sc.names []) s3.heap.objs.size X.env:=by rw[<- hX];rfl
  have ex:Xb.xe=λ_ _=>False:=by rw[<- hX];rfl
  have hgb:PG Xb tg g:=by rw[<- hX];exact hg _ _ _ _ _
  have htb:PTs Xb ifs tt:=by rw[<- hX];exact ht _ _ _ _ _
  have heb:PE Xb elt (tf σ):=by rw[<- hX];exact he _ _ _ _ _ _ _ I3 f3
  have stat:∀{H':Hp},(∀b∈fp,H' b=none)->∀b∈fp,FpOk Xb [] H' b:=λ{H'} hn b hb=>by
   obtain⟨o,eo,_⟩:=T.obj _ _ st4 b hb;have q:=I4.ok.exf b (by rw[<- hX];exact hb);exact⟨hn b hb,q.1,I4.ok.exfs b (by rw[<- hX];exact hb),.inl (by rw[<- hX];exact hb),q.2,λp hp=>absurd hp (by rw[<- hX];simp[blk])⟩
  have fr4:∀b∈fp,H3 b=none:=λb hb=>(f3 b hb).1;unfold PG at hgb;unfold PTs at htb;unfold PE at heb;rw[eP,ew,eA,ee,ex] at hgb htb heb;refine jFN (λn z=>∃i σ' H' ys,Inv Xb [] σ' H' z/\tn i z.heap/\(∀b∈fp,H' b=none)/\W i n σ' H' ys) ?_ n0 ⟨0,_,H3,[],I4,st4,fr4,w0⟩;rintro n z ⟨i,σ5,H5,ys,I5,st5,fr5,w5⟩;obtain⟨hD,hlen,way⟩:=turn i n σ5 H5 ys w5;rcases way with ⟨stop,q⟩|⟨go,N,hN,step⟩
  .have RR:=T.done Xb eP ew eK ec i [] z σ5 H5 (λ_ _=>False) I5 (stat fr5) st5 stop;rw[eA] at RR;refine mo RR λr z1 ⟨hr,I6⟩=>?_;subst hr;obtain⟨mm,hn6,_⟩:=I6.loc;rw[ee] at hn6;have u6:Un (frs X.stack) fp H3 H5 s3.heap z1.heap:=by
    have:=I6.Aq;rw[<- hX] at this;exact this
   have fC:H5 s3.heap.objs.size=none:=by
    have:=I6.free;rw[ee] at this;exact this
   have hok6:HOk X.prog X.w H5 z1.heap:=by
    have:=I6.hok;rw[eP,ew] at this;exact this
   have os6:z1.os=s3.os:=by
    have:=I6.os;rw[<- hX] at this;exact this
   refine fin s2.heap.objs.size s3.heap.objs.size H5 z1 .next ⟨mm,hn6⟩ (I3.fpOk (ar _) fC) (λh' sb=>?_) q;refine I3.call' (s':= {z1 with heap:=h'}) (ch:=fp) os6 (u6.sameBut sb (ar _)) (hok6.sameBut sb fC) I6.bare (λb hb=>?_);obtain⟨a0,a1,a2,a3,a4,a5⟩:=f3 b hb;exact⟨a3,a1,a4,a5⟩
  .have RR:=T.item Xb eP ew eK ec i [] z σ5 H5 (λ_ _=>False) I5 (stat fr5) st5 go;rw[eA] at RR;refine mo RR λr z1 ⟨u,hr,h6⟩=>?_;subst hr;refine mo h6 λ_ z2 ⟨x,H7,I7,r7,y7,st7,fr7⟩=>?_;have I7':=I7.pinned (stat fr7) (T.obj _ _ st7);refine mo (hgb _ z2 σ5 H7 x u _ I7' r7 (step x H7 y7)) λ_ z3 ⟨σ8,H8,I8,q8⟩=>?_;refine mo (htb _ z3 σ8 H8 _ I8 q8) λok z4 ⟨H9,I9,q9⟩=>?_;have again:∀{σ7:St}{Hz:Hp}{zz:Shared}{yy:List V}{n':Nat},Inv Xb ([]++jFA fp z2.heap) σ7 Hz zz->n'<n->W (i+1) n' σ7 Hz yy->∃k,k<n/\∃i σ' H' ys,Inv Xb [] σ' H' zz/\tn i zz.heap/\(∀b∈fp,H' b=none)/\W i k σ' H' ys:=λ{σ7 Hz zz yy n'} Iz hn wz=>by
    refine⟨n',hn,i+1,σ7,Hz,yy,Iz.unpinned,T.keep _ _ _ st7 λb hb o e=>(Iz.pin (b,o) (aE _ (aE _ (jAD hb e)))).1,λb hb=>?_,wz⟩;obtain⟨o,e,d⟩:=T.obj _ _ st7 b hb;exact(Iz.pin (b,o) (aE _ (aE _ (jAD hb e)))).2.1
   cases ok with
   |false=>
    obtain⟨n',hn,w9⟩:=hN _ _ _ (show N σ8 H9 ys from q9);exact again I9 hn w9
   |true=>
    refine mo (heb _ z4 σ8 H9 _ I9 q9) λxv z5 ⟨vv,H10,I10,r10,hD10,n10⟩=>?_;obtain⟨n',hn,w10⟩:=hN _ _ _ n10;have RR:=jA4 (X:=Xb) _ z5 σ8 H10 (.ref s2.heap.objs.size) [vv] (.ref s2.heap.objs.size) [xv] (λ_ H'=>H'=upd H10 s2.heap.objs.size (.lst (ys++[vv]))) I10 rfl (.cons r10 .nil) ⟨_,ys,vv,rfl,rfl,hD10,hlen,rfl⟩;rw[eP,ew,eA,ex] at RR;refine mo RR λ_ z6 ⟨_,H11,I11,_,e11⟩=>?_;subst e11;exact again I11 hn w10
 exact codeAny_compStart_list loop (T.self _ 0 _ _ _ st4 loop)
def jIU(hc:X.calm=true)(hi:PI X tg iter wi)(hkind:sc.kind=.function)(hcell:∀y∈sc.names,y.2≠.cell)(hnames:∀y∈sc.names,y.2=.local->sc.names.lookup y.1=some .local)
  (hfree:Fq X sc) (hm:qF X sc Nc m)
  (hg:∀cl C fp s H,PG (blk X sc cl C Nc fp s H) tg g) (ht:∀cl C fp s H,PTs (blk X sc cl C Nc fp s H) ifs tt) (he:∀cl C fp s H,PE (blk X sc cl C Nc fp s H) elt te)
  (hs:∀x,foldedSetIterable iter X.env x=pure x:=by intro _;rfl):PE X (.ListComp elt [⟨tg,iter,ifs,0⟩] sc pos) (tComp m wi g tt te):=by
 intro ma s σ H Q I h;rw[eval_ListComp];exact jGS (tf:=λ_=>te) (use:=none) hc hi hkind hcell hnames hfree hm hg ht (λcl C fp s H _ _ _ _=>he cl C fp s H) hs I h (λD C H5 z1 r ⟨mm,hn⟩ fC sb q=>⟨mm,hn,λh' s2=>⟨.ref D,H5,sb h' s2,rfl,q⟩⟩)
end
theorem jK{X:Cx}{sc psc:Scope}(h:(sc.names.all λy=>decide (y.2=.free->psc.names.lookup y.1=some .cell\/psc.names.lookup y.1=some .free))=true:=by decide+kernel)(e:X.env.scope=psc:=by rfl):
  ∀y∈sc.names,y.2=.free->X.env.scope.names.lookup y.1=some .cell\/X.env.scope.names.lookup y.1=some .free:=by
 rw[e];intro y hy;exact aL (ck.mp h y hy)
noncomputable def jOX(sc:Scope)(N Nc:Am)(m:List (Option Nat))(k:Nat):Bool:=match m[k]? with
 |some (some i)=>match Nc[k]? with
  |some x=>decide (N[i]?=some x)&&decide (sc.names.lookup x=some .free)
  |none=>false
 |_=>true
theorem jI{X:Cx}{sc:Scope}{N Nc:Am}{m:List (Option Nat)}(e:X.N=N)(hl:m.length=Nc.length)(h:((List.range m.length).all (jOX sc N Nc m))=true):qF X sc Nc m:=by
 refine⟨hl,λk i hk=>?_⟩;have hlt:k<m.length:=(am.mp hk).1;have q:=ck.mp h k (bI.mpr hlt);unfold jOX at q;rw[hk] at q;cases e2:Nc[k]? with
 |none=>rw[e2] at q;cases q
 |some x=>
  rw[e2] at q;have q:(decide (N[i]?=some x)&&decide (sc.names.lookup x=some .free))=true:=q;rw[bJ] at q;exact⟨x,rfl,by rw[e];exact aL q.1,aL q.2⟩
section
variable {σ:St}{H1:Hp}{Q:VK}
theorem jAI{lo:Int}{n:Nat}(hn:n<sizeLine)(Pv:Addr->Nat->St->Hp->List V->Prop)(h0:∀D,H1 D=none->Pv D 0 (blkσ m σ) (upd H1 D (.lst [])) [])
  (hD:∀D i σ' H' ys,H1 D=none->i<=n->Pv D i σ' H' ys->H' D=some (.lst ys)/\ys.length<=i)
  (hs:∀D i σ' H' ys,H1 D=none->i<n->Pv D i σ' H' ys->g (.int (lo+i)) σ' H' λσ2 H2=>tt σ2 H2 λb H3=>if b=true then te σ2 H3 λv H4=>H4 D=some (.lst ys)/\Pv D (i+1) σ2 (upd H4 D (.lst (ys++[v]))) (ys++[v]) else Pv D (i+1) σ2 H3 ys)
  (hd:∀D σ' H' ys,H1 D=none->Pv D n σ' H' ys->Q (.ref D) H'):qK m g tt te σ Q (Itr lo n) H1:=by
 intro D hDn;refine⟨λi k σ' H' ys=>k=n-i/\i<=n/\Pv D i σ' H' ys,⟨n,rfl,br _,h0 D hDn⟩,?_⟩;rintro i k σ' H' ys ⟨rfl,hi,p⟩;obtain⟨q1,q2⟩:=hD D i σ' H' ys hDn hi p;refine⟨q1,Aa,?_⟩;by_cases hlt:i<n
 .refine .inr ⟨hlt,Pv D (i+1),λσ2 H2 zs z=>⟨n-(i+1),Aa,rfl,hlt,z⟩,λx H'' y=>?_⟩;obtain⟨e1,e2⟩:=y;subst e1 e2;exact hs D i σ' _ ys hDn hlt p
 .have e:i=n:=Aa;subst e;exact .inl ⟨ar _,hd D σ' H' ys hDn p⟩
end
end L2
end
namespace SS
open PySem PySem.SetTable
variable {t:SetTable}{xs:Array Nat}{α:Type}{j i n:Nat}{h:Int}
abbrev Ris(xs:Array Nat):Prop:=xs.toList.Pairwise (· < ·)
def jCO(h:Ris xs){a b:Nat}(hab:a<b)(hb:b<xs.size):xs.getD a 0<xs.getD b 0:=by
 have h1:a<xs.size:=fh hab hb;have:=bV.mp h a b (by simpa using h1) (by simpa using hb) hab;simpa [Array.getD,h1,hb] using this
theorem jUE(hr:Ris xs):∀(fuel lo hi:Nat),hi-lo<=fuel->lo<=hi->hi<=xs.size->(∀a,a<lo->xs.getD a 0<j)->(∀a,hi<=a->a<xs.size->j<=xs.getD a 0)->
  (below.go xs j fuel lo hi<=xs.size/\(∀a,a<below.go xs j fuel lo hi->xs.getD a 0<j)/\(∀a,below.go xs j fuel lo hi<=a->a<xs.size->j<=xs.getD a 0)):=by
 intro fuel
 induction fuel with
 |zero=>
  intro lo hi h1 h2 h3 h4 h5;have e:lo=hi:=Aa;subst e;exact⟨h3,h4,h5⟩
 |succ fuel ih=>
  intro lo hi h1 h2 h3 h4 h5;unfold below.go;by_cases hlt:lo<hi
  .rw[aA hlt];have hm:(lo+hi)/2<xs.size:=Aa;have e:xs.getD ((lo+hi)/2) j=xs.getD ((lo+hi)/2) 0:=by simp[Array.getD,hm]
   dsimp only;rw[e];by_cases hc:xs.getD ((lo+hi)/2) 0<j
   .rw[aA hc];refine ih _ _ Aa Aa h3 (λa ha=>?_) h5;by_cases e2:a=(lo+hi)/2
    .rw[e2];exact hc
    .exact fh (jCO hr Aa hm) hc
   .rw[az hc];refine ih _ _ Aa Aa Aa h4 (λa ha hs=>?_);by_cases e2:a=(lo+hi)/2
    .rw[e2];lia
    .have:=jCO hr (show (lo+hi)/2<a by lia) hs;lia
  .rw[az hlt];have e:lo=hi:=Aa;subst e;exact⟨h3,h4,h5⟩
theorem jFR(hr:Ris xs)(j:Nat):below xs j<=xs.size/\(∀a,a<below xs j->xs.getD a 0<j)/\(∀a,below xs j<=a->a<xs.size->j<=xs.getD a 0):=
 jUE hr xs.size 0 xs.size Aa (br _) (ar _) (λa h=>absurd h (eD _)) (λa h1 h2=>absurd h2 Aa)
theorem jGV(hr:Ris xs)(hi:i<=xs.size)(h1:∀a,a<i->xs.getD a 0<j)(h2:∀a,i<=a->a<xs.size->j<=xs.getD a 0):below xs j=i:=by
 obtain⟨b1,b2,b3⟩:=jFR hr j;rcases gM (below xs j) i with h|h|h
 .have q1:=h1 _ h;have q2:=b3 _ (ar _) Aa;lia
 .exact h
 .have q1:=b2 _ h;have q2:=h2 _ (ar _) Aa;lia
def jAF(xs:Array α)(p:Nat)(x:α):(insertAt xs p x).toList=xs.toList.take p++x::xs.toList.drop p:=by
 unfold insertAt;simp[fU,List.extract];rw[bE Ad]
theorem jC0(xs:Array α)(p:Nat)(x:α):(insertAt xs p x).size=xs.size+1:=by
 rw[<- aN,jAF];simp;lia
theorem jLK(hr:Ris xs)(hj:j∉xs.toList):Ris (insertAt xs (below xs j) j):=by
 obtain⟨b1,b2,b3⟩:=jFR hr j;show (insertAt xs (below xs j) j).toList.Pairwise (· < ·);rw[jAF,cN,dh];have hl:∀a∈xs.toList.take (below xs j),a<j:=by
  intro a ha;obtain⟨i,hi,e⟩:=List.mem_take_iff_getElem.mp ha;have:=b2 i Aa;have hs:i<xs.size:=by simp at hi;lia
  simp[Array.getD,hs] at this;simp at e;lia
 have hg:∀a∈xs.toList.drop (below xs j),j<a:=by
  intro a ha;obtain⟨i,hi,e⟩:=List.mem_drop_iff_getElem.mp ha;have hs:i+below xs j<xs.size:=by simpa [lW] using hi
  have:=b3 (i+below xs j) Aa hs;simp[Array.getD,hs] at this;have e':xs[i+below xs j]=a:=by simpa [lW] using e
  have hne:a≠j:=by
   intro z;apply hj;rw[<- z];exact dj ha
  lia
 refine⟨hr.sublist (eJ _ _),⟨hg,hr.sublist (i4 _ _)⟩,?_⟩;intro a ha b hb;rcases aB.mp hb with rfl|hb
 .exact hl a ha
 .exact fh (hl a ha) (hg b hb)
theorem jE5(hr:Ris t.place)(h:t.slot j=.empty):j∉t.place.toList:=by
 intro hm;obtain⟨i,hi,e⟩:=eU hm;have hs:i<t.place.size:=by simpa using hi
 have e0:t.place[i]=j:=by simpa using e
 have eb:below t.place j=i:=by
  refine jGV hr (cU hs) (λa ha=>?_) (λa h1 h2=>?_)
  .have:=jCO hr ha hs;simp only[Array.getD,hs] at this ⊢;simp[e0] at this ⊢;exact this
  .by_cases e2:a=i
   .subst e2;simp[Array.getD,hs,e0]
   .have:=jCO hr (show i<a by lia) h2;simp only[Array.getD,hs] at this;simp[e0] at this;simp[Array.getD];lia
 unfold SetTable.slot at h;dsimp only at h;rw[eb] at h;rw[aA (by simp[hs,e0])] at h;cases h
def jJC(j:Nat):has #[] j=false:=by
 unfold has;simp
def jK7(hd:t.dummies=#[]){f:Nat->Int}:∀(fuel:Nat) (p:Probe) (m:Met),p.dummy=none->probe.go t f h fuel p=some m->
  (∃j,m=.empty j none/\t.slot j=.empty)\/(∃j i n,m=.candidate j i n):=by
 intro fuel
 induction fuel with
 |zero=>intro p m _ e;simp[probe.go] at e
 |succ fuel ih=>
  intro p m hp e;unfold probe.go at e;cases hs:t.slot p.j with
  |empty=>
   rw[hs] at e;simp only[gN] at e;subst e;exact .inl ⟨p.j,by rw[hp],hs⟩
  |dummy=>
   unfold SetTable.slot at hs;dsimp only at hs;rw[hd,jJC] at hs;split at hs
   .cases hs
   .simp at hs
  |live i=>
   rw[hs] at e;dsimp only at e;split at e
   .simp only[gN] at e;subst e;exact .inr ⟨_,_,_,rfl⟩
   .refine ih _ _ ?_ e;unfold advance;split
    .exact hp
    .exact hp
def jGL(hr:Ris t.place)(hd:t.dummies=#[]){slot:Nat}{d:Bool}(e:t.freeSlot h=some (slot,d)):slot∉t.place.toList:=by
 unfold SetTable.freeSlot at e;split at e
 .rename_i j dummy hp;simp only[gN,Prod.mk.injEq] at e;have hp':probe.go t (λ_=>h+1) h (10*turns t.mask) (t.probeStart h)=some (.empty j dummy):=hp;rcases jK7 hd _ _ _ (by unfold probeStart;rfl) hp' with ⟨j',em,hs⟩|⟨_,_,_,em⟩
  .cases em;have:slot=j:=by rw[<- e.1];rfl
   rw[this];exact jE5 hr hs
  .cases em
 .cases e
def jLI(hd:t.dummies=#[])(h:t.slot j≠.empty):(∃i,t.slot j=.live i)/\j∈t.place.toList:=by
 unfold SetTable.slot at h ⊢;dsimp only at h ⊢;by_cases q:(t.place[below t.place j]?==some j)=true
 .rw[aA q];refine⟨⟨_,rfl⟩,?_⟩;have e:t.place[below t.place j]?=some j:=eq_of_beq q;obtain⟨hi,e⟩:=fY.mp e;rw[<- e];exact Array.getElem_mem_toList hi
 .rw[az q,hd,jJC] at h;exact absurd rfl h
theorem run7(i:Nat):runEnd 7 i=i:=by unfold runEnd;rw[az Aa]
theorem jN3(hm:t.mask=7)(hd:t.dummies=#[]) :∀(k fuel:Nat) (p:Probe),p.j=p.i->p.more=0->p.i<8->p.perturb<32->k<=fuel->
  probe.go t (λ_=>h+1) h fuel p=none->∀r,r<k->Nat.repeat (λi=>(i*5+1)%8) r p.i∈t.place.toList:=by
 intro k
 induction k with
 |zero=>intro fuel p _ _ _ _ _ _ r hr;lia
 |succ k ih=>
  intro fuel p h1 h2 h3 h4 h5 h6 r hr;obtain⟨f,rfl⟩:∃f,fuel=f+1:=⟨fuel-1,Aa⟩;unfold probe.go at h6;by_cases he:t.slot p.j=.empty
  .rw[he] at h6;cases h6
  .obtain⟨⟨i,hl⟩,hmem⟩:=jLI hd he;rw[hl] at h6;dsimp only at h6;rw[az (by simp;lia)] at h6;have hz:p.perturb/32=0:=Aa;have ea:t.advance p= {p with j:=(p.i*5+1)%8,more:=0,i:=(p.i*5+1)%8,perturb:=0}:=by
    unfold advance leap;rw[az Aa,hm,hz];simp[run7]
   rw[ea] at h6;cases r with
   |zero=>show p.i∈_;rw[<- h1];exact hmem
   |succ r=>
    have q:=ih f _ (by rfl) (by rfl) (by show (p.i*5+1)%8<8;lia) (by show 0<32;lia) Aa h6 r Aa;have e:∀(r i:Nat),Nat.repeat (λi=>(i*5+1)%8) (r+1) i=Nat.repeat (λi=>(i*5+1)%8) r ((i*5+1)%8):=by
     intro r
     induction r with
     |zero=>intro i;rfl
     |succ r ihr=>
      intro i;show ((Nat.repeat _ (r+1) i)*5+1)%8=((Nat.repeat _ r ((i*5+1)%8))*5+1)%8;rw[ihr]
    rw[e];exact q
theorem jPP:∀i,i<8->∀j,j<8->∃r,r<8/\Nat.repeat (λi=>(i*5+1)%8) r i=j:=by decide+kernel
theorem jGK(hm:t.mask=7)(hd:t.dummies=#[])(hz:t.place.size<8)(h0:0<=h)(h1:h<32):∃q,t.freeSlot h=some q:=by
 unfold SetTable.freeSlot;have hb:bits h<32:=by unfold bits;lia
 have hps:t.probeStart h= {j:=bits h%8,more:=0,i:=bits h%8,perturb:=bits h,dummy:=none}:=by
  unfold probeStart;rw[hm];simp[run7]
 cases e:t.probe (λ_=>h+1) h (t.probeStart h) with
 |none=>
  exfalso;have e':probe.go t (λ_=>h+1) h (10*turns t.mask) (t.probeStart h)=none:=e;rw[hps] at e';have q:=jN3 hm hd 8 _ _ (by rfl) (by rfl) (by show bits h%8<8;lia) (by exact hb) (by rw[hm];decide) e';have sub:List.range 8 ⊆ t.place.toList:=by
   intro j hj;obtain⟨r,hr,er⟩:=jPP (bits h%8) Aa j (bI.mp hj);rw[<- er];exact q r hr
  have:=List.Nodup.length_le_of_subset (List.nodup_range (n:=8)) sub;simp at this;lia
 |some m=>
  rcases jK7 hd _ _ _ (by rw[hps]) (show probe.go t (λ_=>h+1) h (10*turns t.mask) (t.probeStart h)=some m from e) with ⟨j,rfl,_⟩|⟨j,i,n,rfl⟩
  .exact⟨_,rfl⟩
  .exfalso;have nc:∀(fuel:Nat) (p:Probe) (j i:Nat) (n:Probe),probe.go t (λ_=>h+1) h fuel p≠some (.candidate j i n):=by
    intro fuel
    induction fuel with
    |zero=>intro p j i n;simp[probe.go]
    |succ f ih=>
     intro p j i n;unfold probe.go;cases t.slot p.j with
     |empty=>simp
     |dummy=>exact ih _ _ _ _
     |live i'=>
      dsimp only;rw[az (by simp;lia)];exact ih _ _ _ _
   exact nc _ _ _ _ _ e
structure Tab (t:SetTable)(n:Nat)(led:Bool):Prop where
 ris:Ris t.place
 sz:t.place.size=n
 dm:t.dummies=#[]
 msk:t.mask=7
 pl:t.plain=true
 ld:t.led=led
theorem Tab.fits{t:SetTable}{n:Nat}{led:Bool}(T:Tab t n led)(hn:n<=4):t.fits n=true:=by
 unfold SetTable.fits fill;simp[T.sz,T.dm,T.msk];lia
theorem Tab.full{led:Bool}(T:Tab t n led)(hn:n<=4):t.tooFull=false:=by
 unfold tooFull fill;simp[T.sz,T.dm,T.msk];lia
def jMI(led:Bool):Tab (fresh 0 0 led) 0 led:=⟨List.Pairwise.nil,rfl,rfl,rfl,rfl,rfl⟩
theorem jLW{led:Bool}(T:Tab t n led)(hn:n+1<=4)(es:Array (Int×Value))(he:es.size=n)(h0:0<=h)(h1:h<32)(x:Value):
  Tab (layNew t es h x).2.1 (n+1) led/\∃p,(layNew t es h x).1.toList=es.toList.take p++(h,x)::es.toList.drop p:=by
 obtain⟨⟨slot,d⟩,hf⟩:=jGK T.msk T.dm (by rw[T.sz];lia) h0 h1;unfold layNew;rw[hf];dsimp only[SetTable.put];have hnm:=jGL T.ris T.dm hf;have T2:Tab {t with place:=insertAt t.place (below t.place slot) slot,dummies:=if has t.dummies slot then eraseAt t.dummies (below t.dummies slot) else t.dummies} (n+1) led:=by
  refine⟨jLK T.ris hnm,by rw[jC0,T.sz],?_,T.msk,T.pl,T.ld⟩;rw[T.dm,jJC];rfl
 refine⟨?_,_,jAF _ _ _⟩;unfold SetTable.orStandIn;rw[jC0,he,T2.fits hn];exact T2
noncomputable def jK2(xs:Array Nat):Nat->Nat
 | 0=>0
 |i+1=>xs.getD i 0+1
theorem jIF(hr:Ris xs)(hi:i<=xs.size):below xs (jK2 xs i)=i:=by
 cases i with
 |zero=>exact jGV hr (br _) (λa h=>absurd h (eD _)) (λa _ _=>br _)
 |succ i=>
  refine jGV hr hi (λa ha=>?_) (λa h1 h2=>?_)
  .show _<xs.getD i 0+1;by_cases e:a=i
   .rw[e];lia
   .have:=jCO hr (show a<i by lia) (show i<xs.size by lia);lia
  .show xs.getD i 0+1<=_;exact jCO hr (show i<a by lia) h2
def jM2{l:List α}(h:i<l.length):(l[i]::l.eraseIdx i).Perm l:=by
 rw[List.eraseIdx_eq_take_drop_succ];have e:l=l.take i++l[i]::l.drop (i+1):=by rw[<- iY h,bM]
 conv=>rhs;rw[e]
 exact List.perm_middle.symm
theorem jTC(next:Nat->Nat):∀(fuel k:Nat) (left:List α) (out:Array α),fuel=left.length->(pickOrder.go next fuel k left out).toList.Perm (out.toList++left):=by
 intro fuel
 induction fuel with
 |zero=>
  intro k left out h;have:left=[]:=gG.mp h.symm;subst this;simp[pickOrder.go]
 |succ f ih=>
  intro k left out h;have hl:next k%left.length<left.length:=Nat.mod_lt _ Aa;unfold pickOrder.go;rw[aF hl];dsimp only;refine(ih _ _ _ (by rw[List.length_eraseIdx_of_lt hl];lia)).trans ?_;rw[eL,aY];exact dI _ (jM2 hl)
def jHF(next:Nat->Nat)(xs:Array α):(pickOrder next xs).toList.Perm xs.toList:=by
 unfold pickOrder;have:=jTC next xs.size 0 xs.toList #[] Ad;simpa using this
end SS
namespace SS
open PySem
variable {α β:Type}{Q:Ao->Shared->Prop}{i:Nat}
abbrev ledW(w:World):Bool:=!(w.params.followText "set-order")
def El(e:Int×Value)(k:Int):Prop:=e.1=hashInt k/\∃t,e.2=.int k t
def jBO{F:α->β->Prop}:∀{l:List α}{r:List β},Paired F l r->∀a∈l,∃b∈r,F a b
 |_,_,.nil=>λa h=>by cases h
 |_,_,.cons f t=>λa h=>by
  rcases aB.mp h with rfl|h
  .exact⟨_,ai,f⟩
  .obtain⟨b,hb,q⟩:=jBO t a h;exact⟨b,ah _ hb,q⟩
def jD8{F:α->β->Prop}:∀{l:List α}{r:List β},Paired F l r->∀b∈r,∃a∈l,F a b
 |_,_,.nil=>λa h=>by cases h
 |_,_,.cons f t=>λb h=>by
  rcases aB.mp h with rfl|h
  .exact⟨_,ai,f⟩
  .obtain⟨a,ha,q⟩:=jD8 t b h;exact⟨a,ah _ ha,q⟩
def jFC{F:α->β->Prop}{a:α}{b:β}(f:F a b):∀{l:List α}{r:List β}(p:Nat),Paired F l r->Paired F (l.take p++a::l.drop p) (r.take p++b::r.drop p)
 |_,_,0,q=>by simpa using Paired.cons f q
 |_,_,p+1,.nil=>by simpa using Paired.cons f .nil
 |_,_,p+1,.cons g t=>by
  simp only[lF,List.drop_succ_cons,List.cons_append];exact .cons g (jFC f p t)
def jT3(l:List α)(p:Nat)(x z:α):z∈l.take p++x::l.drop p↔z=x\/z∈l:=by
 conv=>rhs;rw[<- bM p l]
 simp only[aP,aB];constructor
 .rintro (h|h|h)
  .exact .inr (.inl h)
  .exact .inl h
  .exact .inr (.inr h)
 .rintro (h|h|h)
  .exact .inr (.inl h)
  .exact .inl h
  .exact .inr (.inr h)
def jG1(l:List α)(p:Nat)(x:α):(l.take p++x::l.drop p).Perm (x::l):=by
 have h:(l.take p++x::l.drop p).Perm (x::(l.take p++l.drop p)):=List.perm_middle;rw[bM] at h;exact h
structure SetG (w:World)(h:Heap)(a:Addr)(ks:Ag):Prop where
 ex:∃o es ep t,h.get? a=some o/\o.ExactSet/\o.data=.set es ep t/\Paired El es.toList ks/\Tab t es.size (ledW w)
 nd:ks.Nodup
 len:ks.length<=4
variable {prog:Program}{w:World}{A:Around}{E:Ah}{s:Shared}{a:Addr}
section
variable {ks:Ag}{k:Int}{tk:Tok}
def elems{es:List (Int×Value)}(h:Paired El es ks):ElemsOf (intKind prog w) es:=λe he=>by
 obtain⟨k,_,h1,t,h2⟩:=jBO h e he;rw[h2];exact⟨⟨k,by show Value.isInt k (.int k t)=true;simp[Value.isInt],h1⟩,rfl⟩
def SetG.at{h h':Heap}(S:SetG w h a ks)(e:∀o,h.get? a=some o->h'.get? a=some o):SetG w h' a ks:=by
 obtain⟨⟨o,es,ep,t,ho,r⟩,nd,len⟩:=S;exact⟨⟨o,es,ep,t,e _ ho,r⟩,nd,len⟩
theorem jCD(k0:0<=k)(k1:k<32):hashInt k=k:=by
 obtain⟨n,rfl⟩:=Int.eq_ofNat_of_zero_le k0;have e:∀n:Nat,n<32->hashInt (n:Int)=(n:Int):=Ab;exact e n Aa
theorem jX8{Q:Bool->Shared->Prop}(S:SetG w s.heap a ks)(hl:ks.length+1<=4)(k0:0<=k)(k1:k<32)
  (h:∀b h' ks',Heap.SameBut a s.heap h'->SetG w h' a ks'->(∀z,z∈ks'↔z=k\/z∈ks)->ks'.length<=ks.length+1->Q b {s with heap:=h'}):
  wpAny (model prog w) A (setAddHashed a (.int k tk) (hashInt k)) Q E s:=by
 obtain⟨o,es,ep,t,ho,hex,hd,hp,T⟩:=id S.ex;have hn:es.size=ks.length:=by rw[<- aN];exact gq hp
 have hf:=T.fits Aa;have hel:ElemsOf (intKind prog w) es.toList:=elems hp;have hb:es.size<scanBound:=by unfold scanBound;lia
 have hi:∀(j:Int) (t:Tok),Value.isInt k (.int j t)=true->j=k:=λj t e=>by simpa [Value.isInt] using e
 unfold setAddHashed setAddHashedIn;refine bB (ae (dX ho hd hf ?_));dsimp only;rw[byScan_of (knd:=intKind prog w) rfl hb hel,aA rfl];unfold setAddByScan;refine ae (ae (dA (ae ?_)));refine wpAny_setScan_of (knd:=intKind prog w) (k:=k) (by show Value.isInt k (.int k tk)=true;simp[Value.isInt]) ho hd hf hel ?_;have es0:s= {s with heap:=s.heap}:=by cases s;rfl
 cases hr:List.findIdx? (λe=>(intKind prog w).is k e.2) es.toList with
 |some j=>
  obtain⟨hj,hpj,_⟩:=List.findIdx?_eq_some_iff_getElem.mp hr;obtain⟨k',hk',_,t',e'⟩:=jBO hp _ (dq hj);have hkk:k'=k:=hi k' t' (by rw[<- e'];exact hpj);subst hkk;refine aj (aj ?_);rw[es0];exact h false s.heap ks (i5 a s.heap) S (λz=>⟨.inr,λq=>q.elim (λe=>e ▸ hk') id⟩) Aa
 |none=>
  have hnk:k∉ks:=λhm=>by
   obtain⟨e,he,_,t',e'⟩:=jD8 hp k hm;have q:=List.findIdx?_eq_none_iff.mp hr e he;rw[e'] at q;have q':Value.isInt k (.int k t')=false:=q;simp[Value.isInt] at q'
  obtain⟨T1,p,hp1⟩:=jLW T Aa es rfl (h:=hashInt k) (by rw[jCD k0 k1];exact k0) (by rw[jCD k0 k1];exact k1) (.int k tk);dsimp only;show wpAny _ A (match layNew t es (hashInt k) (Value.int k tk) with | (es,t,wasDummy,gave)=>_) _ E s;generalize layNew t es (hashInt k) (Value.int k tk)=L at T1 hp1 ⊢;obtain⟨es1,t1,wd,gv⟩:=L;dsimp only at T1 hp1 ⊢;have hp2:Paired El es1.toList (ks.take p++k::ks.drop p):=by
   rw[hp1];exact jFC ⟨rfl,tk,rfl⟩ p hp
  have hz1:es1.size=es.size+1:=by
   rw[<- aN,hp1,(jG1 es.toList p (hashInt k,Value.int k tk)).length_eq];simp
  have hlen:(ks.take p++k::ks.drop p).length=ks.length+1:=(jG1 ks p k).length_eq;have T1':Tab t1 es1.size (ledW w):=by rw[hz1];exact T1
  have hg:(s.heap.update a (Obj.putSet es1 t1)).get? a=some {o with data:=.set es1 (ep+1) t1}:=by
   have q:=cx (Obj.putSet es1 t1) ho (by rw[putSet_of es1 t1 hd];rfl);rw[putSet_of es1 t1 hd] at q;exact q
  have fin:Q true {s with heap:=s.heap.update a (Obj.putSet es1 t1)}:=
   h true _ _ (iw ..) ⟨⟨_,es1,ep+1,t1,hg,hex,rfl,hp2,T1'⟩,(jG1 ks p k).nodup_iff.mpr (bS.mpr ⟨hnk,S.nd⟩),Aa⟩ (λz=>jT3 ks p k z) Aa
  have hfull:t1.tooFull=false:=T1'.full Aa;refine ae (show wpAny _ A (match gv with|true=>rule "set.scan.the-table-gave-way" |false=>pure ()) _ E s from ?_);have hzl:es1.size<=sizeLine:=by rw[hz1,show sizeLine=2^24 from rfl];lia
  cases gv with
  |true=>
   refine dA ?_;split
   all_goals
    refine ae (show wpAny _ A (pure true:Sem Bool) _ E s from aj ?_);simp only[lE];refine ae (wpAny_storeSet_of ho hd ?_ hzl);rw[hfull,db,az aC];exact aj (aj fin)
  |false=>
   refine aj ?_;split
   all_goals
    refine ae (show wpAny _ A (pure true:Sem Bool) _ E s from aj ?_);simp only[lE];refine ae (wpAny_storeSet_of ho hd ?_ hzl);rw[hfull,db,az aC];exact aj (aj fin)
end
def jBM:entryFor table "set.update.loop" =some Builtin.«set.update.loop»:=jq (by kernel_rfl)
theorem jAL:plainId "set.update.loop" =true:=by decide+kernel
variable {I:Addr}
section
variable {R:Result->Shared->Prop}{fp wr:List Addr}{n:Nat}{P:Nat->Value->Prop}{St:Nat->Shared->Prop}
theorem jPX(W:WalksS prog w A.in1 I fp wr (λa b=>b=a) n P St)(S:Addr)(hSf:S∉fp)(val:Nat->Int)(hval:∀i v,P i v->∃t,v=.int (val i) t)(hv:∀i,i<n->0<=val i/\val i<32)(hn:n<=4):
  ∀(k i:Nat) (s:Shared) (ks:Ag),n-i=k->i<=n->St i s->SetG w s.heap S ks->ks.length<=i->(∀z,z∈ks↔∃j,j<i/\val j=z)->
   (∀s' ks',Moved (S::wr) (λa b=>b=a) s s'->SetG w s'.heap S ks'->(∀z,z∈ks'↔∃j,j<n/\val j=z)->R (.ok (.ret .none)) s')->
   codeAny (model prog w) A (.builtin "set.update.loop" ⟨[.ref S,.ref I],[]⟩) R s:=by
 have hSw:S∉wr:=λh=>hSf (W.sub _ h);have sub1:∀b∈wr,b∈S::wr:=λb hb=>ah _ hb;intro k
 induction k with
 |zero=>
  intro i s ks hk hi hst hS hl hm hR;obtain rfl:i=n:=by lia
  refine bZ jBM ?_;rw[bY jAL _];show wpAny _ A.in1 (pyNext (.ref I) >>= _) _ _ s;refine ae (W.done s _ _ hst λs' mv=>?_);show wpAny _ A.in1 (ret Value.none) _ _ s';exact aj (hR s' ks (mv.mono sub1) (hS.at λo e=>mv.heap S o hSw e) hm)
 |succ k ih=>
  intro i s ks hk hi hst hS hl hm hR;have hlt:i<n:=Aa;refine bZ jBM ?_;rw[bY jAL _];show wpAny _ A.in1 (pyNext (.ref I) >>= _) _ _ s;refine ae (W.item i s _ _ hlt hst λv s' hP hst' mv=>?_);obtain⟨t,rfl⟩:=hval i v hP;have hS':=hS.at (h':=s'.heap) λo e=>mv.heap S o hSw e;show wpAny _ A.in1 (holding [Value.int (val i) t] (setAdd S (.int (val i) t)) >>= _) _ _ s';refine ae (bB ?_);unfold setAdd;refine bB (ae (wpAny_pyHash_int ?_));refine jX8 (s:= {s' with toks:=s'.toks+1}) hS' Aa (hv i hlt).1 (hv i hlt).2 λb h' ks' sb hS2 hm2 hl2=>?_;refine aj ⟨eS jAL _,ih (i+1) _ ks' Aa hlt (W.frame _ s' _ _ hst' (fb _) λb hb o e=>?_) hS2 Aa (λz=>?_) λs'' ks'' mv2 hS3 hm3=>?_⟩
  .rw[sb.2 b (λh:b=S=>hSf (by rw[<- h];exact hb))];exact e
  .rw[hm2,hm];constructor
   .rintro (h|⟨j,hj,e⟩)
    .exact⟨i,Aa,h.symm⟩
    .exact⟨j,Aa,e⟩
   .rintro ⟨j,hj,e⟩;by_cases hji:j=i
    .exact .inl (by rw[<- e,hji])
    .exact .inr ⟨j,Aa,e⟩
  .refine hR s'' ks'' (Moved.trans W.gtrans ((mv.mono sub1).then_heap (fb _) λb o hb e=>?_) mv2) hS3 hm3;rw[sb.2 b (λh:b=S=>hb (by rw[h];exact ai))];exact e
end
section
def jU1(a:Value){Q:Ah}
  (h:Q (.ref s.heap.objs.size) {s with heap:=s.heap.push {cls:=.type "set",dict:=none,data:=.set #[] 0 (.fresh 0 0 (ledW w))}}):
  codeAny (model prog w) A (.call (.builtin "set.__new__") ⟨[.type "set",a],[]⟩) (wants Q E) s:=by
 refine codeAny_of_tree (show wpAny _ A.in1 (do checkBuiltinCall "set.__new__" ⟨[.type "set",a],[]⟩;again (.builtin "set.__new__" ⟨[.type "set",a],[]⟩)) _ _ s from ?_);refine ae (i6 (F.newCall_set_1 a) (aj ⟨eS F.plain_set_new _,bZ F.entry_set_new ?_⟩));rw[bY F.plain_set_new _];unfold Builtin.«set.__new__» Builtin.Frozenset.newClass;have q:=sub_set_self;obtain⟨hp,g,d,tk,os⟩:=s;dsimp only
 wp_walk
 refine gd (aj ?_);dsimp only;simp only[newObj];exact ae (wpAny_alloc (aj (aj h)))
set_option maxHeartbeats 3200000 in
theorem set_of_list{l:Addr}{items:An}{ns:Ag}{Q:Ah}(hh:A.handled=none)(hl:s.heap.IsList l items)(hi:PyProof.Rows.IntsAre items.toList ns)
  (hn:items.size<=4) (hv:∀z∈ns,0<=z/\z<32)
  (h:∀(h':Heap) (tk:Nat) (ks:Ag),SetG w h' s.heap.objs.size ks->(∀z,z∈ks↔z∈ns)->(∀b o,s.heap.get? b=some o->h'.get? b=some o)->Q (.ref s.heap.objs.size) {s with heap:=h',toks:=tk}):
  wpAny (model prog w) A (call (.type "set") [.ref l]) Q E s:=by
 obtain⟨c,tl,hmro⟩:=F.called_set.mro;have hmade:=F.called_set.made;have hsub:=F.called_set.sub;have g1:=F.called_set.notType;have g2:=F.called_set.canCreate;have g3:=F.typeCall_set_1 (.ref l);refine fe (codeAny_of_tree (show wpAny _ _ (callAny (.type "set") _) _ _ _ from ?_));refine aj ⟨Code.quiet_builtin _ Ab,bZ F.entry_type_call ?_⟩;rw[Around.under_plain (weight_type_call_type "set" [.ref l] []) rfl]
 repeat (any_goals (first|assumption|wp_step))
 have hlen:items.size=ns.length:=by rw[<- aN];exact hi.length
 refine df (jU1 (.ref l) (E:=E) (Q:=λobj z=>obj=.ref s.heap.objs.size/\z= {s with heap:=s.heap.push {cls:=.type "set",dict:=none,data:=.set #[] 0 (.fresh 0 0 (ledW w))}}) ⟨rfl,rfl⟩) λr z hr=>?_;cases r with
 |error e=>exact hr
 |ok fl=>
  cases fl with
  |ret obj=>
   obtain⟨rfl,rfl⟩:=hr;generalize hO:({cls:=.type "set",dict:=none,data:=.set #[] 0 (.fresh 0 0 (ledW w))}:Obj)=oS;have hS:(s.heap.push oS).get? s.heap.objs.size=some oS:=aw _ (by rw[<- hO];rfl);have hT:Shared.TypeIs {s with heap:=s.heap.push oS} (.ref s.heap.objs.size) "set" :=⟨_,hS,by rw[<- hO]⟩;have hli:=F.called_set.init.lookup;have hbi:=F.called_set.init.bind (.ref s.heap.objs.size)
   repeat (any_goals (first|assumption|wp_step))
   refine df (codeAny_call_builtin (R:=wants (λr z2=>r=.none/\∃h' tk ks,z2= {s with heap:=h',toks:=tk} /\SetG w h' s.heap.objs.size ks/\(∀z,z∈ks↔z∈ns)/\(∀b o,s.heap.get? b=some o->h'.get? b=some o)) E)
    F.called_set.init.plain F.entry_set_init (check_set_init_1 hT ?_)) λr2 z2 hr2=>?_
   .obtain⟨ol,hol,hcl,nl,hdl⟩:=hl;obtain⟨ocls,odict,odata,oslots⟩:=ol;simp only at hcl hdl;subst hcl;subst hdl;have hol':(s.heap.push oS).get? l=some {cls:=.type "list",dict:=odict,data:=.seq items nl,slots:=oslots}:=af _ hol;have y1:=F.sub_list_set;have y2:=F.sub_list_frozenset;have y3:(Value.type "list" ==Value.type "dict")=false:=Ac;have hl1:(s.heap.push oS).IsList l items:=⟨_,hol',rfl,nl,rfl⟩;subst hO;unfold Builtin.«set.__init__» noKeywords Builtin.Frozenset.updateFrom;generalize hPI:pyIter=PI
    wp_walk
    subst hPI;refine dz hl1 (ae (fZ ?_));have hlS:l<s.heap.objs.size:=ay hol;have hz1:(s.heap.push {cls:=.type "set",dict:=none,data:=.set #[] 0 (.fresh 0 0 (ledW w))}).objs.size=s.heap.objs.size+1:=cA _ _;have nI:l≠(s.heap.push {cls:=.type "set",dict:=none,data:=.set #[] 0 (.fresh 0 0 (ledW w))}).objs.size:=by
     rw[hz1];exact aO (cB hlS)
    have nS:s.heap.objs.size∉ [(s.heap.push {cls:=.type "set",dict:=none,data:=.set #[] 0 (.fresh 0 0 (ledW w))}).objs.size,l]:=by
     rw[hz1];simp only[aB,bq,cL,io];exact⟨aO (eV _),de hlS⟩
    have hget:((s.heap.push {cls:=.type "set",dict:=none,data:=.set #[] 0 (.fresh 0 0 (ledW w))}).push {cls:=.type "list_iterator",data:=.fields #[.ref l,.int 0 0]}).get? s.heap.objs.size
      =some {cls:=.type "set",dict:=none,data:=.set #[] 0 (.fresh 0 0 (ledW w))}:=af _ hS
    refine jPX ((jy (by simp[hh]) _ l nI items).toS) s.heap.objs.size nS (λi=>ns.getD i 0) (λi v q=>PyProof.Rows.IntsAre.int_at hi i v (by rw[bR];exact q))
     (λi q=>hv _ ?_) hn (items.size-0) 0 _ [] rfl (br _) ⟨⟨_,aw _ rfl,rfl,rfl⟩,hl1.push _⟩ ⟨⟨_,#[],0,_,hget,⟨rfl,rfl,rfl⟩,rfl,.nil,jMI _⟩,lj,br _⟩ (ar _) (λz=>⟨λq=>by(cases q),λ⟨j,q,_⟩=>absurd q (eD _)⟩) ?_
    .have q':i<ns.length:=by rw[<- hlen];exact q
     simp[List.getD,q']
    .intro s' ks mv S' hm;obtain⟨h',g',d',tk',os'⟩:=s';have e1:g'=s.gens:=mv.gens;have e2:d'=s.drawn:=mv.drawn;have e3:os'=s.os:=mv.os;subst e1;subst e2;subst e3;refine aj (aj ⟨rfl,h',tk',ks,rfl,S',λz=>?_,λb o e=>?_⟩)
     .rw[hm];constructor
      .rintro ⟨j,hj,e⟩;have hj':j<ns.length:=by rw[<- hlen];exact hj
       rw[<- e];simp[List.getD,hj']
      .intro hz;obtain⟨j,hj,e⟩:=eU hz;exact⟨j,by rw[hlen];exact hj,by simp[List.getD,hj,e]⟩
     .have hb:=ay e;refine mv.heap b o ?_ (af _ (af _ e));rw[hz1];simp only[aB,bq,cL,io];exact⟨aO hb,aO (cB hb)⟩
   .cases r2 with
    |error e=>exact hr2
    |ok fl2=>
     cases fl2 with
     |ret r=>
      obtain⟨rfl,h',tk,ks,rfl,hS',hm,hk⟩:=hr2
      repeat (any_goals (first|assumption|wp_step))
      exact h _ _ _ hS' hm hk
     |_=>exact hr2.elim
  |_=>exact hr.elim
end
theorem slot_si_next:Slot "set_iterator" "__next__" "set_iterator.__next__" :=
 .of (owner:= "set_iterator") (n:= "__next__") (by
   rw[kh,gY]
   kernel_rfl) Ab Ab
  Ab
  (by first
   |exact .inl Ab
   |exact .inr Ab)
  (by
   rw[lu]
   kernel_rfl)
theorem jD4:Slot "set_iterator" "__iter__" "set_iterator.__iter__" :=
 .of (owner:= "set_iterator") (n:= "__iter__") (by
   rw[kh,gY]
   kernel_rfl) Ab Ab
  Ab
  (by first
   |exact .inl Ab
   |exact .inr Ab)
  (by
   rw[lu]
   kernel_rfl)
def jCE:entryFor table "set_iterator.__next__" =some Builtin.«set_iterator.__next__»:=entryFor_of_tree (by kernel_rfl)
theorem jEZ:entryFor table "set.__iter__" =some Builtin.«frozenset.__iter__»:=
 entryFor_alias (id':= "frozenset.__iter__") (by kernel_rfl) rfl Ab (by kernel_rfl)
theorem jGP:entryFor table "set_iterator.__iter__" =some Builtin.«dict_keyiterator.__iter__»:=
 entryFor_alias (id':= "dict_keyiterator.__iter__") (by kernel_rfl) (by first|rfl|decide+kernel | (unfold String.splitOn;simp+decide [String.splitOnAux])) Ab
  (by kernel_rfl)
def jDF(a:Value):argsOk "set_iterator.__next__" ⟨[a],[]⟩:=by unfold argsOk;kernel_rfl
def jIG(a:Value):argsOk "set_iterator.__iter__" ⟨[a],[]⟩:=by unfold argsOk;kernel_rfl
def jGX(a:Value):argsOk "set.__iter__" ⟨[a],[]⟩:=by unfold argsOk;kernel_rfl
abbrev byTxt(w:World):Bool:=w.params.followText "set-order"
abbrev IsSI(h:Heap)(I:Addr)(slot i:Nat)(a:Addr)(n ep:Nat):Prop:=
 h.get? I=some {cls:=.type "set_iterator",dict:=none,data:=.fields #[rawInt slot,rawInt i,.ref a,rawInt n,rawInt ep],slots:=#[]}
def qG(w:World)(t:SetTable)(i:Nat):Nat:=if byTxt w=true then 0 else jK2 t.place i
noncomputable def told(w:World)(a:Addr)(ep:Nat)(es:Array (Int×Value)):Al:=(if byTxt w=true then (pickOrder (w.params.setOrder a ep) es).toList else es.toList).map (·.2)
def jAT(w:World)(a:Addr)(ep:Nat)(es:Array (Int×Value)):(told w a ep es).length=es.size:=by
 unfold told;rw[ag];split
 .rw[(jHF _ es).length_eq];simp
 .simp
def jMG(w:World)(a:Addr)(ep:Nat)(es:Array (Int×Value)):(told w a ep es).Perm (es.toList.map (·.2)):=by
 unfold told;split
 .exact(jHF _ es).map _
 .exact .refl _
variable {o:Obj}{es:Array (Int×Value)}{ep:Nat}{t:SetTable}
theorem jNO{Q:Option (Value×Nat)->Shared->Prop}(ho:s.heap.get? a=some o)(hd:o.data=.set es ep t)(T:Tab t es.size (ledW w))(hn:es.size<=4)(hi:i<=es.size)
  (h:Q ((told w a ep es)[i]?.map λv=>(v,qG w t (i+1))) s):wpAny (model prog w) A (setNext a (qG w t i) i ep) Q E s:=by
 unfold setNext;refine ae (dX ho hd (T.fits hn) ?_);dsimp only;unfold setsByText;refine ae (ae (gd (aj ?_)));show wpAny _ A (if byTxt w=true then _ else _) Q E s;have hl:=jAT w a ep es;by_cases hb:byTxt w=true
 .rw[aA hb,az Ad];unfold setWalk;refine ae (ae (dX ho hd (T.fits hn) ?_));dsimp only;unfold setsByText;refine ae (ae (gd (aj ?_)));show wpAny _ A (if byTxt w=true then _ else _) _ E s;rw[aA hb];refine ae (gd (aj (aj ?_)));have e:(told w a ep es)[i]?.map (λv=>(v,qG w t (i+1)))=(pickOrder (w.params.setOrder a ep) es)[i]?.map (λe=>(e.snd,qG w t i)):=by
   unfold told qG;rw[aA hb,aA hb,aA hb,aX,bR,Option.map_map];rfl
  rw[e] at h;exact h
 .rw[az hb];have hb':byTxt w=false:=by simpa using hb
  have hld:t.led=true:=by rw[T.ld];show (!byTxt w)=true;rw[hb'];rfl
  show wpAny _ A (if (!t.plain&&decide (es.size>1))=true then _ else _) Q E s;rw[T.pl,lI,gI,az aC];refine ae ?_;show wpAny _ A (if (!t.led&&!es.isEmpty)=true then _ else pure ()) _ E s;rw[hld,lI,gI,az aC];refine aj (aj ?_);have eb:SetTable.below t.place (qG w t i)=i:=by
   unfold qG;rw[az hb];exact jIF T.ris (by rw[T.sz];exact hi)
  rw[eb];have et:(told w a ep es)[i]?=es[i]?.map (·.2):=by
   unfold told;rw[az hb,aX,bR]
  rw[et] at h;by_cases hlt:i<es.size
  .have h1:es[i]?=some es[i]:=by simp[hlt]
   have hlt2:i<t.place.size:=by rw[T.sz];exact hlt
   have h2:t.place[i]?=some t.place[i]:=by simp[hlt2]
   have h3:qG w t (i+1)=t.place[i]+1:=by
    unfold qG jK2;rw[az hb];simp[Array.getD,hlt2]
   rw[h1,h3] at h;rw[h1,h2];exact h
  .have h1:es[i]?=none:=by simp;lia
   rw[h1] at h;rw[h1];exact h
def jH9{v:Value}(ho:s.heap.get? a=some o)(hd:o.data=.set es ep t)(T:Tab t es.size (ledW w))(hn:es.size<=4)
  (hit:IsSI s.heap I (qG w t i) i a es.size ep) (hv:(told w a ep es)[i]?=some v)
  (hQ:∀h',IsSI h' I (qG w t (i+1)) (i+1) a es.size ep->Heap.SameBut I s.heap h'->Q (some v) {s with heap:=h'}):wpAny (model prog w) A (pyNext (.ref I)) Q E s:=by
 have hT:s.TypeIs (.ref I) "set_iterator" :=⟨_,hit,rfl⟩;have hi:i<es.size:=by
  rw[<- jAT w a ep es];exact(am.mp hv).1
 unfold pyNext;refine ae (dN (cM (name:=Str.ofString "__next__") hT slot_si_next (cH slot_si_next hT jCE ?_ (jDF _))));unfold Builtin.«set_iterator.__next__»;refine ae (m:=slotArgs "__next__" 0 _) (aj ?_);dsimp only;unfold fieldsOf;refine ae (ae (fJ hit ?_));refine aj ?_;dsimp only[rawInt];unfold setEntries;refine ae (ae (dX ho hd (T.fits hn) (aj ?_)));rw[az Ad];simp only[bo];refine ae (jNO ho hd T hn (cU hi) ?_);rw[hv];dsimp only[Option.map];refine ae (di hit Ad λh1 hit1 sb1=>?_);refine ae (di hit1 Ad λh2 hit2 sb2=>?_);refine aj ⟨v,rfl,aj (hQ h2 ?_ (sb1.trans sb2))⟩;show h2.get? I=_;rw[hit2];simp[rawInt]
def jIR(hh:A.handled=none)(ho:s.heap.get? a=some o)(hd:o.data=.set es ep t)(T:Tab t es.size (ledW w))(hn:es.size<=4)
  (hit:IsSI s.heap I (qG w t es.size) es.size a es.size ep)
  (hQ:∀h',Heap.ExtBut I s.heap h'->Q none {s with heap:=h'}):wpAny (model prog w) A (pyNext (.ref I)) Q E s:=by
 have hT:s.TypeIs (.ref I) "set_iterator" :=⟨_,hit,rfl⟩;unfold pyNext;refine ae (dN (cM (name:=Str.ofString "__next__") hT slot_si_next (cH slot_si_next hT jCE ?_ (jDF _))));unfold Builtin.«set_iterator.__next__»;refine ae (m:=slotArgs "__next__" 0 _) (aj ?_);dsimp only;unfold fieldsOf;refine ae (ae (fJ hit ?_));refine aj ?_;dsimp only[rawInt];unfold setEntries;refine ae (ae (dX ho hd (T.fits hn) (aj ?_)));rw[az Ad];simp only[bo];refine ae (jNO ho hd T hn (ar _) ?_);rw[da (by rw[jAT];exact ar _)];dsimp only[Option.map];refine ae (di hit Ad λh1 hit1 sb1=>?_);refine ae ?_;simp only[newExc,newTuple];refine ae (bP ?_ (by size_fits));refine ae (m:=firstArgMember _ _) (i6 (a:=Value.none) (by first|rfl | (simp only[firstArgMember];rfl)) ?_);refine bP ?_ (by size_fits);simp only[raiseNew];refine ae (wpAny_handled ?_);rw[show A.in1.handled=none from hh];refine ae (aj (wpAny_throw ?_));refine ae (g5 (T:= "StopIteration") (b:=true) ⟨_,aw _ rfl,rfl⟩ lv ?_);exact aj (hQ _ ((sb1.extBut.push _).push _))
def jSX{slot n:Nat}{Q:Ah}(hit:IsSI s.heap I slot i a n ep)(h:Q (.ref I) s):wpAny (model prog w) A (pyIter (.ref I)) Q E s:=by
 have hT:s.TypeIs (.ref I) "set_iterator" :=⟨_,hit,rfl⟩;refine wpAny_pyIter_slot hT jD4 (cH jD4 hT jGP ?_ (jIG _));show wpAny _ _ (ret (.ref I)) _ _ s;exact aj ⟨_,rfl,"set_iterator",_,hT,slot_si_next.lookup,h⟩
theorem jQ1{Q:Ah}(hx:o.ExactSet)(ho:s.heap.get? a=some o)(hd:o.data=.set es ep t)(T:Tab t es.size (ledW w))(hn:es.size<=4)
  (hQ:∀h',h'.get? s.heap.objs.size=some {cls:=.type "set_iterator",dict:=none,data:=.fields #[rawInt (qG w t 0),rawInt 0,.ref a,rawInt es.size,rawInt ep],slots:=#[]} ->(∀b u,s.heap.get? b=some u->h'.get? b=some u)->
   h'.objs.size=s.heap.objs.size+1->Q (.ref s.heap.objs.size) {s with heap:=h'}):wpAny (model prog w) A (pyIter (.ref a)) Q E s:=by
 have hT:s.TypeIs (.ref a) "set" :=⟨o,ho,hx.1⟩;refine wpAny_pyIter_slot hT lg (cH lg hT jEZ ?_ (jGX _));unfold Builtin.«frozenset.__iter__»;refine ae (show wpAny _ _ (pure a:Sem Addr) _ _ s from aj ?_);unfold Builtin.Frozenset.sizeOf setEntries;refine ae (ae (ae (dX ho hd (T.fits hn) (aj (aj ?_)))));dsimp only;unfold setDrawn;refine ae (ae (dX ho hd (T.fits hn) ?_));dsimp only;unfold setsByText;refine ae (ae (gd (aj (aj ?_))));show wpAny _ _ (if (!byTxt w&&(!t.plain&&decide (es.size>1)))=true then _ else _) _ _ s;rw[T.pl,lI,gI,db,az aC];refine ae (aj ?_);refine ae (wpAny_setEpoch_of ho hd (T.fits hn) ?_);refine ae (bP (aj ⟨_,rfl,"set_iterator",_,⟨_,aw _ rfl,rfl⟩,slot_si_next.lookup,hQ _ ?_ (λb u e=>af _ e) (cA _ _)⟩) (by size_fits));have e0:qG w t 0=0:=by unfold qG jK2;split<;>rfl
 rw[e0];exact aw _ rfl
def jMA(hh:A.handled=none)(hne:a≠I)(hd:o.data=.set es ep t)(T:Tab t es.size (ledW w))(hn:es.size<=4):
  Walks prog w A I [I,a] [I] es.size (λi v=>(told w a ep es)[i]?=some v) (λi h=>IsSI h I (qG w t i) i a es.size ep/\h.get? a=some o) where
 sub:=λb hb=>by simp at hb;simp[hb]
 frame:=λ_ _ _ st hk=>⟨hk I Ad _ st.1,hk a Ad _ st.2⟩
 item:=λi s Q E hi st hQ=>by
  obtain⟨v,hv⟩:∃v,(told w a ep es)[i]?=some v:=⟨_,aF (by rw[jAT];exact hi)⟩;exact jH9 st.2 hd T hn st.1 hv λh' hit' sb=>hQ v h' s.toks hv ⟨hit',(sb.2 a hne).trans st.2⟩ λb o hb e=>(sb.2 b (λz=>hb (by simp[z]))).trans e
 done:=λs Q E st hQ=>jIR hh st.2 hd T hn st.1 λh' eb=>hQ h' s.toks λb o hb e=>eb b o (λz=>hb (by simp[z])) e
 self:=λ_ _ _ _ st hQ=>jSX st.1 hQ
def jH7:typeLookup (.type "set") "__len__" =pure (some (.builtin "set.__len__")):=by rw[kh,gY];kernel_rfl
theorem jR2{Q:Bool->Shared->Prop}(hT:s.TypeIs (.ref a) "set")(h:Q false s):wpAny (model prog w) A (Builtin.List.listLengthHint (.ref a)) Q E s:=by
 unfold Builtin.List.listLengthHint;refine ae (kj hT jH7 ?_);generalize hid:("set.__len__":String)=id0
 wp_delta
 rw[show splitId id0=some ("set","__len__") from by subst hid;decide+kernel];subst hid;refine ae (g5 (b:=true) hT (by rw[lu];kernel_rfl) ?_);refine wpAny_ite_split (λq=>absurd q Ac) (λ_=>?_);refine wpAny_ite_split (λ_=>?_) (λq=>absurd Ab q);exact ae (iC hT (aj h))
theorem jJN{Q:Al->Shared->Prop}(hh:A.handled=none)(hx:o.ExactSet)(ho:s.heap.get? a=some o)(hd:o.data=.set es ep t)(T:Tab t es.size (ledW w))(hn:es.size<=4)
  (hQ:∀s',(∀b u,s.heap.get? b=some u->s'.heap.get? b=some u)->s'.gens=s.gens->s'.drawn=s.drawn->s'.os=s.os->s.heap.objs.size<s'.heap.objs.size->Q (told w a ep es) s'):wpAny (model prog w) A (collect (.ref a)) Q E s:=by
 have ha:a<s.heap.objs.size:=ay ho;have hSa:s.heap.objs.size≠a:=de ha;unfold collect;refine ae (fZ (bZ PySem.F.entry_proto_collect ?_));rw[bY iE _];show wpAny _ A.in1 (newList [] >>= λl=>again (.builtin "list.__iadd__" ⟨[l,.ref a],[]⟩)) _ _ s;refine ae (bP (aj ⟨eS eW _,bZ PySem.F.entry_list_iadd ?_⟩));rw[bY eW _];generalize hE:({s with heap:=s.heap.push {cls:=.type "list",dict:=none,data:=.seq ([]:Al).toArray}}:Shared)=s1;have ho1:s1.heap.get? a=some o:=by rw[<- hE];exact af _ ho
 have hL1:s1.heap.get? s.heap.objs.size=some {cls:=.type "list",dict:=none,data:=.seq ([]:Al).toArray}:=by rw[<- hE];exact aw _ rfl
 have hz1:s1.heap.objs.size=s.heap.objs.size+1:=by rw[<- hE];exact cA _ _
 have hT1:s1.TypeIs (.ref a) "set" :=⟨o,ho1,hx.1⟩;show wpAny _ A.in1 (Builtin.List.listExtendWith (.ref s.heap.objs.size) (.ref a) (.ref s.heap.objs.size)) _ _ _;unfold Builtin.List.listExtendWith;refine ae (iC hT1 ?_);have q1:Builtin.List.listSameRef (.ref s.heap.objs.size) (.ref a)=false:=by simp[Builtin.List.listSameRef,hSa]
 rw[az (by rw[q1];decide)];refine ae (jQ1 hx ho1 hd T hn λh2 hI2 k2 z2=>?_);refine ae (bB ?_);have ho2:h2.get? a=some o:=k2 _ _ ho1;have hT2:Shared.TypeIs {s1 with heap:=h2} (.ref a) "set" :=⟨o,ho2,hx.1⟩;have hL2:=k2 _ _ hL1;refine jR2 hT2 ?_;rw[aA Ab];refine ae (dA ?_);have hne:s.heap.objs.size≠s1.heap.objs.size:=Aa;refine ae ?_;show wpAny _ A.in1 (updateSeq s.heap.objs.size (·.push .none) >>= λ_=>updateSeq s.heap.objs.size (·.pop)) _ _ _;refine ae (wpAny_updateSeq hL2 rfl ?_);have hL3:=cx (Obj.mapSeq (·.push Value.none)) hL2 rfl;refine wpAny_updateSeq hL3 rfl ?_;have hL4:=cx (Obj.mapSeq (·.pop)) hL3 rfl;have oth:∀b u,b≠s.heap.objs.size->h2.get? b=some u->((h2.update s.heap.objs.size (Obj.mapSeq (·.push Value.none))).update s.heap.objs.size (Obj.mapSeq (·.pop))).get? b=some u:=
  λb u hb e=>(bi _ _ (cZ hb)).trans ((bi _ _ (cZ hb)).trans e)
 have W:=(jMA (prog:=prog) (A:=A.in1) (a:=a) (I:=s1.heap.objs.size) hh (aO (show a<s1.heap.objs.size by rw[hz1];exact cB ha)) hd T hn).toS;have z24:es.size<=sizeLine:=by rw[show sizeLine=2^24 from rfl];lia
 refine aj ⟨eS PySem.F.plain_extend_loop _,codeAny_extend_loopS W z24 s.heap.objs.size (by simp[hne,hSa]) _ es.size 0 _ _ _ rfl (br _) ⟨oth _ _ (cZ hne) hI2,oth _ _ (cZ hSa) ho2⟩ hL4 (ItemsOf.nil _) λs' acc' c' hm hS' hacc=>?_⟩;show wpAny _ A (load s.heap.objs.size >>= _) _ _ s';refine ae (fJ hS' ?_);have eacc:acc'.toList=told w a ep es:=by
  apply List.ext_getElem?;intro i;by_cases hi:i<es.size
  .have hi':i<acc'.size:=by rw[hacc.1];exact hi
   have:=hacc.2 i acc'[i] (by simp[hi']);rw[this];simp[hi']
  .rw[da (by rw[aN,hacc.1];lia),da (by rw[jAT];lia)]
 refine aj ?_;rw[eacc];refine hQ s' (λb u e=>?_) ?_ ?_ ?_ (ay hS')
 .have hb:b≠s.heap.objs.size:=aO (ay e);have hb1:b≠s1.heap.objs.size:=aO (show b<s1.heap.objs.size by rw[hz1];exact cB (ay e));exact hm.heap b u (by simp[hb,hb1]) (oth b u hb (k2 b u (by rw[<- hE];exact af _ e)))
 .have:=hm.gens;rw[<- hE] at this;exact this
 .have:=hm.drawn;rw[<- hE] at this;exact this
 .have:=hm.os;rw[<- hE] at this;exact this
end SS
namespace SS
open PySem PyProof.Rows
section
variable {prog:Program}{w:World}{A:Around}{E:Ah}{s:Shared}{a:Addr}{ks:Ag}
def jOR:∀{vs:Al}{ks:Ag},Paired (λv k=>∃t,v=Value.int k t) vs ks->IntsAre vs ks
 |_,_,.nil=> .nil
 |_,_,.cons ⟨t,e⟩ r=>by subst e;exact .cons _ t (jOR r)
def jFD{es:List (Int×Value)}:∀{ks:Ag},Paired El es ks->Paired (λv k=>∃t,v=Value.int k t) (es.map (·.2)) ks
 |_,.nil=> .nil
 |_,.cons ⟨_,q⟩ r=> .cons q (jFD r)
def jIV{α β:Type}{F:α->β->Prop}{l l':List α}(p:l'.Perm l):∀{r:List β},Paired F l r->∃r',Paired F l' r'/\r'.Perm r:=by
 induction p with
 |nil=>intro r h;cases h;exact⟨[],.nil,.nil⟩
 |cons x _ ih=>
  intro r h;cases h with
  |cons f t=>
   obtain⟨r',h1,h2⟩:=ih t;exact⟨_::r',.cons f h1,h2.cons _⟩
 |swap x y l=>
  intro r h;cases h with
  |cons f t=>
   cases t with
   |cons g t=>exact⟨_,.cons g (.cons f t),.swap _ _ _⟩
 |trans _ _ ih1 ih2=>
  intro r h;obtain⟨r1,h1,h2⟩:=ih2 h;obtain⟨r2,h3,h4⟩:=ih1 h1;exact⟨r2,h3,h4.trans h2⟩
theorem sorted_set{Q:Ah}(hh:A.handled=none)(S:SetG w s.heap a ks)
  (h:∀(s':Shared) (l:Addr) (vs:Al) (ns:Ag) (e:Nat),s.heap.objs.size<=l->(∀b u,s.heap.get? b=some u->s'.heap.get? b=some u)->s'.gens=s.gens->s'.drawn=s.drawn->s'.os=s.os->
   s'.heap.get? l=some {cls:=.type "list",data:=.seq vs.toArray e} ->IntsAre vs ns->ns.Perm ks->ns.Pairwise (· <= ·)->Q (.ref l) s'):
  wpAny (model prog w) A (call (.builtin "sorted") [.ref a]) Q E s:=by
 obtain⟨o,es,ep,t,ho,hex,hd,hp,T⟩:=S.ex;have hn:es.size<=4:=by
  have:=gq hp;rw[aN] at this;have:=S.len;lia
 refine iZ kind_sorted plain_sorted entry_sorted (args_sorted1 _) ?_;unfold Builtin.«sorted»;refine ae (m:=checkCount "sorted" 1 1 _) (aj ?_);refine ae (jJN (A:=A.in1) hh hex ho hd T hn λs1 k1 g1 d1 o1 z1=>?_);refine ae (fz ?_ (by rw[jAT,show sizeLine=2^24 from rfl];lia));obtain⟨ks1,hp1,pm1⟩:=jIV (jMG w a ep es) (jFD hp);have hI:=jOR hp1;have hl:(told w a ep es).length<64:=by rw[jAT];lia
 have hL:(s1.heap.push (seqObj "list" (told w a ep es).toArray 0)).get? s1.heap.objs.size=some (seqObj "list" (told w a ep es).toArray 0):=aw _ rfl;show wpAny _ _ _ _ _ {s1 with heap:=s1.heap.push (seqObj "list" (told w a ep es).toArray 0)};refine ae (bB (cH iP ⟨_,hL,rfl⟩ iq (list_sort_tree hL hI hl λout ns' a1 a2 a3=>⟨_,rfl,?_⟩) (args_list_sort _)));obtain⟨e,he⟩:=sortedHeap_at (out:=out) hL;have kept:∀b u,s.heap.get? b=some u->(sortedHeap (s1.heap.push (seqObj "list" (told w a ep es).toArray 0)) s1.heap.objs.size (told w a ep es) out).get? b=some u:=λb u q=>by
  have q1:=k1 b u q;have hb:b<s1.heap.objs.size:=ay q1;rw[sortedHeap_old (aO hb) (by rw[iQ];exact cB hb)];exact af _ q1
 generalize sortedHeap (s1.heap.push (seqObj "list" (told w a ep es).toArray 0)) s1.heap.objs.size (told w a ep es) out=hf at he kept ⊢;exact aj ⟨_,rfl,h {s1 with heap:=hf} s1.heap.objs.size out.toList ns' e (cU z1) kept g1 d1 o1 (by rw[cP];exact he) a1 (a2.trans pm1) a3⟩
end
end SS
namespace L2
open PySem PySem.Spec PyProof.Rows
variable {kw:List Keyword}{a it:Addr}{tp:Bool}{tg e c:Expr}{op:Operator}{xs ws vs:List V}{r:List V->Hp->VK->Prop}{i:Nat}{x:Str}{ops:List CmpOp}{σ:St}{Q:Ah}{rest:List Expr}{ma:Ai}{body:List Stmt}{h:Heap}
variable {es xs:List Expr}{env:Env}{a b:Expr}{pos:Pos}
section
variable {ys:List Expr}
def yO:starEach (.BinOp a op b pos::es) env=(false,eval (.BinOp a op b pos) env)::starEach es env:=rfl
def se_un{op:UnaryOp}:starEach (.UnaryOp op a pos::es) env=(false,eval (.UnaryOp op a pos) env)::starEach es env:=rfl
def jRZ:starEach (.Compare a ops xs pos::es) env=(false,eval (.Compare a ops xs pos) env)::starEach es env:=rfl
def jG:starEach (.Call a xs kw pos::es) env=(false,eval (.Call a xs kw pos) env)::starEach es env:=rfl
def kG:starEach (.Subscript a b pos::es) env=(false,eval (.Subscript a b pos) env)::starEach es env:=rfl
def jL{gs sc}:starEach (.ListComp a gs sc pos::es) env=(false,eval (.ListComp a gs sc pos) env)::starEach es env:=rfl
def jDX{x1}:starEach (.Tuple xs x1 pos::es) env=(false,eval (.Tuple xs x1 pos) env)::starEach es env:=rfl
def jN{c k}:starEach (.Constant c k pos::es) env=(false,eval (.Constant c k pos) env)::starEach es env:=rfl
def j6:starEach (.Name x pos::es) env=(false,eval (.Name x pos) env)::starEach es env:=rfl
end
variable {X:Cx}
def CDivL(i j:Int):Prop:=0<j/\j<2^64
theorem jKB:OpR X (binaryOp .FloorDiv) (rI CDivL λi j=> .int (i/j)):=opI λi j _ _ _ _ _ hc q=>by
 have h1:(0:Int)<j:=hc.1;have h2:j<2^64:=hc.2;refine floordiv_int Aa (by rw[iK i Aa];exact q) (.inl (PyProof.noPylong_of_log2 ?_));have h3:j.natAbs<2^64:=Aa;have h4:j.natAbs≠0:=Aa;have:=(Nat.log2_lt h4).mpr h3;lia
def jAH:yQ X (.builtin "isinstance") (λxs H Q=>∃x T t b,xs=[x,.ty T]/\TyOf X.K H x t/\kitOne X.K t (.type T)=some b/\Q (.bl b) H):=by
 intro ma s σ H xs us Q I r h;obtain⟨x,T,t,b,rfl,ty,e,q⟩:=h;obtain⟨u,v,rfl,ru,rv⟩:=r.two;cases rv;exact jOQ I ru ty e λtk=>⟨.bl b,H,I.tok tk,rfl,q⟩
def jSZ:V->List V->Hp->VK->Prop:=λx vs H Q=>∃l xs i y,x=.ref l/\vs=[.int i,y]/\H l=some (.lst xs)/\0<=i/\i<=xs.length/\xs.length<sizeLine/\Q .non (upd H l (.lst (xs.take i.toNat++y::xs.drop i.toNat)))
def Vals.put{y:V}{v:Value}(r:RelV y v){xs:List V}{us:Al}(h:Vals xs us)(k:Nat):Vals (xs.take k++y::xs.drop k) (us.take k++v::us.drop k):=(h.take k).append (.cons r (h.drop k))
theorem jNS:MtM X "list.insert" jSZ:=by
 intro ma s σ H x vs v us Q I rx rv h;obtain⟨l,xs,i,y,rfl,rfl,hH,h0,h1,hz,q⟩:=h;cases rx;obtain⟨a,b,rfl,ra,rb⟩:=rv.two;obtain⟨t,rfl⟩:=ra;obtain⟨z,its,n,r,hl,e⟩:=I.lstM hH;have line:=jHQ;have hf:Builtin.List.listFitsIndex i=true:=fitsIndex_both Aa Aa;refine jx F.slot_list_insert ⟨_,e,rfl⟩ F.entry_list_insert (F.args_list_insert_3 _ _ _) (AutoSeq1.list_insert_list_int_val_1 l its.toArray n i t b (by simp[hf]) (by rw[aq];lia)) ⟨e,?_⟩;refine⟨.non,_,I.lset (its':=its.take i.toNat++b::its.drop i.toNat) hH e ?_ (Vals.put rb r i.toNat) ?_,rfl,q⟩
 .have hk:(if i<0 then (i+(its.toArray.size:Int)).toNat else min i.toNat its.toArray.size)=i.toNat:=by
   rw[az Aa,aq];lia
  show (its.toArray.extract 0 (if i<0 then (i+(its.toArray.size:Int)).toNat else min i.toNat its.toArray.size)).push b++its.toArray.extract (if i<0 then (i+(its.toArray.size:Int)).toNat else min i.toNat its.toArray.size)=_;rw[hk];apply Array.ext';simp[eB,bE]
 .rw[aI,aU,bO,gZ];lia
def rEqE(K:W.Frag):R2:=λx y H Q=>∃p q xs,x=.ref p/\y=.ref q/\SqT K H p xs/\SqT K H q []/\Q (.bl (decide (xs=[]))) H
theorem jVX(hu:X.A.units<cLine):OpR X (compareOp .Eq) (rEqE X.K):=by
 intro ma s σ H x y v u Q I rx ry h;obtain⟨p,q,xs,rfl,rfl,hp,hq,k⟩:=h;cases rx;cases ry;obtain⟨its,r,t1,_⟩:=I.tuple hp;obtain⟨its2,r2,t2,_⟩:=I.tuple hq;have e2:its2=[]:=r2.zero;subst e2;refine SeqAt.eq_tupleAt (e:=λ_=>true) (show s.heap.IsTuple p its.toArray from t1) (show s.heap.IsTuple q ([]:Al).toArray from t2) hu (λj h1 h2=>absurd h2 Ad) ⟨.bl _,H,I,rfl,?_⟩;have hl:=r.length;have e:((List.range (min its.toArray.size ([]:Al).toArray.size)).all (λ_=>true)&&its.toArray.size==([]:Al).toArray.size)=decide (xs=[]):=by
  cases xs with
  |nil=>
   have:its=[]:=by simpa using hl.symm
   subst this;rfl
  |cons a b=>
   have:its.length≠0:=by rw[<- hl];simp
   simp[this]
 rw[e];exact k
def jCF(hc:X.calm=true):yQ X (.builtin "all") (λxs H Q=>∃(p:Addr) (bs:List Bool),xs=[.ref p]/\SqL X.K H p (bs.map V.bl)/\Q (.bl (bs.all id)) H):=by
 intro ma s σ H xs us Q I r h;obtain⟨p,bs,rfl,hq,q⟩:=h;obtain⟨u,rfl,rx⟩:=r.one;cases rx;obtain⟨its,r',pl,hz⟩:=I.list hq;have hlen:=r'.length;rw[ag] at hlen;refine call_all_walk (dz pl.isList ?_);have hne:p≠s.heap.objs.size:=by
  obtain⟨o,ho,_⟩:=pl.isList;exact aO (ay ho)
 refine⟨s.heap.objs.size,_,_,_,_,_,λi=>bs.getD i true,rfl,jy (by simpa using I.ok.hd hc) _ p hne its.toArray,⟨⟨_,aw _ rfl,rfl,rfl⟩,pl.isList.push _⟩,λi v z Q' E' hP hQ'=>?_,λh' tk hk=>?_⟩
 .have hi:its[i]?=some v:=by simpa using hP
  have hb:i<bs.length:=by
   rw[hlen];exact(am.mp hi).1
  obtain⟨u,hu,ru⟩:=r'.get (i:=i) (x:=.bl (bs[i])) (by simp[hb]);rw[hi] at hu;cases hu;cases ru;have e:bs.getD i true=bs[i]:=by simp[List.getD,hb]
  have hQ2:Q' (bs.getD i true) z:=hQ';rw[e] at hQ2;exact aj hQ2
 .have e:(List.range its.toArray.size).all (λi=>bs.getD i true)=bs.all id:=by
   rw[aq,<- hlen];rw[cj,ck,ck];constructor
   .intro a b hb;obtain⟨i,hi,rfl⟩:=eU hb;have:=a i (bI.mpr hi);simpa [List.getD,hi] using this
   .intro a i hi;have hi:=bI.mp hi;have:=a bs[i] (dq hi);simpa [List.getD,hi] using this
  rw[e];exact⟨.bl _,H,I.kept (t':=tk) λb o e=>hk b o (by
   intro z;have z:b=s.heap.objs.size:=by simpa using z
   exact absurd (ay e) (by rw[z];exact cF _)) (af _ e),rfl,q⟩
def jEL(n:Nat):List V:=(List.range n).map λ(i:Nat)=>V.int (i:Int)
theorem jL9{n:Nat}{acc:An}(h:ItemsOf (λi v=>∃t,v=Value.int (0+(i:Int)*1) t) acc n):Vals (jEL n) acc.toList:=by
 have key:∀(l:Al) (k:Nat),(∀j v,l[j]?=some v->∃t,v=Value.int ((k+j:Nat):Int) t)->Vals ((range' k l.length).map λ(i:Nat)=>V.int (i:Int)) l:=by
  intro l
  induction l with
  |nil=>intro k _;exact .nil
  |cons v l ih=>
   intro k hk;rw[aU,List.range'_succ,bg];refine .cons ?_ (ih (k+1) λj u hj=>?_)
   .obtain⟨t,e⟩:=hk 0 v rfl;exact⟨t,by simpa using e⟩
   .obtain⟨t,e⟩:=hk (j+1) u (by simpa using hj);exact⟨t,by rw[e];congr 1;lia⟩
 have:=key acc.toList 0 λj v hj=>by
  obtain⟨t,e⟩:=h.2 j v (by simpa using hj);exact⟨t,by rw[e];congr 1;lia⟩
 rw[aN,h.1] at this;unfold jEL;rw[lw];exact this
def jEU:yQ X (.type "range") (λxs H Q=>∃j:Int,xs=[.int j]/\∀p,H p=none->Q (.ref p) (upd H p (.rng 0 j))):=by
 intro ma s σ H xs us Q I r h;obtain⟨j,rfl,q⟩:=h;obtain⟨u,rfl,t,rfl⟩:=r.one;refine call_range_1 ⟨.ref s.heap.objs.size,_,I.laid (o:=.rng 0 j) (λb o e=>af _ e) (ar _) ?_,rfl,q _ I.fresh⟩;exact⟨_,_,_,aw _ rfl⟩
theorem jI5(hc:X.calm=true):yQ X (.type "list") (λxs H Q=>∃p j,xs=[.ref p]/\H p=some (.rng 0 j)/\0<=j/\j<=1000/\∀l,H l=none->Q (.ref l) (upd H l (.lst (jEL j.toNat)))):=by
 intro ma s σ H xs us Q I r h;obtain⟨p,j,rfl,hp,h0,h1,q⟩:=h;obtain⟨u,rfl,rx⟩:=r.one;cases rx;obtain⟨t,u,v,e⟩:=I.hok p _ hp;have en:Builtin.Range.rangeSize 0 j 1=(j.toNat:Int):=by
  rw[jg];split<;>lia
 refine call_list_range (I.ok.hd hc) (show IsRange s.heap p 0 j 1 t u v from e) (small_one Aa Aa Aa Aa) en Aa λh' tk acc' c' kp hS hacc=>?_;refine⟨.ref s.heap.objs.size,_,I.laid (t':=tk) (o:=.lst (jEL j.toNat)) kp (ar _) ?_,rfl,q _ I.fresh⟩;refine⟨?_,acc'.toList,c',jL9 hacc,by rw[cP];exact hS⟩;unfold jEL;rw[ag,b7,d0];lia
def SetO(w:World)(a:Addr)(ks:Ag):HO:=.ext λh=>SS.SetG w h a ks
def jB2{ns:Ag}:∀{us:Al},Vals (ns.map V.int) us->IntsAre us ns:=by
 induction ns with
 |nil=>intro us h;cases h;exact .nil
 |cons n ns ih=>
  intro us h;cases h with
  |cons r t=>
   obtain⟨k,rfl⟩:=r;exact .cons n k (ih t)
def jAB:∀{us:Al}{ns:Ag},IntsAre us ns->Vals (ns.map V.int) us
 |_,_,.nil=> .nil
 |_,_,.cons n t r=> .cons ⟨t,rfl⟩ (jAB r)
theorem jPG(hc:X.calm=true):yQ X (.type "set") (λxs H Q=>∃(p:Addr) (ns:Ag),xs=[.ref p]/\SqL X.K H p (ns.map V.int)/\ns.length<=4/\(∀z∈ns,0<=z/\z<32)/\
  ∀(l:Addr) (ks:Ag),H l=none->(∀z,z∈ks↔z∈ns)->Q (.ref l) (upd H l (SetO X.w l ks))):=by
 intro ma s σ H xs us Q I r h;obtain⟨p,ns,rfl,hq,hl,hv,q⟩:=h;obtain⟨u,rfl,rx⟩:=r.one;cases rx;obtain⟨its,r',pl,hz⟩:=I.list hq;have hlen:=r'.length;rw[ag] at hlen;refine SS.set_of_list (I.ok.hd hc) pl.isList (jB2 r') (by rw[aq];lia) hv λh' tk ks S hm kp=>?_;have hg:∃o,h'.get? s.heap.objs.size=some o:=let ⟨o,_,_,_,e,_⟩:=S.ex;⟨o,e⟩;exact⟨.ref s.heap.objs.size,_,I.laid (t':=tk) (o:=SetO X.w s.heap.objs.size ks) kp (ar _) ⟨S,hg,λh1 h2 a b=>a.at b⟩,rfl,q _ ks I.fresh hm⟩
theorem jF0(hc:X.calm=true):yQ X (.builtin "sorted") (λxs H Q=>∃(p:Addr) (ks:Ag),xs=[.ref p]/\H p=some (SetO X.w p ks)/\
  ∀(l:Addr) (ns:Ag),H l=none->ns.Pairwise (· < ·)->(∀z,z∈ns↔z∈ks)->Q (.ref l) (upd H l (.lst (ns.map V.int)))):=by
 intro ma s σ H xs us Q I r h;obtain⟨p,ks,rfl,hp,q⟩:=h;obtain⟨u,rfl,rx⟩:=r.one;cases rx;obtain⟨S,_,_⟩:=I.hok p _ hp;refine SS.sorted_set (I.ok.hd hc) S λs' l vs ns e hl kp g d o he hi pm srt=>?_;obtain⟨h',g',d',t',o'⟩:=s';have g:g'=s.gens:=g;have o:o'=s.os:=o;have d:d'=s.drawn:=d;subst g;subst o;subst d;have nd:ns.Nodup:=pm.nodup_iff.mpr S.nd;have lt:ns.Pairwise (· < ·):=by
  have:=List.Pairwise.and srt nd;exact this.imp λ{a b} ⟨x,y⟩=>by lia
 have hz:(ns.map V.int).length<=sizeLine:=by
  rw[ag,pm.length_eq,d0];have:=S.len;lia
 have I2:Inv X ma σ (upd H l (.lst (ns.map V.int))) {s with heap:=h',toks:=t'}:=I.laid (t':=t') kp hl ⟨hz,vs,e,jAB hi,he⟩;exact⟨.ref l,_,I2,rfl,q l ns (I.hok.fresh hl) lt λz=>pm.mem_iff⟩
variable {p2:Pos}
section
variable {p1 p3 p4 p5 p6 p7:Pos}{k1 k2 k3 k4:Nat}
def jTJ{i j r:Int}(hj:0<=j)(hj2:j<=1000000)(hi:i.natAbs<2^64)(e:i^j.toNat=r):PE X (.BinOp (.Constant (.int i) k2 p2) .Pow (.Constant (.int j) k3 p3) p4) (tC (.int r)):=λma s σ H Q I h=>
 (kU (X:=X) jN9 jP jP) ma s σ H Q I ⟨_,_,rfl,rfl,⟨hj,hj2,hi⟩,by subst e;exact h⟩
def jTK{a b:Expr}{i j r:Int}(ha:PE X a (tC (.int i)))(hb:PE X b (tC (.int j)))(hc:CMul i j)(e:i*j=r):PE X (.BinOp a .Mult b p1) (tC (.int r)):=λma s σ H Q I h=>
 (kU (X:=X) jDA ha hb) ma s σ H Q I ⟨_,_,rfl,rfl,hc,by subst e;exact h⟩
def jTM{a b:Expr}{i j r:Int}(ha:PE X a (tC (.int i)))(hb:PE X b (tC (.int j)))(e:i+j=r):PE X (.BinOp a .Add b p1) (tC (.int r)):=λma s σ H Q I h=>
 (kU (X:=X) yE ha hb) ma s σ H Q I ⟨_,_,rfl,rfl,by subst e;exact h⟩
theorem jVU:PE X (.BinOp (.BinOp (.Constant (.int 2) k1 p1) .Mult (.BinOp (.Constant (.int 10) k2 p2) .Pow (.Constant (.int 12) k3 p3) p4) p5) .Add (.Constant (.int 1) k4 p6) p7) (tC (.int 2000000000001)):=
 jTM (i:=2000000000000) (jTK (j:=1000000000000) jP (jTJ Ac Ac Ac Ac) (.inl ⟨Ac,Ac⟩) Ac) jP Ac
end
def ItAt(tp:Bool)(h:Heap)(it a:Addr)(i:Nat):Prop:=match tp with
 |false=>h.IsListIter it a i
 |true=>h.IsTupleIter it a i
def ObAt(tp:Bool)(h:Heap)(a:Addr)(xs:An):Prop:=match tp with
 |false=>h.IsList a xs
 |true=>h.IsTuple a xs
def ItAt.but{h':Heap}{a b:Addr}(x:ItAt tp h it a i)(e:Heap.ExtBut b h h')(n:it≠b):ItAt tp h' it a i:=by
 cases tp with
 |false=>exact Heap.IsListIter.extBut x e n
 |true=>exact Heap.IsTupleIter.extBut x e n
def ItAt.at{tp:Bool}{h h':Heap}{it a:Addr}{i:Nat}(x:ItAt tp h it a i)(e:∀o,h.get? it=some o->h'.get? it=some o):ItAt tp h' it a i:=by
 cases tp with
 |false=>exact Heap.IsListIter.at x e
 |true=>exact Heap.IsTupleIter.at x e
def ItAt.obj{a:Addr}(x:ItAt tp h it a i):∃o,h.get? it=some o/\∀v,o.data≠.cell v:=by
 cases tp with
 |false=>obtain⟨o,e,_,d⟩:=x;exact⟨o,e,λv q=>by rw[d] at q;cases q⟩
 |true=>obtain⟨o,e,_,d⟩:=x;exact⟨o,e,λv q=>by rw[d] at q;cases q⟩
variable {w:World}{A:Around}{s:Shared}
section
variable {prog:Program}{E:Ah}
def next1{a:Addr}{xs:An}{x:Value}(hi:ItAt tp s.heap it a i)(ha:ObAt tp s.heap a xs)(hx:xs[i]?=some x)
  (k:∀h',ItAt tp h' it a (i+1)->Heap.SameBut it s.heap h'->Q x {s with heap:=h'}):wpAny (model prog w) A (Builtin.SmallTypes.nextOf (.ref it)) Q E s:=by
 cases tp with
 |false=>exact wpAny_nextOf_list_item hi ha hx k
 |true=>
  obtain⟨o,e,c,d⟩:=id (show s.heap.IsTupleIter it a i from hi);obtain⟨u,eu,_,n,du⟩:=(show s.heap.IsTuple a xs from ha);have ty:=Heap.IsTupleIter.typeIs (show s.heap.IsTupleIter it a i from hi);unfold Builtin.SmallTypes.nextOf;refine ae (cM (name:=Str.ofString "__next__") ty F.slot_tuple_iterator_next (cH F.slot_tuple_iterator_next ty F.entry_tuple_iterator_next (?_:wpAny (model prog w) _ (field (.ref it) 0 >>= _) _ _ s) (F.args_tuple_iterator_next_1 _)));refine ae (cy e d (x:=.ref a) rfl (?_:wpAny (model prog w) _ (if (Value.ref a==Value.none)=true then _ else _) _ _ s));rw[az (by exact aC)];show wpAny (model prog w) _ (field (.ref it) 1 >>= _) _ _ s;refine ae (cy e d (x:=.int i 0) rfl ?_);show wpAny (model prog w) _ (seqItems? (.ref a) >>= _) _ _ s;refine ae (wpAny_seqItems eu du ?_);simp only[bo,hx];refine ae (gb e d Ad (aj ⟨x,rfl,aj (k _ ⟨_,cx _ e (Obj.isFreed_of_fields (Obj.data_mapFields d _)),(Obj.cls_mapFields ..).trans c,?_⟩ (iw ..))⟩));rw[Obj.data_mapFields d];simp[rawInt]
def next0{a:Addr}{xs:An}(hh:A.handled=none)(hi:ItAt tp s.heap it a i)(ha:ObAt tp s.heap a xs)(hx:xs[i]?=none)
  (k:∀h' e,Heap.ExtBut it s.heap h'->(∃o,h'.get? e=some o/\o.cls=.type "StopIteration")->E (.ref e) {s with heap:=h'}):wpAny (model prog w) A (Builtin.SmallTypes.nextOf (.ref it)) Q E s:=by
 cases tp with
 |false=>exact wpAny_nextOf_list_end hh hi ha hx k
 |true=>
  obtain⟨o,e,c,d⟩:=id (show s.heap.IsTupleIter it a i from hi);obtain⟨u,eu,_,n,du⟩:=(show s.heap.IsTuple a xs from ha);have ty:=Heap.IsTupleIter.typeIs (show s.heap.IsTupleIter it a i from hi);unfold Builtin.SmallTypes.nextOf;refine ae (cM (name:=Str.ofString "__next__") ty F.slot_tuple_iterator_next (cH F.slot_tuple_iterator_next ty F.entry_tuple_iterator_next (?_:wpAny (model prog w) _ (field (.ref it) 0 >>= _) _ _ s) (F.args_tuple_iterator_next_1 _)));refine ae (cy e d (x:=.ref a) rfl (?_:wpAny (model prog w) _ (if (Value.ref a==Value.none)=true then _ else _) _ _ s));rw[az (by exact aC)];show wpAny (model prog w) _ (field (.ref it) 1 >>= _) _ _ s;refine ae (cy e d (x:=.int i 0) rfl ?_);show wpAny (model prog w) _ (seqItems? (.ref a) >>= _) _ _ s;refine ae (wpAny_seqItems eu du ?_);simp only[bo,hx];refine ae (dA (ae (gb e d Ad (?_:wpAny (model prog w) _ (newExc (.type "StopIteration") [] >>= _) _ _ _))));refine ae (by
   simp only[newExc,newTuple];refine ae (bP (ae (m:=firstArgMember _ _) (i6 (a:=Value.none) (by first|rfl | (simp only[firstArgMember];rfl)) (bP ?_ (by size_fits)))) (by size_fits));simp only[raiseNew];refine ae (wpAny_handled ?_)
   first|rw[show A.in1.handled=none from hh]|rw[hh]
   exact ae (aj (wpAny_throw (k _ _ (((iw ..).extBut.push _).push _) ⟨_,aw _ rfl,rfl⟩))))
end
noncomputable def iterO(tp:Bool)(a:Addr):Obj:=match tp with
 |false=>{cls:=.type "list_iterator",data:=.fields #[.ref a,.int 0 0]}
 |true=>{cls:=.type "tuple_iterator",data:=.fields #[.ref a,.int 0 0]}
def jLY(tp:Bool)(a:Addr):(iterO tp a).isFreed=false:=by cases tp<;>rfl
def jG0{prog:Program}{E:Ah}{a:Addr}{xs:An}(h:ObAt tp s.heap a xs)(q:Q (.ref s.heap.objs.size) {s with heap:=s.heap.push (iterO tp a)}):
  wpAny (model prog w) A (pyIter (.ref a)) Q E s:=by
 cases tp with
 |false=>exact dz h q
 |true=>exact wpAny_pyIter_tuple h q
def ItAt.new(tp:Bool){h:Heap}{it a:Addr}(e:h.get? it=some (iterO tp a)):ItAt tp h it a 0:=by
 cases tp with
 |false=>exact⟨_,e,rfl,rfl⟩
 |true=>exact⟨_,e,rfl,rfl⟩
def Sq(tp:Bool)(K:W.Frag)(H:Hp)(a:Addr)(xs:List V):Prop:=match tp with
 |false=>SqL K H a xs
 |true=>SqT K H a xs
def Inv.sq{H:Hp}{a:Addr}{xs:List V}(I:Inv X ma σ H s)(h:Sq tp X.K H a xs):∃its:Al,Vals xs its/\ObAt tp s.heap a its.toArray/\xs.length<=sizeLine:=by
 cases tp with
 |false=>
  obtain⟨its,r,p,z⟩:=I.list h;exact⟨its,r,p.isList,z⟩
 |true=>exact I.tuple h
def Inv.sq_inj{H:Hp}{a:Addr}{xs ys:List V}(I:Inv X ma σ H s)(h:Sq tp X.K H a xs)(h':Sq tp X.K H a ys):xs=ys:=by
 cases tp with
 |false=>exact I.list_inj h h'
 |true=>exact I.tuple_inj h h'
structure JE (X:Cx)(e:Expr)(t:TE):Prop where
 h:PE X e t
structure JA (X:Cx)(es:List Expr)(t:TA):Prop where
 h:PA X es t
structure JT (X:Cx)(e:Expr)(t:TT):Prop where
 h:PT X e t
structure JTs (X:Cx)(e:List Expr)(t:TT):Prop where
 h:PTs X e t
structure JS (X:Cx)(e:Stmt)(t:TS):Prop where
 h:PS X e t
structure JSs (X:Cx)(e:List Stmt)(t:TS):Prop where
 h:PSs X e t
structure JG (X:Cx)(e:Expr)(t:TG):Prop where
 h:PG X e t
structure JGs (X:Cx)(e:List Expr)(t:TGs):Prop where
 h:PGs X e t
structure JI (X:Cx)(tg e:Expr)(t:TI):Prop where
 h:PI X tg e t
structure JO (X:Cx)(e:Option Expr)(t:TO):Prop where
 h:PO X e t
structure Loc1 (X:Cx)(x:Str):Prop where
 a:Loc X.env.scope x
 b:X.fn x=true\/X.env.scope.names.lookup x=some .local
structure Vis1 (X:Cx)(x:Str):Prop where
 a:Vis X.env.scope x
structure Gl1 (X:Cx)(x:Str):Prop where
 a:Gl X x
section
variable {o:Option Expr}{l:Nat}
structure SwOk (e:Expr)(o:Option Expr):Prop where
 h:∀l env,swapsWith e o l env=pure false
def jF3:SwOk (.BinOp a op b pos) o:=⟨λ_ _=>rfl⟩
def jV9:SwOk (.Compare a ops xs pos) o:=⟨λ_ _=>rfl⟩
def jW:SwOk (.Call a xs kw pos) o:=⟨λ_ _=>rfl⟩
def jMM:SwOk (.Subscript a b pos) o:=⟨λ_ _=>rfl⟩
def jRV{x1}:SwOk (.Tuple xs x1 pos) o:=⟨λ_ _=>rfl⟩
def jD3:SwOk (.List xs pos) o:=⟨λ_ _=>rfl⟩
def jPY{c k}:SwOk (.Constant c k pos) o:=⟨λ_ _=>rfl⟩
def jS1:jB1 (.BinOp a op b pos):=λ_ _=>rfl
def jT1:jB1 (.Call a xs kw pos):=λ_ _=>rfl
def jJ{i:Int}{k}:jB1 (.Constant (.int i) k pos):=λ_ _=>rfl
def jCQ:jB1 (.Name x pos):=λ_ _=>rfl
def jVE:jB1 (.Subscript a b pos):=λ_ _=>rfl
structure FoOk (iter:Expr):Prop where
 h:∀env x,foldedSetIterable iter env x=pure x
def kR:FoOk (.Call a xs kw pos):=⟨λ_ _=>rfl⟩
def qB:FoOk (.Name x pos):=⟨λ_ _=>rfl⟩
def jSJ:FoOk (.Subscript a b pos):=⟨λ_ _=>rfl⟩
structure TvOk (e:Expr):Prop where
 h:∀env whole,isTrue e env whole=(do let v <- whole;standAt e.pos;holding [v] (truthy v))
def jAS:TvOk (.Call a xs kw pos):=⟨λ_ _=>rfl⟩
end
variable {te:TE}{x:Str}
section
variable {e o:Expr}{ta tb to:TE}{t:TA}{p cpos apos:Pos}{T:String}{id:String}
theorem jv(i:Nat)(hN:X.N[i]?=some x)(hv:Vis1 X x)(hd:(x==("__debug__":Str))=false:=by decide)(hcd:(x==("__classdict__":Str))=false:=by decide):JE X (.Name x pos) (tVar i):=⟨jHG hN hv.a hd hcd⟩
def je_int{i j}:JE X (.Constant (.int i) j pos) (tC (.int i)):=⟨jP⟩
def je_bl{i j}:JE X (.Constant (.bool i) j pos) (tC (.bl i)):=⟨pe_bl⟩
def jWR{i j}:JE X (.Constant (.str i) j pos) (tC (.str i)):=⟨jVQ⟩
theorem jCU{v:V}{u:Value}(hg:Gl1 X x)(hm:X.mg x=none)(hv:bootBuiltins x=some u)(r:RelV v u)(hn:x≠"__name__" :=by decide)(hd:(x==("__debug__":Str))=false:=by decide):JE X (.Name x pos) (tC v):=⟨jTN hg.a hm hv r hn hd⟩
def kW{r:R2}(ho:OpR X (binaryOp op) r)(ha:JE X a ta)(hb:JE X b tb):JE X (.BinOp a op b pos) (tOp r ta tb):=⟨kU ho ha.h hb.h⟩
def je_un{op:UnaryOp}{r:V->Hp->VK->Prop}(ho:UnR X (unaryOp op) r)(ha:JE X a ta):JE X (.UnaryOp op a pos) (tUn r ta):=⟨pe_un ho ha.h⟩
def jSH(ha:JE X a ta):JE X (.UnaryOp .Not a pos) (tNotV ta):=⟨jVS ha.h⟩
def yA{op:CmpOp}{r:R2}(ho:OpR X (compareOp op) r)(ha:JE X a ta)(hb:JE X b tb)(hm:behindInMarks op b=false):JE X (.Compare a [op] [b] pos) (tOp r ta tb):=⟨jTL ho ha.h hb.h hm⟩
def jKW(ha:JE X a ta)(hb:JE X (.BoolOp .And (b::rest) pos) tb):JE X (.BoolOp .And (a::b::rest) pos) (tAndV ta tb):=⟨jVV ha.h hb.h⟩
def je_or(ha:JE X a ta)(hb:JE X (.BoolOp .Or (b::rest) pos) tb):JE X (.BoolOp .Or (a::b::rest) pos) (tOrV ta tb):=⟨pe_or ha.h hb.h⟩
def jKR{op}(ha:JE X a ta):JE X (.BoolOp op [a] pos) ta:=⟨jVR ha.h⟩
def jOK(h:JA X es t):JE X (.List es pos) (tLst t):=⟨jKA h.h⟩
def jKP{x1}(h:JA X es t):JE X (.Tuple es x1 pos) (tTup t):=⟨jVP h.h⟩
def jKQ{lo hi:Option Expr}{tl th:TO}{r:V->Option Int->Option Int->Hp->VK->Prop}(hr:SlR X r)(he:JE X e te)(hl:JO X lo tl)(hu:JO X hi th):JE X (.Subscript e (.Slice lo hi none p2) pos) (tSl r te tl th):=⟨jQB hr he.h hl.h hu.h⟩
def kD{r:R2}(hr:IxR X r)(ha:JE X a ta)(hb:JE X b tb)(hs:jB1 b):JE X (.Subscript a b pos) (tOp r ta tb):=⟨pe_ix hr ha.h hb.h hs⟩
theorem kN{T}(hc:yQ X (.type T) r)(hg:Gl1 X x)(hm:X.mg x=none)(hv:bootBuiltins x=some (.type T))(ha:JA X (e::es) t)(he:starEach (e::es) X.env=(false,eval e X.env)::starEach es X.env)(hn:x≠"__name__" :=by decide)(hdb:(x==("__debug__":Str))=false:=by decide)
  (hpl:(backTo pos (starEach es X.env)).any (·.1)=false:=by rfl):JE X (.Call (.Name x p) (e::es) [] pos) (tCB r t):=⟨jC4 hc hg.a hm hv ha.h hn hdb he hpl⟩
theorem jH{id}(hc:yQ X (.builtin id) r)(hg:Gl1 X x)(hm:X.mg x=none)(hv:bootBuiltins x=some (.builtin id))(ha:JA X (e::es) t)(he:starEach (e::es) X.env=(false,eval e X.env)::starEach es X.env)(hn:x≠"__name__" :=by decide)(hdb:(x==("__debug__":Str))=false:=by decide)
  (hpl:(backTo pos (starEach es X.env)).any (·.1)=false:=by rfl):JE X (.Call (.Name x p) (e::es) [] pos) (tCB r t):=⟨jG4 hc hg.a hm hv ha.h hn hdb he hpl⟩
def j9:JA X [] tNil:=⟨yJ⟩
def j4(ha:JE X e te)(hr:JA X es t)(hs:starEach (e::es) X.env=(false,eval e X.env)::starEach es X.env):JA X (e::es) (tCons te t):=⟨jX ha.h hr.h hs⟩
def jY{op:CmpOp}{r:R2}(ho:OpR X (compareOp op) r)(ha:JE X a ta)(hb:JE X b tb)(hm:behindInMarks op b=false):JT X (.Compare a [op] [b] pos) (tTest (tOp r ta tb)):=⟨jE0 ho ha.h hb.h hm⟩
def jC9(h:JE X e te)(he:TvOk e):JT X e (tB te):=⟨jVH h.h (he.h _)⟩
def jEH{tA:TT}(ha:JT X a tA):JT X (.UnaryOp .Not a pos) (tNot tA):=⟨jVI ha.h⟩
def y4:JTs X [] yR:=⟨jN1⟩
def jB6{t:TT}(h:JT X e t):JTs X [e] t:=⟨jN0 h.h⟩
def jO{i:Nat}(hN:X.N.Nodup)(hi:X.N[i]?=some x)(hx:Loc1 X x):JG X (.Name x pos) (kX i):=⟨jG3 hN hi hx.a hx.b⟩
def jA6(hg:Gl1 X "range")(hm:X.mg "range" =none)(ha:JA X [a] t)(hs:starEach [a] X.env=(false,eval a X.env)::starEach [] X.env):JI X tg (.Call (.Name "range" p) [a] [] pos) (iRng1 t):=⟨jC3 hg.a hm ha.h hs⟩
def yW(hl:JE X a ta):JI X tg a (iList X.K ta):=⟨jTD hl.h⟩
def jDD(hl:JE X a ta):JI X tg a (iTup X.K ta):=⟨jVL hl.h⟩
def jOF:JO X none jMK:=⟨jT9⟩
def jOE(h:JE X e te):JO X (some e) (tPart te):=⟨jT8 h.h⟩
def jS{i:Nat}{pos':Pos}(hN:X.N.Nodup)(hi:X.N[i]?=some x)(hx:Loc1 X x)(he:JE X e te)(hs:SwOk e (some (.Name x pos'))):JS X (.Assign [.Name x pos'] e pos) (tAsg te (kX i)):=⟨qH hN hi hx.a he.h (hs.h _ _) hx.b⟩
def jU(he:JE X e te):JS X (.Return (some e) pos) (tRet te):=⟨jD7 he.h⟩
def jBS(he:JE X e te)(hs:SwOk e none):JS X (.Expr e pos) (tDrop te):=⟨jT5 he.h (hs.h _ _)⟩
def kQ:JSs X [] tNext:=⟨jG2⟩
def jF{st:Stmt}{t:TS}(h1:JS X st t):JSs X [st] t:=⟨jAX h1.h⟩
def jD{st:Stmt}{rest:List Stmt}{t u:TS}(h1:JS X st t)(h2:JSs X rest u):JSs X (st::rest) (tSeq t u):=⟨y0 h1.h h2.h⟩
def yT{a b:List Stmt}{tc:TT}{t u:TS}(hc:JT X c tc)(ha:JSs X a t)(hb:JSs X b u):JS X (.If c a b pos) (tIfS tc t u):=⟨ps_if hc.h ha.h hb.h⟩
def jEI{iter:Expr}{wi:TI}{g:TG}{tb:TS}(hp:PassesOwn (model X.prog X.w) X.A X.env X.xe)(hc:X.calm=true)(hi:JI X tg iter wi)(hg:JG X tg g)(hb:JSs X body tb)(hs:FoOk iter):JS X (.For tg iter body [] pos) (tFor wi g tb):=⟨jS3 hp hc hi.h hg.h hb.h (hs.h _)⟩
theorem je_bm{name:Str}{r}(pa:PlainAttrs T)(slot:Slot T name id)(hty:typeOf (.builtin id)=pure (.type "method_descriptor"))(hm:MtR X id r)(ho:JE X o to)(ha:JA X (e::es) t)
  (hs:starEach (e::es) X.env=(false,eval e X.env)::starEach es X.env)
  (hbase:attributeBase o name X.env (eval o X.env)=eval o X.env:=by rfl)
  (hfew:((backTo cpos (starEach (e::es) X.env)).all (λx=>!x.1)&&(backToKw cpos (keywordEach [] X.env)).all (λx=>x.1.isSome)
   &&decide ((e::es).length+([]:List Keyword).length+(if ([]:List Keyword).isEmpty then 0 else 1)<30))=true:=by rfl)
  (hline:(apos.endLine==cpos.line)=true:=by rfl) (hplain:(backTo cpos (starEach es X.env)).any (·.1)=false:=by rfl):
  JE X (.Call (.Attribute o name apos) (e::es) [] cpos) (tBM X.K T r to t):=⟨pe_bm pa slot hty hm ho.h ha.h hbase hfew hline hs hplain⟩
def kO{tg iter elt:Expr}{ifs:List Expr}{sc:Scope}{wi:TI}{g:TG}{tt:TT}{m:List (Option Nat)}{Nc:Am}(hc:X.calm=true)(hi:JI X tg iter wi)(hkind:sc.kind=.function)(hcell:∀y∈sc.names,y.2≠.cell)(hnames:∀y∈sc.names,y.2=.local->sc.names.lookup y.1=some .local)
  (hfree:Fq X sc) (hm:qF X sc Nc m)
  (hg:∀cl C fp s H,JG (blk X sc cl C Nc fp s H) tg g) (ht:∀cl C fp s H,JTs (blk X sc cl C Nc fp s H) ifs tt) (he:∀cl C fp s H,JE (blk X sc cl C Nc fp s H) elt te)
  (hs:FoOk iter):JE X (.ListComp elt [⟨tg,iter,ifs,0⟩] sc pos) (tComp m wi g tt te):=⟨jIU hc hi.h hkind hcell hnames hfree hm (λcl C fp s H=>(hg cl C fp s H).h) (λcl C fp s H=>(ht cl C fp s H).h) (λcl C fp s H=>(he cl C fp s H).h) (hs.h _)⟩
def jWU{p1 p3 p4 p5 p6 p7:Pos}{k1 k2 k3 k4:Nat}:JE X (.BinOp (.BinOp (.Constant (.int 2) k1 p1) .Mult (.BinOp (.Constant (.int 10) k2 p2) .Pow (.Constant (.int 12) k3 p3) p4) p5) .Add (.Constant (.int 1) k4 p6) p7) (tC (.int 2000000000001)):=⟨jVU⟩
end
variable {P:Program}{mg:Ak}{Aq:Heap}{N:Am}{qual:Str}{sc:Scope}{f:Addr}{mn:Value}{mj:List Env}{H:Hp}{E:XK}
section
variable {K:W.Frag}
def gl_d(h:sc.names.lookup x=some .globalImplicit):Gl1 (cxOf CX0 P w K mg Aq N qual sc f mn A mj s H E).nox x:=⟨h⟩
theorem gD(h:sc.names.lookup x=some .globalImplicit:=by decide+kernel):Gl1 (cxOf CX0 P w K mg Aq N qual sc f mn A mj s H E).nox x:=gl_d h
def vis_l(h:sc.names.lookup x=some .local):Vis1 (cxOf CX0 P w K mg Aq N qual sc f mn A mj s H E).nox x:=⟨.inl h⟩
theorem vL(h:sc.names.lookup x=some .local:=by decide+kernel):Vis1 (cxOf CX0 P w K mg Aq N qual sc f mn A mj s H E).nox x:=vis_l h
def vis_c(h:sc.names.lookup x=some .cell):Vis1 (cxOf CX0 P w K mg Aq N qual sc f mn A mj s H E).nox x:=⟨.inr (.inl h)⟩
theorem vC(h:sc.names.lookup x=some .cell:=by decide+kernel):Vis1 (cxOf CX0 P w K mg Aq N qual sc f mn A mj s H E).nox x:=vis_c h
end
def jAP{env:Env}{x:Str}{k:NameKind}(hk:k≠.free):∀{l:List (Str×NameKind)},l.lookup x=some k->
  (l.map λ(n,k)=>if (k==NameKind.free&&env.scope.kind==.function&&env.kindOf n==some .cell) then (n,NameKind.cell) else (n,k)).lookup x=some k
 |[],h=>by cases h
 | (n,k')::r,h=>by
  have ih:= @jAP env x k hk r;rw[bf] at h;rw[bg];dsimp only;by_cases hb:(k'==NameKind.free&&env.scope.kind==.function&&env.kindOf n==some .cell)=true
  .rw[aA hb,bf];cases hx:x==n with
   |true=>
    rw[hx] at h;have e:k'=k:=bA h;simp only[bJ] at hb;exact absurd (e.symm.trans (eq_of_beq hb.1.1)) hk
   |false=>rw[hx] at h;exact ih h
  .rw[az hb,bf];cases hx:x==n with
   |true=>rw[hx] at h;exact h
   |false=>rw[hx] at h;exact ih h
variable {cl:Aj}{C:Addr}{Nc:Am}{fp:List Addr}
theorem gl_b(h:sc.names.lookup x=some .globalImplicit:=by decide+kernel):Gl1 (blk X sc cl C Nc fp s H) x:=⟨jAP Ac h⟩
theorem jQ(h:sc.names.lookup x=some .local:=by decide+kernel):Vis1 (blk X sc cl C Nc fp s H) x:=⟨.inl (jAP Ac h)⟩
theorem kL(h:sc.names.lookup x=some .free:=by decide+kernel):Vis1 (blk X sc cl C Nc fp s H) x:=⟨.inr (jCW h)⟩
theorem yK(h:sc.names.lookup x=some .local:=by decide+kernel):Loc1 (blk X sc cl C Nc fp s H) x:=⟨.inl (jAP Ac h),.inr (jAP Ac h)⟩
section
variable {K:W.Frag}
def loc_l(h:sc.names.lookup x=some .local):Loc1 (cxOf CX0 P w K mg Aq N qual sc f mn A mj s H E).nox x:=⟨.inl h,.inl rfl⟩
theorem lL(h:sc.names.lookup x=some .local:=by decide+kernel):Loc1 (cxOf CX0 P w K mg Aq N qual sc f mn A mj s H E).nox x:=loc_l h
theorem qS(h:sc.names.lookup x=some .cell:=by decide+kernel):Loc1 (cxOf CX0 P w K mg Aq N qual sc f mn A mj s H E).nox x:=⟨.inr h,.inl rfl⟩
end
structure JW (X:Cx)(e:Expr)(t:TT):Prop where
 h:PW X e t
section
variable {rest:List Expr}{tA tB':TT}
def jJ5(ha:JT X a tA):JW X (.BoolOp .And [a] pos) tA:=⟨jT2 ha.h⟩
def jWN(ha:JT X a tA):JW X (.BoolOp .Or [a] pos) tA:=⟨jVF ha.h⟩
def jOC(ha:JT X a tA)(hb:JW X (.BoolOp .And (b::rest) pos) tB'):JW X (.BoolOp .And (a::b::rest) pos) (tAnd tA tB'):=⟨jVG ha.h hb.h⟩
def jw_or(ha:JT X a tA)(hb:JW X (.BoolOp .Or (b::rest) pos) tB'):JW X (.BoolOp .Or (a::b::rest) pos) (tOr tA tB'):=⟨pw_or ha.h hb.h⟩
def jt_w(h:JW X a tA):JT X a tA:=⟨h.h.pt⟩
def jJ9:JGs X [] gNil:=⟨jTF⟩
structure AsOk (e:Expr):Prop where
 h:∀es env,assignEach (e::es) env=(false,assign e env)::assignEach es env
def jD2:AsOk (.Name x pos):=⟨λ_ _=>rfl⟩
def jBI{t:TG}{u:TGs}(h1:JG X e t)(h2:JGs X es u)(hs:AsOk e):JGs X (e::es) (gCons t u):=⟨jQA h1.h h2.h (by rw[hs.h];rfl)⟩
def jSG{es:List Expr}{k:Nat}{t:TGs}{n:Nat}(hc:X.calm=true)(h:JGs X es t)(hn:(assignEach es X.env).length=n:=by rfl)(hst:(assignEach es X.env).findIdx? (·.1)=none:=by rfl):JG X (.Tuple es k pos) (gTup X.K n t):=⟨jVM hc h.h hn hst⟩
def jE6{op:CmpOp}:behindInMarks op (.Name x pos)=false:=by cases op<;>rfl
end
def jCA{X:Cx}{sc:Scope}{cl:Aj}{C:Addr}{Nc:Am}{fp:List Addr}{s:Shared}{H:Hp}{x y:Str}{p1 p2 pos:Pos}{k:Nat}{i j:Nat}(hc:X.calm=true)(hN:Nc.Nodup)(hi:Nc[i]?=some x)(hj:Nc[j]?=some y)(hx:sc.names.lookup x=some .local)(hy:sc.names.lookup y=some .local):
  JG (blk X sc cl C Nc fp s H) (.Tuple [.Name x p1,.Name y p2] k pos) (gTup X.K 2 (gCons (kX i) (gCons (kX j) gNil))):=
 jSG (X:=blk X sc cl C Nc fp s H) hc (jBI (jO hN hi (yK hx)) (jBI (jO hN hj (yK hy)) jJ9 jD2) jD2)
variable {m:List (Option Nat)}{g:TG}{tt:TT}{H1:Hp}{Q:VK}
section
variable {K:W.Frag}{σ:St}
end
def jG5:OpR (blk X sc cl C Nc fp s H) (compareOp .In) (rIn X.K false):=jE4
def jFE:OpR (blk X sc cl C Nc fp s H) (compareOp .NotIn) (rIn X.K true):=jHI
def yI:IxR (blk X sc cl C Nc fp s H) (rIxT X.K):=kP
def jM5:yQ (blk X sc cl C Nc fp s H) (.builtin "len") (λxs H Q=>∃p ys,xs=[.ref p]/\(SqL X.K H p ys\/SqT X.K H p ys)/\Q (.int ys.length) H):=jA0
def Ext(H H':Hp):Prop:=∀b o,H b=some o->H' b=some o
def Ext.refl(H:Hp):Ext H H:=λ_ _ h=>h
def Ext.trans{H2:Hp}(a:Ext H H1)(b:Ext H1 H2):Ext H H2:=λc o h=>b c o (a c o h)
def Ext.new{H H1:Hp}{l:Addr}(a:Ext H H1)(hl:H1 l=none)(o:HO):Ext H (upd H1 l o):=λc u h=>by
 have:=a c u h;rw[jA (jC this hl)];exact this
def Ext.updNew{l:Addr}(a:Ext H H1)(hl:H l=none)(o:HO):Ext H (upd H1 l o):=λc u h=>by
 rw[jA (jC h hl)];exact a c u h
def TupR(H:Hp)(xs:List V)(Q:VK):Prop:=∀r H',H' r=some (.tup xs)->Ext H H'->Q (.ref r) H'
def TupR.new{H:Hp}{xs:List V}{Q:VK}(q:TupR H xs Q){p:Addr}(hp:H p=none):Q (.ref p) (upd H p (.tup xs)):=q p _ j7 ((Ext.refl H).new hp _)
def TupR.old{xs:List V}(q:TupR H xs Q){p:Addr}(hp:H p=some (.tup xs)):Q (.ref p) H:=q p H hp (Ext.refl H)
def rCatU:R2:=λx y H Q=>∃a b xs ys,x=.ref a/\y=.ref b/\H a=some (.tup xs)/\H b=some (.tup ys)/\xs.length+ys.length<=sizeLine/\TupR H (xs++ys) Q
def jNA:OpR X (binaryOp .Add) rCatU:=by
 intro ma s σ H x y v u Q I rx ry h;obtain⟨a,b,xs,ys,rfl,rfl,ha,hb,hz,q⟩:=h;by_cases hx:xs=[]
 .subst hx;cases rx;cases ry;obtain⟨_,its,r1,n1,e1⟩:=I.hok a _ ha;obtain⟨_,its2,r2,n2,e2⟩:=I.hok b _ hb;cases r1;exact concat_meets ⟨_,e1,rfl⟩ ⟨_,e2,rfl⟩ jp seq_tuple_add gJ gF (gt _ _) (AutoSeq1.tuple___add___tuple_tuple_0 a _ n1 b its2.toArray n2 Ad) ⟨e1,e2,.ref b,H,I,rfl,q.old hb⟩
 .refine jTP ma s σ H _ _ v u Q I rx ry ⟨a,b,xs,ys,rfl,rfl,SqT.of ha,SqT.of hb,hx,hz,λe=>?_,λ_ p hp=>q.new hp⟩;subst e;rw[aV] at q;exact q.old ha
section
variable (l:Addr)(items:An)(n:Nat)(x:Int)(u:Tok)(h1:¬(decide (x< -(2^63)) ||decide (x ≥ 2^63))=true)
include h1
end
theorem Inv.big'(I:Inv X ma σ H s):sysModules<s.heap.objs.size:=fh Ac (I.mod.glob.keeps I.bk).lt
def jV5:TE:=λ_ H Q=>∀p,H p=none->Q (.ref p) (upd H p (.dK []))
def jQZ:JE X (.Dict [] [] pos) jV5:=⟨λma s σ H Q I h=>
 wpAny_Dict_empty ⟨.ref s.heap.objs.size,_,I.laid (a:=s.heap.objs.size) (o:=.dK []) (t':=s.toks) (λ_ _ q=>af _ q) (ar _)
  ⟨br _,bW.mpr (cZ (aO I.big')),[],.nil,km s.heap⟩,rfl,h _ (I.hok.fresh (ar _))⟩⟩
theorem yX{x:Str}{v:V}{u:Value}{pos:Pos}(hg:Gl1 X x)(hm:X.mg x=some u)(r:RelV v u)(hd:(x==("__debug__":Str))=false:=by decide):JE X (.Name x pos) (tC v):=⟨jTG hg.a hm r hd⟩
def jOI{t:TA}{p:Pos}(hg:Gl1 X "range")(hm:X.mg "range" =none)(ha:JA X [a,b] t)(hs:starEach [a,b] X.env=(false,eval a X.env)::starEach [b] X.env)(hs2:starEach [b] X.env=(false,eval b X.env)::starEach [] X.env):
  JI X tg (.Call (.Name "range" p) [a,b] [] pos) (iRng2 t):=⟨jN6 hg.a hm ha.h (by rw[hs,hs2];rfl) hs2⟩
def jWP(he:JE X e te)(hg:JG X tg g)(hs:swapsWithSole [tg] e pos.line X.env=pure false:=by rfl)(hw:swappedStores [tg] e X.env=pure none:=by rfl)
  (h1:(assignEach [tg] X.env).map (·.2)=[assign tg X.env]:=by rfl):JS X (.Assign [tg] e pos) (tAsg te g):=⟨jS4 he.h hg.h hs hw h1⟩
section
variable {K:W.Frag}{σ:St}
theorem jBK{a:Addr}{xs:List V}(hn:xs.length<sizeLine)(Pv:Addr->Nat->St->Hp->List V->Prop)(h0:∀D,H1 D=none->Pv D 0 (blkσ m σ) (upd H1 D (.lst [])) [])
  (hD:∀D i σ' H' zs,H1 D=none->Pv D i σ' H' zs->H' a=some (.tup xs)/\H' D=some (.lst zs)/\zs.length<=i)
  (hs:∀D i σ' H' zs x,H1 D=none->xs[i]?=some x->Pv D i σ' H' zs->g x σ' H' λσ2 H2=>tt σ2 H2 λb H3=>if b=true then te σ2 H3 λv H4=>H4 D=some (.lst zs)/\Pv D (i+1) σ2 (upd H4 D (.lst (zs++[v]))) (zs++[v]) else Pv D (i+1) σ2 H3 zs)
  (hd:∀D σ' H' zs,H1 D=none->Pv D xs.length σ' H' zs->Q (.ref D) H'):qK m g tt te σ Q (Itt K a) H1:=by
 intro D hDn;refine⟨λi k σ' H' zs=>k=xs.length-i/\i<=xs.length/\Pv D i σ' H' zs,⟨_,rfl,br _,h0 D hDn⟩,?_⟩;rintro i k σ' H' zs ⟨rfl,hi,p⟩;obtain⟨s1,q1,q2⟩:=hD D i σ' H' zs hDn p;refine⟨q1,Aa,?_⟩;by_cases hlt:i<xs.length
 .refine .inr ⟨⟨xs,xs[i],SqT.of s1,by simp[hlt]⟩,Pv D (i+1),λσ2 H2 zs z=>⟨xs.length-(i+1),Aa,rfl,hlt,z⟩,λv H'' y=>?_⟩;obtain⟨e1,e2⟩:=y;subst e1;exact hs D i σ' _ zs v hDn (e2 xs (SqT.of s1)) p
 .have e:i=xs.length:=Aa;subst e;exact .inl ⟨⟨xs,SqT.of s1,ar _⟩,hd D σ' H' zs hDn p⟩
end
inductive Tr where
 |non
 |bl (b:Bool)
 |int (i:Int)
 |str (x:Str)
 |lst (ts:List Tr)
 |tup (ts:List Tr)
mutual
def TAt(H:Hp):Tr->V->Prop
 | .non,v=>v=.non
 | .bl b,v=>v=.bl b
 | .int i,v=>v=.int i
 | .str x,v=>v=.str x
 | .lst ts,v=>∃a vs,v=.ref a/\H a=some (.lst vs)/\TsAt H ts vs
 | .tup ts,v=>∃a vs,v=.ref a/\H a=some (.tup vs)/\TsAt H ts vs
def TsAt(H:Hp):List Tr->List V->Prop
 |[],vs=>vs=[]
 |t::ts,vs=>∃v r,vs=v::r/\TAt H t v/\TsAt H ts r
end
mutual
def dep:Tr->Nat
 | .lst ts=>deps ts+1
 | .tup ts=>deps ts+1
 |_=>0
def deps:List Tr->Nat
 |[]=>0
 |t::ts=>max (dep t) (deps ts)
end
mutual
def eqT:Tr->Tr->Bool
 | .non,.non=>true
 | .bl a,.bl b=>a==b
 | .bl a,.int b=>(if a then 1 else 0)==b
 | .int a,.bl b=>a==(if b then 1 else 0)
 | .int a,.int b=>a==b
 | .str a,.str b=>a==b
 | .lst a,.lst b=>eqTs a b
 | .tup a,.tup b=>eqTs a b
 |_,_=>false
def eqTs:List Tr->List Tr->Bool
 |[],[]=>true
 |a::as,b::bs=>eqT a b&&eqTs as bs
 |_,_=>false
end
mutual
def jGO:∀t:Tr,eqT t t=true
 | .non=>by simp[eqT]
 | .bl b=>by simp[eqT]
 | .int i=>by simp[eqT]
 | .str x=>by simp[eqT]
 | .lst ts=>by rw[eqT];exact jB7 ts
 | .tup ts=>by rw[eqT];exact jB7 ts
def jB7:∀ts:List Tr,eqTs ts ts=true
 |[]=>by simp[eqTs]
 |t::ts=>by rw[eqTs,jGO t,jB7 ts];rfl
end
mutual
def TAt.ext{H H':Hp}(e:Ext H H'):∀{t:Tr}{v:V},TAt H t v->TAt H' t v
 | .non,_,h=>h
 | .bl _,_,h=>h
 | .int _,_,h=>h
 | .str _,_,h=>h
 | .lst ts,_,⟨a,vs,q,h,r⟩=>⟨a,vs,q,e _ _ h,TsAt.ext e r⟩
 | .tup ts,_,⟨a,vs,q,h,r⟩=>⟨a,vs,q,e _ _ h,TsAt.ext e r⟩
def TsAt.ext{H H':Hp}(e:Ext H H'):∀{ts:List Tr}{vs:List V},TsAt H ts vs->TsAt H' ts vs
 |[],_,h=>h
 |t::ts,_,⟨v,r,q,h,s⟩=>⟨v,r,q,TAt.ext e h,TsAt.ext e s⟩
end
mutual
def TAt.inj{H:Hp}:∀{t u:Tr}{v:V},TAt H t v->TAt H u v->t=u
 | .non,u,_,h,h'=>by
  cases (show _=V.non from h);cases u with
  |non=>rfl
  |bl b=>cases (show V.non=_ from h')
  |int b=>cases (show V.non=_ from h')
  |str b=>cases (show V.non=_ from h')
  |lst ts=>obtain⟨_,_,q,_⟩:=h';cases q
  |tup ts=>obtain⟨_,_,q,_⟩:=h';cases q
 | .bl b,u,_,h,h'=>by
  cases (show _=V.bl b from h);cases u with
  |non=>cases (show V.bl b=_ from h')
  |bl b=>cases (show V.bl _=V.bl b from h');rfl
  |int i=>cases (show V.bl b=V.int i from h')
  |str i=>cases (show V.bl b=V.str i from h')
  |lst ts=>obtain⟨_,_,q,_⟩:=h';cases q
  |tup ts=>obtain⟨_,_,q,_⟩:=h';cases q
 | .int b,u,_,h,h'=>by
  cases (show _=V.int b from h);cases u with
  |non=>cases (show V.int b=_ from h')
  |bl i=>cases (show V.int b=V.bl i from h')
  |int b=>cases (show V.int _=V.int b from h');rfl
  |str i=>cases (show V.int b=V.str i from h')
  |lst ts=>obtain⟨_,_,q,_⟩:=h';cases q
  |tup ts=>obtain⟨_,_,q,_⟩:=h';cases q
 | .str b,u,_,h,h'=>by
  cases (show _=V.str b from h);cases u with
  |non=>cases (show V.str b=_ from h')
  |bl i=>cases (show V.str b=V.bl i from h')
  |int i=>cases (show V.str b=V.int i from h')
  |str b=>cases (show V.str _=V.str b from h');rfl
  |lst ts=>obtain⟨_,_,q,_⟩:=h';cases q
  |tup ts=>obtain⟨_,_,q,_⟩:=h';cases q
 | .lst ts,u,_,⟨a,vs,q,h,r⟩,h'=>by
  subst q;cases u with
  |non=>cases (show V.ref a=_ from h')
  |bl i=>cases (show V.ref a=V.bl i from h')
  |int i=>cases (show V.ref a=V.int i from h')
  |str i=>cases (show V.ref a=V.str i from h')
  |lst us=>
   obtain⟨a',vs',q',h2,r'⟩:=h';cases q';rw[h] at h2;cases h2;rw[TsAt.inj r r']
  |tup us=>
   obtain⟨a',vs',q',h2,r'⟩:=h';cases q';rw[h] at h2;cases h2
 | .tup ts,u,_,⟨a,vs,q,h,r⟩,h'=>by
  subst q;cases u with
  |non=>cases (show V.ref a=_ from h')
  |bl i=>cases (show V.ref a=V.bl i from h')
  |int i=>cases (show V.ref a=V.int i from h')
  |str i=>cases (show V.ref a=V.str i from h')
  |lst us=>
   obtain⟨a',vs',q',h2,r'⟩:=h';cases q';rw[h] at h2;cases h2
  |tup us=>
   obtain⟨a',vs',q',h2,r'⟩:=h';cases q';rw[h] at h2;cases h2;rw[TsAt.inj r r']
def TsAt.inj{H:Hp}:∀{ts us:List Tr}{vs:List V},TsAt H ts vs->TsAt H us vs->ts=us
 |[],us,_,h,h'=>by
  cases (show _=[] from h);cases us with
  |nil=>rfl
  |cons u us=>obtain⟨_,_,q,_⟩:=h';cases q
 |t::ts,us,_,⟨v,r,q,h,s⟩,h'=>by
  subst q;cases us with
  |nil=>cases (show v::r=[] from h')
  |cons u us=>
   obtain⟨v',r',q,h2,s2⟩:=h';cases q;rw[TAt.inj h h2,TsAt.inj s s2]
end
def TsAt.len:∀{ts:List Tr}{vs:List V},TsAt H ts vs->vs.length=ts.length
 |[],_,h=>by cases (show _=[] from h);rfl
 |t::ts,_,⟨v,r,q,_,s⟩=>by rw[q,aU,aU,TsAt.len s]
def TsAt.get{H:Hp}:∀{ts:List Tr}{vs:List V},TsAt H ts vs->∀{i:Nat}{v:V},vs[i]?=some v->∃t,ts[i]?=some t/\TAt H t v
 |[],_,h,i,v,e=>by cases (show _=[] from h);cases e
 |t::ts,_,⟨v,r,q,h,s⟩,0,v',e=>by subst q;cases e;exact⟨t,rfl,h⟩
 |t::ts,_,⟨v,r,q,h,s⟩,i+1,v',e=>by subst q;exact TsAt.get s (i:=i) e
theorem jES:∀ts us:List Tr,eqTs ts us=((List.range (min ts.length us.length)).all (λj=>eqT (ts.getD j .non) (us.getD j .non))&&ts.length==us.length)
 |[],[]=>by simp[eqTs]
 |[],u::us=>by simp[eqTs]
 |t::ts,[]=>by simp[eqTs]
 |t::ts,u::us=>by
  rw[eqTs,jES ts us,aU,aU,show min (ts.length+1) (us.length+1)=min ts.length us.length+1 by lia,List.range_succ_eq_map,jh,jz];have e:(ts.length+1==us.length+1)=(ts.length==us.length):=by
   rw[cj];simp
  rw[e,Bool.and_assoc];rfl
variable {ts:List Tr}{t:Tr}
theorem jJI(h:t∈ts):dep t<=deps ts:=by
 induction ts with
 |nil=>cases h
 |cons a r ih=>
  rw[deps];rcases aB.mp h with q|q
  .subst q;lia
  .have:=ih q;lia
def flatT:Tr->Bool
 | .lst _=>false
 | .tup _=>false
 |_=>true
def jP1{x:V}(h:TAt H t x)(f:flatT t=true):flatV x=true:=by
 cases t with
 |non=>cases (show x=_ from h);rfl
 |bl b=>cases (show x=V.bl b from h);rfl
 |int b=>cases (show x=V.int b from h);rfl
 |str b=>cases (show x=V.str b from h);rfl
 |lst ts=>cases f
 |tup ts=>cases f
def jUJ{u:Tr}{x y:V}(h:TAt H t x)(h':TAt H u y)(f:flatT t=true)(f':flatT u=true):eqV x y=eqT t u:=by
 cases t with
 |non=>
  cases (show x=_ from h);cases u with
  |non=>cases (show y=_ from h');simp[eqV,eqT]
  |bl b=>cases (show y=V.bl b from h');simp[eqV,eqT]
  |int b=>cases (show y=V.int b from h');simp[eqV,eqT]
  |str b=>cases (show y=V.str b from h');simp[eqV,eqT]
  |lst ts=>cases f'
  |tup ts=>cases f'
 |bl c=>
  cases (show x=V.bl c from h);cases u with
  |non=>cases (show y=_ from h');simp[eqV,eqT]
  |bl b=>cases (show y=V.bl b from h');simp[eqV,eqT]
  |int b=>cases (show y=V.int b from h');simp[eqV,eqT]
  |str b=>cases (show y=V.str b from h');simp[eqV,eqT]
  |lst ts=>cases f'
  |tup ts=>cases f'
 |int c=>
  cases (show x=V.int c from h);cases u with
  |non=>cases (show y=_ from h');simp[eqV,eqT]
  |bl b=>cases (show y=V.bl b from h');simp[eqV,eqT]
  |int b=>cases (show y=V.int b from h');simp[eqV,eqT]
  |str b=>cases (show y=V.str b from h');simp[eqV,eqT]
  |lst ts=>cases f'
  |tup ts=>cases f'
 |str c=>
  cases (show x=V.str c from h);cases u with
  |non=>cases (show y=_ from h');simp[eqV,eqT]
  |bl b=>cases (show y=V.bl b from h');simp[eqV,eqT]
  |int b=>cases (show y=V.int b from h');simp[eqV,eqT]
  |str b=>cases (show y=V.str b from h');simp[eqV,eqT]
  |lst ts=>cases f'
  |tup ts=>cases f'
 |lst ts=>cases f
 |tup ts=>cases f
variable {us:List Tr}
section
variable {ma:Ai}{σ:St}
theorem TsAt.both{its its2:Al}(h1:TsAt H ts vs)(h2:TsAt H us ws)(r1:Vals vs its)(r2:Vals ws its2){j:Nat}(a1:j<its.toArray.size)(a2:j<its2.toArray.size):
  ∃t u x y,ts.getD j .non=t/\us.getD j .non=u/\t∈ts/\TAt H t x/\TAt H u y/\RelV x its.toArray[j]/\RelV y its2.toArray[j]:=by
 have l1:=r1.length;have l2:=r2.length;rw[aq] at a1 a2;obtain⟨x,hx⟩:∃x,vs[j]?=some x:=⟨vs[j]' Aa,by simp[show j<vs.length by lia]⟩;obtain⟨y,hy⟩:∃y,ws[j]?=some y:=⟨ws[j]' Aa,by simp[show j<ws.length by lia]⟩;obtain⟨t,ht,hxt⟩:=h1.get hx;obtain⟨u,hu,hyu⟩:=h2.get hy;obtain⟨v,hv,rv⟩:=r1.get hx;obtain⟨w,hw,rw'⟩:=r2.get hy;have e1:its.toArray[j]=v:=by
  have:its[j]?=some its[j]:=by simp[a1]
  rw[hv] at this;simpa using (bA this).symm
 have e2:its2.toArray[j]=w:=by
  have:its2[j]?=some its2[j]:=by simp[a2]
  rw[hw] at this;simpa using (bA this).symm
 refine⟨t,u,x,y,by rw[aG,ht];rfl,by rw[aG,hu];rfl,aQ ht,hxt,hyu,by rw[e1];exact rv,by rw[e2];exact rw'⟩
theorem jX1(I:Inv X ma σ H s):∀(n:Nat) (t u:Tr) (x y:V) (vx vy:Value) (A:Around),dep t=n->TAt H t x->TAt H u y->RelV x vx->RelV y vy->A.units+n<cLine->SeqAt.EqAt A s vx vy (eqT t u):=by
 intro n
 induction n using strongRecOn with
 |ind n ih=>
  intro t u x y vx vy A hn ht hu rx ry hc;have hcu:A.units<cLine:=Aa;cases ft:flatT t with
  |true=>
   cases fu:flatT u with
   |true=>
    rw[<- jUJ ht hu ft fu];exact jSM rx ry (jP1 ht ft) (jP1 hu fu)
   |false=>
    cases u with
    |lst us=>
     obtain⟨b,ws,rfl,hb,_⟩:=hu;cases ry;obtain⟨its,_,pl,_⟩:=I.list (SqL.of hb);cases t with
     |non=>cases (show x=_ from ht);cases rx;rw[show eqT .non (.lst us)=false by simp[eqT]];exact .none_list pl.isList hcu
     |bl c=>cases (show x=V.bl c from ht);cases rx;rw[show eqT (.bl c) (.lst us)=false by simp[eqT]];exact .bool_list c pl.isList hcu
     |int c=>cases (show x=V.int c from ht);obtain⟨k,rfl⟩:=rx;rw[show eqT (.int c) (.lst us)=false by simp[eqT]];exact .int_list c k pl.isList hcu
     |str c=>cases (show x=V.str c from ht);obtain⟨k,rfl⟩:=rx;rw[show eqT (.str c) (.lst us)=false by simp[eqT]];exact .str_list c k pl.isList hcu
     |lst ts=>cases ft
     |tup ts=>cases ft
    |tup us=>
     obtain⟨b,ws,rfl,hb,_⟩:=hu;cases ry;obtain⟨its,_,pl,_⟩:=I.tuple (SqT.of hb);cases t with
     |non=>cases (show x=_ from ht);cases rx;rw[show eqT .non (.tup us)=false by simp[eqT]];exact .none_tuple pl hcu
     |bl c=>cases (show x=V.bl c from ht);cases rx;rw[show eqT (.bl c) (.tup us)=false by simp[eqT]];exact .bool_tuple c pl hcu
     |int c=>cases (show x=V.int c from ht);obtain⟨k,rfl⟩:=rx;rw[show eqT (.int c) (.tup us)=false by simp[eqT]];exact .int_tuple c k pl hcu
     |str c=>cases (show x=V.str c from ht);obtain⟨k,rfl⟩:=rx;rw[show eqT (.str c) (.tup us)=false by simp[eqT]];exact .str_tuple c k pl hcu
     |lst ts=>cases ft
     |tup ts=>cases ft
    |non=>cases fu
    |bl c=>cases fu
    |int c=>cases fu
    |str c=>cases fu
  |false=>
   cases t with
   |non=>cases ft
   |bl c=>cases ft
   |int c=>cases ft
   |str c=>cases ft
   |lst ts=>
    have ht0:=ht;obtain⟨a,vs,rfl,ha,hts⟩:=ht;cases rx;obtain⟨its,r1,pl,_⟩:=I.list (SqL.of ha);cases u with
    |non=>cases (show y=_ from hu);cases ry;rw[show eqT (.lst ts) .non=false by simp[eqT]];exact .list_none pl.isList hcu
    |bl c=>cases (show y=V.bl c from hu);cases ry;rw[show eqT (.lst ts) (.bl c)=false by simp[eqT]];exact .list_bool c pl.isList hcu
    |int c=>cases (show y=V.int c from hu);obtain⟨k,rfl⟩:=ry;rw[show eqT (.lst ts) (.int c)=false by simp[eqT]];exact .list_int c k pl.isList hcu
    |str c=>cases (show y=V.str c from hu);obtain⟨k,rfl⟩:=ry;rw[show eqT (.lst ts) (.str c)=false by simp[eqT]];exact .list_str c k pl.isList hcu
    |tup us=>
     obtain⟨b,ws,rfl,hb,_⟩:=hu;cases ry;obtain⟨its2,_,pl2,_⟩:=I.tuple (SqT.of hb);rw[show eqT (.lst ts) (.tup us)=false by simp[eqT]];exact .list_tuple pl.isList pl2 hcu
    |lst us=>
     have hu0:=hu;obtain⟨b,ws,rfl,hb,hus⟩:=hu;cases ry;by_cases e:a=b
     .subst e;rw[<- TAt.inj ht0 hu0,jGO];exact .same _
     .obtain⟨its2,r2,pl2,_⟩:=I.list (SqL.of hb);refine .of_refs e ?_;have l1:=r1.length;have l2:=r2.length;have m1:=hts.len;have m2:=hus.len;rw[eqT,jES];by_cases hl:ts.length=us.length
      .have key:=SeqAt.RcAt.lists (e:=λj=>eqT (ts.getD j .non) (us.getD j .non)) pl.isList pl2.isList (by rw[aq,aq];lia) hcu λj a1 a2=>by
        obtain⟨t',u',x',y',e1,e2,hm,q1,q2,q3,q4⟩:=TsAt.both hts hus r1 r2 a1 a2;rw[e1,e2];have hd:=jJI hm;have hn':deps ts+1=n:=by rw[<- hn,dep]
        exact ih (dep t') Aa t' u' x' y' _ _ _ rfl q1 q2 q3 q4 (by rw[eX];lia)
       have ez:its.toArray.size=min ts.length us.length:=by rw[aq];lia
       rw[ez] at key;rw[show (ts.length==us.length)=true by simp[hl],lJ];exact key
      .rw[show (ts.length==us.length)=false by simp[hl],db];refine SeqAt.RcAt.lists_lengths pl.isList pl2.isList ?_ hcu;rw[aq,aq];simp;lia
   |tup ts=>
    have ht0:=ht;obtain⟨a,vs,rfl,ha,hts⟩:=ht;cases rx;obtain⟨its,r1,pl,_⟩:=I.tuple (SqT.of ha);cases u with
    |non=>cases (show y=_ from hu);cases ry;rw[show eqT (.tup ts) .non=false by simp[eqT]];exact .tuple_none pl hcu
    |bl c=>cases (show y=V.bl c from hu);cases ry;rw[show eqT (.tup ts) (.bl c)=false by simp[eqT]];exact .tuple_bool c pl hcu
    |int c=>cases (show y=V.int c from hu);obtain⟨k,rfl⟩:=ry;rw[show eqT (.tup ts) (.int c)=false by simp[eqT]];exact .tuple_int c k pl hcu
    |str c=>cases (show y=V.str c from hu);obtain⟨k,rfl⟩:=ry;rw[show eqT (.tup ts) (.str c)=false by simp[eqT]];exact .tuple_str c k pl hcu
    |lst us=>
     obtain⟨b,ws,rfl,hb,_⟩:=hu;cases ry;obtain⟨its2,_,pl2,_⟩:=I.list (SqL.of hb);rw[show eqT (.tup ts) (.lst us)=false by simp[eqT]];exact .tuple_list pl pl2.isList hcu
    |tup us=>
     have hu0:=hu;obtain⟨b,ws,rfl,hb,hus⟩:=hu;cases ry;by_cases e:a=b
     .subst e;rw[<- TAt.inj ht0 hu0,jGO];exact .same _
     .obtain⟨its2,r2,pl2,_⟩:=I.tuple (SqT.of hb);refine .of_refs e ?_;have l1:=r1.length;have l2:=r2.length;have m1:=hts.len;have m2:=hus.len;rw[eqT,jES];have key:=SeqAt.RcAt.tuples (e:=λj=>eqT (ts.getD j .non) (us.getD j .non)) pl pl2 hcu λj a1 a2=>by
       obtain⟨t',u',x',y',e1,e2,hm,q1,q2,q3,q4⟩:=TsAt.both hts hus r1 r2 a1 a2;rw[e1,e2];have hd:=jJI hm;have hn':deps ts+1=n:=by rw[<- hn,dep]
       exact ih (dep t') Aa t' u' x' y' _ _ _ rfl q1 q2 q3 q4 (by rw[eX];lia)
      have z1:its.toArray.size=ts.length:=by rw[aq];lia
      have z2:its2.toArray.size=us.length:=by rw[aq];lia
      rw[z1,z2] at key;exact key
theorem jOP(I:Inv X ma σ H s){its its2:Al}(h1:TsAt H ts vs)(h2:TsAt H us ws)(r1:Vals vs its)(r2:Vals ws its2)(hc:A.units+deps ts<cLine):
  ∀j (a1:j<its.toArray.size) (a2:j<its2.toArray.size),SeqAt.EqAt A s its.toArray[j] its2.toArray[j] (eqT (ts.getD j .non) (us.getD j .non)):=λj a1 a2=>by
 obtain⟨t',u',x',y',e1,e2,hm,q1,q2,q3,q4⟩:=TsAt.both h1 h2 r1 r2 a1 a2;rw[e1,e2];have hd:=jJI hm;exact jX1 I (dep t') t' u' x' y' _ _ _ rfl q1 q2 q3 q4 Aa
theorem jIX(hu:X.A.units+101<cLine):OpR X (compareOp .Eq) (λx y H Q=>∃ts us,TAt H (.lst ts) x/\TAt H (.lst us) y/\deps ts<=100/\Q (.bl (eqTs ts us)) H):=by
 intro ma s σ H x y v u Q I rx ry h;obtain⟨ts,us,⟨a,vs,rfl,ha,hts⟩,⟨b,ws,rfl,hb,hus⟩,hd,q⟩:=h;cases rx;cases ry;obtain⟨its,r1,p1,_⟩:=I.list (SqL.of ha);obtain⟨its2,r2,p2,_⟩:=I.list (SqL.of hb);have l1:=r1.length;have l2:=r2.length;have m1:=hts.len;have m2:=hus.len;rw[jES] at q;by_cases hl:ts.length=us.length
 .refine SeqAt.eq_listAt (e:=λj=>eqT (ts.getD j .non) (us.getD j .non)) p1.isList p2.isList (by rw[aq,aq];lia) Aa (jOP I hts hus r1 r2 (by rw[eX];lia)) ⟨.bl _,H,I,rfl,?_⟩;have ez:its.toArray.size=min ts.length us.length:=by rw[aq];lia
  rw[ez];rw[show (ts.length==us.length)=true by simp[hl],lJ] at q;exact q
 .rw[show (ts.length==us.length)=false by simp[hl],db] at q;refine SeqAt.eq_list_lengthsAt p1.isList p2.isList ?_ Aa ⟨.bl _,H,I,rfl,q⟩;rw[aq,aq];simp;lia
theorem jIW(hu:X.A.units+101<cLine):OpR X (compareOp .NotEq) (λx y H Q=>∃ts us,TAt H (.lst ts) x/\TAt H (.lst us) y/\deps ts<=100/\Q (.bl (!eqTs ts us)) H):=by
 intro ma s σ H x y v u Q I rx ry h;obtain⟨ts,us,⟨a,vs,rfl,ha,hts⟩,⟨b,ws,rfl,hb,hus⟩,hd,q⟩:=h;cases rx;cases ry;obtain⟨its,r1,p1,_⟩:=I.list (SqL.of ha);obtain⟨its2,r2,p2,_⟩:=I.list (SqL.of hb);have l1:=r1.length;have l2:=r2.length;have m1:=hts.len;have m2:=hus.len;rw[jES] at q;by_cases hl:ts.length=us.length
 .refine SeqAt.RcNeAt.lists (e:=λj=>eqT (ts.getD j .non) (us.getD j .non)) p1.isList p2.isList (by rw[aq,aq];lia) Aa (jOP I hts hus r1 r2 (by rw[eX];lia)) _ _ _ _ ⟨.bl _,H,I,rfl,?_⟩;have ez:its.toArray.size=min ts.length us.length:=by rw[aq];lia
  rw[ez];rw[show (ts.length==us.length)=true by simp[hl],lJ] at q;exact q
 .rw[show (ts.length==us.length)=false by simp[hl],db] at q;refine SeqAt.RcNeAt.lists_lengths p1.isList p2.isList ?_ Aa _ _ _ _ ⟨.bl _,H,I,rfl,q⟩;rw[aq,aq];simp;lia
theorem Room.units101{k:Nat}(r:Room k A):A.units+101<cLine:=by have:=r.un;lia
end
theorem jPD{c:Addr}:∀(l:List (Str×NameKind)) (n:Nat) (acc:Aj),(cellsFrom n l acc).lookup x=some c->acc.lookup x=some c\/(n<=c/\(x,NameKind.cell)∈l)
 |[],n,acc,h=> .inl h
 | (y,k)::r,n,acc,h=>by
  unfold cellsFrom at h;by_cases hk:(k==NameKind.cell)=true
  .rw[aA hk] at h;have ek:k=.cell:=eq_of_beq hk;rcases jPD r (n+1) _ h with q|⟨q1,q2⟩
   .rw[bf] at q;cases e:x==y with
    |true=>
     rw[e] at q;cases q;exact .inr ⟨ar _,by rw[eq_of_beq e,ek];exact ai⟩
    |false=>rw[e] at q;exact .inl q
   .exact .inr ⟨Aa,ah _ q2⟩
  .rw[az hk] at h;rcases jPD r n _ h with q|⟨q1,q2⟩
   .exact .inl q
   .exact .inr ⟨q1,ah _ q2⟩
def jPF:∀(l:List (Str×NameKind)) (n:Nat) (acc:Aj),(∀x y c,acc.lookup x=some c->acc.lookup y=some c->x=y)->(∀x c,acc.lookup x=some c->c<n)->
  ∀x y c,(cellsFrom n l acc).lookup x=some c->(cellsFrom n l acc).lookup y=some c->x=y
 |[],n,acc,h1,_=>h1
 | (z,k)::r,n,acc,h1,h2=>by
  unfold cellsFrom;by_cases hk:(k==NameKind.cell)=true
  .rw[aA hk];refine jPF r (n+1) _ (λx y c a b=>?_) (λx c a=>?_)
   .rw[bf] at a b;cases e1:x==z with
    |true=>
     rw[e1] at a;cases a;cases e2:y==z with
     |true=>exact(eq_of_beq e1).trans (eq_of_beq e2).symm
     |false=>rw[e2] at b;exact absurd (h2 y n b) (cF _)
    |false=>
     rw[e1] at a;cases e2:y==z with
     |true=>rw[e2] at b;cases b;exact absurd (h2 x n a) (cF _)
     |false=>rw[e2] at b;exact h1 x y c a b
   .rw[bf] at a;cases e1:x==z with
    |true=>rw[e1] at a;cases a;exact eV _
    |false=>rw[e1] at a;exact cB (h2 x c a)
  .rw[az hk];exact jPF r n acc h1 h2
def jFO:∀(l:List (Str×NameKind)) (n:Nat) (acc:Aj),((x,NameKind.cell)∈l\/∃c,acc.lookup x=some c)->∃c,(cellsFrom n l acc).lookup x=some c
 |[],n,acc,h=>by
  rcases h with h|h
  .cases h
  .exact h
 | (z,k)::r,n,acc,h=>by
  unfold cellsFrom;by_cases hk:(k==NameKind.cell)=true
  .rw[aA hk];refine jFO r (n+1) _ ?_;by_cases e:x=z
   .subst e;exact .inr ⟨n,by rw[bf,g0]⟩
   .rcases h with h|⟨c,h⟩
    .rcases aB.mp h with q|q
     .cases q;exact absurd rfl e
     .exact .inl q
    .exact .inr ⟨c,by rw[bf,bW.mpr e];exact h⟩
  .rw[az hk];refine jFO r n acc ?_;rcases h with h|h
   .rcases aB.mp h with q|q
    .cases q;exact absurd rfl hk
    .exact .inl q
   .exact .inr h
theorem jPE{x:Str}{c n0:Nat}:∀(l:List (Str×NameKind)) (n:Nat) (acc:Aj),n0<=n->((x,NameKind.cell)∈l\/∀c,acc.lookup x=some c->n0<=c)->(cellsFrom n l acc).lookup x=some c->n0<=c
 |[],n,acc,_,h,e=>by
  rcases h with h|h
  .cases h
  .exact h c e
 | (z,k)::r,n,acc,hn,h,e=>by
  unfold cellsFrom at e;by_cases hk:(k==NameKind.cell)=true
  .rw[aA hk] at e;refine jPE r (n+1) _ Aa ?_ e;by_cases ez:x=z
   .subst ez;refine .inr λc' h'=>?_;rw[bf,g0] at h';cases h';exact hn
   .rcases h with h|h
    .rcases aB.mp h with q|q
     .cases q;exact absurd rfl ez
     .exact .inl q
    .refine .inr λc' h'=>?_;rw[bf,bW.mpr ez] at h';exact h c' h'
  .rw[az hk] at e;refine jPE r n acc hn ?_ e;rcases h with h|h
   .rcases aB.mp h with q|q
    .cases q;exact absurd rfl hk
    .exact .inl q
   .exact .inr h
def jJP:∀(l:List (Str×NameKind)) (n:Nat) (acc:Aj),(x,NameKind.cell)∉l->(cellsFrom n l acc).lookup x=acc.lookup x
 |[],_,_,_=>rfl
 | (z,k)::r,n,acc,h=>by
  unfold cellsFrom;by_cases hk:(k==NameKind.cell)=true
  .have ek:k=.cell:=eq_of_beq hk;subst ek;have ne:x≠z:=λe=>h (by rw[e];exact ai);rw[aA hk,jJP r (n+1) _ (λq=>h (ah _ q)),bf,bW.mpr ne]
  .rw[az hk,jJP r n _ (λq=>h (ah _ q))]
def jJQ:∀(l:List (Str×NameKind)) (h:Heap) (acc:Aj),(∀x c,acc.lookup x=some c->∃v,h.IsCell c v)->∀x c,(cellsFrom h.objs.size l acc).lookup x=some c->∃v,(pushCells h l).IsCell c v
 |[],h,acc,k=>k
 | (z,k)::r,h,acc,hc=>by
  unfold cellsFrom pushCells;by_cases hk:(k==NameKind.cell)=true
  .rw[aA hk,aA hk];have e:(h.push {cls:=.type "cell",data:=.cell none}).objs.size=h.objs.size+1:=cA _ _;rw[<- e];refine jJQ r _ _ (λx c q=>?_);rw[bf] at q;cases ez:x==z with
   |true=>rw[ez] at q;cases q;exact⟨none,⟨_,aw _ rfl,rfl⟩⟩
   |false=>
    rw[ez] at q;obtain⟨v,o,ho,hd⟩:=hc x c q;exact⟨v,o,af _ ho,hd⟩
  .rw[az hk,az hk];exact jJQ r h acc hc
section
variable {tg iter elt:Expr}{ifs:List Expr}{wi:TI}
end
section
variable {sc2:Scope}{cl2:Aj}{C2:Addr}{Nc2:Am}{fp2:List Addr}{s2:Shared}{H2:Hp}
end
def jQ2:V->List V->Hp->VK->Prop:=λx vs H Q=>∃l b xs zs,x=.ref l/\vs=[.ref b]/\H l=some (.lst xs)/\H b=some (.tup zs)/\xs.length+zs.length<=sizeLine/\Q .non (upd H l (.lst (xs++zs)))
theorem jLQ:MtM X "list.extend" jQ2:=by
 intro ma s σ H x vs v us Q I rx rv h;obtain⟨l,b,xs,zs,rfl,rfl,hH,hB,hz,q⟩:=h;cases rx;obtain⟨u,rfl,ru⟩:=rv.one;cases ru;obtain⟨z,its,n,r,hl,e⟩:=I.lstM hH;obtain⟨_,its2,r2,n2,e2⟩:=I.hok b _ hB;have hl2:=r2.length;have hsz:its.toArray.size+its2.toArray.size<=sizeLine:=by rw[aq,aq];lia
 have hlong:¬(!its.toArray.isEmpty&&Builtin.List.listTooLong (its.toArray.size+its2.toArray.size))=true:=by
  rw[jQL hsz,db];exact aC
 refine jx F.slot_list_extend ⟨_,e,rfl⟩ F.entry_list_extend (F.args_list_extend_2 _ _)
  (AutoSeq1.list_extend_list_tuple_0 l its.toArray n b its2.toArray n2 hlong (by rw[aq];lia) Aa) ⟨e,e2,?_⟩
 refine⟨.non,_,I.lset (its':=its++its2) hH e Ad (r.append r2) ?_,rfl,q⟩;rw[aI];lia
def rAny(K:W.Frag):List V->Hp->VK->Prop:=λxs H Q=>∃(p:Addr) (bs:List Bool),xs=[.ref p]/\SqL K H p (bs.map V.bl)/\Q (.bl (bs.any id)) H
def jEV(hc:X.calm=true):yQ X (.builtin "any") (rAny X.K):=by
 intro ma s σ H xs us Q I r h;obtain⟨p,bs,rfl,hq,q⟩:=h;obtain⟨u,rfl,rx⟩:=r.one;cases rx;obtain⟨its,r',pl,hz⟩:=I.list hq;have hlen:=r'.length;rw[ag] at hlen;refine call_any_walk (dz pl.isList ?_);have hne:p≠s.heap.objs.size:=by
  obtain⟨o,ho,_⟩:=pl.isList;exact aO (ay ho)
 refine⟨s.heap.objs.size,_,_,_,_,_,λi=>bs.getD i true,rfl,jy (by simpa using I.ok.hd hc) _ p hne its.toArray,⟨⟨_,aw _ rfl,rfl,rfl⟩,pl.isList.push _⟩,λi v z Q' E' hP hQ'=>?_,λh' tk hk=>?_⟩
 .have hi:its[i]?=some v:=by simpa using hP
  have hb:i<bs.length:=by
   rw[hlen];exact(am.mp hi).1
  obtain⟨u,hu,ru⟩:=r'.get (i:=i) (x:=.bl (bs[i])) (by simp[hb]);rw[hi] at hu;cases hu;cases ru;have e:bs.getD i true=bs[i]:=by simp[List.getD,hb]
  have hQ2:Q' (bs.getD i true) z:=hQ';rw[e] at hQ2;exact aj hQ2
 .have e:(List.range its.toArray.size).any (λi=>bs.getD i true)=bs.any id:=by
   rw[aq,<- hlen];rw[cj,dJ,dJ];constructor
   .rintro ⟨i,hi,hb⟩;have hi:=bI.mp hi;exact⟨bs[i],dq hi,by simpa [List.getD,hi] using hb⟩
   .rintro ⟨b,hb,hq⟩;obtain⟨i,hi,rfl⟩:=eU hb;exact⟨i,bI.mpr hi,by simpa [List.getD,hi] using hq⟩
  rw[e];exact⟨.bl _,H,I.kept (t':=tk) λb o e=>hk b o (by
   intro z;have z:b=s.heap.objs.size:=by simpa using z
   exact absurd (ay e) (by rw[z];exact cF _)) (af _ e),rfl,q⟩
theorem jI3:yQ X (.builtin "sorted") (λxs H Q=>∃(p:Addr) (ks:Ag),xs=[.ref p]/\SqL X.K H p (ks.map V.int)/\ks.length<64/\
  ∀(l:Addr) (ns:Ag),H l=none->ns.Pairwise (· <= ·)->ns.Perm ks->Q (.ref l) (upd H l (.lst (ns.map V.int)))):=by
 intro ma s σ H xs us Q I r h;obtain⟨p,ks,rfl,hp,hn,q⟩:=h;obtain⟨u,rfl,rx⟩:=r.one;cases rx;obtain⟨its,r',pl,hz⟩:=I.list hp;have hlen:=r'.length;rw[ag] at hlen;refine sorted_ints pl.isList (jB2 r') Aa λout ns' a1 a2 a3=>?_;obtain⟨e,he⟩:=sortedAll_at s.heap its out;have hz:(ns'.map V.int).length<=sizeLine:=by
  rw[ag,a2.length_eq,d0];lia
 have I2:Inv X ma σ (upd H (s.heap.objs.size+1) (.lst (ns'.map V.int))) {s with heap:=sortedAll s.heap its out}:=I.laid (t':=s.toks) (λb o e=>sortedAll_old e) (fb _) ⟨hz,out.toList,e,jAB a1,by rw[cP];exact he⟩;exact⟨.ref _,_,I2,rfl,q _ ns' (I.hok.fresh (fb _)) a3 a2⟩
def jQW{tc:TT}{tb:TS}(hp:PassesOwn (model X.prog X.w) X.A X.env X.xe)(hc:JT X c tc)(hb:JSs X body tb):JS X (.While c body [] pos) (jRT tc tb):=⟨jQ3 hp hc.h hb.h⟩
def jNN{op:CmpOp}:behindInMarks op (.Subscript a b pos)=false:=by cases op<;>rfl
end L2
namespace L2
open PySem
def LstR(H:Hp)(xs:List V)(Q:VK):Prop:=∀r H',H' r=some (.lst xs)->Ext H H'->H r=none->Q (.ref r) H'
def LstR.new{H:Hp}{xs:List V}{Q:VK}(q:LstR H xs Q){p:Addr}(hp:H p=none):Q (.ref p) (upd H p (.lst xs)):=q p _ j7 ((Ext.refl H).new hp _) hp
def tTupU(t:TA):TE:=λσ H Q=>t σ H λxs H1=>xs.length<=sizeLine/\TupR H1 xs Q
def tLstU(t:TA):TE:=λσ H Q=>t σ H λxs H1=>xs.length<=sizeLine/\LstR H1 xs Q
section
variable {X:Cx}{es:List Expr}{t:TA}{pos:Pos}
def yL{x1}(h:JA X es t):JE X (.Tuple es x1 pos) (tTupU t):=⟨λma s σ H Q I hq=>by
 refine wpAny_Tuple_spliced (mo (h.h pos ma s σ H _ I hq) λus s1 ⟨xs,H1,I1,r,z,q⟩=>⟨by rw[<- r.length];exact z,?_⟩);have hf:H1 s1.heap.objs.size=none:=I1.hok.fresh (ar _);exact⟨.ref s1.heap.objs.size,upd H1 s1.heap.objs.size (.tup xs),I1.laid (t':=s1.toks) (λb u e=>af _ e) (ar _) ⟨z,us,r,TupO.new _ _⟩,rfl,q.new hf⟩⟩
def yF(h:JA X es t):JE X (.List es pos) (tLstU t):=⟨λma s σ H Q I hq=>by
 refine wpAny_List_spliced (mo (h.h pos ma s σ H _ I hq) λus s1 ⟨xs,H1,I1,r,z,q⟩=>⟨by rw[<- r.length];exact z,?_⟩);have hf:H1 s1.heap.objs.size=none:=I1.hok.fresh (ar _);exact⟨.ref s1.heap.objs.size,upd H1 s1.heap.objs.size (.lst xs),I1.laid (t':=s1.toks) (λb u e=>af _ e) (ar _) ⟨z,us,0,r,aw _ rfl⟩,rfl,q.new hf⟩⟩
def jG6:OpR X (binaryOp .Add) (λx y H Q=>∃l b xs zs,x=.ref l/\y=.ref b/\H l=some (.lst xs)/\H b=some (.lst zs)/\xs.length+zs.length<=sizeLine/\LstR H (xs++zs) Q):=by
 intro ma s σ H x y v u Q I rx ry h;obtain⟨l,b,xs,zs,rfl,rfl,h1,h2,h3,q⟩:=h;exact jVY ma s σ H _ _ v u Q I rx ry ⟨l,b,xs,zs,rfl,rfl,h1,h2,h3,λp hp=>q.new hp⟩
end
end L2
namespace L2
open PySem PySem.Spec PyProof.Rows
variable {s:Shared}{A:Around}{w:World}{prog:Program}{l:Addr}{n:Nat}
variable {X:Cx}
theorem jJL{E:Ah}{vs:Al}{Q:Al->Shared->Prop}(ho:s.heap.get? l=some {cls:=.type "tuple",data:=.seq vs.toArray n})
  (h:Q vs {s with heap:=(s.heap.push (seqObj "list" #[] 0)).update s.heap.objs.size (Obj.mapSeq (· ++vs.toArray))}) (hsz:vs.length<=sizeLine):
  wpAny (model prog w) A (collect (.ref l)) Q E s:=by
 unfold collect;refine ae (fZ (bZ entry_proto_collect' ?_));show wpAny _ _ (do again (.builtin "list.__iadd__" ⟨[<- newList [],.ref l],[]⟩)) _ _ s;refine ae (fz (aj ⟨Code.quiet_builtin _ Ab,bZ entry_list_iadd' ?_⟩));show wpAny _ _ (Builtin.List.listExtendWith (.ref s.heap.objs.size) (.ref l) (.ref s.heap.objs.size)) _ _ {s with heap:=s.heap.push (seqObj "list" #[] 0)};unfold Builtin.List.listExtendWith;have ho':(s.heap.push (seqObj "list" #[] 0)).get? l=some {cls:=.type "tuple",data:=.seq vs.toArray n}:=af _ ho;refine ae (iC (T:= "tuple") ⟨_,ho',rfl⟩ ?_);have ht:(Value.type "tuple" ==Value.type "tuple")=true:=by rfl
 rw[aA (by rw[ht,fj])];refine ae (iF ho' rfl ?_);refine ae (iF (xs:=#[]) (n:=0) (aw _ rfl) rfl ?_);rw[az Ad];refine ae (eT (xs:=#[]) (n:=0) (aw _ rfl) rfl ?_ (br _) (by show (#[]++vs.toArray).size<=sizeLine+1;simp only[Array.size_append,aq,cz];lia));refine aj ?_;show wpAny (model prog w) A (do
   let o <- load s.heap.objs.size
   match o.data with
   | .seq xs _=>pure xs.toList
   |_=>unsupported "internal:collect") Q E {s with heap:=(s.heap.push (seqObj "list" #[] 0)).update s.heap.objs.size (Obj.mapSeq (· ++vs.toArray))}
 refine ae (fJ (gu (aw _ rfl) _) ?_);show wpAny _ _ (pure ((#[]:An)++vs.toArray).toList) Q E _;rw[show ((#[]:An)++vs.toArray).toList=vs by simp];exact aj h
theorem jLH{E:Ah}{vs:Al}{ns:Ag}{Q:Ah}(ho:s.heap.get? l=some {cls:=.type "tuple",data:=.seq vs.toArray n})(hI:IntsAre vs ns)(h64:vs.length<64)
  (h:∀(out:An) (ns':Ag),IntsAre out.toList ns'->ns'.Perm ns->ns'.Pairwise (· <= ·)->Q (.ref (s.heap.objs.size+1)) {s with heap:=sortedAll s.heap vs out}):
  wpAny (model prog w) A (call (.builtin "sorted") [.ref l]) Q E s:=by
 refine iZ kind_sorted plain_sorted entry_sorted (args_sorted1 _) ?_;unfold Builtin.«sorted»;refine ae (m:=checkCount "sorted" 1 1 _) (aj ?_);refine ae (jJL ho ?_ (by rw[d0];lia));refine ae (fz ?_ (by rw[d0];lia));have hsz:((s.heap.push (seqObj "list" #[] 0)).update s.heap.objs.size (Obj.mapSeq (· ++vs.toArray))).objs.size=s.heap.objs.size+1:=by
  rw[eY,iQ]
 have hoL:(((s.heap.push (seqObj "list" #[] 0)).update s.heap.objs.size (Obj.mapSeq (· ++vs.toArray))).push (seqObj "list" vs.toArray 0)).get? (s.heap.objs.size+1)=some (seqObj "list" vs.toArray 0):=by
  rw[<- hsz];exact aw _ rfl
 show wpAny _ _ _ _ _ {s with heap:=((s.heap.push (seqObj "list" #[] 0)).update s.heap.objs.size (Obj.mapSeq (· ++vs.toArray))).push (seqObj "list" vs.toArray 0)};rw[hsz];refine ae (bB (cH iP ⟨_,hoL,rfl⟩ iq (list_sort_tree hoL hI h64 λout ns' a1 a2 a3=>⟨_,rfl,?_⟩) (args_list_sort _)));exact aj ⟨_,rfl,h out ns' a1 a2 a3⟩
theorem jI2:yQ X (.builtin "sorted") (λxs H Q=>∃(p:Addr) (ks:Ag),xs=[.ref p]/\H p=some (.tup (ks.map V.int))/\ks.length<64/\
  ∀(l:Addr) (ns:Ag),H l=none->ns.Pairwise (· <= ·)->ns.Perm ks->Q (.ref l) (upd H l (.lst (ns.map V.int)))):=by
 intro ma s σ H xs us Q I r h;obtain⟨p,ks,rfl,hp,hn,q⟩:=h;obtain⟨u,rfl,rx⟩:=r.one;cases rx;obtain⟨_,its,r',n,e0⟩:=I.hok p _ hp;have hlen:=r'.length;rw[ag] at hlen;refine jLH e0 (jB2 r') Aa λout ns' a1 a2 a3=>?_;obtain⟨e,he⟩:=sortedAll_at s.heap its out;have hz:(ns'.map V.int).length<=sizeLine:=by
  rw[ag,a2.length_eq,d0];lia
 have I2:Inv X ma σ (upd H (s.heap.objs.size+1) (.lst (ns'.map V.int))) {s with heap:=sortedAll s.heap its out}:=I.laid (t':=s.toks) (λb o e=>sortedAll_old e) (fb _) ⟨hz,out.toList,e,jAB a1,by rw[cP];exact he⟩;exact⟨.ref _,_,I2,rfl,q _ ns' (I.hok.fresh (fb _)) a3 a2⟩
def jE1(ns:Ag):∀j,preSum (λi=>ns.getD i 0) j=(ns.take j).sum
 | 0=>rfl
 |j+1=>by
  rw[preSum,jE1 ns j,bv,List.sum_append];congr 1;rw[aG];cases ns[j]? with
  |none=>rfl
  |some z=>simp
section
def rSum(K:W.Frag):List V->Hp->VK->Prop:=λxs H Q=>∃(p:Addr) (ns:Ag),xs=[.ref p]/\(SqL K H p (ns.map V.int))/\Q (.int ns.sum) H
def jI1(hc:X.calm=true):yQ X (.builtin "sum") (rSum X.K):=by
 intro ma s σ H xs us Q I r h;obtain⟨p,ns,rfl,hq,q⟩:=h;obtain⟨u,rfl,rx⟩:=r.one;cases rx;obtain⟨its,r',pl,hz⟩:=I.list hq;have hlen:=r'.length;rw[ag] at hlen;refine call_sum_walkG (dz pl.isList ?_);have hne:p≠s.heap.objs.size:=by
  obtain⟨o,ho,_⟩:=pl.isList;exact aO (ay ho)
 refine⟨s.heap.objs.size,_,_,_,_,_,λi=>ns.getD i 0,rfl,jy (by simpa using I.ok.hd hc) _ p hne its.toArray,⟨⟨_,aw _ rfl,rfl,rfl⟩,pl.isList.push _⟩,(λb hb=>?_),(λi v hP=>?_),λh' tk t' hk=>?_⟩
 .show b<(s.heap.push _).objs.size;rw[cA];obtain⟨o,ho,_⟩:=pl.isList;have:=ay ho;rcases aB.mp hb with rfl|hb
  .exact eV _
  .rcases aB.mp hb with rfl|hb
   .exact cB this
   .cases hb
 .have hi:its[i]?=some v:=by simpa using hP
  have hb:i<ns.length:=by
   rw[hlen];exact(am.mp hi).1
  obtain⟨u,hu,ru⟩:=r'.get (i:=i) (x:=.int (ns[i])) (by simp[hb]);rw[hi] at hu;cases hu;obtain⟨t,rfl⟩:=ru;exact⟨t,by simp[List.getD,hb]⟩
 .have e:preSum (λi=>ns.getD i 0) its.toArray.size=ns.sum:=by
   rw[jE1,aq,<- hlen,bK]
  rw[e];exact⟨.int _,H,I.kept (t':=tk) λb o e=>hk b o (by
   intro z;have z:b=s.heap.objs.size:=by simpa using z
   exact absurd (ay e) (by rw[z];exact cF _)) (af _ e),⟨_,rfl⟩,q⟩
variable {sc:Scope}{cl:Aj}{C:Addr}{Nc:Am}{fp:List Addr}{s:Shared}{H:Hp}
end
def jFQ(a b:Nat):Builtin.bitAnd (a:Int) (b:Int)=((a&&&b:Nat):Int):=by
 unfold Builtin.bitAnd;rw[ao (gx a),ao (gx b)];rfl
theorem jCG(a b:Nat):Builtin.bitOr (a:Int) (b:Int)=((a|||b:Nat):Int):=by
 unfold Builtin.bitOr;have ha:Builtin.bitNot (a:Int)= -(a:Int)-1:=by unfold Builtin.bitNot;lia
 have hb:Builtin.bitNot (b:Int)= -(b:Int)-1:=by unfold Builtin.bitNot;lia
 have na:¬(0<=Builtin.bitNot (a:Int)):=by rw[ha];lia
 have nb:¬(0<=Builtin.bitNot (b:Int)):=by rw[hb];lia
 unfold Builtin.bitAnd;rw[aK na,aK nb];have ea:Builtin.bitNot (Builtin.bitNot (a:Int))=(a:Int):=by rw[ha];unfold Builtin.bitNot;lia
 have eb:Builtin.bitNot (Builtin.bitNot (b:Int))=(b:Int):=by rw[hb];unfold Builtin.bitNot;lia
 show Builtin.bitNot (Builtin.bitNot _)=_;rw[ea,eb];unfold Builtin.bitNot;simp;lia
def maskN(ts:Ag):Nat:=(ts.map λt=>2^t.toNat).sum
theorem jKK:∀(ts:Ag) (lo:Nat),ts.Pairwise (· < ·)->(∀t∈ts,(lo:Int)<=t)->maskN ts%2^lo=0
 |[],_,_,_=>by simp[maskN]
 |t::r,lo,hp,hl=>by
  have ih:=jKK r lo (dh.mp hp).2 λx hx=>hl x (ah _ hx);have h0:=hl t (ai ..);have e:maskN (t::r)=2^t.toNat+maskN r:=by simp[maskN]
  have d:2^t.toNat%2^lo=0:=Nat.mod_eq_zero_of_dvd (Nat.pow_dvd_pow 2 Aa);rw[e,Nat.add_mod,ih,d];simp
theorem jAA:∀(ts:Ag) (n:Nat),ts.Pairwise (· < ·)->(∀t∈ts,0<=t)->(maskN ts).testBit n=decide ((n:Int)∈ts)
 |[],n,_,_=>by simp[maskN]
 |t::r,n,hp,h0=>by
  obtain⟨h1,h2⟩:=dh.mp hp;have ih:=jAA r n h2 λx hx=>h0 x (ah _ hx);have ht:=h0 t (ai ..);obtain⟨k,rfl⟩:∃k:Nat,t=(k:Int):=⟨t.toNat,Aa⟩;have e:maskN ((k:Int)::r)=2^k+maskN r:=by simp[maskN]
  have m0:maskN r%2^(k+1)=0:=jKK r (k+1) h2 λx hx=>by have:=h1 x hx;lia
  obtain⟨c,hc⟩:∃c,maskN r=2^(k+1)*c:=(Nat.dvd_of_mod_eq_zero m0);have hor:2^k+maskN r=maskN r|||2^k:=by
   rw[hc,Nat.mul_comm,<- Nat.shiftLeft_eq,Nat.shiftLeft_add_eq_or_of_lt (b:=2^k) (i:=k+1) (ie Ac Aa) c |>.symm,lW]
  rw[e,hor,cm,ih,cX];by_cases hk:k=n
  .subst hk;simp
  .have:¬((n:Int)=(k:Int)):=by lia
   simp[hk,this]
end L2
namespace L2
open PySem
variable {X:Cx}
section
variable {tg iter elt:Expr}{ifs:List Expr}{sc:Scope}{pos:Pos}{wi:TI}{g:TG}{tt:TT}{te:TE}{m:List (Option Nat)}{Nc:Am}
def jR9(hc:X.calm=true)(hi:PI X tg iter wi)(hkind:sc.kind=.function)(hcell:∀y∈sc.names,y.2≠.cell)(hnames:∀y∈sc.names,y.2=.local->sc.names.lookup y.1=some .local)
  (hfree:Fq X sc) (hm:qF X sc Nc m)
  (hg:∀cl C fp s H,PG (blk X sc cl C Nc fp s H) tg g) (ht:∀cl C fp s H,PTs (blk X sc cl C Nc fp s H) ifs tt) (he:∀cl C fp s H,PE (blk X sc cl C Nc fp s H) elt te)
  (hs:∀x,foldedSetIterable iter X.env x=pure x) {fpos:Pos}{use:Option (Value->Sem Unit)}{R:Ah}{ma:Ai}{s:Shared}{σ:St}{H:Hp}{Q:VK}(I:Inv X ma σ H s) (h:tComp m wi g tt te σ H Q)
  (fin:∀(D C:Addr) (H5:Hp) (z1:Shared) (r:Flow),(∃mm,z1.heap.Ns C mm)->FpOk X ma H5 C->(∀h',Heap.SameBut C z1.heap h'->Inv X ma σ H5 {z1 with heap:=h'})->Q (.ref D) H5->compPost (model X.prog X.w) X.A X.xe use R (.ref D) C (.ok r) z1):
  wpAny (model X.prog X.w) X.A (comprehension (.ListComp elt [⟨tg,iter,ifs,0⟩] sc pos) sc X.env fpos (newList []) false (eval iter X.env) use) R X.xe s:=
 jGS (tf:=λ_=>te) hc hi hkind hcell hnames hfree hm hg ht (λcl C fp s H _ _ _ _=>he cl C fp s H) hs I h fin
def jT4{i:Nat}{x:Str}{pos' spos:Pos}(hN:X.N.Nodup)(hi':X.N[i]?=some x)(hx:Loc X.env.scope x)(hf:X.fn x=true\/X.env.scope.names.lookup x=some .local)(hsw:swapsWith (.ListComp elt [⟨tg,iter,ifs,0⟩] sc pos) (some (.Name x pos')) spos.line X.env=pure true)
  (hc:X.calm=true) (hi:PI X tg iter wi) (hkind:sc.kind=.function) (hcell:∀y∈sc.names,y.2≠.cell) (hnames:∀y∈sc.names,y.2=.local->sc.names.lookup y.1=some .local)
  (hfree:Fq X sc) (hm:qF X sc Nc m)
  (hg:∀cl C fp s H,PG (blk X sc cl C Nc fp s H) tg g) (ht:∀cl C fp s H,PTs (blk X sc cl C Nc fp s H) ifs tt) (he:∀cl C fp s H,PE (blk X sc cl C Nc fp s H) elt te)
  (hs:∀x,foldedSetIterable iter X.env x=pure x):PS X (.Assign [.Name x pos'] (.ListComp elt [⟨tg,iter,ifs,0⟩] sc pos) spos) (tAsg (tComp m wi g tt te) (kX i)):=by
 intro ma s σ H D I h;rw[exec_Assign_Name_used _ _ _ _ hsw];refine ae (eQ (ae ?_));show wpAny _ _ (do let _ <- comprehension (.ListComp elt [⟨tg,iter,ifs,0⟩] sc pos) sc X.env _ (newList []) false (eval iter X.env) (some (assign (.Name x pos') X.env))) _ _ _;refine ae (bF (jR9 (R:=λ_ s'=>SP X ma D .next s') hc hi hkind hcell hnames hfree hm hg ht he hs ⟨I.ok,I.os,I.bare,I.Aq,I.loc,I.cell,I.free,I.freeC,I.pin,I.hok,I.len⟩ h ?_) (λ_ s' hq=>aj (aj hq)) λ_ _ e=>e);intro D' C H5 z1 r ⟨mm,hn⟩ fC sb q;have I1:=sb _ (i5 C z1.heap);refine wpAny_assign_Name (jH2 (v:=.ref D') I1 hN hi' hx rfl (λs2 I2 ⟨a,sa,ha⟩=>?_) hf);obtain⟨f0,f1,f2,f3,f4,f5⟩:=fC;have hCa:C≠a:=by
  rcases ha with rfl|ha
  .exact f1
  .exact(f4 _ _ ha).symm
 refine⟨mm,hn.sameBut sa hCa,λh' sb2=>⟨_,H5,?_,q⟩⟩;refine I2.call' (s':= {s2 with heap:=h'}) (ch:=[C]) rfl ?_ (I2.hok.sameBut sb2 f0) I2.bare (λb hb=>?_)
 .have ne:∀{b:Addr},b∉ [C]->b≠C:=λh e=>h (by rw[e];exact ak.mpr rfl);refine⟨λb o e n hf hx=>(sb2.2 b (ne hx)).trans e,λb o e n hf hx=>⟨o.slots,(sb2.2 b (ne hx)).trans e⟩,λb o e n hx=>n,λb o e hx=>⟨o,(sb2.2 b (ne hx)).trans e⟩,λb xs e=>e,λb o u e=>e,λb ps e=>⟨#[],by rw[Array.append_empty];exact e⟩⟩
 .cases ak.mp hb;exact⟨f3,f1,f4,f5⟩
end
structure SwC (e:Expr)(x:Str)(pos' spos:Pos)(X:Cx):Prop where
 h:swapsWith e (some (.Name x pos')) spos.line X.env=pure true
def jJ6{i:Nat}{x:Str}{pos' spos pos:Pos}{tg iter elt:Expr}{ifs:List Expr}{sc:Scope}{wi:TI}{g:TG}{tt:TT}{te:TE}{m:List (Option Nat)}{Nc:Am}(hN:X.N.Nodup)(hi':X.N[i]?=some x)(hx:Loc1 X x)(hsw:SwC (.ListComp elt [⟨tg,iter,ifs,0⟩] sc pos) x pos' spos X)
  (hc:X.calm=true) (hi:JI X tg iter wi) (hkind:sc.kind=.function) (hcell:∀y∈sc.names,y.2≠.cell) (hnames:∀y∈sc.names,y.2=.local->sc.names.lookup y.1=some .local)
  (hfree:Fq X sc) (hm:qF X sc Nc m)
  (hg:∀cl C fp s H,JG (blk X sc cl C Nc fp s H) tg g) (ht:∀cl C fp s H,JTs (blk X sc cl C Nc fp s H) ifs tt) (he:∀cl C fp s H,JE (blk X sc cl C Nc fp s H) elt te)
  (hs:FoOk iter):JS X (.Assign [.Name x pos'] (.ListComp elt [⟨tg,iter,ifs,0⟩] sc pos) spos) (tAsg (tComp m wi g tt te) (kX i)):=
 ⟨jT4 hN hi' hx.a hx.b hsw.h hc hi.h hkind hcell hnames hfree hm (λcl C fp s H=>(hg cl C fp s H).h) (λcl C fp s H=>(ht cl C fp s H).h) (λcl C fp s H=>(he cl C fp s H).h) (hs.h _)⟩
end L2
namespace L2
open PySem PySem.Spec PyProof.Rows
variable {K:W.Frag}{kvs:List (List Key×V)}{xs:List (List Key×Addr×Value)}{x l it e c b c0:Addr}{Q:Ao->Shared->Prop}{α β:Type}{tp:Bool}{zs:List V}{q:Str}{h' Aq:Heap}{u mn:Value}{P:Program}{elts:List Expr}{body:List Stmt}{args:Arguments}{a:Expr}{σ:St}{trs:List (TE×TE)}{y:V}{n x1 t':Nat}{o:Option V}
variable {prog:Program}{w:World}{A:Around}{E:Ah}
theorem jL2{xs:An}(ne:l≠it):∀(n i:Nat) (s:Shared) (Q:Al->Shared->Prop),s.heap.IsListIter it l i->s.heap.IsList l xs->i+n<=xs.size->
  (∀h',h'.IsListIter it l (i+n)->Heap.SameBut it s.heap h'->Q ((xs.toList.drop i).take n) {s with heap:=h'})->wpAny (model prog w) A (draw (.ref it) n) Q E s
 | 0,i,s,Q,g,_,_,k=>by
  refine(?_:wpAny _ _ (pure []) Q E s);exact aj (by simpa using k s.heap g (i5 ..))
 |n+1,i,s,Q,g,o,le,k=>by
  have lt:i<xs.size:=Aa;refine(?_:wpAny _ _ (pyNext (.ref it) >>= _) Q E s);refine ae (wpAny_pyNext_list_item g o (x:=xs[i]) (by simp[lt]) λp1 g1 q1=>?_);refine ae (bB (jL2 ne n (i+1) _ _ g1 (o.extBut q1.extBut ne) Aa λp2 g2 q2=>aj ?_));have hd:xs.toList.drop i=xs[i]::xs.toList.drop (i+1):=by simp[iY,lt]
  have:=k p2 (by rw[show i+(n+1)=i+1+n by lia];exact g2) (q1.trans q2);rw[hd,lF] at this;exact this
theorem jDV{s:Shared}{xs:An}{Q:Al->Shared->Prop}(hh:A.handled=none)(o:s.heap.IsList l xs)
  (k:∀h',Heap.ExtBut s.heap.objs.size s.heap h'->Q xs.toList {s with heap:=h'}):wpAny (model prog w) A (unpackItems (.ref l) xs.size none) Q E s:=by
 have ne:l≠s.heap.objs.size:=by obtain⟨u,hu,_⟩:=o;exact aO (ay hu)
 unfold unpackItems;refine ae (by
  unfold notIterableAtAll;refine ae (kj o.typeIs slot_list_iter.lookup (aj ?_));simp only[eg,iN];refine ae (bB (dz o ?_));refine ae (bB (jL2 ne xs.size 0 _ _ ⟨_,aw _ rfl,rfl,rfl⟩ (o.push _) Aa λp1 g1 q1=>?_));have hall:List.take xs.size (List.drop 0 xs.toList)=xs.toList:=by rw[iR];exact bE Ad
  rw[hall,az Ad];have o1:p1.IsList l xs:=(o.push _).extBut q1.extBut ne;refine ae (bB (wpAny_pyNext_list_end hh g1 o1 Ad λp2 e2=>?_));simp only[lQ,eg,iN];exact aj (k p2 λb u hb e=>e2 b u hb (q1.extBut b u hb (af _ e))))
variable {X:Cx}
def gLst(K:W.Frag)(n:Nat)(t:TGs):TG:=λv σ H Q=>∃a xs,v=.ref a/\SqL K H a xs/\xs.length=n/\t xs σ H Q
def jVO{es:List Expr}{k:Nat}{t:TGs}{n:Nat}{pos:Pos}(hc:X.calm=true)(h:PGs X es t)
  (hn:(assignEach es X.env).length=n:=by rfl) (hst:(assignEach es X.env).findIdx? (·.1)=none:=by rfl):PG X (.Tuple es k pos) (gLst X.K n t):=by
 intro ma s σ H v u Q I r hw;obtain⟨a,xs,e1,hq,hl,hw⟩:=hw;subst e1;cases r;obtain⟨its,rv,ht,hz⟩:=I.list hq;rw[assign_Tuple];refine ae (eQ ?_);unfold unpack;rw[hn,hst,show n=its.toArray.size by rw[aq,<- rv.length,hl]];refine ae (bB (jDV (I.ok.hd hc) ht.isList λh' hx=>?_));have I1:Inv X ma σ H {s with heap:=h'}:=I.kept (t':=s.toks) λb o e=>hx b o (aO (ay e)) e;exact h ma _ σ H xs _ Q I1 (by simpa using rv) hw
def jOJ{P:Program}{w:World}{K:W.Frag}{mg:Ak}{Aq:Heap}{N:Am}{qual:Str}{sc:Scope}{f:Addr}{mn:Value}{A:Around}{mj:List Env}{s:Shared}{H:Hp}{E:XK}{x y:Str}{p1 p2 pos:Pos}{k i j:Nat}(hN:N.Nodup)(hi:N[i]?=some x)(hj:N[j]?=some y)(hx:sc.names.lookup x=some .local)(hy:sc.names.lookup y=some .local):
  JG (cxOf CX0 P w K mg Aq N qual sc f mn A mj s H E).nox (.Tuple [.Name x p1,.Name y p2] k pos) (gLst K 2 (gCons (kX i) (gCons (kX j) gNil))):=
 ⟨jVO (X:=(cxOf CX0 P w K mg Aq N qual sc f mn A mj s H E).nox) rfl (jBI (jO hN hi (loc_l hx)) (jBI (jO hN hj (loc_l hy)) jJ9 jD2) jD2).h⟩
def jJG:entryFor table "proto.unchain" =some Builtin.«proto.unchain»:=jq (by kernel_rfl)
def Hnd(h:Heap)(x:Addr):Prop:=∃o vs,h.get? x=some o/\o.data=.fields vs/\vs[2]?=some .none
variable {s:Shared}
def jIS{oe:Obj}{es:An}{Q:α->Shared->Prop}(hh:A.handled=some (.ref x))(ne:x≠e)(hx:Hnd s.heap x)(he:s.heap.get? e=some oe)(hd:oe.data=.fields es)(hz:2<es.size)
  (h:E (.ref e) {s with heap:=s.heap.update e (Obj.mapFields (·.setIfInBounds 2 (.ref x)))}):wpAny (model prog w) A (raiseNew (.ref e):Sem α) Q E s:=by
 obtain⟨ox,vs,hox,hdx,h2⟩:=hx;unfold raiseNew;refine ae (wpAny_handled ?_);rw[hh];have hne:(Value.ref x != Value.ref e)=true:=by simp[ne]
 dsimp only;rw[aA hne];refine ae (bB (fZ (bZ jJG ?_)));show wpAny _ _ (bind (field (.ref x) 2) _) _ _ _;refine ae (cy hox hdx h2 ?_);rw[aA (by rfl)];refine aj ?_;obtain⟨c,d,dt,sl⟩:=oe;simp only at hd;subst hd;simp only[updateField];refine ae (ae (fJ he ?_));dsimp only;rw[aA hz];exact wpAny_update he (wpAny_throw h)
structure NoteX (fs R:List Addr)(h h':Heap):Prop where
 keep:∀b o,h.get? b=some o->b∉fs->b∉R->h'.get? b=some o
 slot:∀b o,h.get? b=some o->b∉R->∃sl,h'.get? b=some {o with slots:=sl}
 size:h.objs.size<=h'.objs.size
def ExcX(h:Heap)(x C T:Addr):Prop:=∃vs oT ts,h.get? x=some {cls:=.ref C,data:=.fields vs} /\vs.size=6/\vs[1]?=some (.ref T)/\vs[2]?=some .none/\T≠x/\h.get? T=some oT/\oT.data=.fields ts/\ts[3]?=some .none
theorem jL1{env:Env}{mj:List Env}{L x C:Addr}{Aq:Heap}{vs:An}{head:Value}{had:Bool}{Q:Unit->Shared->Prop}(hfr:A.frames=some (env::mj))(hl:s.heap.FunFrames Aq (env::mj))(hf:env.frame=some L)
  (hx:s.heap.get? x=some {cls:=.ref C,data:=.fields vs}) (v6:vs.size=6) (v2:vs[2]?=some .none)
  (h:∀h' T,NoteX (frs (env::mj)) [x] s.heap h'->ExcX h' x C T->s.heap.objs.size<=T->Q () {s with heap:=h'}):
  wpAny (model prog w) A (do let a <- frameOf env;let pl <- entryPlaceOf L had;let b <- EntryCells.newEntry head a .none (rawInt L) .none pl;setField (.ref x) 1 b) (λ_ s'=>wpAny (model prog w) A (setFlight (.ref x) none) Q E s') E s:=by
 have xf:x∉frs (env::mj):=λhm=>by
  obtain⟨_,o,ho,hn⟩:=hl.mem hm;rw[hx] at ho;cases ho;exact hn _ rfl
 refine ae (wpAny_frameOf_fun hfr hl hf λh1 so=>ae (wpAny_entryPlaceOf λpl hpl=>?_));have hx1:=(so.2.1 x xf).trans hx;unfold EntryCells.newEntry newFields;refine ae (bP ?_ (hpl.sizeOk5 _ _ _ _ _));generalize hts:([head,.ref L,.none,rawInt L,.none]++(if pl.isEmpty then List.replicate 6 Value.none else pl)).toArray=ts;have ts3:3<ts.size:=by
  rw[<- hts];simp
 have h2x:=af (h:=h1) {cls:=.type "traceback",data:=.fields ts} hx1;have h2T:(h1.push {cls:=.type "traceback",data:=.fields ts}).get? h1.objs.size=some {cls:=.type "traceback",data:=.fields ts}:=aw h1 rfl;have sz2:(h1.push {cls:=.type "traceback",data:=.fields ts}).objs.size=h1.objs.size+1:=cA ..;have nTx:h1.objs.size≠x:=de (ay hx1);have k2:∀b o,h1.get? b=some o->(h1.push {cls:=.type "traceback",data:=.fields ts}).get? b=some o:=λb o e=>af _ e;generalize h1.push {cls:=.type "traceback",data:=.fields ts} =h2 at h2x h2T sz2 k2 ⊢;refine gb h2x rfl Aa ?_;have h3x:=cx (Obj.mapFields (·.setIfInBounds 1 (Value.ref h1.objs.size))) h2x rfl;have h3o:∀b,b≠x->(h2.update x (Obj.mapFields (·.setIfInBounds 1 (Value.ref h1.objs.size)))).get? b=h2.get? b:=λb n=>bi _ _ (cZ n);have h3T:=(h3o _ nTx).trans h2T;have sz3:(h2.update x (Obj.mapFields (·.setIfInBounds 1 (Value.ref h1.objs.size)))).objs.size=h2.objs.size:=eY ..;generalize h2.update x (Obj.mapFields (·.setIfInBounds 1 (Value.ref h1.objs.size)))=h3 at h3x h3o h3T sz3 ⊢;have w1:(vs.setIfInBounds 1 (Value.ref h1.objs.size))[1]?=some (.ref h1.objs.size):=by simp[v6]
 have w2:(vs.setIfInBounds 1 (Value.ref h1.objs.size))[2]?=some .none:=by rw[gU Ac];exact v2
 unfold setFlight;refine ae (cy (x:=.ref h1.objs.size) h3x rfl w1 ?_);rw[aA (show (Value.ref h1.objs.size != Value.none)=true by rfl)];refine gb h3T rfl ts3 ?_;have h4T:=cx (Obj.mapFields (·.setIfInBounds 3 Value.none)) h3T rfl;have h4o:∀b,b≠h1.objs.size->(h3.update h1.objs.size (Obj.mapFields (·.setIfInBounds 3 Value.none))).get? b=h3.get? b:=λb n=>bi _ _ (cZ n);have sz4:(h3.update h1.objs.size (Obj.mapFields (·.setIfInBounds 3 Value.none))).objs.size=h3.objs.size:=eY ..;have sz1:=so.1;refine h (h3.update h1.objs.size (Obj.mapFields (·.setIfInBounds 3 Value.none))) h1.objs.size ⟨λb o hb n1 n2=>?_,λb o hb n2=>?_,Aa⟩ ⟨_,_,_,(h4o x (cZ nTx)).trans h3x,by simp[v6],w1,w2,nTx,h4T,rfl,?_⟩ Aa
 .have hb1:=(so.2.1 b n1).trans hb;have nx:b≠x:=λz=>n2 (by rw[z];exact ak.mpr rfl);rw[h4o b (aO (ay hb1)),h3o b nx];exact k2 b o hb1
 .obtain⟨sl,hb1⟩:=so.2.2 b o hb;have nx:b≠x:=λz=>n2 (by rw[z];exact ak.mpr rfl);refine⟨sl,?_⟩;rw[h4o b (aO (ay hb1)),h3o b nx];exact k2 b _ hb1
 .simp[ts3]
theorem jO4{env:Env}{mj:List Env}{L x C t:Addr}{Aq:Heap}{Q:Unit->Shared->Prop}(hfr:A.frames=some (env::mj))(hl:s.heap.FunFrames Aq (env::mj))(hf:env.frame=some L)
  (hx:s.heap.get? x=some {cls:=.ref C,data:=.fields #[.ref t,.none,.none,.none,.bool false,.none]})
  (h:∀h' T,NoteX (frs (env::mj)) [x] s.heap h'->ExcX h' x C T->s.heap.objs.size<=T->Q () {s with heap:=h'}):wpAny (model prog w) A (leaving env (.ref x)) Q E s:=by
 unfold leaving noteFrame;simp only[hf];refine ae (ae (cy (x:=Value.none) hx rfl rfl ?_));rw[az Ac];exact jL1 hfr hl hf hx rfl rfl h
def jKE{env:Env}{mj:List Env}{L x C T:Addr}{Aq:Heap}{Q:Unit->Shared->Prop}(hfr:A.frames=some (env::mj))(hl:s.heap.FunFrames Aq (env::mj))(hf:env.frame=some L)(hx:ExcX s.heap x C T)
  (h:∀h' T',NoteX (frs (env::mj)) [x,T] s.heap h'->ExcX h' x C T'->s.heap.objs.size<=T'->Q () {s with heap:=h'}):
  wpAny (model prog w) A (noteFrame (.ref x) env) (λ_ s'=>wpAny (model prog w) A (setFlight (.ref x) none) Q E s') E s:=by
 obtain⟨vs,oT,ts,hx,v6,v1,v2,nTx,hT,hd,t3⟩:=hx;have t3s:3<ts.size:=(fY.mp t3).1;unfold noteFrame;simp only[hf];refine ae (cy hx rfl v1 ?_);rw[aA (show (Value.ref T != Value.none)=true by rfl)];refine ae (cy hT hd t3 ?_);rw[az (show ¬((Value.none==rawInt L)=true) by simp[rawInt])];refine ae (gb hT hd t3s ?_);have uo:∀b,b≠T->(s.heap.update T (Obj.mapFields (·.setIfInBounds 3 Value.none))).get? b=s.heap.get? b:=λb n=>bi _ _ (cZ n);have us:(s.heap.update T (Obj.mapFields (·.setIfInBounds 3 Value.none))).objs.size=s.heap.objs.size:=eY ..;have nT:∀b o,s.heap.get? b=some o->(∀vs,o.data≠.fields vs)->b≠T:=λb o hb hn z=>by
  rw[z,hT] at hb;cases hb;exact hn _ hd
 generalize s.heap.update T (Obj.mapFields (·.setIfInBounds 3 Value.none))=h1 at uo us ⊢;refine jL1 (s:= {s with heap:=h1}) (C:=C) hfr (hl.of_keeps λb o hb hn=>⟨o,(uo b (nT b o hb hn)).trans hb,rfl⟩) hf ((uo x (cZ nTx)).trans hx) v6 v2 λh' T' n e z=>h h' T' ⟨λb o hb m1 m2=>?_,λb o hb m2=>?_,by have:=n.size;show s.heap.objs.size<=_;rw[<- us];exact this⟩ e (by rw[<- us];exact z)
 .have b1:b≠T:=λz=>m2 (by rw[z];simp);have b2:b≠x:=λz=>m2 (by rw[z];simp);exact n.keep b o ((uo b b1).trans hb) m1 (by simpa using b2)
 .have b1:b≠T:=λz=>m2 (by rw[z];simp);have b2:b≠x:=λz=>m2 (by rw[z];simp);exact n.slot b o ((uo b b1).trans hb) (by simpa using b2)
abbrev bmVE:Al:=[.type "ValueError",.type "Exception",.type "BaseException",.type "object"]
def ExcK(K:W.Frag)(C:Addr):Prop:=∃(nm q:Str) (N:Addr) (bs bm:Al) (hdct:Bool) (sn:Am) (sub:Al) (ab:Bool) (col:Option Bool) (dd:Option Addr) (k0 k1 k2 k3 k5:Ao) (mN:Ak),
 mN "__init__" =none/\bm.contains (.type "BaseException")=true/\∀h:Heap,K.In h->h.get? C=some (excClassObj nm q C N bs bm hdct sn sub ab col dd k0 k1 k2 k3 k5 "ValueError.__new__")/\h.Ns N mN/\OwnTail h bmVE bm
variable {x:Str}{C:Addr}{e:Expr}{t:TA}{np cpos pos:Pos}
section
variable {W:Hp->Prop}
theorem jN2(hc:X.calm=true)(ek:ExcK X.K C)(hg:Gl X x)(hm:X.mg x=some (.ref C))(ha:PA X [e] t)
  (hx:∀ma σ H s h' a us,Inv X ma σ H s->Heap.MadeExcOf s.heap h' a (.ref C) us->W H->X.xe (.ref a) {s with heap:=h'})
  (hd:(x==("__debug__":Str))=false:=by decide) (he:starEach [e] X.env=(false,eval e X.env)::starEach [] X.env:=by rfl) (hpl:(backTo cpos (starEach [e] X.env)).any (·.1)=false:=by rfl):
  PS X (.Raise (some (.Call (.Name x np) [e] [] cpos)) none pos) (λ_ σ H=>t σ H λvs H1=>vs.length<=sizeLine/\W H1):=by
 intro ma s σ H D I h;obtain⟨nm,q,N,bs,bm,hdct,sn,sub,ab,col,dd,k0,k1,k2,k3,k5,mN,hni,hb,hK⟩:=ek;refine wpAny_Raise_call_subU (C:=C) (N:=N) (bs:=bs) (bm:=bm) (hdct:=hdct) (sn:=sn) (sub:=sub) (ab:=ab) (col:=col) (dd:=dd) (k0:=k0) (k1:=k1) (k2:=k2) (k3:=k3) (k5:=k5) (nm:=nm) (q:=q) iS Ac iS hb (I.ok.hd hc) hpl hni (jBR I hg hm ⟨rfl,?_⟩ hd);obtain⟨y,r,hy⟩:∃y r,backTo cpos (starEach [e] X.env)=(false,y)::r:=by
  rw[he];exact⟨_,_,rfl⟩
 have h2:=ha cpos ma s σ H _ I h;rw[hy] at h2 ⊢;refine dP (mo h2 λus s1 ⟨vs,H1,I1,r1,z,w1⟩=>?_);obtain⟨c1,c2,c3⟩:=hK s1.heap I1.kIn;exact⟨rfl,by rw[<- r1.length];exact z,c1,c2,c3,λh' a m=>hx ma σ H1 s1 h' a us I1 m w1⟩
end
def HOk.note{H:Hp}{h:Heap}{fs R:List Addr}(x:HOk P w H h)(n:NoteX fs R h h')(hf:∀b∈fs,H b=none)(hR:∀b∈R,H b=none):HOk P w H h':=λa o e=>
 (x a o e).stay (λb u hb q=>n.keep b u q (λz=>by
   have:=hf b z;rcases hb with rfl|hb
   .rw[e] at this;cases this
   .rw[hb] at this;cases this) (λz=>by
   have:=hR b z;rcases hb with rfl|hb
   .rw[e] at this;cases this
   .rw[hb] at this;cases this)) (λ_ q=>q) λ_ _ q=>q
def ObjOk.is{P:Program}{w:World}{H:Hp}{h:Heap}{a:Addr}{o:HO}(x:ObjOk P w H h a o):∃u,h.get? a=some u:=by
 cases o with
 |lst xs=>obtain⟨_,_,_,_,e⟩:=x;exact⟨_,e⟩
 |tup xs=>obtain⟨_,_,_,_,e⟩:=x;exact⟨_,e⟩
 |dK kvs=>obtain⟨_,_,_,_,o,_,_,e,_⟩:=x;exact⟨_,e⟩
 |dT kvs=>obtain⟨_,_,_,_,o,_,_,e,_⟩:=x;exact⟨_,e⟩
 |set S n=>obtain⟨o,_,_,_,e,_⟩:=x;exact⟨_,e⟩
 |ins C dx fs=>obtain⟨_,_,_,e,_⟩:=x;exact⟨_,e⟩
 |own y=>exact x
 |xd fs=>obtain⟨_,⟨_,_,_,e,_⟩,_⟩:=x;exact⟨_,e⟩
 |rng lo hi=>obtain⟨_,_,_,e⟩:=x;exact⟨_,e⟩
 |frz ob u=>obtain⟨e,_⟩:=x;exact⟨_,e⟩
 |tbl ps=>exact⟨_,x⟩
 |met f y=>exact⟨_,x⟩
 |ext φ=>obtain⟨_,q,_⟩:=x;exact q
def CXX(P:Program)(w:World)(C:Addr):CXT:=λmj H s E e s'=>∃x T H',e=.ref x/\s'.os=s.os/\AllBare s'.gens/\Un (frs mj) [] H H' s.heap s'.heap/\HOk P w H' s'.heap/\s.heap.get? x=none/\s.heap.objs.size<=T/\H' x=none/\H' T=none/\ExcX s'.heap x C T/\E e (some x) H'
theorem xe_cx{mg:Ak}{N:Am}{qual:Str}{sc:Scope}{f:Addr}{mj:List Env}{H:Hp}{E:XK}
  {ma:Ai}{H1:Hp}{s1:Shared}{a:Addr}{us:Al}(I:Inv (cxOf (CXX P w C) P w K mg Aq N qual sc f mn A mj s H E) ma σ H1 s1) (m:Heap.MadeExcOf s1.heap h' a (.ref C) us) (w1:∀a,E (.ref a) (some a) H1):
  (cxOf (CXX P w C) P w K mg Aq N qual sc f mn A mj s H E).xe (.ref a) {s1 with heap:=h'}:=by
 obtain⟨t,ha,ht,_⟩:=m.there;have fr:=I.ok.frames;have st:s1.heap.FunFrames Aq (PyProof.Rows.envOfC qual sc s.heap.objs.size f mn::mj):=I.stack;have an:=m.new;have sz:s.heap.objs.size<=s1.heap.objs.size:=I.sz;have aH:H1 a=none:=by
  cases q:H1 a with
  |none=>rfl
  |some o=>
   obtain⟨u,hu⟩:=(I.hok a o q).is;rw[an] at hu;cases hu
 have hs:s.heap.objs.size<h'.objs.size:=by
  obtain⟨mm,⟨o,es,ep,hL,_⟩,_⟩:=I.loc;exact ay (m.keeps _ _ hL)
 refine jO4 (s:= {s1 with heap:=h'}) (Aq:=Aq) fr (st.of_keeps λb o hb _=>⟨o,m.keeps b o hb,rfl⟩) rfl ha λh2 T n e z=>?_;have z:h'.objs.size<=T:=z;have un:Un (frs mj) [] H H1 s.heap s1.heap:=I.Aq;have nl:∀b o,s.heap.get? b=some o->b∉frs mj->b∉frs (PyProof.Rows.envOfC qual sc s.heap.objs.size f mn::mj):=λb o hb n1 hm=>by
  rcases aB.mp (show b∈s.heap.objs.size::frs mj from hm) with q|q
  .exact absurd (ay hb) (by rw[q];exact cF _)
  .exact n1 q
 have na:∀b o,s.heap.get? b=some o->b∉ [a]:=λb o hb hm=>by
  obtain⟨o',q⟩:=un.there b o hb Ad;rw[ak.mp hm,an] at q;cases q
 refine⟨a,T,H1,rfl,I.os,I.bare,⟨λb o hb n1 n2 n3=>?_,λb o hb n1 n2 n3=>?_,un.free,λb o hb n3=>?_,un.tups,un.frzs,un.tbls⟩,?_,?_,Aa,aH,(I.hok.kept m.keeps).fresh z,e,w1 a⟩
 .exact n.keep b o (m.keeps _ _ (un.keep b o hb n1 n2 n3)) (nl b o hb n2) (na b o hb)
 .obtain⟨sl,q⟩:=un.slot b o hb n1 n2 n3;obtain⟨sl2,q2⟩:=n.slot b _ (m.keeps _ _ q) (na b o hb);exact⟨sl2,q2⟩
 .obtain⟨o',q⟩:=un.there b o hb n3;obtain⟨sl2,q2⟩:=n.slot b _ (m.keeps _ _ q) (na b o hb);exact⟨_,q2⟩
 .refine(I.hok.kept m.keeps).note n (λb hb=>I.stkFree b hb) λb hb=>?_;rw[ak.mp hb];exact aH
 .cases q:s.heap.get? a with
  |none=>rfl
  |some o=>exact absurd (ak.mpr rfl) (na a o q)
variable {M:Model}{h:Heap}
section
variable {g:Array GenState}{d:Drawn}{tk:Nat}{os:OsState}
def jQP{nm nm' q':Str}{N B N' x:Addr}{bs bm bs' bm':Al}{hdct hdct':Bool}{sn sn':Am}{sub sub':Al}{ab ab':Bool}{col col':Option Bool}{dd dd':Option Addr}{k0 k1 k2 k3 k5 j0 j1 j2 j3 j5:Ao}{ni ni':String}{ox:Obj}{Q:Bool->Shared->Prop}
  (hC:h.get? C=some (excClassObj nm q C N bs bm hdct sn sub ab col dd k0 k1 k2 k3 k5 ni)) (hB:h.get? B=some (excClassObj nm' q' B N' bs' bm' hdct' sn' sub' ab' col' dd' j0 j1 j2 j3 j5 ni')) (hx:h.get? x=some ox) (hc:ox.cls=.ref C)
  (hb:bm'.contains (.type "BaseException")=true) (hin:bm.contains (.ref B)=true) (z:Q true ⟨h,g,d,tk,os⟩):wpAny M A (excMatches (.ref x) (.ref B)) Q E ⟨h,g,d,tk,os⟩:=by
 have b1:(Value.ref B::bm').contains (.type "BaseException")=true:=by rw[lR,hb,fj]
 have b2:(Value.ref C::bm).contains (.ref B)=true:=by rw[lR,hin,fj]
 have f0:=tc_notTuple;unfold excMatches
 repeat (first | (with_reducible refine wpAny_loadPart_at hx ?_;rw[hc])|with_reducible refine wpAny_loadPart_at hB ?_ | (with_reducible refine wpAny_isSubtype_exc hB ?_;rw[b1]) | (with_reducible refine wpAny_isSubtype_exc hC ?_;rw[b2])|wp_step)
 exact z
end
structure ExcIs (K:W.Frag)(C:Addr):Prop where
 ga:findIn K (.ref C) "__getattribute__" =some (some (.builtin "BaseException.__getattribute__"))
 gr:findIn K (.ref C) "__getattr__" =some none
 hc:(clsIn K C).isSome=true
 ha:findIn K (.ref C) "__class__" =some (some (.builtin "object.__class__"))
 hn:specialIn K (.builtin "object.__class__") "__get__" =some (some (.builtin "getset_descriptor.__get__"))
 tk:takesIn K (.builtin "object.__class__")=some true
 hm:mroIn K C (.type "object")=some true
 hb:mroIn K C (.type "BaseException")=some true
def excP(x C:Addr):Heap->Prop:=λh=>∃vs,h.get? x=some {cls:=.ref C,data:=.fields vs} /\vs[2]?=some .none
def excP.inst{x:Addr}(p:excP x C h):∃ox,PySem.W.InstAt h x ox C none:=by
 obtain⟨vs,e,_⟩:=p;exact⟨_,e,rfl,rfl,True.intro⟩
theorem jP3{x:Addr}{ox:Obj}(c:ExcIs K C)(X:K.In s.heap)(I:PySem.W.InstAt s.heap x ox C none)(k:Q (some (.ref C)) {s with toks:=s.toks+1}):wpAny (model prog w) A (getAttr? (.ref x) "__class__") Q E s:=by
 have hf:findObj K C none "__class__" =some (.bind (.builtin "getset_descriptor.__get__") (.builtin "object.__class__")):=by
  obtain⟨cd,hcd⟩:=eR.mp c.hc;unfold findObj;rw[hcd,bind_some,c.ha,bind_some];simp[c.hn,c.tk]
 obtain⟨hh,g,d,t,os⟩:=s;have L0:=I.type (M:=model prog w);have L1:=ly (M:=model prog w) X c.ga;have L2:=ly (M:=model prog w) X c.gr;have L3:=PySem.W.looks_find (M:=model prog w) X I hf;have L4:PySem.W.Looks (model prog w) hh (isInstance (.ref x) (.type "BaseException")) true:=L0.andThen (PySem.W.looks_mroIn (M:=model prog w) X c.hb);have e1:(onTheHeap (.ref C)&&(Value.builtin "BaseException.__getattribute__" ==.builtin "object.__getattribute__"))=false:=by
  have z:(Value.builtin "BaseException.__getattribute__" ==.builtin "object.__getattribute__")=false:=Ab;rw[z,db]
 unfold getAttr? getAttrBy? getAttrBy;refine ae (wpAny_mkText (ae (dN (bB (ae (L0.at (ae (L1.at ?_))))))));dsimp only;rw[e1,az Ac];unfold getAttrByItsOwn hookBefore;rw[aA (by rfl)];refine ae (L2.at (ae (dN (bB ?_))));unfold callGetattribute boundAndCalled;rw[az Ac,jr.ga.bind];refine ae (aj (fe (codeAny_call_builtin jr.ga.plain PySem.F.entry_bexc_ga ?_)));have hk:builtinKind "BaseException.__getattribute__" =some .slot/\splitId "BaseException.__getattribute__" =some ("BaseException","__getattribute__"):=Ab;have ha:=PySem.F.args_bexc_ga (.ref x) (.str "__class__" t);simp only[checkBuiltinCall,hk.1,hk.2];refine ae (L4.at ?_);rw[az Ac];refine i6 (a:=()) ha (ae (aj (ae (aj (ae (L0.at (ae (L3.at ?_))))))));refine(show wpAny _ _ (holding [.builtin "object.__class__"] (call (.builtin "getset_descriptor.__get__") [.builtin "object.__class__",.ref x,.ref C]) >>= ret) _ _ _ from ae (bB (fe ?_)));exact PySem.W.class_get (s:=⟨hh,g,d,t+1,os⟩) (ox:=ox) (od:=none) X I c.hm (aj (PySem.W.handed_on rfl (aj k)))
def jQU{x:Addr}(c:ExcIs K C):PySem.W.KitX K (.ref x) (.ref C) (excP x C) where
 ty:=λ_ _ _ p=>by
  obtain⟨ox,I⟩:=p.inst;exact I.type
 it:=λ_ _ X _=>by
  obtain⟨cd,hcd⟩:=eR.mp c.hc;unfold clsIn at hcd;split at hcd
  .rename_i c' d' cd' sl' ho;intro A' Q' E' s' k q;unfold isType loadHead;exact ae (wpAny_loadPart (k _ _ (X _ _ ho)) (aj q))
  .cases hcd
 ne:=λh tp dd its n sl X htp=>by
  obtain⟨cd,hcd⟩:=eR.mp c.hc;refine b9.mpr λq=>?_;have e:C=tp:=Value.ref.inj (gA.mp q);subst e;unfold clsIn at hcd;split at hcd
  .rename_i c' d' cd' sl' ho;have z:=(X _ _ ho).symm.trans htp;cases z
  .cases hcd
 ca:=λ{prog w A E Q s} X p k=>by
  obtain⟨ox,I⟩:=p.inst;exact jP3 c X I k
def kI(ci:ExcIs X.K C):yQ X (.builtin "isinstance") (λxs H Q=>∃x c u b,xs=[.ref x,c]/\H x=some (.ext (excP x C))/\(∀v,RelV c v->v=u)/\kitOne X.K (.ref C) u=some b/\Q (.bl b) H):=by
 intro ma s σ H xs us Q I r h;obtain⟨x,c,u,b,rfl,hx,hu,e,q⟩:=h;obtain⟨v,y,rfl,rv,ry⟩:=r.two;cases (show v=Value.ref x from rv);cases hu y ry;obtain⟨p,_,_⟩:=(show ObjOk X.prog X.w H s.heap x (.ext (excP x C)) from I.hok x _ hx);exact cD (jQU ci) I.kIn p e (λz=>nomatch z) λtk=>⟨.bl b,H,I.tok tk,rfl,q⟩
variable {ma:Ai}{H H':Hp}
section
variable {σ:List (Option V)}{h':Heap}
def Inv.stepX{g':Array GenState}{t':Nat}{d':Drawn}{ch:List Addr}(I:Inv X ma σ H s)
  (hch:∀b∈ch,X.s₀.heap.get? b=none/\b≠X.env.locals/\(∀x c,X.env.cells.lookup x=some c->c≠b)/\∀p∈X.pn++ma,p.1≠b)
  (keep:∀b o,b≠X.env.locals->b∉X.fs->b∉ch->s.heap.get? b=some o->H b=none->h'.get? b=some o)
  (slot:∀b o,b≠X.env.locals->b∈X.fs->b∉ch->s.heap.get? b=some o->H b=none->∃sl,h'.get? b=some {o with slots:=sl}) (free:∀b o,b∉ch->s.heap.get? b=some o->H b=none->H' b=none)
  (there:∀b o,b∉ch->s.heap.get? b=some o->∃o',h'.get? b=some o')
  (tups:∀b xs,H b=some (.tup xs)->H' b=some (.tup xs)) (frzs:∀b o u,H b=some (.frz o u)->H' b=some (.frz o u)) (tbls:∀b ps,H b=some (.tbl ps)->∃more,H' b=some (.tbl (ps++more)))
  (ns:∀m,s.heap.Ns X.env.locals m->h'.Ns X.env.locals m) (hok:HOk X.prog X.w H' h') (hg:AllBare g'):
  Inv X ma σ H' {s with heap:=h',gens:=g',drawn:=d',toks:=t'}:=by
 have neL:∀b o,X.s₀.heap.get? b=some o->b≠X.env.locals:=λb o e=>aO (aS (ay e) I.ok.above);have neC:∀b o,X.s₀.heap.get? b=some o->b∉X.ex->b∉ch:=λb o e hx hb=>by
  have z:=(hch b hb).1;rw[e] at z;cases z
 have cellK:∀x c,X.env.cells.lookup x=some c->∀v,s.heap.IsCell c v->h'.IsCell c v:=λx c e v ⟨o,ho,hd⟩=>by
  have nch:c∉ch:=λz=>(hch c z).2.2.1 x c e rfl;by_cases hc:c∈X.fs
  .obtain⟨sl,q⟩:=slot c o (I.cne x c e) hc nch ho (I.freeC x c e);exact⟨_,q,hd⟩
  .exact⟨o,keep c o (I.cne x c e) hc nch ho (I.freeC x c e),hd⟩
 refine⟨I.ok,I.os,hg,⟨λb o e n hb hx=>?_,λb o e n hb hx=>?_,λb o e n hx=>?_,λb o e hx=>?_,λb xs e=>tups b xs (I.Aq.tups b xs e),λb o xs e=>frzs b o xs (I.Aq.frzs b o xs e),λb ps e=>?_⟩,?_,λx c e=>?_,?_,λx c e=>?_,λp hp=>?_,hok,I.len⟩
 .exact keep b o (neL b o e) hb (neC b o e hx) (I.Aq.keep b o e n hb hx) (I.Aq.free b o e n hx)
 .obtain⟨sl,e1⟩:=I.Aq.slot b o e n hb hx;obtain⟨sl',e2⟩:=slot b _ (neL b o e) hb (neC b o e hx) e1 (I.Aq.free b o e n hx);exact⟨sl',e2⟩
 .obtain⟨o',e1⟩:=I.Aq.there b o e hx;exact free b o' (neC b o e hx) e1 (I.Aq.free b o e n hx)
 .obtain⟨o',e1⟩:=I.Aq.there b o e hx;exact there b o' (neC b o e hx) e1
 .obtain⟨m1,e1⟩:=I.Aq.tbls b ps e;obtain⟨m2,e2⟩:=tbls b _ e1;exact⟨m1++m2,by rw[e2,iI]⟩
 .obtain⟨m,hn,hl⟩:=I.loc;refine⟨m,ns m hn,λi x v e1 e2 e3=>?_⟩;obtain⟨u,r,l⟩:=hl i x v e1 e2 e3;refine⟨u,r,?_⟩;rcases l with l|⟨k,c,e,z⟩
  .exact .inl l
  .exact .inr ⟨k,c,e,cellK x c e _ z⟩
 .obtain⟨v,z⟩:=I.cell x c e;exact⟨v,cellK x c e v z⟩
 .obtain⟨m,⟨o,_,_,ho,_⟩,_⟩:=I.loc;exact free _ o (λz=>(hch _ z).2.1 rfl) ho I.free
 .obtain⟨v,o,ho,hd⟩:=I.cell x c e;exact free c o (λz=>(hch c z).2.2.1 x c e rfl) ho (I.freeC x c e)
 .obtain⟨e,n,ne,nf,d⟩:=I.pin p hp;have nch:p.1∉ch:=λz=>(hch p.1 z).2.2.2 p hp rfl;exact⟨keep p.1 p.2 ne nf nch e n,free p.1 p.2 nch e n,ne,nf,d⟩
def Inv.callX{g':Array GenState}{t':Nat}{d':Drawn}{ch:List Addr}(I:Inv X ma σ H s)(u:Un (frs X.stack) ch H H' s.heap h')(hok:HOk X.prog X.w H' h')(hg:AllBare g')
  (hch:∀b∈ch,X.s₀.heap.get? b=none/\b≠X.env.locals/\(∀x c,X.env.cells.lookup x=some c->c≠b)/\∀p∈X.pn++ma,p.1≠b):
  Inv X ma σ H' {s with heap:=h',gens:=g',drawn:=d',toks:=t'}:=by
 obtain⟨m,⟨o,es,ep,ho,r⟩,_⟩:=id I.loc;obtain⟨sl,hL⟩:=u.any ho I.free λz=>(hch _ z).2.1 rfl;exact I.stepX (ch:=ch) hch (λb o hL hb hc e n=>u.keep b o e n (λz=>(aB.mp (I.stkSub b z)).elim hL hb) hc) (λb o _ _ hc e n=>u.any e n hc) (λb o hc e n=>u.free b o e n hc) (λb o hc e=>u.there b o e hc) u.tups u.frzs u.tbls (λm' hm=>by
  obtain⟨o',es',ep',ho',r'⟩:=hm;rw[ho] at ho';cases ho';exact⟨_,es',ep',hL,r'⟩) hok hg
end
def excP.of{h:Heap}{x C T:Addr}(e:ExcX h x C T):excP x C h:=by
 obtain⟨vs,_,_,h1,_,_,h2,_⟩:=e;exact⟨vs,h1,h2⟩
def excP.stay{x:Addr}(h1 h2:Heap)(p:excP x C h1)(k:∀o,h1.get? x=some o->h2.get? x=some o):excP x C h2:=by
 obtain⟨vs,e,c⟩:=p;exact⟨vs,k _ e,c⟩
variable {T:Addr}
section
variable {σ:St}{h2:Heap}{x T':Addr}
def Inv.apart(I:Inv X ma σ H s)(hex:X.ex=[])(hb:s.heap.get? b=none):X.s₀.heap.get? b=none/\b≠X.env.locals/\(∀y c,X.env.cells.lookup y=some c->c≠b)/\∀p∈X.pn++ma,p.1≠b:=by
 refine⟨?_,λz=>?_,λy c e z=>?_,λp hp z=>?_⟩
 .cases q:X.s₀.heap.get? b with
  |none=>rfl
  |some o=>
   obtain⟨o',e⟩:=I.Aq.there b o q (by rw[hex];simp);rw[hb] at e;cases e
 .obtain⟨m,⟨o,es,ep,hL,_⟩,_⟩:=I.loc;rw[<- z,hb] at hL;cases hL
 .obtain⟨v,o,ho,_⟩:=I.cell y c e;rw[z,hb] at ho;cases ho
 .have:=(I.pin p hp).1;rw[z,hb] at this;cases this
def Inv.held(I:Inv X ma σ H' s)(n:NoteX (frs X.stack) [x,T] s.heap h2)(e:ExcX h2 x C T')(hx:H' x=none)(hT:H' T=none)
  (ax:X.s₀.heap.get? x=none/\x≠X.env.locals/\(∀y c,X.env.cells.lookup y=some c->c≠x)/\∀p∈X.pn++ma,p.1≠x)
  (aT:X.s₀.heap.get? T=none/\T≠X.env.locals/\(∀y c,X.env.cells.lookup y=some c->c≠T)/\∀p∈X.pn++ma,p.1≠T):
  Inv X ma σ (upd H' x (.ext (excP x C))) {s with heap:=h2}:=by
 have nx:∀{b:Addr}{o:HO},H' b=some o->b≠x:=λ{b o} q z=>by
  rw[z,hx] at q;cases q
 refine I.callX (g':=s.gens) (d':=s.drawn) (t':=s.toks) (ch:=[x,T]) ⟨λb o q z n1 n2=>n.keep b o q n1 n2,λb o q z n1 n2=>n.slot b o q n2,λb o q z n2=>?_,λb o q n2=>?_,λb xs q=>by rw[jA (nx q)];exact q,λb o u q=>by rw[jA (nx q)];exact q,λb ps q=>⟨#[],by rw[jA (nx q),q];simp⟩⟩ (λa o q=>?_) I.bare (λb hb=>?_)
 .rw[jA (λz=>n2 (by rw[z];simp))];exact z
 .obtain⟨sl,w⟩:=n.slot b o q n2;exact⟨_,w⟩
 .by_cases ha:a=x
  .subst ha;rw[j7] at q;cases q;obtain⟨vs,_,_,w,_⟩:=id e;exact⟨.of e,⟨_,w⟩,excP.stay⟩
  .rw[jA ha] at q;have hk:=I.hok.note n I.stkFree λb hb=>by
    rcases aB.mp hb with z|z
    .rw[z];exact hx
    .rw[ak.mp z];exact hT
   exact(hk a o q).stay (λ_ _ _ w=>w) (λb w=>by rw[jA (nx w)];exact w) λb xs w=>by rw[jA (nx w)];exact w
 .rcases aB.mp hb with z|z
  .rw[z];exact ax
  .rw[ak.mp z];exact aT
end
noncomputable def jAU(X:Cx)(x:Addr):Cx:= {X with A:=X.A.mark (some (.ref x)),calm:=false,xe:=λ_ _=>False}
section
variable {σ:St}{x:Addr}
def Cx.Ok.suite(ok:X.Ok)(x:Addr):(jAU X x).Ok:=
 ⟨ok.mod,ok.kind,ok.glob,ok.blt,ok.above,ok.inj,ok.has,ok.cab,λz=>(nomatch z),ok.frames,ok.stk,ok.exf,ok.bs,ok.bsz,ok.noex,ok.exfs,ok.funs,ok.frf⟩
def Inv.suite(I:Inv X ma σ H s)(x:Addr):Inv (jAU X x) ma σ H s:=⟨I.ok.suite x,I.os,I.bare,I.Aq,I.loc,I.cell,I.free,I.freeC,I.pin,I.hok,I.len⟩
def Inv.unsuite(ok:X.Ok)(I:Inv (jAU X x) ma σ H s):Inv X ma σ H s:=⟨ok,I.os,I.bare,I.Aq,I.loc,I.cell,I.free,I.freeC,I.pin,I.hok,I.len⟩
end
section
variable {x:Addr}{Q:Unit->Shared->Prop}
def jJF(e:ExcX s.heap x C T)(h:∀h',(∀b o,s.heap.get? b=some o->h'.get? b=some o)->Q () {s with heap:=h'}):wpAny M A (setFlight (.ref x) none) Q E s:=by
 obtain⟨vs,oT,ts,hx,v6,v1,v2,nTx,hT,hd,t3⟩:=e;have t3s:3<ts.size:=(fY.mp t3).1;unfold setFlight;refine ae (cy (x:=.ref T) hx rfl v1 ?_);rw[aA (show (Value.ref T != Value.none)=true by rfl)];refine gb hT hd t3s (h _ λb o hb=>?_);by_cases hbT:b=T
 .subst hbT;rw[hT] at hb;cases hb;obtain⟨c,d,dt,sl⟩:=oT;simp only at hd;subst hd;refine(cx (Obj.mapFields (·.setIfInBounds 3 Value.none)) hT rfl).trans ?_;have e3:ts.setIfInBounds 3 Value.none=ts:=by
   apply Array.ext_getElem?;intro i;by_cases hi:i=3
   .subst hi;rw[t3];simp[t3s]
   .rw[gU (cZ hi)]
  show some ({cls:=c,dict:=d,data:=.fields (ts.setIfInBounds 3 Value.none),slots:=sl}:Obj)=_;rw[e3]
 .exact(bi _ _ (cZ hbT)).trans hb
end
def Above(K:W.Frag)(C B:Addr):Prop:=∃(nm q nm' q':Str) (N N':Addr) (bs bm bs' bm':Al) (hdct hdct':Bool) (sn sn':Am) (sub sub':Al) (ab ab':Bool) (col col':Option Bool) (dd dd':Option Addr) (k0 k1 k2 k3 k5 j0 j1 j2 j3 j5:Ao) (ni ni':String),
 bm'.contains (.type "BaseException")=true/\bm.contains (.ref B)=true/\∀h:Heap,K.In h->h.get? C=some (excClassObj nm q C N bs bm hdct sn sub ab col dd k0 k1 k2 k3 k5 ni)/\h.get? B=some (excClassObj nm' q' B N' bs' bm' hdct' sn' sub' ab' col' dd' j0 j1 j2 j3 j5 ni')
variable {n c:Str}{i j:Nat}{f B:Addr}{fd:FuncData}{ps:Am}{sp:Sp}{es:List Expr}{yp gp cp ap rp hp tp:Pos}
section
variable {y g:Str}{k:Nat}{r:Expr}{te:Addr->TE}
end
def Hnd.kept{h h':Heap}{x:Addr}(n:Hnd h x)(k:∀b o,h.get? b=some o->h'.get? b=some o):Hnd h' x:=by
 obtain⟨o,vs,e,d,z⟩:=n;exact⟨o,vs,k _ _ e,d,z⟩
def excP.hnd{x:Addr}(p:excP x C h):Hnd h x:=by
 obtain⟨vs,e,z⟩:=p;exact⟨_,vs,e,rfl,z⟩
theorem jHE{x:Addr}{lo left step:Int}(hh:A.handled=some (.ref x))(hx:Hnd s.heap x)(hit:IsRangeIter s.heap it lo left step)(hl:left<=0)
  (hQ:∀h',(∀b o,s.heap.get? b=some o->h'.get? b=some o)->Q none {s with heap:=h'}):wpAny (model prog w) A (pyNext (.ref it)) Q E s:=by
 have ty:s.TypeIs (.ref it) "range_iterator" :=⟨_,hit,rfl⟩;unfold pyNext;refine ae (dN (cM (name:=Str.ofString "__next__") ty F.slot_range_iterator_next (cH F.slot_range_iterator_next ty F.entry_range_iterator_next ?_ (F.args_range_iterator_next_1 _))));refine(show wpAny _ _ (field (.ref it) 0 >>= _) _ _ s from ae (cy hit rfl (x:=rawInt lo) rfl ?_));refine(show wpAny _ _ (field (.ref it) 1 >>= _) _ _ s from ae (cy hit rfl (x:=rawInt left) rfl ?_));refine(show wpAny _ _ (field (.ref it) 2 >>= _) _ _ s from ae (cy hit rfl (x:=rawInt step) rfl ?_));refine(show wpAny _ _ (if left<=0 then _ else _) _ _ s from ?_);rw[aA hl];refine ae (dA (ae ?_));refine(show wpAny _ _ (newExc (.type "StopIteration") [] >>= _) _ _ _ from ae ?_);simp only[newExc,newTuple];refine ae (bP (ae (m:=firstArgMember _ _) (i6 (a:=Value.none) (by first|rfl | (simp only[firstArgMember];rfl)) (bP ?_ (by size_fits)))) (by size_fits));have xl:x<s.heap.objs.size:=by
  obtain⟨o,_,e,_⟩:=hx;exact ay e
 refine jIS hh (aO (aS xl ?_)) (hx.kept λb o e=>af _ (af _ e)) (aw _ rfl) rfl (by simp only[Array.size_append,aq,aU,cz];lia) ?_
 .exact cU (by rw[cA];exact eV _)
 .refine ae (g5 (T:= "StopIteration") (b:=true) ⟨_,cx _ (aw _ rfl) rfl,rfl⟩ lv (aj (hQ _ λb o e=>?_)));rw[bi _ _ (cZ (aO (aS (ay e) (cU (by rw[cA];exact eV _)))))];exact af _ (af _ e)
def ItrS(x:Addr)(lo:Int)(n:Nat):It:=⟨λi _=>i<n,λi H y H'=>H'=H/\y=.int (lo+i),λi H=>n<=i/\∃C,H x=some (.ext (excP x C))⟩
def iRngS(x:Addr)(ta:TA):TI:=λσ H R=>ta σ H λvs H1=>∃j:Int,vs=[.int j]/\ -(2^62)<=j/\j<2^62/\R (ItrS x 0 j.toNat) H1
structure TurnS (x:Addr)(P:Program)(w:World)(K:W.Frag)(tg:Expr)(J:It)(fp:List Addr)(it:Addr)(tn:Nat->Heap->Prop):Prop where
 mem:it∈fp
 obj:∀i h,tn i h->∀b∈fp,∃o,h.get? b=some o/\∀v,o.data≠.cell v
 keep:∀i h h',tn i h->(∀b∈fp,∀o,h.get? b=some o->h'.get? b=some o)->tn i h'
 item:∀(X:Cx),X.prog=P->X.w=w->X.K=K->X.A.handled=some (.ref x)->∀(i:Nat) (ma:Ai) (s:Shared) (σ:St) (H:Hp) (E:Ah),Inv X ma σ H s->(∀b∈fp,FpOk X ma H b)->tn i s.heap->J.go i H->
  wpAny (model P w) X.A (pyNext (.ref it)) (λr s1=>∃u,r=some u/\
   wpAny (model P w) X.A (letOwnedTupleGo tg (.ref it) u) (λ_ s2=>∃x H',Inv X ma σ H' s2/\RelV x u/\J.yld i H x H'/\tn (i+1) s2.heap/\∀b∈fp,H' b=none) E s1) E s
 done:∀(X:Cx),X.prog=P->X.w=w->X.K=K->X.A.handled=some (.ref x)->∀(i:Nat) (ma:Ai) (s:Shared) (σ:St) (H:Hp) (E:Ah),Inv X ma σ H s->(∀b∈fp,FpOk X ma H b)->tn i s.heap->J.stop i H->
  wpAny (model P w) X.A (pyNext (.ref it)) (λr s1=>r=none/\Inv X ma σ H s1) E s
 self:∀(A:Around) (i:Nat) (s:Shared) (Q:Ah) (E:Ah),tn i s.heap->Q (.ref it) s->wpAny (model P w) A (pyIter (.ref it)) Q E s
def PISE(x:Addr)(X:Cx)(ma:Ai)(σ:St)(tg:Expr)(R:It->Hp->Prop)(itv:Value)(s2:Shared):Prop:=
 ∃(it:Addr) (fp:List Addr) (tn:Nat->Heap->Prop) (J:It) (H':Hp),itv=.ref it/\Inv X ma σ H' s2/\TurnS x X.prog X.w X.K tg J fp it tn/\tn 0 s2.heap/\(∀b∈fp,FpOk X ma H' b)/\R J H'
def PIS(x:Addr)(X:Cx)(tg iter:Expr)(wi:TI):Prop:=
 ∀(ma:Ai) (s:Shared) (σ:St) (H:Hp) (R:It->Hp->Prop),Inv X ma σ H s->wi σ H R->
  wpAny (model X.prog X.w) X.A (eval iter X.env) (λv s1=>wpAny (model X.prog X.w) X.A (pyIter v) (PISE x X ma σ tg R) X.xe s1) X.xe s
theorem jIO{x:Addr}{tg:Expr}(it:Addr)(lo:Int)(n:Nat):TurnS x P w K tg (ItrS x lo n) [it] it (λi h=>IsRangeIter h it (lo+(i:Nat)*1) ((n:Int)-(i:Nat)) 1) where
 mem:=by simp
 obj:=λi h st b hb=>by
  have e:b=it:=by simpa using hb
  subst e;exact⟨_,st,λv z=>by
   have z':Data.fields _=Data.cell v:=z;cases z'⟩
 keep:=λi h h' st k=>k it Ad _ st
 item:=by
  intro X hP hw hK hc i ma s σ H E I hf st hg;subst hP hw hK;obtain⟨f0,f1,f2,f3,f4,f5⟩:=hf it Ad;refine wpAny_pyNext_range_item st (by have:i<n:=hg;lia) λh' st' sb=>?_;replace st':IsRangeIter h' it (lo+((i+1:Nat):Int)*1) ((n:Int)-((i+1:Nat):Int)) 1:=by
   have e1:lo+((i+1:Nat):Int)*1=lo+(i:Int)*1+1:=Aa;have e2:(n:Int)-((i+1:Nat):Int)=(n:Int)-(i:Int)-1:=Aa;rw[e1,e2];exact st'
  have kk:∀b o,b≠it->s.heap.get? b=some o->h'.get? b=some o:=λb o hb e=>sb.extBut b o hb e;have I1:Inv X ma σ H {s with heap:=h',toks:=s.toks+1}:=I.turned kk f0 f1 f3 f4 f5;refine⟨_,rfl,go_of (s:= {s with heap:=h',toks:=s.toks+1}) (n:= "range_iterator") st' rfl rfl Ac ⟨.int (lo+i),H,I1,⟨s.toks,?_⟩,⟨rfl,rfl⟩,st',λb hb=>(hf b hb).1⟩⟩;rw[l0]
 done:=by
  intro X hP hw hK hc i ma s σ H E I hf st hg;subst hP hw hK;obtain⟨f0,f1,f2,f3,f4,f5⟩:=hf it Ad;obtain⟨hg,C,hC⟩:=hg;obtain⟨p,_,_⟩:=(show ObjOk X.prog X.w H s.heap x (.ext (excP x C)) from I.hok x _ hC);exact jHE hc p.hnd st Aa λh' eb=>⟨rfl,I.kept (t':=s.toks) eb⟩
 self:=λ_ _ _ _ _ st h=>wpAny_pyIter_rangeiter st h
variable {tg:Expr}
theorem jMZ{x:Addr}{R:It->Hp->Prop}{lo hi:Int}{t u v:Tok}{tk:Nat}(I:Inv X ma σ H s)(h1: -(2^62)<=lo)(h2:lo<2^62)(h3: -(2^62)<=hi)(h4:hi<2^62)
  (q:R (ItrS x lo (hi-lo).toNat) H):wpAny (model X.prog X.w) X.A (pyIter (.ref s.heap.objs.size)) (PISE x X ma σ tg R) E {s with heap:=s.heap.push {cls:=.type "range",data:=.fields #[.int lo t,.int hi u,.int 1 v]},toks:=tk}:=by
 refine wpAny_pyIter_range (IsRange.new ..) (small_one h1 h2 h3 h4) ?_;have I1:Inv X ma σ H {s with heap:=s.heap.push {cls:=.type "range",data:=.fields #[.int lo t,.int hi u,.int 1 v]},toks:=tk}:=I.kept λb o e=>af _ e;refine⟨(s.heap.push {cls:=.type "range",data:=.fields #[.int lo t,.int hi u,.int 1 v]}).objs.size,[(s.heap.push {cls:=.type "range",data:=.fields #[.int lo t,.int hi u,.int 1 v]}).objs.size],_,_,H,rfl,
  I1.kept (t':=tk) λb o e=>af _ e,jIO _ lo (hi-lo).toNat,?_,λb hb=>?_,q⟩
 .have e1:lo+((0:Nat):Int)*1=lo:=Ad;have e2:(((hi-lo).toNat:Nat):Int)-((0:Nat):Int)=Builtin.Range.rangeSize lo hi 1:=by rw[jg];split<;>lia
  show IsRangeIter _ _ (lo+((0:Nat):Int)*1) ((((hi-lo).toNat:Nat):Int)-((0:Nat):Int)) 1;rw[e1,e2];exact aw _ rfl
 .have e:b=(s.heap.push {cls:=.type "range",data:=.fields #[.int lo t,.int hi u,.int 1 v]}).objs.size:=by simpa using hb
  subst e;exact I1.fpOk (ar _) (I1.hok.fresh (ar _))
theorem jLN{x:Addr}{ta:TA}{p:Pos}(hg:Gl X "range")(hm:X.mg "range" =none)(ha:PA X [a] ta)(hs:starEach [a] X.env=[(false,eval a X.env)]:=by rfl):PIS x X tg (.Call (.Name "range" p) [a] [] pos) (iRngS x ta):=by
 intro ma s σ H R I h;refine Call_ (jDB I hg hm boot_range (dw (mo (ha pos ma s σ H _ I h) λus s1 ⟨vs,H1,I1,r1,q1⟩=>?_) hs rfl));obtain⟨j,e,q1,q2,q⟩:=q1;subst e;cases r1 with
 |cons r rr=>
  cases rr;obtain⟨t,rfl⟩:=r;exact call_range_1 (jMZ I1 Aa Aa q1 q2 (by simpa using q))
variable {g:TG}{iter elt:Expr}{ifs:List Expr}{sc:Scope}{wi:TI}{tt:TT}{te:TE}{m:List (Option Nat)}{Nc:Am}
def jQD{x:Addr}(hc:X.A.handled=some (.ref x))(hi:PIS x X tg iter wi)(hkind:sc.kind=.function)(hcell:∀y∈sc.names,y.2≠.cell)(hnames:∀y∈sc.names,y.2=.local->sc.names.lookup y.1=some .local)
  (hfree:Fq X sc) (hm:qF X sc Nc m)
  (hg:∀cl C fp s H,PG (blk X sc cl C Nc fp s H) tg g) (ht:∀cl C fp s H,PTs (blk X sc cl C Nc fp s H) ifs tt) (he:∀cl C fp s H,PE (blk X sc cl C Nc fp s H) elt te)
  (hs:∀x,foldedSetIterable iter X.env x=pure x:=by intro _;rfl):PE X (.ListComp elt [⟨tg,iter,ifs,0⟩] sc pos) (tComp m wi g tt te):=by
 intro ma s σ H Q I h;rw[eval_ListComp];have hcl:∀y∈sc.names,y.2=.free->∃c,X.env.cells.lookup y.1=some c:=λy hy hf=>I.ok.has y.1 (hfree y hy hf);refine ji (use:=none) rfl hs (jGT hcl) hkind hnames (mo (hi ma s σ H _ I h) λv s1 h1=>mo h1 λitv s2 h2=>?_);obtain⟨it,fp,tn,J,H2,e,I2,T,st2,f2,hQ⟩:=h2;subst e;have hlt:∀b∈fp,b<s2.heap.objs.size:=λb hb=>by
  obtain⟨o,e,_⟩:=T.obj 0 _ st2 b hb;exact ay e
 refine bP (ic hcell (by intro y hy;simp at hy) (λh₁ hns₁ hsb₁=>?_) hkind);have I3:Inv X ma σ (upd H2 s2.heap.objs.size (.lst [])) {s2 with heap:=s2.heap.push {cls:=.type "list",data:=.seq ([]:Al).toArray}}:=I2.lnew (t':=s2.toks) .nil (br _);obtain⟨W,⟨n0,w0⟩,turn⟩:=hQ s2.heap.objs.size I2.fresh;have hD3:∀b∈fp,b≠s2.heap.objs.size:=λb hb=>aO (hlt b hb);have f3:∀b∈fp,FpOk X ma (upd H2 s2.heap.objs.size (.lst [])) b:=λb hb=>by
  obtain⟨a0,a1⟩:=f2 b hb;exact⟨by rw[jA (hD3 b hb)];exact a0,a1⟩
 generalize hE:({s2 with heap:=s2.heap.push {cls:=.type "list",data:=.seq ([]:Al).toArray}}:Shared)=s3 at I3 hns₁ hsb₁ ⊢;generalize hH3:upd H2 s2.heap.objs.size (.lst [])=H3 at I3 f3 w0;have hsz3:s3.heap.objs.size=s2.heap.objs.size+1:=by rw[<- hE];exact cA _ _
 have old:∀b o,s3.heap.get? b=some o->h₁.get? b=some o:=λb o e=>hsb₁.extBut b o (aO (ay e)) (af _ e);have old2:∀b o,s2.heap.get? b=some o->h₁.get? b=some o:=λb o e=>old b o (by rw[<- hE];exact af _ e);have I4:=jI9 (fp:=fp) (tk:=s3.toks+([]:List (Str×Value)).length) I3 hkind hcell hfree hm f3 (λb hb=>show b<s3.heap.objs.size by rw[hsz3];exact cB (hlt b hb)) hns₁ old;have st4:tn 0 h₁:=T.keep _ _ _ st2 λb hb o e=>old2 b o e;have loop:codeAny (model X.prog X.w) X.A (.compLoop (.ListComp elt [⟨tg,iter,ifs,0⟩] sc pos) 0 (.ref it) (.ref s2.heap.objs.size) (compEnvC sc (jM X.env.cells sc.names []) s3.heap.objs.size X.env))
   (compPost (model X.prog X.w) X.A X.xe none (EP X ma σ Q) (.ref s2.heap.objs.size) s3.heap.objs.size) {s3 with heap:=h₁,toks:=s3.toks+([]:List (Str×Value)).length}:=by
  generalize hX:blk X sc (jM X.env.cells sc.names []) s3.heap.objs.size Nc fp s3 H3=Xb at I4;have eP:Xb.prog=X.prog:=by rw[<- hX];rfl
  have ew:Xb.w=X.w:=by rw[<- hX];rfl
  have eK:Xb.K=X.K:=by rw[<- hX];rfl
  have eA:Xb.A=X.A:=by rw[<- hX];rfl
  have ec:Xb.A.handled=some (.ref x):=by rw[<- hX];exact hc
  have ee:Xb.env=compEnvC sc (jM X.env.cells sc.names []) s3.heap.objs.size X.env:=by rw[<- hX];rfl
  have ex:Xb.xe=λ_ _=>False:=by rw[<- hX];rfl
  have hgb:PG Xb tg g:=by rw[<- hX];exact hg _ _ _ _ _
  have htb:PTs Xb ifs tt:=by rw[<- hX];exact ht _ _ _ _ _
  have heb:PE Xb elt te:=by rw[<- hX];exact he _ _ _ _ _
  have stat:∀{H':Hp},(∀b∈fp,H' b=none)->∀b∈fp,FpOk Xb [] H' b:=λ{H'} hn b hb=>by
   obtain⟨o,eo,_⟩:=T.obj _ _ st4 b hb;have q:=I4.ok.exf b (by rw[<- hX];exact hb);exact⟨hn b hb,q.1,I4.ok.exfs b (by rw[<- hX];exact hb),.inl (by rw[<- hX];exact hb),q.2,λp hp=>absurd hp (by rw[<- hX];simp[blk])⟩
  have fr4:∀b∈fp,H3 b=none:=λb hb=>(f3 b hb).1;unfold PG at hgb;unfold PTs at htb;unfold PE at heb;rw[eP,ew,eA,ee,ex] at hgb htb heb;refine jFN (λn z=>∃i σ' H' ys,Inv Xb [] σ' H' z/\tn i z.heap/\(∀b∈fp,H' b=none)/\W i n σ' H' ys) ?_ n0 ⟨0,_,H3,[],I4,st4,fr4,w0⟩;rintro n z ⟨i,σ5,H5,ys,I5,st5,fr5,w5⟩;obtain⟨hD,hlen,way⟩:=turn i n σ5 H5 ys w5;rcases way with ⟨stop,q⟩|⟨go,N,hN,step⟩
  .have R:=T.done Xb eP ew eK ec i [] z σ5 H5 (λ_ _=>False) I5 (stat fr5) st5 stop;rw[eA] at R;refine mo R λr z1 ⟨hr,I6⟩=>?_;subst hr;obtain⟨mm,hn6,_⟩:=I6.loc;rw[ee] at hn6;refine⟨mm,hn6,λh' sb=>?_⟩;have u6:Un (frs X.stack) fp H3 H5 s3.heap z1.heap:=by
    have:=I6.Aq;rw[<- hX] at this;exact this
   have fC:H5 s3.heap.objs.size=none:=by
    have:=I6.free;rw[ee] at this;exact this
   have hok6:HOk X.prog X.w H5 z1.heap:=by
    have:=I6.hok;rw[eP,ew] at this;exact this
   have os6:z1.os=s3.os:=by
    have:=I6.os;rw[<- hX] at this;exact this
   refine⟨.ref s2.heap.objs.size,H5,I3.call' (s':= {z1 with heap:=h'}) (ch:=fp) os6 (u6.sameBut sb (ar _)) (hok6.sameBut sb fC) I6.bare (λb hb=>?_),rfl,q⟩;obtain⟨a0,a1,a2,a3,a4,a5⟩:=f3 b hb;exact⟨a3,a1,a4,a5⟩
  .have R:=T.item Xb eP ew eK ec i [] z σ5 H5 (λ_ _=>False) I5 (stat fr5) st5 go;rw[eA] at R;refine mo R λr z1 ⟨u,hr,h6⟩=>?_;subst hr;refine mo h6 λ_ z2 ⟨y,H7,I7,r7,y7,st7,fr7⟩=>?_;have I7':=I7.pinned (stat fr7) (T.obj _ _ st7);refine mo (hgb _ z2 σ5 H7 y u _ I7' r7 (step y H7 y7)) λ_ z3 ⟨σ8,H8,I8,q8⟩=>?_;refine mo (htb _ z3 σ8 H8 _ I8 q8) λok z4 ⟨H9,I9,q9⟩=>?_;have again:∀{σ7:St}{Hz:Hp}{zz:Shared}{yy:List V}{n':Nat},Inv Xb ([]++jFA fp z2.heap) σ7 Hz zz->n'<n->W (i+1) n' σ7 Hz yy->∃k,k<n/\∃i σ' H' ys,Inv Xb [] σ' H' zz/\tn i zz.heap/\(∀b∈fp,H' b=none)/\W i k σ' H' ys:=λ{σ7 Hz zz yy n'} Iz hn wz=>by
    refine⟨n',hn,i+1,σ7,Hz,yy,Iz.unpinned,T.keep _ _ _ st7 λb hb o e=>(Iz.pin (b,o) (aE _ (aE _ (jAD hb e)))).1,λb hb=>?_,wz⟩;obtain⟨o,e,d⟩:=T.obj _ _ st7 b hb;exact(Iz.pin (b,o) (aE _ (aE _ (jAD hb e)))).2.1
   cases ok with
   |false=>
    obtain⟨n',hn,w9⟩:=hN _ _ _ (show N σ8 H9 ys from q9);exact again I9 hn w9
   |true=>
    refine mo (heb _ z4 σ8 H9 _ I9 q9) λxv z5 ⟨vv,H10,I10,r10,hD10,n10⟩=>?_;obtain⟨n',hn,w10⟩:=hN _ _ _ n10;have R:=jA4 (X:=Xb) _ z5 σ8 H10 (.ref s2.heap.objs.size) [vv] (.ref s2.heap.objs.size) [xv] (λ_ H'=>H'=upd H10 s2.heap.objs.size (.lst (ys++[vv]))) I10 rfl (.cons r10 .nil) ⟨_,ys,vv,rfl,rfl,hD10,hlen,rfl⟩;rw[eP,ew,eA,ex] at R;refine mo R λ_ z6 ⟨_,H11,I11,_,e11⟩=>?_;subst e11;exact again I11 hn w10
 exact codeAny_compStart_list loop (T.self _ 0 _ _ _ st4 loop)
structure RoomS (k:Nat)(A:Around)(x:Addr):Prop where
 hd:A.handled=some (.ref x)
 dp:A.depth+3*k+5<recursionLimit
 un:A.units+16*k+200<cLine
def Room.suite{k:Nat}(r:Room k A)(x:Addr):RoomS k (A.mark (some (.ref x))) x:=⟨rfl,r.dp,r.un⟩
theorem RoomS.deeper{k:Nat}{x:Addr}(r:RoomS (k+1) A x)(env:Env):RoomS k (A.deeper env) x:=
 ⟨r.hd,by have:=r.dp;show A.depth+1+3*k+5<_;lia,by have:=r.un;show A.units+3+16*k+200<_;lia⟩
structure FnS (P:Program)(w:World)(K:W.Frag)(mg:Ak)(Aq:Heap)(k:Nat)(f:Addr)(fd:FuncData)(ps:Am)(sp:Addr->Sp):Prop where
 len:∀x vs H Q E,sp x vs H Q E->vs.length=ps.length
 run:∀(A:Around) (mj:List Env) (s:Shared) (H:Hp) (args:Args) (us:Al) (vs:List V) (Q:VK) (E:XK) (x:Addr),RoomS k A x->Env0 P w K mg Aq A mj s H->BindsTo s fd args (ps.zip us)->Vals vs us->sp x vs H Q E->
  codeAny (model P w) A (.call (.ref f) args) (CR CX0 mj P w H s Q E) s
def cxS(P:Program)(w:World)(K:W.Frag)(mg:Ak)(Aq:Heap)(N:Am)(qual:Str)(scope:Scope)(f:Addr)(cd:Value)(A:Around)(mj:List Env)(s:Shared)(H:Hp)(E:XK):Cx:= { (cxOf CX0 P w K mg Aq N qual scope f cd A mj s H E).nox with calm:=false}
theorem jWZ{mg:Ak}{k:Nat}{x qual:Str}{st:Stmt}{N:Am}{sp:Addr->Sp}(F:Fun K x qual st f fd)(S:FnScope N ps (j8 st))(len:∀x vs H Q E,sp x vs H Q E->vs.length=ps.length)
  (hbody:∀(mn:Value) (A:Around) (mj:List Env) (s:Shared) (H:Hp) (vs:List V) (Q:VK) (E:XK) (x:Addr),RoomS k (A.deeper (envOfC qual (j8 st) s.heap.objs.size f mn)) x->sp x vs H Q E->
   ∃t,PSs (cxS P w K mg Aq N qual (j8 st) f mn A mj s H E) (jE st) t/\t {nx:=λ_ H'=>Q .non H',rt:=Q} (kT N vs) H):
  FnS P w K mg Aq (k+1) f fd ps sp:=by
 obtain⟨oc,od,kV,doc,pm,an,mn,ct,osl,rfl,lk,hcd⟩:=F.ex;refine⟨len,λA mj s H args us vs Q E x hr e0 hb r hsp=>?_⟩;have hl:=len _ _ _ _ _ hsp;have KX:K.In s.heap:=e0.mod.kin.keeps λb o e=>(e0.bs b o e).1;have lim:s.heap.NoLimit:=e0.mod.nolimit.keeps λb o e=>(e0.bs b o e).1;have hkind:∀y∈ps.zip us,(j8 st).names.lookup y.1=some .local\/((j8 st).names.lookup y.1=some .cell/\((cellsFrom (s.heap.objs.size+1) (j8 st).names []).lookup y.1).isSome=true):=λ⟨n,v⟩ hy=>by
  rcases S.par n (dG hy).1 with q|q
  .exact .inl q
  .exact .inr ⟨q,ff _ _ _ (.inl q)⟩
 refine gW (by have:=hr.dp;lia) (KX _ _ lk) rfl S.co S.gen rfl (iM KX hcd) (hb _ _ _ _ ?_);refine fS S.kind hkind λenv he s1 z=>?_;subst he;refine⟨lim.keeps z.toInCall.keep,codeAny_func ?_⟩;obtain⟨t,ht,hq⟩:=hbody mn A mj s H vs Q E x (hr.deeper _) hsp;have J:Inv (cxOf CX0 P w K mg Aq N qual (j8 st) f mn {A with handled:=none} mj s H E) [] (kT N vs) H s1:=jEJ S rfl ⟨e0.frames,e0.mod,e0.bs,e0.bsz,e0.funs,e0.frf,e0.hok,e0.bare⟩ hl r z;have ok:=J.ok;have I:Inv (cxS P w K mg Aq N qual (j8 st) f mn A mj s H E) [] (kT N vs) H s1:=
  ⟨⟨ok.mod,ok.kind,ok.glob,ok.blt,ok.above,ok.inj,ok.has,ok.cab,λz=>(nomatch z),fQ e0.frames,ok.stk,ok.exf,ok.bs,ok.bsz,ok.noex,ok.exfs,ok.funs,ok.frf⟩,J.os,J.bare,J.Aq,J.loc,J.cell,J.free,J.freeC,J.pin,J.hok,J.len⟩
 refine bF (ht [] s1 (kT N vs) H _ I hq) (λfl s' hs=>?_) λe s' hs=>False.elim hs;have fin:∀{σ':St}{H':Hp}{v:V}{u:Value},Inv (cxS P w K mg Aq N qual (j8 st) f mn A mj s H E) [] σ' H' s'->RelV v u->Q v H'->CE mj P w H s Q u s':=
  λ{σ' H' v u} J rv q=>⟨v,H',J.os,J.bare,J.Aq,J.hok,rv,q⟩
 cases fl with
 |ret u=>
  obtain⟨v,σ',H',J,rv,q⟩:=hs;exact fin J rv q
 |next=>
  obtain⟨σ',H',J,q⟩:=hs;exact fin (v:=V.non) (u:=Value.none) J rfl q
 |brk=>
  obtain⟨_,_,_,q⟩:=hs;exact False.elim q
 |cont=>
  obtain⟨_,_,_,q⟩:=hs;exact False.elim q
variable {a:Addr}{p:Pos}
section
variable {k:Nat}{sp:Addr->Sp}
theorem jKV(F:FnS X.prog X.w X.K X.mg X.Aq k f fd ps sp)(hr:RoomS k X.A a)(hg:Gl1 X x)(hm:X.mg x=some (.ref f))(hk:keepIn X.K (.ref f)=true)(hb:Binds X.K fd ps [])
  (ha:JA X (e::es) t) (he:starEach (e::es) X.env=(false,eval e X.env)::starEach es X.env) (hdb:(x==("__debug__":Str))=false:=by decide) (hpl:(backTo pos (starEach es X.env)).any (·.1)=false:=by rfl):
  JE X (.Call (.Name x p) (e::es) [] pos) (tCall (sp a) [] E0 t):=by
 refine⟨λma s σ H Q I h=>?_⟩;refine cC (jBR I hg.a hm ?_ hdb);refine gy (h₀:=X.Aq) I.ok.mod.kin hk (mo (ha.h pos ma s σ H _ I h) λus s1 ⟨vs,H1,I1,r,q⟩=>⟨I1.kIn,?_⟩) he hpl;replace q:sp a (vs++[]) H1 Q E0:=q;rw[aV] at q;have hl:us.length=ps.length:=by rw[<- r.length];exact F.len _ _ _ _ _ q
 have hbb:=hb s1 us I1.kIn (by rw[aV];exact hl);rw[aV] at hbb;refine fe (df (F.run X.A X.stack s1 H1 ⟨us,[]⟩ us vs Q E0 a hr I1.env0 hbb r q) λr s' hq=>?_);cases r with
 |error e=>exact hq.elim
 |ok fl=>
  cases fl with
  |ret u=>exact I1.after hq
  |next=>exact False.elim hq
  |brk=>exact False.elim hq
  |cont=>exact False.elim hq
end
variable {P:Program}{mg:Ak}{Aq:Heap}{N:Am}{qual:Str}{mj:List Env}
section
variable {CX:CXT}{K:W.Frag}{mn:Value}{E:XK}
def gl_x(h:sc.names.lookup x=some .globalImplicit):Gl1 (cxOf CX P w K mg Aq N qual sc f mn A mj s H E).nox x:=⟨h⟩
def jUZ(h:sc.names.lookup x=some .cell):Vis1 (cxOf CX P w K mg Aq N qual sc f mn A mj s H E).nox x:=⟨.inr (.inl h)⟩
theorem gl_s(h:sc.names.lookup x=some .globalImplicit:=by decide+kernel):Gl1 (cxS P w K mg Aq N qual sc f mn A mj s H E) x:=⟨h⟩
theorem qL(h:sc.names.lookup x=some .local:=by decide+kernel):Vis1 (cxS P w K mg Aq N qual sc f mn A mj s H E) x:=⟨.inl h⟩
theorem loc_s(h:sc.names.lookup x=some .local:=by decide+kernel):Loc1 (cxS P w K mg Aq N qual sc f mn A mj s H E) x:=⟨.inl h,.inl rfl⟩
def gl_u(h:Gl1 X x):Gl1 (jAU X a) x:=⟨h.a⟩
def vis_u(h:Vis1 X x):Vis1 (jAU X a) x:=⟨h.a⟩
end
structure JIS (x:Addr)(X:Cx)(tg e:Expr)(t:TI):Prop where
 h:PIS x X tg e t
def jOH(hg:Gl1 X "range")(hm:X.mg "range" =none)(ha:JA X [e] t)(hs:starEach [e] X.env=[(false,eval e X.env)]):JIS a X tg (.Call (.Name "range" p) [e] [] pos) (iRngS a t):=⟨jLN hg.a hm ha.h hs⟩
def jR0{tg iter elt:Expr}{ifs:List Expr}{sc:Scope}{wi:TI}{g:TG}{tt:TT}{te:TE}{m:List (Option Nat)}{Nc:Am}(hc:X.A.handled=some (.ref a))(hi:JIS a X tg iter wi)(hkind:sc.kind=.function)(hcell:∀y∈sc.names,y.2≠.cell)(hnames:∀y∈sc.names,y.2=.local->sc.names.lookup y.1=some .local)
  (hfree:Fq X sc) (hm:qF X sc Nc m)
  (hg:∀cl C fp s H,JG (blk X sc cl C Nc fp s H) tg g) (ht:∀cl C fp s H,JTs (blk X sc cl C Nc fp s H) ifs tt) (he:∀cl C fp s H,JE (blk X sc cl C Nc fp s H) elt te)
  (hs:FoOk iter):JE X (.ListComp elt [⟨tg,iter,ifs,0⟩] sc pos) (tComp m wi g tt te):=⟨jQD hc hi.h hkind hcell hnames hfree hm (λcl C fp s H=>(hg cl C fp s H).h) (λcl C fp s H=>(ht cl C fp s H).h) (λcl C fp s H=>(he cl C fp s H).h) (hs.h _)⟩
abbrev WX:=Addr->Addr->St->Hp->Prop
def RZ(X:Cx)(ma:Ai)(W:WX):Ah:=λev s2=>∃x T C σ2 H2,ev=.ref x/\Inv X ma σ2 H2 s2/\H2 x=none/\H2 T=none/\ExcX s2.heap x C T/\
 (X.s₀.heap.get? x=none/\x≠X.env.locals/\(∀y c,X.env.cells.lookup y=some c->c≠x)/\∀p∈X.pn++ma,p.1≠x)/\(X.s₀.heap.get? T=none/\T≠X.env.locals/\(∀y c,X.env.cells.lookup y=some c->c≠T)/\∀p∈X.pn++ma,p.1≠T)/\W x C σ2 H2
abbrev TEX:=St->Hp->VK->(Addr->Addr->Hp->Prop)->Prop
abbrev TBX:=Ends->WX->St->Hp->Prop
structure JX (X:Cx)(e:Expr)(t:TEX):Prop where
 h:∀(ma:Ai) (s:Shared) (σ:St) (H:Hp) (Q:VK) (W:Addr->Addr->Hp->Prop),Inv X ma σ H s->t σ H Q W->wpAny (model X.prog X.w) X.A (eval e X.env) (EP X ma σ Q) (RZ X ma λx C σ2 H2=>σ2=σ/\W x C H2) s
structure JB (X:Cx)(body:List Stmt)(t:TBX):Prop where
 h:∀(ma:Ai) (s:Shared) (σ:St) (H:Hp) (D:Ends) (W:WX),Inv X ma σ H s->t D W σ H->wpAny (model X.prog X.w) X.A (execs body X.env) (SP X ma D) (RZ X ma W) s
def jV7(C:Addr)(t:TA)(sp:Sp):TEX:=λσ H Q W=>t σ H λvs H1=>sp vs H1 Q λe ox H2=>∀x,e=.ref x->ox=some x->H2 x=none->W x C H2
def bExpr(t:TEX):TBX:=λD W σ H=>t σ H (λ_ H1=>D.nx σ H1) λx C H2=>W x C σ H2
def Dh(D:Ends)(j:Nat):Ends:= {nx:=λσ H=>D.nx (σ.set j none) H,rt:=D.rt,bk:=λσ H=>D.bk (σ.set j none) H,ct:=λσ H=>D.ct (σ.set j none) H}
def tTryB(K:W.Frag)(B:Addr)(j:Nat)(tb:TBX)(ts:Addr->TS):TS:=λD σ H=>tb D (λx C σ2 H2=>Above K C B/\ts x (Dh D j) (σ2.set j (some (.ref x))) (upd H2 x (.ext (excP x C)))) σ H
section
variable {y g:Str}{k:Nat}{te t1:TEX}
def jW9(h:X.xe=λ_ _=>False):X=X.nox:=by
 cases X;cases h;rfl
theorem jOB(F:FnOk X.prog X.w X.K X.mg X.Aq (CXX X.prog X.w C) k f fd ps sp)(hr:Room k X.A)(hg:Gl1 X g)(hm:X.mg g=some (.ref f))(hk:keepIn X.K (.ref f)=true)(hb:Binds X.K fd ps [])(ha0:JA X (e::es) t)(hex:X.ex=[])
  (he:starEach (e::es) X.env=(false,eval e X.env)::starEach es X.env) (hdb:(g==("__debug__":Str))=false:=by decide) (hpl:(backTo cp (starEach es X.env)).any (·.1)=false:=by rfl) (hxe:X.xe=λ_ _=>False:=by rfl):
  JX X (.Call (.Name g gp) (e::es) [] cp) (jV7 C t sp):=by
 have ha:JA X.nox (e::es) t:=jW9 hxe ▸ ha0;refine⟨λma s σ H Q W I h=>cC (jBR I hg.a hm ?_ hdb)⟩;refine gy (h₀:=X.Aq) I.ok.mod.kin hk (bF (ha.h cp ma s σ H _ (I.wish _) h) (λus s1 ⟨vs,H1,I1,r1,q⟩=>⟨I1.unwish.kIn,?_⟩) λ_ _ z=>False.elim z) he hpl;have I1:=I1.unwish;have hl:us.length=ps.length:=by rw[<- r1.length];exact F.len _ _ _ _ q
 have hbb:=hb s1 us I1.kIn (by rw[aV];exact hl);rw[aV] at hbb;refine fe (df (F.run X.A X.stack s1 H1 ⟨us,[]⟩ us vs _ _ hr I1.env0 hbb r1 q) λres s2 hq=>?_);cases res with
 |ok fl=>
  cases fl with
  |ret u=>exact I1.after hq
  |next=>exact False.elim hq
  |brk=>exact False.elim hq
  |cont=>exact False.elim hq
 |error ev=>
  obtain⟨x,T,H2,rfl,os2,bare2,un2,hok2,fx,fT,hx,hT,ex2,q2⟩:=hq;have I2:Inv X ma σ H2 s2:=I1.call' os2 un2 hok2 bare2 λb z=>absurd z Ad;have hT1:s1.heap.get? T=none:=by
   cases z:s1.heap.get? T with
   |none=>rfl
   |some o=>exact absurd (ay z) (Nat.not_lt.mpr fT)
  exact⟨x,T,C,σ,H2,rfl,I2,hx,hT,ex2,I1.apart hex fx,I1.apart hex hT1,rfl,q2 x rfl rfl hx⟩
def RZ.out{ma:Ai}{σ:St}{W':Addr->Addr->Hp->Prop}{W:WX}{ev:Value}{s:Shared}(h:RZ X ma (λx C σ2 H2=>σ2=σ/\W' x C H2) ev s)(k:∀x C H2,W' x C H2->W x C σ H2):RZ X ma W ev s:=by
 obtain⟨x,T,C,σ2,H2,e1,I2,a1,a2,a3,a4,a5,rfl,a6⟩:=h;exact⟨x,T,C,_,H2,e1,I2,a1,a2,a3,a4,a5,k _ _ _ a6⟩
def jON(h:JX X e te)(hs:SwOk e none):JB X [.Expr e rp] (bExpr te):=by
 refine⟨λma s σ H D W I hq=>jn (wpAny_Expr_any (bF (h.h ma s σ H _ _ I hq) (λu s1 ⟨x,H1,I1,r1,q1⟩=>?_) λev s1 z=>z.out λ_ _ _ q=>q) I.quiet (hs.h _ _))⟩;exact fw ⟨σ,H1,I1,q1⟩
theorem Inv.lost{v:Ao}{m:Ak}(I:Inv X ma σ H s)(hN:X.N.Nodup)(hj:X.N[j]?=some n)(ln:X.env.scope.names.lookup n=some .local)(hm:s.heap.Ns X.env.locals m)(hl:∀(i:Nat) (y:Str) (v:V),X.N[i]?=some y->σ[i]?=some (some v)->Vis X.env.scope y->∃u,RelV v u/\Look X.env s.heap m y u)
  (hn:h'.Ns X.env.locals (λx=>if x=n then v else m x)) (sb:Heap.SameBut X.env.locals s.heap h'):Inv X ma (σ.set j none) H {s with heap:=h',toks:=t'}:=by
 refine⟨I.ok,I.os,I.bare,I.Aq.sameBut sb I.ok.above,⟨_,hn,λi y v e1 e2 e3=>?_⟩,λy c e=>?_,I.free,I.freeC,λp hp=>?_,I.hok.sameBut sb I.free,by rw[im];exact I.len⟩
 .have nij:i≠j:=λz=>by
   subst z;by_cases hlt:i<σ.length
   .rw[gH hlt] at e2;cases e2
   .rw[da (by rw[im];lia)] at e2;cases e2
  rw[hV (cZ nij)] at e2;have yn:y≠n:=λz=>by
   subst z;exact nij ((eM (am.mp e1).1 hN).mp (e1.trans hj.symm))
  obtain⟨u,r,l⟩:=hl i y v e1 e2 e3;refine⟨u,r,?_⟩;rcases l with ⟨lk,l⟩|⟨lk,c,hc,o,ho,hd⟩
  .exact .inl ⟨lk,(az yn).trans l⟩
  .exact .inr ⟨lk,c,hc,o,(sb.2 c (I.cne y c hc)).trans ho,hd⟩
 .obtain⟨v,o,ho,hd⟩:=I.cell y c e;exact⟨v,o,(sb.2 c (I.cne y c e)).trans ho,hd⟩
 .obtain⟨e,n,ne,nf,d⟩:=I.pin p hp;exact⟨(sb.2 _ ne).trans e,n,ne,nf,d⟩
theorem jSE{body:List Stmt}{s0:Stmt}{suite:List Stmt}{tb:TBX}{ts:Addr->TS}(hN:X.N.Nodup)(hn:X.N[j]?=some n)(ln:X.env.scope.names.lookup n=some .local)(hb:JB X body tb)
  (hc:Gl1 X c) (hmc:X.mg c=some (.ref B)) (hst:X.stack=X.env::X.mj) (hfr:X.env.frame=some X.env.locals) (hs:∀x,JSs (jAU X x) (s0::suite) (ts x)) (hdc:(c==("__debug__":Str))=false:=by decide):
  JS X (.Try body [.ExceptHandler (some (.Name c np)) (some n) (s0::suite) hp] [] [] tp) (tTryB X.K B j tb ts):=by
 refine⟨λma s σ H D I h=>wpAny_Try_except (bF (hb.h ma s σ H D _ I h) (λfl s1 q=>?_) λev s2 hz=>?_)⟩
 .cases fl with
  |next=>exact fw q
  |brk=>exact q
  |cont=>exact q
  |ret u=>exact q
 .obtain⟨x,T,C,σ2,H2,rfl,I2,hx,hT,ex2,ax,aT,ab,q3⟩:=hz;have fr:=I.ok.frames;have st2:=I2.stack;rw[hst] at fr st2;refine jKE (Aq:=X.Aq) fr st2 hfr ex2 λh3 T3 n3 e3 z3=>?_;have I3:Inv X ma σ2 (upd H2 x (.ext (excP x C))) {s2 with heap:=h3}:=I2.held (by rw[hst];exact n3) e3 hx hT ax aT;refine wpAny_handleBy_cons (codeAny_handlers_test (jBR (X:=jAU X x) (I3.suite x) hc.a hmc ?_ hdc)) (by intro q;cases q);obtain⟨nm,q,nm',q',N,N',bs,bm,bs',bm',hdct,hdct',sn,sn',sub,sub',ab,ab',col,col',dd,dd',k0,k1,k2,k3,k5,j0,j1,j2,j3,j5,ni,ni',b1,b2,hK⟩:=ab;obtain⟨c1,c2⟩:=hK h3 I3.kIn;obtain⟨vs3,_,_,hx3,_⟩:=id e3;refine jQP c1 c2 hx3 rfl b1 b2 ?_;refine codeAny_handlers_suite_as (jJF (s:= {s2 with heap:=h3}) e3 λh4 k4=>?_);have I4:Inv X ma σ2 (upd H2 x (.ext (excP x C))) {s2 with heap:=h4}:=I3.kept (h':=h4) (t':=s2.toks) k4;refine jBY (X:=jAU X x) (v:=.ref x) (I4.suite x) hN hn (.inl ln) rfl (λs5 I5=>?_) (.inr ln);refine bF ((hs x).h ma s5 _ _ (Dh D j) I5 q3) (λfl s6 q6=>?_) λ_ _ z=>False.elim z;have go:∀{σ6:St}{H6:Hp}{Q:Shared->Prop},Inv (jAU X x) ma σ6 H6 s6->(∀s7,Inv X ma (σ6.set j none) H6 s7->Q s7)->wpAny (model X.prog X.w) X.A (do bindName X.env n .none;unbindBehindTheSuite X.env n hp) (λ_ s7=>Q s7) X.xe s6:=λ{σ6 H6 Q} I6 k=>by
   have I6:=I6.unsuite I.ok;obtain⟨m6,hn6,hl6⟩:=id I6.loc;exact wpAny_nameGoes_keeps ln hn6 (by rw[I.ok.kind];rfl) λh7 v hn7 sb7=>k _ (I6.lost hN hn ln hn6 hl6 hn7 sb7)
  cases fl with
  |next=>
   obtain⟨σ6,H6,I6,d6⟩:=q6;exact go I6 λs7 I7=>⟨_,H6,I7,d6⟩
  |brk=>
   obtain⟨σ6,H6,I6,d6⟩:=q6;exact go I6 λs7 I7=>⟨_,H6,I7,d6⟩
  |cont=>
   obtain⟨σ6,H6,I6,d6⟩:=q6;exact go I6 λs7 I7=>⟨_,H6,I7,d6⟩
  |ret u=>
   obtain⟨v,σ6,H6,I6,r6,d6⟩:=q6;exact go I6 λs7 I7=>⟨v,_,H6,I7,r6,d6⟩
end
def nfP(x q:Str)(args:Arguments)(body:List Stmt)(scope:Scope)(cl:Aj)(a c:Addr):Heap->Prop:=λh=>∃doc pm ctv,h.get? a=some (fnMade x q args body scope cl doc pm c ctv)
def ncP(q:Str)(c:Addr):Heap->Prop:=λh=>h.CodeRec (.ref c) q
noncomputable abbrev onePs(pos:Pos)(c:Addr):An:=#[rawInt pos.line,rawInt pos.col,.ref c]
def TabOk(H:Hp)(T:Addr)(pos:Pos)(q:Str):Prop:=H T=some (.tbl #[])\/∃c,H T=some (.tbl (onePs pos c))/\H c=some (.ext (ncP q c))
def ExtT(T:Addr)(H H':Hp):Prop:=∀b o,H b=some o->b≠T->H' b=some o
def qO(Aq:Heap)(mg:Ak):Prop:=∃bm o,mg "__builtins__" =some (.ref bm)/\bm≠builtinsNs/\bm≠mainGlobals/\Aq.get? bm=some o/\o.cls=.type "module" /\o.dict=some builtinsNs/\o.data=.plain
def nfP.stay{scope:Scope}{cl:Aj}{c:Addr}(h1 h2:Heap)(p:nfP x q args body scope cl a c h1)(k:∀o,h1.get? a=some o->h2.get? a=some o):nfP x q args body scope cl a c h2:=by
 obtain⟨d,m,t,e⟩:=p;exact⟨d,m,t,k _ e⟩
def ncP.stay{c:Addr}(h1 h2:Heap)(p:ncP q c h1)(k:∀o,h1.get? c=some o->h2.get? c=some o):ncP q c h2:=by
 obtain⟨c',o,vs,t,e,g,r⟩:=p;cases e;exact⟨c,o,vs,t,rfl,k _ g,r⟩
def ncP.is{q:Str}{c:Addr}{h:Heap}(p:ncP q c h):∃o,h.get? c=some o:=by
 obtain⟨c',o,vs,t,e,g,r⟩:=p;cases e;exact⟨o,g⟩
def tDef(x q:Str)(args:Arguments)(body:List Stmt)(scope:Scope)(cl:Aj)(T:Addr)(pos:Pos)(j:Nat):TS:=λD σ H=>TabOk H T pos q/\∀a c H',H' a=some (.ext (nfP x q args body scope cl a c))->H' c=some (.ext (ncP q c))->H' T=some (.tbl (onePs pos c))->ExtT T H H'->H a=none->D.nx (σ.set j (some (.ref a))) H'
section
variable {σ:St}
def Inv.laidX{h':Heap}{t':Nat}{φ:Heap->Prop}{a:Addr}(I:Inv X ma σ H s)(k:∀b u,s.heap.get? b=some u->h'.get? b=some u)(hp:s.heap.objs.size<=a)(p:φ h')(ho:∃o,h'.get? a=some o)(st:∀h1 h2:Heap,φ h1->(∀o,h1.get? a=some o->h2.get? a=some o)->φ h2):Inv X ma σ (upd H a (.ext φ)) {s with heap:=h',toks:=t'}:=
 I.laid k hp ⟨p,ho,st⟩
def Inv.grown{c:Addr}{ps more:An}{φ:Heap->Prop}(I:Inv X ma σ H s)(hT:H T=some (.tbl ps))(k:Heap.ExtBut T s.heap h')(e:h'.get? T=some {cls:=.none,data:=.fields (ps++more)})
  (hc:s.heap.objs.size<=c) (p:φ h') (ho:∃o,h'.get? c=some o) (st:∀h1 h2:Heap,φ h1->(∀o,h1.get? c=some o->h2.get? c=some o)->φ h2):Inv X ma σ (upd (upd H T (.tbl (ps++more))) c (.ext φ)) {s with heap:=h',toks:=t'}:=by
 have hcn:H c=none:=I.hok.fresh hc;have nT:∀{b:Addr},H b=none->b≠T:=λn z=>by rw[z,hT] at n;cases n
 have cT:T≠c:=λz=>by rw[z,hcn] at hT;cases hT
 have nc:∀{b:Addr}{o:Obj},s.heap.get? b=some o->b≠c:=λq z=>absurd (ay q) (by rw[z];exact Nat.not_lt.mpr hc);have mc:∀{b:Addr}{o:HO},H b=some o->b≠c:=λq=>jC q hcn;refine I.un ⟨λb o q n _ _=>k b o (nT n) q,λb o q n _ _=>⟨o.slots,k b o (nT n) q⟩,λb o q n _=>by rw[jA (nc q),jA (nT n)];exact n,λb o q _=>?_,λb xs q=>?_,λb o u q=>?_,λb qs q=>?_⟩ λb o q=>?_
 .by_cases hb:b=T
  .rw[hb];exact⟨_,e⟩
  .exact⟨o,k b o hb q⟩
 .rw[jA (mc q),jA (λz=>by rw[z,hT] at q;cases q)];exact q
 .rw[jA (mc q),jA (λz=>by rw[z,hT] at q;cases q)];exact q
 .by_cases hb:b=T
  .subst hb;rw[hT] at q;cases q;exact⟨more,by rw[jA cT,j7]⟩
  .exact⟨#[],by rw[jA (mc q),jA hb,q];simp⟩
 .by_cases hb1:b=c
  .subst hb1;rw[j7] at q;cases q;exact⟨p,ho,st⟩
  rw[jA hb1] at q;by_cases hb:b=T
  .subst hb;rw[j7] at q;cases q;exact e
  .rw[jA hb] at q;refine(I.hok b o q).stay (λd u hd z=>k d u ?_ z) (λd z=>?_) λd xs z=>?_
   .rcases hd with rfl|hd
    .exact hb
    .exact λy=>by rw[y,hT] at hd;cases hd
   .rw[jA (mc z),jA (λy=>by rw[y,hT] at z;cases z)];exact z
   .rw[jA (mc z),jA (λy=>by rw[y,hT] at z;cases z)];exact z
def jVJ{scope:Scope}(hN:X.N.Nodup)(hj:X.N[j]?=some x)(lx:Loc X.env.scope x)(hcode:X.env.code=.ref c0)(CH:PySem.W.CodeHd X.Aq c0 T)(hbm:qO X.Aq X.mg)
  (hfree:∀y∈scope.names,y.2=.free->X.env.scope.names.lookup y.1=some .cell\/X.env.scope.names.lookup y.1=some .free) (hdf:defaultsOf args X.env=([],[])) (han:annTrees args none X.env=[])
  (hf:X.fn x=true\/X.env.scope.names.lookup x=some .local:=by first|exact .inl rfl|exact .inr rfl|assumption):
  PS X (.FunctionDef x args body [] none [] scope none x pos) (tDef x (qualnameIn X.env x x) args body scope (jM X.env.cells scope.names []) T pos j):=by
 intro ma s σ H D I h;obtain⟨tab,h⟩:=h;rw[exec_def,hdf,han];refine ae (eQ (ae (bB ?_)));refine ae (aj (ae (bB (aj (bB (ae (aj ?_)))))));have hcl:closureFor scope X.env=pure (jM X.env.cells scope.names []):=jGT λy hy hz=>I.ok.has y.1 (hfree y hy hz);have hg:s.heap.Ns mainGlobals X.mg:=I.mod.glob.keeps I.bk;have C:=CH.keeps I.bk;have gT:∀{ps:An},H T=some (.tbl ps)->mainGlobals≠T:=λhT z=>by
  obtain⟨o,es,ep,e,_⟩:=I.mod.glob;have:=(I.bs _ _ e).2;rw[z,hT] at this;cases this
 have bT:∀{ps:An},H T=some (.tbl ps)->s.heap.BuiltinsAt X.mg T:=λhT=>by
  obtain⟨bm,o,h1,h2,h3,h4,h5,h6,h7⟩:=hbm;refine⟨bm,o,h1,h2,h3,λz=>?_,(I.bs _ _ h4).1,h5,h6,h7⟩;have:=(I.bs _ _ h4).2;rw[z,hT] at this;cases this
 rcases tab with hT|⟨c,hT,hc⟩
 .refine PySem.W.makeFunction_K hcl I.ok.glob hg hcode C (I.hok T _ hT) trivial rfl (gT hT) (bT hT) λc ctv doc h' tk k1 k2 k3 k4 k5=>?_;obtain⟨oc,hoc⟩:=ncP.is (q:=qualnameIn X.env x x) k4;have I1:Inv X ma σ (upd (upd H T (.tbl (#[]++onePs pos c))) c (.ext (ncP (qualnameIn X.env x x) c))) {s with heap:=h',toks:=tk}:=I.grown hT k1 k5 k2 k4 ⟨oc,hoc⟩ ncP.stay;have I2:=I1.laidX (t':=tk) (a:=h'.objs.size) (φ:=nfP x (qualnameIn X.env x x) args body scope (jM X.env.cells scope.names []) h'.objs.size c) (h':=h'.push (fnMade x (qualnameIn X.env x x) args body scope (jM X.env.cells scope.names []) doc ((X.mg "__name__").getD .none) c ctv)) (λb u q=>af _ q) (ar _) ⟨doc,_,ctv,aw _ rfl⟩ ⟨_,aw _ rfl⟩ nfP.stay;have hcn:H c=none:=I.hok.fresh k2;have han:H h'.objs.size=none:=I.hok.fresh (bh k2 (cU k3));have ca:c≠h'.objs.size:=aO k3;have Tc:T≠c:=λz=>by rw[z,hcn] at hT;cases hT
  have Ta:T≠h'.objs.size:=λz=>by rw[z,han] at hT;cases hT
  refine ae (eQ (ae (wpAny_bindName (jBY (v:=.ref h'.objs.size) I2 hN hj lx rfl (λs' I'=>aj ⟨_,_,I',?_⟩) hf))));refine h _ c _ j7 (by rw[jA ca,j7]) (by rw[jA Ta,jA Tc,j7,lS]) (λb o e n=>?_) han;rw[jA (jC e han),jA (jC e hcn),jA n];exact e
 .refine PySem.W.makeFunction_hit (cv:=.ref c) hcl I.ok.glob hg hcode C (I.hok T _ hT) (by exact trivial) (by simp[codeAmong,rawInt]) (bT hT) λctv doc h' tk k1 k2=>?_;have I2:=I.laidX (t':=tk) (a:=h'.objs.size) (φ:=nfP x (qualnameIn X.env x x) args body scope (jM X.env.cells scope.names []) h'.objs.size c) (h':=h'.push (fnMade x (qualnameIn X.env x x) args body scope (jM X.env.cells scope.names []) doc ((X.mg "__name__").getD .none) c ctv)) (λb u q=>af _ (k1 b u q)) k2 ⟨doc,_,ctv,aw _ rfl⟩ ⟨_,aw _ rfl⟩ nfP.stay;have han:H h'.objs.size=none:=I.hok.fresh k2;refine ae (eQ (ae (wpAny_bindName (jBY (v:=.ref h'.objs.size) I2 hN hj lx rfl (λs' I'=>aj ⟨_,_,I',?_⟩) hf))));refine h _ c _ j7 (by rw[jA (jC hc han)];exact hc) (by rw[jA (jC hT han)];exact hT) (λb o e n=>?_) han;rw[jA (jC e han)];exact e
end
def jHO:∀{l:List (Str×β)},(∀v,(x,v)∉l)->l.lookup x=none
 |[],_=>rfl
 | (y,v)::r,h=>by
  rw[bf,bW.mpr (λe=>h v (by rw[e];exact ai))];exact jHO λw hw=>h w (ah _ hw)
def jCT:∀{l m:List (Str×β)},(l++m).lookup x=(l.lookup x).or (m.lookup x)
 |[],_=>rfl
 | (y,v)::r,m=>by
  rw[List.cons_append,bf,bf,jCT];cases x==y<;>rfl
def jF9:∀{ps:Am}{us:Al}{i:Nat}{x:Str}{u:Value},ps.Nodup->ps[i]?=some x->us[i]?=some u->(ps.zip us).reverse.lookup x=some u
 |[],_,_,_,_,_,h,_=>by simp at h
 |_::_,[],_,_,_,_,_,h=>by simp at h
 |p::ps,w::us,0,x,u,nd,h1,h2=>by
  simp at h1 h2;subst h1 h2;rw[fg,List.reverse_cons,jCT,jHO λv hv=>(bS.mp nd).1 (dG (List.mem_reverse.mp hv)).1,bf,g0];rfl
 |p::ps,w::us,i+1,x,u,nd,h1,h2=>by
  rw[fg,List.reverse_cons,jCT,jF9 (i:=i) (bS.mp nd).2 (by simpa using h1) (by simpa using h2)];rfl
noncomputable def cxN(P:Program)(w:World)(K:W.Frag)(mg:Ak)(Aq:Heap)(N:Am)(qual:Str)(scope:Scope)(f:Addr)(cd:Value)(cl:Aj)(A:Around)(mj:List Env)(s:Shared)(H:Hp):Cx where
 prog:=P
 w:=w
 K:=K
 mg:=mg
 Aq:=Aq
 A:=A.deeper (envX qual scope s.heap.objs.size f cd cl)
 N:=N
 s₀:=s
 H₀:=H
 env:=envX qual scope s.heap.objs.size f cd cl
 mj:=mj
 stack:=envX qual scope s.heap.objs.size f cd cl::mj
 ex:=[]
 calm:=true
 fn:=λ_=>false
 pn:=[]
 xe:=λ_ _=>False
structure ClOk (cl:Aj)(s:Shared)(H:Hp):Prop where
 inj:∀x y c,cl.lookup x=some c->cl.lookup y=some c->x=y
 cell:∀x c,cl.lookup x=some c->(∃v,s.heap.IsCell c v)/\H c=none
def FvOk(fs:Am)(fv:List V)(cl:Aj)(s:Shared):Prop:=fv.length=fs.length/\∀(i:Nat) (x:Str) (v:V),fs[i]?=some x->fv[i]?=some v->∃c u,cl.lookup x=some c/\RelV v u/\s.heap.IsCell c (some u)
structure NScope (N ps fs:Am)(sc:Scope):Prop where
 kind:sc.kind=.function
 co:sc.isCoroutine=false
 gen:sc.isGenerator=false
 nd:N.Nodup
 pre:N.take (ps.length+fs.length)=ps++fs
 par:∀x∈ps,sc.names.lookup x=some .local
 fre:∀x∈fs,sc.names.lookup x=some .free
 all:∀x,sc.names.lookup x=some .free->x∈fs
 nocell:∀y∈sc.names,y.2≠.cell
def yN(N:Am)(vs fv:List V):St:=kT N (vs++fv)
variable {scope:Scope}{cd:Value}{cl:Aj}{fv:List V}
section
variable {K:W.Frag}{fs:Am}{us:Al}{vs:List V}
theorem jFK{h1:Heap}{tk:Nat}(S:NScope N ps fs scope)(hd:A.handled=none)(e0:Env0 P w K mg Aq A mj s H)(hl:us.length=ps.length)(r:Vals vs us)(C:ClOk cl s H)(Fv:FvOk fs fv cl s)
  (ns:h1.Ns s.heap.objs.size λx=>(ps.zip us).reverse.lookup x) (hk:∀b o,s.heap.get? b=some o->h1.get? b=some o):
  Inv (cxN P w K mg Aq N qual scope f cd cl A mj s H) [] (yN N vs fv) H {s with heap:=h1,toks:=tk}:=by
 have hpl:ps.length+fs.length<=N.length:=by have:=ce List.length S.pre;rw[bO,aI] at this;lia
 have noA:∀b:Addr,b∉(cxN P w K mg Aq N qual scope f cd cl A mj s H).ex:=λb z=>absurd (show b∈([]:List Addr) from z) Ad;have vl:vs.length=ps.length:=r.length.trans hl;refine⟨⟨e0.mod,S.kind,rfl,rfl,ar _,C.inj,λy hy=>?_,λy c z=>(nomatch z),λ_=>hd,fQ e0.frames,.inr ⟨rfl,rfl⟩,λb z=>absurd z (noA b),e0.bs,e0.bsz,λb _ _=>noA b,λb z=>absurd z (noA b),e0.funs,e0.frf⟩,
  rfl,e0.bare,Un.kept hk,⟨_,ns,λi y v h1' h2 h3=>?_⟩,λy c h=>?_,e0.hok.fresh (ar _),λy c h=>(C.cell y c h).2,λp hp=>absurd (show p∈([]:Ai) from hp) Ad,e0.hok.kept hk,?_⟩
 .have hy:scope.names.lookup y=some .cell\/scope.names.lookup y=some .free:=hy;rcases hy with hy|hy
  .exact absurd rfl (S.nocell _ (bG hy))
  .have m:=S.all y hy;obtain⟨i,hi⟩:=bL m;have hi2:i<fv.length:=by rw[Fv.1];exact(am.mp hi).1
   obtain⟨c,u,e,_⟩:=Fv.2 i y fv[i] hi (by simp[hi2]);exact⟨c,e⟩
 .have h1':N[i]?=some y:=h1';have hlen:(vs++fv).length=ps.length+fs.length:=by rw[aI,vl,Fv.1]
  have hi:i<(vs++fv).length:=by
   unfold yN kT at h2;by_cases hi:i<(vs++fv).length
   .exact hi
   .rw[bw (by simpa using hi)] at h2;rw[jo] at h2;split at h2<;>cases h2
  have hv:(vs++fv)[i]?=some v:=by
   unfold yN kT at h2;rw[cf (by simpa using hi),aX] at h2;cases e:(vs++fv)[i]? with
   |none=>rw[e] at h2;cases h2
   |some a=>rw[e] at h2;cases h2;rfl
  have hy:(ps++fs)[i]?=some y:=by
   rw[<- S.pre,cG Aa];exact h1'
  by_cases hi1:i<ps.length
  .rw[cf hi1] at hy;rw[cf Aa] at hv;obtain⟨u,hu,rv⟩:=r.get hv;have ndP:ps.Nodup:=by
    have:(ps++fs).Nodup:=by rw[<- S.pre];exact S.nd.sublist (eJ _ _)
    exact(fE.mp this).1
   exact⟨u,rv,.inl ⟨S.par y (aQ hy),jF9 ndP hy hu⟩⟩
  .rw[bw Aa] at hy;rw[bw Aa,vl] at hv;obtain⟨c,u,e,rv,o,ho,hd⟩:=Fv.2 _ y v hy hv;exact⟨u,rv,.inr ⟨.inr (S.fre y (aQ hy)),c,e,o,hk _ _ ho,hd⟩⟩
 .obtain⟨⟨v,o,ho,hd⟩,_⟩:=C.cell y c h;exact⟨v,o,hk _ _ ho,hd⟩
 .unfold yN kT;show _=N.length;rw[aI,ag,lc,aI,vl,Fv.1];lia
end
structure FnN (P:Program)(w:World)(K:W.Frag)(mg:Ak)(Aq:Heap)(k:Nat)(x q:Str)(args:Arguments)(body:List Stmt)(scope:Scope)(ps fs:Am)(sp:List V->Sp):Prop where
 len:∀fv vs H Q E,sp fv vs H Q E->vs.length=ps.length
 run:∀(A:Around) (mj:List Env) (s:Shared) (H:Hp) (a c:Addr) (cl:Aj) (us:Al) (vs fv:List V) (Q:VK) (E:XK),Room k A->Env0 P w K mg Aq A mj s H->nfP x q args body scope cl a c s.heap->ncP q c s.heap->ClOk cl s H->FvOk fs fv cl s->Vals vs us->sp fv vs H Q E->
  codeAny (model P w) A (.call (.ref a) ⟨us,[]⟩) (CR CX0 mj P w H s Q E) s
def jX0{k:Nat}{fs:Am}{sp:List V->Sp}(S:NScope N ps fs scope)(len:∀fv vs H Q E,sp fv vs H Q E->vs.length=ps.length)
  (hb:∀cl doc pm c ctv (us:Al),us.length=ps.length->bindArgs (PySem.W.fnX x q args body scope cl .none .none doc pm none (.ref c) ctv) ⟨us,[]⟩=pure (ps.zip us))
  (hbody:∀(A:Around) (mj:List Env) (s:Shared) (H:Hp) (a c:Addr) (cl:Aj) (vs fv:List V) (Q:VK) (E:XK),Room k (A.deeper (envX q scope s.heap.objs.size a (.ref c) cl))->sp fv vs H Q E->
   ∃t,PSs (cxN P w K mg Aq N q scope a (.ref c) cl A mj s H) body t/\t {nx:=λ_ H'=>Q .non H',rt:=Q} (yN N vs fv) H):
  FnN P w K mg Aq (k+1) x q args body scope ps fs sp:=by
 refine⟨len,λA mj s H a c cl us vs fv Q E hr e0 hf hc C Fv r hsp=>?_⟩;have hl:us.length=ps.length:=r.length.symm.trans (len _ _ _ _ _ hsp);obtain⟨doc,pm,ctv,ho⟩:=hf;have lim:s.heap.NoLimit:=e0.mod.nolimit.keeps λb o e=>(e0.bs b o e).1;refine codeAny_call_def (body:=body) (binds:=ps.zip us) hr.depth ho rfl lim hc rfl (.of_eq (hb cl doc pm c ctv us hl)) S.nocell (λy hy=>S.par y.1 (dG hy).1) (λh1 ns hk=>?_) S.co S.gen S.kind;obtain⟨t,ht,hq⟩:=hbody A mj s H a c cl vs fv Q E (hr.deeper _) hsp;have I:Inv (cxN P w K mg Aq N q scope a (.ref c) cl A mj s H) [] (yN N vs fv) H {s with heap:=h1,toks:=s.toks+(ps.zip us).length}:=jFK S hr.hd e0 hl r C Fv ns hk;refine bF (ht [] _ (yN N vs fv) H _ I hq) (λfl s' hs=>?_) λe s' hs=>False.elim hs;have fin:∀{σ':St}{H':Hp}{v:V}{u:Value},Inv (cxN P w K mg Aq N q scope a (.ref c) cl A mj s H) [] σ' H' s'->RelV v u->Q v H'->CE mj P w H s Q u s':=
  λ{σ' H' v u} J rv q=>⟨v,H',J.os,J.bare,J.Aq,J.hok,rv,q⟩
 cases fl with
 |ret u=>
  obtain⟨v,σ',H',J,rv,q⟩:=hs;exact fin J rv q
 |next=>
  obtain⟨σ',H',J,q⟩:=hs;exact fin (v:=V.non) (u:=Value.none) J rfl q
 |brk=>
  obtain⟨_,_,_,q⟩:=hs;exact False.elim q
 |cont=>
  obtain⟨_,_,_,q⟩:=hs;exact False.elim q
def jDM(σ:St)(is:List Nat)(fv:List V):Prop:=is.map (λi=>(σ[i]?).getD none)=fv.map some
def tNest(σ0:Option St)(j:Nat)(is:List Nat)(x q:Str)(args:Arguments)(body:List Stmt)(scope:Scope)(cl:Aj)(sp:List V->Sp)(t:TA):TE:=λσ H Q=>∃a,σ[j]?=some (some (.ref a))/\t σ H λvs H1=>∃c fv,H1 a=some (.ext (nfP x q args body scope cl a c))/\H1 c=some (.ext (ncP q c))/\jDM (σ0.getD σ) is fv/\sp fv vs H1 Q E0
section
variable {σ:St}{fs:Am}{is:List Nat}
def FsAt(X:Cx)(fs:Am)(is:List Nat):Prop:=is.length=fs.length/\∀(k:Nat) (x:Str),fs[k]?=some x->∃i,is[k]?=some i/\X.N[i]?=some x/\(X.env.scope.names.lookup x=some .cell\/X.env.scope.names.lookup x=some .free)
def Inv.clOk(I:Inv X ma σ H s)(hfree:∀y∈scope.names,y.2=.free->X.env.scope.names.lookup y.1=some .cell\/X.env.scope.names.lookup y.1=some .free):ClOk (jM X.env.cells scope.names []) s H:=by
 have sub:∀x c,(jM X.env.cells scope.names []).lookup x=some c->X.env.cells.lookup x=some c:=jAE scope.names [] (λy hy hf=>I.ok.has y.1 (hfree y hy hf)) (λx c e=>by cases e);exact⟨λx y c h1 h2=>I.ok.inj x y c (sub x c h1) (sub y c h2),λx c h=>⟨I.cell x c (sub x c h),I.freeC x c (sub x c h)⟩⟩
def Inv.fvOk(I:Inv X ma σ H s)(hfree:∀y∈scope.names,y.2=.free->X.env.scope.names.lookup y.1=some .cell\/X.env.scope.names.lookup y.1=some .free)(hfs:∀x∈fs,scope.names.lookup x=some .free)(ha:FsAt X fs is)(hs:jDM σ is fv):FvOk fs fv (jM X.env.cells scope.names []) s:=by
 have hl:fv.length=fs.length:=by
  have:=ce List.length hs;rw[ag,ag] at this;rw[<- this,ha.1]
 refine⟨hl,λk x v h1 h2=>?_⟩;obtain⟨i,hi,hN,hk⟩:=ha.2 k x h1;have e:(σ[i]?).getD none=some v:=by
  have:=ce (λl=>l[k]?) hs;simp only[aX,hi,h2,map_some] at this;exact bA this
 have e2:σ[i]?=some (some v):=by
  cases q:σ[i]? with
  |none=>rw[q] at e;cases e
  |some z=>rw[q] at e;exact ce some e
 obtain⟨m,hn,hl⟩:=I.loc;obtain⟨u,r,l⟩:=hl i x v hN e2 (.inr hk);obtain⟨c,hc⟩:=jAR (cells:=X.env.cells) (x:=x) scope.names [] (.inl (jAO (hfs x (aQ h1))));have sub:=jAE (cells:=X.env.cells) scope.names [] (λy hy hf=>I.ok.has y.1 (hfree y hy hf)) (λx c e=>by cases e) x c hc;rcases l with ⟨lk,_⟩|⟨_,c',hc',z⟩
 .have lk':X.env.scope.names.lookup x=some .local:=lk;rcases hk with z|z<;>rw[lk'] at z<;>cases z
 .rw[sub] at hc';cases hc';exact⟨c,u,hc,r,z⟩
end
section
variable {k:Nat}{q:Str}{args:Arguments}{body:List Stmt}{fs:Am}{is:List Nat}{sp:List V->Sp}
def jK3{Y:Cx}{ma:Ai}{σ:St}{H:Hp}{s:Shared}{Q:VK}{cl:Aj}{a c:Addr}{us:Al}{vs fv:List V}(F:FnN Y.prog Y.w Y.K Y.mg Y.Aq k x q args body scope ps fs sp)(hr:Room k Y.A)(I:Inv Y ma σ H s)(h1:H a=some (.ext (nfP x q args body scope cl a c)))(h2:H c=some (.ext (ncP q c)))(C:ClOk cl s H)(Fv:FvOk fs fv cl s)(r:Vals vs us)(hs:sp fv vs H Q E0):
  wpAny (model Y.prog Y.w) Y.A (call (.ref a) us) (EP Y ma σ Q) Y.xe s:=by
 obtain⟨p1,_,_⟩:=(show ObjOk Y.prog Y.w H s.heap a (.ext _) from I.hok a _ h1);obtain⟨p2,_,_⟩:=(show ObjOk Y.prog Y.w H s.heap c (.ext _) from I.hok c _ h2);refine fe (df (F.run Y.A Y.stack s H a c cl us vs fv Q E0 hr I.env0 p1 p2 C Fv r hs) λr s' hq=>?_);cases r with
 |error e=>exact hq.elim
 |ok fl=>
  cases fl with
  |ret u=>exact I.after hq
  |next=>exact False.elim hq
  |brk=>exact False.elim hq
  |cont=>exact False.elim hq
def jP0{Y:Cx}{c:Addr}(I:Inv Y ma σ H s)(h1:H a=some (.ext (nfP x q args body scope cl a c))):PySem.W.FnAt a s.heap:=by
 obtain⟨⟨d,m,t,e⟩,_,_⟩:=(show ObjOk Y.prog Y.w H s.heap a (.ext _) from I.hok a _ h1);exact⟨_,_,_,_,e⟩
theorem jU9(F:FnN X.prog X.w X.K X.mg X.Aq k x q args body scope ps fs sp)(hr:Room k X.A)(hN:X.N[j]?=some x)(hv:Vis1 X x)(hfree:∀y∈scope.names,y.2=.free->X.env.scope.names.lookup y.1=some .cell\/X.env.scope.names.lookup y.1=some .free)(hfs:∀x∈fs,scope.names.lookup x=some .free)(hat:FsAt X fs is)
  (ha:JA X (e::es) t) (he:starEach (e::es) X.env=(false,eval e X.env)::starEach es X.env) (hdb:(x==("__debug__":Str))=false:=by decide) (hcd:(x==("__classdict__":Str))=false:=by decide) (hpl:(backTo pos (starEach es X.env)).any (·.1)=false:=by rfl):
  JE X (.Call (.Name x p) (e::es) [] pos) (tNest none j is x q args body scope (jM X.env.cells scope.names []) sp t):=by
 refine⟨λma s σ H Q I h=>?_⟩;obtain⟨a,hj,h⟩:=h;refine cC (mo (jHG (pos:=p) hN hv.a hdb hcd ma s σ H (λv H'=>v=.ref a/\H'=H) I ⟨_,hj,rfl,rfl⟩) λv s1 ⟨v',H1,I1,r1,q1,q2⟩=>?_);subst q1 q2;cases (show v=Value.ref a from r1);have hX:=mo (ha.h pos ma s1 σ H1 _ I1 h) λus s2 (z:AP X ma σ _ us s2)=>show PySem.W.FnAt a s2.heap/\wpAny (model X.prog X.w) X.A (call (.ref a) ([]++us)) (EP X ma σ Q) X.xe s2 from by
  obtain⟨vs,H2,I2,r,c,fv,h1,h2,h3,h4⟩:=z;exact⟨jP0 I2 h1,jK3 F hr I2 h1 h2 (I2.clOk hfree) (I2.fvOk hfree hfs hat h3) r h4⟩
 rw[he] at hX ⊢;exact ix (by show ((false || (backTo pos (starEach es X.env)).any (·.1)) ||false)=false;rw[hpl];rfl) kn (dP hX)
theorem jQX{sc:Scope}{cl:Aj}{C:Addr}{Nc:Am}{fp:List Addr}{s0:Shared}{H0:Hp}{ma0:Ai}{σ0:St}(I0:Inv X ma0 σ0 H0 s0)(hfp:∀b∈fp,FpOk X ma0 H0 b)
  (F:FnN X.prog X.w X.K X.mg X.Aq k x q args body scope ps fs sp) (hr:Room k X.A) (hN:Nc[j]?=some x) (hv:Vis1 (blk X sc cl C Nc fp s0 H0) x) (hfree:∀y∈scope.names,y.2=.free->X.env.scope.names.lookup y.1=some .cell\/X.env.scope.names.lookup y.1=some .free) (hfs:∀x∈fs,scope.names.lookup x=some .free) (hat:FsAt X fs is)
  (ha:JA (blk X sc cl C Nc fp s0 H0) (e::es) t) (he:starEach (e::es) (blk X sc cl C Nc fp s0 H0).env=(false,eval e (blk X sc cl C Nc fp s0 H0).env)::starEach es (blk X sc cl C Nc fp s0 H0).env) (hdb:(x==("__debug__":Str))=false:=by decide) (hcd:(x==("__classdict__":Str))=false:=by decide) (hpl:(backTo pos (starEach es (blk X sc cl C Nc fp s0 H0).env)).any (·.1)=false:=by rfl):
  JE (blk X sc cl C Nc fp s0 H0) (.Call (.Name x p) (e::es) [] pos) (tNest (some σ0) j is x q args body scope (jM X.env.cells scope.names []) sp t):=by
 have sub:∀x c,(jM X.env.cells scope.names []).lookup x=some c->X.env.cells.lookup x=some c:=jAE scope.names [] (λy hy hf=>I0.ok.has y.1 (hfree y hy hf)) (λx c e=>by cases e);have nfp:∀{x c},X.env.cells.lookup x=some c->c∉fp:=λ{x c} h z=>(hfp c z).2.2.2.2.1 x c h rfl;refine⟨λma s σ H Q I h=>?_⟩;obtain⟨a,hj,h⟩:=h;refine cC (mo (jHG (pos:=p) (show (blk X sc cl C Nc fp s0 H0).N[j]?=some x from hN) hv.a hdb hcd ma s σ H (λv H'=>v=.ref a/\H'=H) I ⟨_,hj,rfl,rfl⟩) λv s1 ⟨v',H1,I1,r1,q1,q2⟩=>?_);subst q1 q2;cases (show v=Value.ref a from r1);have hX:=mo (ha.h pos ma s1 σ H1 _ I1 h) λus s2 (z:AP (blk X sc cl C Nc fp s0 H0) ma σ _ us s2)=>show PySem.W.FnAt a s2.heap/\wpAny (model X.prog X.w) X.A (call (.ref a) ([]++us)) (EP (blk X sc cl C Nc fp s0 H0) ma σ Q) (blk X sc cl C Nc fp s0 H0).xe s2 from by
  obtain⟨vs,H2,I2,r,c,fv,h1,h2,h3,h4⟩:=z;have un:Un (frs X.stack) fp H0 H2 s0.heap s2.heap:=I2.Aq;have cellK:∀{y d v},X.env.cells.lookup y=some d->s0.heap.IsCell d v->s2.heap.IsCell d v:=λ{y d v} hd ⟨o,ho,hq⟩=>by
   obtain⟨sl,e⟩:=un.any ho (I0.freeC y d hd) (nfp hd);exact⟨_,e,hq⟩
  have C0:=I0.clOk hfree;obtain⟨f1,f2⟩:=I0.fvOk hfree hfs hat h3;refine⟨jP0 I2 h1,jK3 (Y:=blk X sc cl C Nc fp s0 H0) F hr I2 h1 h2 ⟨C0.inj,λy d hd=>?_⟩ ⟨f1,λi y v e1 e2=>?_⟩ r h4⟩
  .obtain⟨⟨v,z⟩,n⟩:=C0.cell y d hd;obtain⟨o,ho,hq⟩:=id z;exact⟨⟨v,cellK (sub y d hd) z⟩,un.free d o ho n (nfp (sub y d hd))⟩
  .obtain⟨d,u,g1,g2,g3⟩:=f2 i y v e1 e2;exact⟨d,u,g1,g2,cellK (sub y d g1) g3⟩
 rw[he] at hX ⊢;exact ix (by show ((false || (backTo pos (starEach es (blk X sc cl C Nc fp s0 H0).env)).any (·.1)) ||false)=false;rw[hpl];rfl) kn (dP hX)
end
def jRU(m:List (Option Nat))(wi:TI)(g:TG)(tt:TT)(te:St->TE):TE:=λσ H Q=>wi σ H (qK m g tt (te σ) σ Q)
section
variable {te:St->TE}
def jQE(hc:X.calm=true)(hi:PI X tg iter wi)(hkind:sc.kind=.function)(hcell:∀y∈sc.names,y.2≠.cell)(hnames:∀y∈sc.names,y.2=.local->sc.names.lookup y.1=some .local)
  (hfree:Fq X sc) (hm:qF X sc Nc m)
  (hg:∀cl C fp s H,PG (blk X sc cl C Nc fp s H) tg g) (ht:∀cl C fp s H,PTs (blk X sc cl C Nc fp s H) ifs tt) (he:∀cl C fp s H ma σ,Inv X ma σ H s->(∀b∈fp,FpOk X ma H b)->PE (blk X sc cl C Nc fp s H) elt (te σ))
  (hs:∀x,foldedSetIterable iter X.env x=pure x:=by intro _;rfl):PE X (.ListComp elt [⟨tg,iter,ifs,0⟩] sc pos) (jRU m wi g tt te):=by
 intro ma s σ H Q I h;rw[eval_ListComp];exact jGS (tf:=te) (use:=none) hc hi hkind hcell hnames hfree hm hg ht he hs I h (λD C H5 z1 r ⟨mm,hn⟩ fC sb q=>⟨mm,hn,λh' s2=>⟨.ref D,H5,sb h' s2,rfl,q⟩⟩)
def jR1(hc:X.calm=true)(hi:JI X tg iter wi)(hkind:sc.kind=.function)(hcell:∀y∈sc.names,y.2≠.cell)(hnames:∀y∈sc.names,y.2=.local->sc.names.lookup y.1=some .local)
  (hfree:Fq X sc) (hm:qF X sc Nc m)
  (hg:∀cl C fp s H,JG (blk X sc cl C Nc fp s H) tg g) (ht:∀cl C fp s H,JTs (blk X sc cl C Nc fp s H) ifs tt) (he:∀cl C fp s H ma σ,Inv X ma σ H s->(∀b∈fp,FpOk X ma H b)->JE (blk X sc cl C Nc fp s H) elt (te σ))
  (hs:FoOk iter):JE X (.ListComp elt [⟨tg,iter,ifs,0⟩] sc pos) (jRU m wi g tt te):=⟨jQE hc hi.h hkind hcell hnames hfree hm (λcl C fp s H=>(hg cl C fp s H).h) (λcl C fp s H=>(ht cl C fp s H).h) (λcl C fp s H ma σ I f=>(he cl C fp s H ma σ I f).h) (hs.h _)⟩
end
def jX9(Ts:List Addr)(H:Hp):Prop:=∀b,H b=none\/(∃o xs,H b=some (.frz o (.lst xs)))\/b∈Ts
def jLX{cts:List (Addr×Addr)}{mb:Ak}{CX:CXT}{k:Nat}{fa:Addr}{x:Str}{s₁:Shared}{vs:Al}{ns:Ag}
  (KX:K.In s₁.heap) (hns:s₁.heap.Ns mainGlobals mg) (hb:s₁.heap.Ns builtinsNs mb) (hbb:∀x:Str,x≠"__name__" ->mb x=bootBuiltins x) (hlim:s₁.heap.NoLimit) (hg:s₁.gens=#[])
  (ha:s₁.heap.get? a=some {cls:=.type "list",data:=.seq vs.toArray}) (hi:IntsAre vs ns) (hl:ns.length<=sizeLine) (hr:Room k callerA) (hT:∀T∈cts.map (·.2),s₁.heap.get? T=some (tabObj #[])) (CH:∀p∈cts,PySem.W.CodeHd s₁.heap p.1 p.2) (hKT:∀T∈cts.map (·.2),K.lookup T=none)
  (F:∀Aq:Heap,K.In Aq->Aq.Ns mainGlobals mg->FnOk P w K mg Aq CX k fa fd [x] sp) (hbind:∀(s:Shared) (u:Value),BindsTo s fd ⟨[u],[]⟩ [(x,u)])
  (hsp:∀H:Hp,(∀T∈cts.map (·.2),H T=some (.tbl #[]))->SqL K H a (ns.map V.int)->sp [.ref a] H (λv _=>v=.bl true) λ_ _ _=>False)
  (hCX:∀H e s',CX [] H s₁ (λ_ _ _=>False) e s'->False):
  codeAny (model P w) callerA (.call (.ref fa) ⟨[.ref a],[]⟩) (λr s'=>r=.ok (.ret (.bool true))/\OldK s₁.heap s'.heap/\s'.os=s₁.os/\AllBare s'.gens) s₁:=by
 have rv:=jH0 hi;have lenV:=hi.length;have core:∀H:Hp,jX9 (cts.map (·.2)) H->(∀T∈cts.map (·.2),H T=some (.tbl #[]))->SqL K H a (ns.map V.int)->HOk P w H s₁.heap->(∀b,H b≠none->b=a\/b∈cts.map (·.2))->(H a≠none->K.lookup a=none)->
   codeAny (model P w) callerA (.call (.ref fa) ⟨[.ref a],[]⟩) (λr s'=>r=.ok (.ret (.bool true))/\OldK s₁.heap s'.heap/\s'.os=s₁.os/\AllBare s'.gens) s₁:=by
  intro H hO hHT hS hok hA hK;have base_of:∀{b:Addr}{o:Obj},s₁.heap.get? b=some o->H b=none->(hidT s₁.heap H).get? b=some o:=λe n=>jR3 e n;have noA:∀{b:Addr}{o:Obj}{es:Array DictEntry}{ep:Nat},s₁.heap.get? b=some o->o.data=.dict es ep->H b=none:=λ{b o es ep} e d=>by
   cases q:H b with
   |none=>rfl
   |some u=>
    rcases hA b (by rw[q];simp) with e'|e'
    .subst e';rw[ha] at e;cases e;have d':Data.seq vs.toArray _=Data.dict es ep:=d;cases d'
    .rw[hT b e'] at e;cases e;have d':Data.fields _=Data.dict es ep:=d;cases d'
  have nsK:∀{b:Addr}{m:Ak},s₁.heap.Ns b m->(hidT s₁.heap H).Ns b m:=λ{b m} ⟨o,es,ep,e,d,r⟩=>⟨o,es,ep,base_of e (noA e d),d,r⟩;have hKb:K.In (hidT s₁.heap H):=λb o e=>base_of (KX b o e) (by
   cases q:H b with
   |none=>rfl
   |some u=>
    rcases hA b (by rw[q];simp) with e'|e'
    .subst e';rw[hK (by rw[q];simp)] at e;cases e
    .rw[hKT b e'] at e;cases e)
  have hM:Mod K mg (hidT s₁.heap H):=⟨hKb,nsK hns,⟨mb,nsK hb,hbb⟩,let ⟨mc,h1,h2⟩:=hlim;⟨mc,nsK h1,h2⟩⟩;have e0:Env0 P w K mg (hidT s₁.heap H) callerA [] s₁ H:=⟨rfl,hM,λb o e=>jU0 e,Nat.le_of_eq (jOU _ _),trivial,λb hb=>absurd (show b∈([]:List Addr) from hb) Ad,hok,.of_eq hg⟩;refine df ((F _ hKb (nsK hns)).run callerA [] s₁ H ⟨[.ref a],[]⟩ [.ref a] [.ref a] _ _ hr e0 (hbind s₁ (.ref a)) (.cons rfl .nil) (hsp H hHT hS)) λr s' h=>?_;cases r with
  |error e=>exact(hCX H e s' h).elim
  |ok fl=>
   cases fl with
   |next=>exact False.elim h
   |brk=>exact False.elim h
   |cont=>exact False.elim h
   |ret u=>
    obtain⟨v,H',os,bare,un,hok',r',q⟩:=h;have q':v=.bl true:=q;subst q';obtain rfl:u=Value.bool true:=r';have gr:∀T∈cts.map (·.2),∃more,s'.heap.get? T=some (tabObj (#[]++more)):=λT hTm=>by
     obtain⟨more,z⟩:=un.tbls T _ (hHT T hTm);exact⟨more,hok' T _ z⟩
    have kp:∀b o,b∉cts.map (·.2)->s₁.heap.get? b=some o->s'.heap.get? b=some o:=λb o hbT e=>?_
    .refine⟨rfl,⟨λb o e=>?_,λb o e=>?_⟩,os,bare⟩
     .by_cases hb:b∈cts.map (·.2)
      .obtain⟨p,hp,rfl⟩:=aZ.mp hb;have q:=hT _ hb;rw[q] at e;cases e;obtain⟨more,z⟩:=gr _ hb;exact .inr (.inl ⟨((CH p hp).tab q).isCodeTable,rfl,#[],more,rfl,z⟩)
      .exact .inl (kp b o hb e)
     .by_cases hb:b∈cts.map (·.2)
      .obtain⟨more,z⟩:=gr _ hb;exact⟨_,z⟩
      .exact⟨o,kp b o hb e⟩
    cases q:H b with
    |none=>exact un.keep b o e q (by intro z;exact absurd (show b∈([]:List Addr) from z) Ad) Ad
    |some u=>
     rcases hO b with z|⟨ob,xs,z⟩|z
     .rw[q] at z;cases z
     .have z2:=un.frzs b ob _ z;obtain⟨e1,_⟩:=hok b _ z;obtain⟨e2,_⟩:=hok' b _ z2;rw[e] at e1;cases e1;exact e2
     .exact absurd z hbT
 have aT:a∉cts.map (·.2):=λz=>by rw[hT a z] at ha;cases ha
 cases hk:K.lookup a with
 |some o=>
  have e:=KX a o hk;rw[ha] at e;cases e;refine core (λb=>if b∈cts.map (·.2) then some (.tbl #[]) else none) (λb=>?_) (λT hm=>aA hm) (.inr ⟨_,vs.toArray,_,hk,rfl,rfl,rfl,by rw[aq,lenV];exact hl,by simpa using rv⟩) (λb u z=>?_) (λb z=>?_) λz=>absurd (az aT) z
  .by_cases hb:b∈cts.map (·.2)
   .exact .inr (.inr hb)
   .exact .inl (az hb)
  .by_cases hb:b∈cts.map (·.2)
   .have z':=(aA hb).symm.trans z;cases z';exact hT b hb
   .have z':=(az hb).symm.trans z;cases z'
  .by_cases hb:b∈cts.map (·.2)
   .exact .inr hb
   .exact absurd (az hb) z
 |none=>
  refine core (λb=>if b∈cts.map (·.2) then some (.tbl #[]) else if b=a then some (.frz {cls:=.type "list",data:=.seq vs.toArray} (.lst (ns.map V.int))) else none) (λb=>?_) (λT hm=>aA hm) (.inl (.inr ⟨{cls:=.type "list",data:=.seq vs.toArray},by dsimp only;rw[az aT,aA rfl]⟩)) (λb u z=>?_) (λb z=>?_) λ_=>hk
  .by_cases hT':b∈cts.map (·.2)
   .exact .inr (.inr hT')
   .by_cases hb:b=a
    .exact .inr (.inl ⟨_,_,by dsimp only;rw[az hT',aA hb]⟩)
    .exact .inl (by dsimp only;rw[az hT',az hb])
  .dsimp only at z;by_cases hT':b∈cts.map (·.2)
   .rw[aA hT'] at z;cases z;exact hT b hT'
   .rw[az hT'] at z;by_cases hb:b=a
    .rw[aA hb] at z;cases z;subst hb;exact⟨ha,by rw[ag];exact hl,vs,_,rv,ha⟩
    .rw[az hb] at z;cases z
  .replace z:(if b∈cts.map (·.2) then some (HO.tbl #[]) else if b=a then some (HO.frz {cls:=.type "list",data:=.seq vs.toArray} (.lst (ns.map V.int))) else none)≠none:=z;by_cases hT':b∈cts.map (·.2)
   .exact .inr hT'
   .by_cases hb:b=a
    .exact .inl hb
    .rw[az hT',az hb] at z;exact absurd rfl z
def walk_ofTs{cts:List (Addr×Addr)}{l:PySem.W.OpenLaw}{n k:Nat}{q:Program}{loose:Am}{XP:(Ak)->Heap->Prop}{YP:World->Heap->Prop}{d:DefRec}{K:Params->W.Frag}{CX:World->CXT}{sp:World->Sp}{x:Str}
  (hn:l.most=some n) (hn2:n<=sizeLine) (hdf:d.params.defaults=[]) (hr:Room k callerA)
  (hY:∀(w:World) (h:Heap),YP w h->(K w.params).In h/\∀T∈cts.map (·.2),h.get? T=some (tabObj #[])) (hcd:∀w:World,∀p∈cts,codeHdIn (K w.params) p.1 p.2=true) (hKT:∀w:World,∀T∈cts.map (·.2),(K w.params).lookup T=none)
  (F:∀(w:World) (mg:Ak) (fa:Addr) (h:Heap),(K w.params).In h->h.Ns mainGlobals mg->mg d.name=some (.ref fa)->
   ∃fd:FuncData,(∀(s:Shared) (u:Value),BindsTo s fd ⟨[u],[]⟩ [(x,u)])/\
    ∀Aq:Heap,(K w.params).In Aq->Aq.Ns mainGlobals mg->FnOk l.prog w (K w.params) mg Aq (CX w) k fa fd [x] (sp w))
  (hsp:∀(w:World) (H:Hp) (a:Addr) (ns:Ag),ns.length<=n->(∀T∈cts.map (·.2),H T=some (.tbl #[]))->SqL (K w.params) H a (ns.map V.int)->sp w [.ref a] H (λv _=>v=.bl true) λ_ _ _=>False)
  (hCX:∀(w:World) (H:Hp) (s:Shared) (e:Value) (s':Shared),CX w [] H s (λ_ _ _=>False) e s'->False):
  PySem.W.WalkO q loose XP YP l.row.toRowW d [] (λf vs=>PySem.call f vs):=by
 refine Att.attach_call hn hdf λw s₀ s₁ mg mb fa o pm cd doc a vs ns G Y ho hd _ hmg hobj hints hlen hg=>?_;obtain⟨KX,hT⟩:=hY w _ Y;obtain⟨fd,hb,hF⟩:=F w mg fa _ KX G.T.g hmg;exact jLX KX G.T.g G.T.b G.T.builtins G.T.nolimit hg hobj hints (bh hlen hn2) hr hT (λp hp=>dY KX (hcd w p hp)) (hKT w) hF hb (λH hO hS=>hsp w H a ns hlen hO hS) λH e s'=>hCX w H s₁ e s'
open PySem.AutoSeq1 (wpAny_loadPart')
def jR7{tp:Bool}{e:Addr}{xs:An}{x old:Value}{Q:Ah}(ee:IsEnum s.heap e it i old)(g1:ItAt tp s.heap it l i)(o1:ObAt tp s.heap l xs)(hx:xs[i]?=some x)(ne:e≠it)
  (k:∀h',IsEnumOut h' e it ((i:Int)+1) x s.heap.objs.size->ItAt tp h' it l (i+1)->h'.get? s.heap.objs.size=some {cls:=.type "tuple",data:=.seq #[.int i s.toks,x]} ->h'.objs.size=s.heap.objs.size+1->
   (∀c o,c≠e->c≠it->s.heap.get? c=some o->h'.get? c=some o)->Q (.ref s.heap.objs.size) {s with heap:=h',toks:=s.toks+1}):
  wpAny (model prog w) A (Builtin.«enumerate.__next__» ⟨[.ref e],[]⟩) (λfin s'=>∃v,fin=.done (.ret v)/\Q v s') E s:=by
 obtain⟨hp,g,d,tk,os⟩:=s;show wpAny (model prog w) A (field (.ref e) 2 >>= _) _ _ _;refine ae (cy ee rfl (x:=.ref it) rfl (ae (next1 g1 o1 hx λp1 r1 q1=>?_)));have q1:Heap.SameBut it hp p1:=q1;have e1:IsEnum p1 e it i old:=(q1.2 e ne).trans ee;show wpAny (model prog w) A (field (.ref e) 3 >>= _) _ _ ⟨p1,g,d,tk,os⟩;refine ae (cy e1 rfl (x:=rawInt i) rfl (?_:wpAny (model prog w) A (field (.ref e) 4 >>= _) _ _ ⟨p1,g,d,tk,os⟩));refine ae (cy e1 rfl (x:=.none) rfl (?_:wpAny (model prog w) A (mkInt i >>= _) _ _ ⟨p1,g,d,tk,os⟩));refine ae (wpAny_mkInt (?_:wpAny (model prog w) A (setField (.ref e) 3 (rawInt ((i:Int)+1)) >>= _) _ _ ⟨p1,g,d,tk+1,os⟩));refine ae (di e1 Ad λp2 e2 q2=>?_);have q2:Heap.SameBut e p1 p2:=q2;have e2:IsEnum p2 e it ((i:Int)+1) old:=e2;show wpAny (model prog w) A (setField (.ref e) 4 .none >>= _) _ _ ⟨p2,g,d,tk+1,os⟩;refine ae (di e2 Ad λp3 e3 q3=>?_);have q3:Heap.SameBut e p2 p3:=q3;have e3:IsEnum p3 e it ((i:Int)+1) old:=e3;show wpAny (model prog w) A (newTuple [.int i tk,x] >>= _) _ _ ⟨p3,g,d,tk+1,os⟩;refine ae (lz ?_);have e4:IsEnum (p3.push {cls:=.type "tuple",data:=.seq #[.int i tk,x]}) e it ((i:Int)+1) old:=af _ e3;have sz:p3.objs.size=hp.objs.size:=by rw[q3.1,q2.1,q1.1]
 have lt:e<hp.objs.size:=ay ee;have t4:(p3.push {cls:=.type "tuple",data:=.seq #[.int i tk,x]}).get? hp.objs.size=some {cls:=.type "tuple",data:=.seq #[.int i tk,x]}:=by rw[<- sz];exact aw _ rfl
 have z4:(p3.push {cls:=.type "tuple",data:=.seq #[.int i tk,x]}).objs.size=hp.objs.size+1:=by rw[cA,sz]
 have k4:∀c o,c≠e->c≠it->hp.get? c=some o->(p3.push {cls:=.type "tuple",data:=.seq #[.int i tk,x]}).get? c=some o:=λc o n1 n2 v=>af _ (q3.extBut c o n1 (q2.extBut c o n1 (q1.extBut c o n2 v)));have r4:ItAt tp (p3.push {cls:=.type "tuple",data:=.seq #[.int i tk,x]}) it l (i+1):=((r1.but q2.extBut ne.symm).but q3.extBut ne.symm).at λo v=>af _ v;generalize p3.push {cls:=.type "tuple",data:=.seq #[.int i tk,x]} =p4 at e4 t4 z4 k4 r4 ⊢;show wpAny (model prog w) A (Builtin.SmallTypes.ownedTupleIsFree (.ref e) >>= _) _ _ ⟨p4,g,d,tk+1,os⟩;rw[sz];refine ae (by
  unfold Builtin.SmallTypes.ownedTupleIsFree;refine ae (cy e4 rfl (x:=.none) rfl (aj ?_));simp only[lE];refine ae (dA (ae (cy e4 rfl (x:=old) rfl (ae (di e4 Ad λp5 e5 q5=>?_)))));have q5:Heap.SameBut e p4 p5:=q5;have e5:IsEnum p5 e it ((i:Int)+1) x:=e5;refine ae (m:=Builtin.SmallTypes.ownedTupleHandOut (.ref e) (.ref hp.objs.size)) ?_;unfold Builtin.SmallTypes.ownedTupleHandOut;refine ae (di e5 Ad λp6 e6 q6=>?_);have q6:Heap.SameBut e p5 p6:=q6;have e6:IsEnumOut p6 e it ((i:Int)+1) x hp.objs.size:=e6;refine di e6 Ad λp7 e7 q7=>?_;have q7:Heap.SameBut e p6 p7:=q7;have e7:IsEnumOut p7 e it ((i:Int)+1) x hp.objs.size:=e7;have up:∀c o,c≠e->p4.get? c=some o->p7.get? c=some o:=λc o n v=>q7.extBut _ _ n (q6.extBut _ _ n (q5.extBut _ _ n v));exact ae (wpAny_letGo (aj ⟨_,rfl,k p7 e7 (r4.at λo v=>up _ o ne.symm v) (up _ _ (de lt) t4) (by rw[q7.1,q6.1,q5.1,z4]) λc o n1 n2 v=>up c o n1 (k4 c o n1 n2 v)⟩)))
def jLL{tp:Bool}{e:Addr}{xs:An}{x old:Value}(ee:IsEnum s.heap e it i old)(g1:ItAt tp s.heap it l i)(o1:ObAt tp s.heap l xs)(hx:xs[i]?=some x)(ne:e≠it)
  (k:∀h',IsEnumOut h' e it ((i:Int)+1) x s.heap.objs.size->ItAt tp h' it l (i+1)->h'.get? s.heap.objs.size=some {cls:=.type "tuple",data:=.seq #[.int i s.toks,x]} ->h'.objs.size=s.heap.objs.size+1->
   (∀c o,c≠e->c≠it->s.heap.get? c=some o->h'.get? c=some o)->Q (some (.ref s.heap.objs.size)) {s with heap:=h',toks:=s.toks+1}):
  wpAny (model prog w) A (pyNext (.ref e)) Q E s:=by
 have ty:s.TypeIs (.ref e) "enumerate" :=⟨_,ee,rfl⟩;unfold pyNext;exact ae (dN (cM (name:=Str.ofString "__next__") ty F.slot_enumerate_next (cH F.slot_enumerate_next ty F.entry_enumerate_next (jR7 ee g1 o1 hx ne λh' b1 b2 b3 b4 b5=>aj (k h' b1 b2 b3 b4 b5)) (F.args_enumerate_next_1 _))))
def jLM{tp:Bool}{e:Addr}{xs:An}{old:Value}(hh:A.handled=none)(ee:IsEnum s.heap e it i old)(g1:ItAt tp s.heap it l i)(o1:ObAt tp s.heap l xs)(hx:xs[i]?=none)
  (k:∀h',(∀c o,c≠e->c≠it->s.heap.get? c=some o->h'.get? c=some o)->Q none {s with heap:=h'}):wpAny (model prog w) A (pyNext (.ref e)) Q E s:=by
 have ty:s.TypeIs (.ref e) "enumerate" :=⟨_,ee,rfl⟩;unfold pyNext;refine ae (dN (cM (name:=Str.ofString "__next__") ty F.slot_enumerate_next (cH F.slot_enumerate_next ty F.entry_enumerate_next (?_:wpAny (model prog w) _ (field (.ref e) 2 >>= _) _ _ _) (F.args_enumerate_next_1 _))));refine ae (cy ee rfl (x:=.ref it) rfl (ae (next0 hh g1 o1 hx λh' x kp ⟨u,eu,cu⟩=>?_)));exact ae (g5 (T:= "StopIteration") (b:=true) ⟨u,eu,cu⟩ lv (aj (k _ λc o _ n v=>kp c o n v)))
set_option maxHeartbeats 2000000 in
def jNY(tp:Bool)(l:Addr)(xs:An)(u:Obj):
  Meets (Builtin.«enumerate.__new__» ⟨[.type "enumerate",.ref l],[]⟩) (λ_ R s=>s.heap.get? l=some u/\ObAt tp s.heap l xs/\
   R (.ok (.ret (.ref (s.heap.push (iterO tp l)).objs.size))) {s with heap:=(s.heap.push (iterO tp l)).push {cls:=.type "enumerate",data:=.fields #[.none,.bool false,.ref s.heap.objs.size,rawInt 0,.none,.none]}}):=
 .of_wp λprog w A R s h=>by
  obtain⟨hp,g,d,tk,os⟩:=s;obtain⟨a0,a1,q⟩:=h;have sub:=sub_enumerate;have e1:ObAt tp (Shared.heap ⟨hp,g,d,tk,os⟩) l xs:=a1;obtain⟨c,dct,dt,sl⟩:=u;obtain⟨n,hc,hd⟩:∃n,c=(if tp then .type "tuple" else .type "list")/\dt=.seq xs n:=by
   cases tp with
   |false=>obtain⟨o,e,hc,n,hd⟩:=a1;cases (a0.symm.trans e);exact⟨n,hc,hd⟩
   |true=>obtain⟨o,e,hc,n,hd⟩:=a1;cases (a0.symm.trans e);exact⟨n,hc,hd⟩
  subst hd;cases tp with
  |false=>
   subst hc
   wp_walk using cS a0
   refine wpAny_stack_any λ_=>aj ?_;split
   .rename_i c _ _ _ _ _;cases hcc:(c==Value.type "enumerate")
    all_goals (wp_walk using cS a0,jG0 e1;exact⟨_,rfl,q⟩)
   .wp_walk using cS a0,jG0 e1
    exact⟨_,rfl,q⟩
  |true=>
   subst hc
   wp_walk using cS a0
   refine wpAny_stack_any λ_=>aj ?_;split
   .rename_i c _ _ _ _ _;cases hcc:(c==Value.type "enumerate")
    all_goals (wp_walk using cS a0,jG0 e1;exact⟨_,rfl,q⟩)
   .wp_walk using cS a0,jG0 e1
    exact⟨_,rfl,q⟩
theorem jRE{tp:Bool}{xs:An}{Q:Ah}(a1:ObAt tp s.heap l xs)
  (k:∀h',IsEnum h' (s.heap.objs.size+1) s.heap.objs.size 0 .none->ItAt tp h' s.heap.objs.size l 0->(∀c o,s.heap.get? c=some o->h'.get? c=some o)->Q (.ref (s.heap.objs.size+1)) {s with heap:=h'}):
  wpAny (model prog w) A (call (.type "enumerate") [.ref l]) Q E s:=by
 obtain⟨u,eu⟩:∃u,s.heap.get? l=some u:=by
  cases tp with
  |false=>obtain⟨o,e,_⟩:=a1;exact⟨o,e⟩
  |true=>obtain⟨o,e,_⟩:=a1;exact⟨o,e⟩
 refine callType_new F.called_enumerate Ac (F.typeCall_enumerate_1 _) (F.newCall_enumerate_1 _) (λobj=>F.args_object_init_2 obj _) F.entry_enumerate_new (jNY tp l xs u) ⟨eu,a1,?_⟩;have z1:(s.heap.push (iterO tp l)).objs.size=s.heap.objs.size+1:=cA ..;have y2:IsEnum ((s.heap.push (iterO tp l)).push {cls:=.type "enumerate",data:=.fields #[.none,.bool false,.ref s.heap.objs.size,rawInt 0,.none,.none]}) (s.heap.push (iterO tp l)).objs.size s.heap.objs.size 0 .none:=aw _ rfl;have y1:((s.heap.push (iterO tp l)).push {cls:=.type "enumerate",data:=.fields #[.none,.bool false,.ref s.heap.objs.size,rawInt 0,.none,.none]}).get? s.heap.objs.size=some (iterO tp l):=af _ (aw _ (jLY _ _));show _/\_;rw[z1] at y2 ⊢;exact⟨⟨_,y2,rfl⟩,k _ y2 (.new tp y1) λc o e=>af _ (af _ e)⟩
def Ite(tp:Bool)(K:W.Frag)(l:Addr):It:=
 ⟨λi H=>∃xs x,Sq tp K H l xs/\xs[i]?=some x,
  λi H v H'=>∃T x,H T=none/\v=.ref T/\H'=upd H T (.tup [.int (i:Int),x])/\∀xs,Sq tp K H l xs->xs[i]?=some x,
  λi H=>∃xs,Sq tp K H l xs/\xs.length<=i⟩
theorem jMF{tps:Pos}(tp:Bool)(l e it:Addr)(ne:e≠it):
  Turn P w K (.Tuple elts x1 tps) (Ite tp K l) [e,it] e (λi h=>(∃old,IsEnum h e it ((i:Nat):Int) old)/\ItAt tp h it l i) where
 mem:=by simp
 obj:=λi h st b hb=>by
  obtain⟨⟨old,he⟩,y1⟩:=st;simp only[aB,bq,cL] at hb;rcases hb with rfl|rfl
  .exact⟨_,he,λv q=>by cases q⟩
  .exact y1.obj
 keep:=λi h h' st k=>by
  obtain⟨⟨old,he⟩,h1⟩:=st;exact⟨⟨old,k e Ad _ he⟩,h1.at λo z=>k it Ad o z⟩
 item:=by
  intro X hP hw hK hc i ma s σ H E I hf st hg;subst hP hw hK;obtain⟨xs,x,hq1,hx⟩:=hg;obtain⟨⟨old,he⟩,h1⟩:=st;obtain⟨its1,r1,p1,_⟩:=I.sq hq1;obtain⟨u,hu,ru⟩:=r1.get hx;refine jLL he h1 p1 (x:=u) (by simpa using hu) ne λh' a1 a2 a3 a4 a5=>?_;refine⟨_,rfl,wpAny_letOwnedTupleGo_enum (s:= {s with heap:=h',toks:=s.toks+1}) a1 λh'' b1 sb=>?_⟩;have fresh:H s.heap.objs.size=none:=I.fresh;have ntr:∀b o,H b=some o->b∉([e,it]:List Addr):=λb o z hb=>by
   have:=(hf b hb).1;rw[z] at this;cases this
  have kp:∀b o,b∉([e,it]:List Addr)->s.heap.get? b=some o->h''.get? b=some o:=λb o hb z=>by
   simp only[aB,bq,cL,io] at hb;exact(sb.2 b hb.1).trans (a5 b o hb.1 hb.2 z)
  have nz:s.heap.objs.size≠e:=de (ay he);have hT2:h''.get? s.heap.objs.size=some {cls:=.type "tuple",data:=.seq #[.int i s.toks,u]}:=(sb.2 _ nz).trans a3;have I2:Inv X ma σ (upd H s.heap.objs.size (.tup [.int (i:Int),x])) {s with heap:=h'',toks:=s.toks+1}:=by
   refine I.step (g':=s.gens) (d':=s.drawn) (t':=s.toks+1) (ch:=[e,it]) (λb hb=>?_) (λb o _ _ hb z _=>kp b o hb z) (λb o _ _ hb z _=>⟨o.slots,kp b o hb z⟩)
    (λb o _ z n=>by rw[jA (aO (ay z))];exact n) (λb o hb z=>⟨o,kp b o hb z⟩) (λb ws z=>by rw[jA (jC z fresh)];exact z) (λb o ws z=>by rw[jA (jC z fresh)];exact z)
    (λb ps z=>⟨#[],by rw[jA (jC z fresh),z];simp⟩) (λm hm=>?_) (λb o z=>?_) I.bare
   .obtain⟨f0,f1,f2,f3,f4,f5⟩:=hf b hb;exact⟨f3,f1,f4,f5⟩
   .obtain⟨o,es,ep,ho,r⟩:=hm;exact⟨o,es,ep,kp _ o (λhb=>(hf _ hb).2.1 rfl) ho,r⟩
   .by_cases hb:b=s.heap.objs.size
    .subst hb;rw[j7] at z;cases z;exact⟨by rw[d0];show 2<=_;decide,[.int i s.toks,u],.cons ⟨_,rfl⟩ (.cons ru .nil),0,hT2⟩
    .rw[jA hb] at z;refine(I.hok b o z).stay (λc w hc q=>kp c w ?_ q) (λc q=>by rw[jA (jC q fresh)];exact q) (λc ws q=>by rw[jA (jC q fresh)];exact q);rcases hc with rfl|hc
     .exact ntr _ _ z
     .exact ntr _ _ hc
  refine⟨.ref s.heap.objs.size,_,I2,rfl,⟨_,x,fresh,rfl,rfl,λxs' q1=>by rw[I.sq_inj q1 hq1];exact hx⟩,⟨⟨_,b1⟩,?_⟩,λb hb=>?_⟩
  .exact a2.at λo z=>(sb.2 it ne.symm).trans z
  .rw[jA (λq=>by
    obtain⟨o,eo⟩:∃o,s.heap.get? b=some o:=by
     simp only[aB,bq,cL] at hb;rcases hb with rfl|rfl
     .exact⟨_,he⟩
     .obtain⟨o,z,_⟩:=h1.obj;exact⟨o,z⟩
    exact absurd (ay eo) (by rw[q];exact cF _))]
   exact(hf b hb).1
 done:=by
  intro X hP hw hK hc i ma s σ H E I hf st hg;subst hP hw hK;obtain⟨xs,hq1,hend⟩:=hg;obtain⟨⟨old,he⟩,h1⟩:=st;obtain⟨its1,r1,p1,_⟩:=I.sq hq1;have e1:=r1.length;refine jLM (I.ok.hd hc) he h1 p1 (by simp;lia) λh' kp=>⟨rfl,?_⟩;have kp2:∀b o,b∉([e,it]:List Addr)->s.heap.get? b=some o->h'.get? b=some o:=λb o hb z=>by
   simp only[aB,bq,cL,io] at hb;exact kp b o hb.1 hb.2 z
  have ntr:∀b o,H b=some o->b∉([e,it]:List Addr):=λb o z hb=>by
   have:=(hf b hb).1;rw[z] at this;cases this
  refine I.step (g':=s.gens) (d':=s.drawn) (t':=s.toks) (ch:=[e,it]) (λb hb=>?_) (λb o _ _ hb z _=>kp2 b o hb z) (λb o _ _ hb z _=>⟨o.slots,kp2 b o hb z⟩)
   (λb o _ z n=>n) (λb o hb z=>⟨o,kp2 b o hb z⟩) (λb ws z=>z) (λb o ws z=>z) (λb ps z=>⟨#[],by rw[z];simp⟩) (λm hm=>?_) (λb o z=>?_) I.bare
  .obtain⟨f0,f1,f2,f3,f4,f5⟩:=hf b hb;exact⟨f3,f1,f4,f5⟩
  .obtain⟨o,es,ep,ho,r⟩:=hm;exact⟨o,es,ep,kp2 _ o (λhb=>(hf _ hb).2.1 rfl) ho,r⟩
  .refine(I.hok b o z).stay (λc w hc q=>kp2 c w ?_ q) (λ_ q=>q) λ_ _ q=>q;rcases hc with rfl|hc
   .exact ntr _ _ z
   .exact ntr _ _ hc
 self:=λ_ _ _ _ _ st h=>wpAny_pyIter_enum st.1.choose_spec h
def iEnum(K:W.Frag)(ta:TA):TI:=λσ H R=>ta σ H λvs H1=>∃tp l,vs=[.ref l]/\(∃xs,Sq tp K H1 l xs)/\R (Ite tp K l) H1
theorem jTE{a:Expr}{ta:TA}(hg:Gl X "enumerate")(hm:X.mg "enumerate" =none)(ha:PA X [a] ta)(hv:bootBuiltins "enumerate" =some (.type "enumerate"):=by decide+kernel)
  (he:starEach [a] X.env=(false,eval a X.env)::starEach [] X.env:=by rfl) (hpl:(backTo pos (starEach [] X.env)).any (·.1)=false:=by rfl):
  PI X (.Tuple elts x1 tp) (.Call (.Name "enumerate" p) [a] [] pos) (iEnum X.K ta):=by
 intro ma s σ H R I h;refine Call_ (jDB I hg hm hv (dw (mo (ha pos ma s σ H _ I h) λus s1 ⟨vs,H1,I1,r1,q1⟩=>?_) he hpl));obtain⟨t1,l1,rfl,⟨xs,hq1⟩,q⟩:=q1;obtain⟨u,rfl,ru⟩:=r1.one;cases ru;obtain⟨its1,_,p1,_⟩:=I1.sq hq1;refine jRE p1 λh' a1 a2 kp=>?_;have I2:Inv X ma σ H1 {s1 with heap:=h'}:=I1.kept (t':=s1.toks) kp;refine wpAny_pyIter_enum a1 ⟨s1.heap.objs.size+1,[s1.heap.objs.size+1,s1.heap.objs.size],_,Ite t1 X.K l1,H1,rfl,I2,jMF t1 l1 _ _ (Nat.succ_ne_self _),⟨⟨_,a1⟩,a2⟩,λb hb=>?_,q⟩;have hge:s1.heap.objs.size<=b:=by
  simp only[aB,bq,cL] at hb;rcases hb with rfl|rfl
  .exact Nat.le_add_right _ 1
  .exact ar _
 exact I1.fpOk hge (I1.hok.fresh hge)
theorem jJ8{a:Expr}(hg:Gl1 X "enumerate")(hm:X.mg "enumerate" =none)(ha:JA X [a] t)(he:starEach [a] X.env=(false,eval a X.env)::starEach [] X.env)(hv:bootBuiltins "enumerate" =some (.type "enumerate"):=by decide+kernel)
  (hpl:(backTo pos (starEach [] X.env)).any (·.1)=false:=by rfl):JI X (.Tuple elts x1 tp) (.Call (.Name "enumerate" p) [a] [] pos) (iEnum X.K t):=⟨jTE hg.a hm ha.h hv he hpl⟩
variable {H1:Hp}{Q:VK}
section
variable {K:W.Frag}{σ:St}
theorem jHZ{tp:Bool}{l:Addr}{xs:List V}(hn:xs.length<sizeLine)(Pv:Addr->Nat->St->Hp->List V->Prop)(h0:∀D,H1 D=none->Pv D 0 (blkσ m σ) (upd H1 D (.lst [])) [])
  (hD:∀D i σ' H' zs,H1 D=none->Pv D i σ' H' zs->Sq tp K H' l xs/\H' D=some (.lst zs)/\zs.length<=i)
  (hs:∀D i σ' H' zs x T,H1 D=none->xs[i]?=some x->H' T=none->Pv D i σ' H' zs->g (.ref T) σ' (upd H' T (.tup [.int (i:Int),x])) λσ2 H2=>tt σ2 H2 λb H3=>if b=true then te σ2 H3 λv H4=>H4 D=some (.lst zs)/\Pv D (i+1) σ2 (upd H4 D (.lst (zs++[v]))) (zs++[v]) else Pv D (i+1) σ2 H3 zs)
  (hd:∀D σ' H' zs,H1 D=none->Pv D xs.length σ' H' zs->Q (.ref D) H'):qK m g tt te σ Q (Ite tp K l) H1:=by
 intro D hDn;refine⟨λi k σ' H' zs=>k=xs.length-i/\i<=xs.length/\Pv D i σ' H' zs,⟨_,rfl,br _,h0 D hDn⟩,?_⟩;rintro i k σ' H' zs ⟨rfl,hi,p⟩;obtain⟨s1,q1,q2⟩:=hD D i σ' H' zs hDn p;refine⟨q1,Aa,?_⟩;by_cases hlt:i<xs.length
 .refine .inr ⟨⟨xs,xs[i],s1,by simp[hlt]⟩,Pv D (i+1),λσ2 H2 zs z=>⟨xs.length-(i+1),Aa,rfl,hlt,z⟩,λv H'' y=>?_⟩;obtain⟨T,x,e1,e2,e3,e4⟩:=y;subst e2 e3;exact hs D i σ' _ zs x T hDn (e4 xs s1) e1 p
 .have e:i=xs.length:=Aa;subst e;exact .inl ⟨⟨xs,s1,ar _⟩,hd D σ' H' zs hDn p⟩
end
section
variable {κ:Type} [DecidableEq κ]
def valV(kvs:List (κ×V))(k:κ):Option V:=(kvs.find? λkv=>decide (kv.1=k)).map (·.2)
def putK(kvs:List (κ×V))(k:κ)(v:V):List (κ×V):=
 if (kvs.any λkv=>decide (kv.1=k))=true then kvs.map (λkv=>if kv.1=k then (kv.1,v) else kv) else kvs++[(k,v)]
def jBA{p:κ×V}{r:List (κ×V)}{k:κ}(e:p.1=k):valV (p::r) k=some p.2:=by simp[valV,eE,e]
def jBB{p:κ×V}{r:List (κ×V)}{k:κ}(e:¬p.1=k):valV (p::r) k=valV r k:=by simp[valV,eE,e]
theorem jFU(k:κ):∀kvs:List (κ×V),(kvs.any λkv=>decide (kv.1=k))=(valV kvs k).isSome
 |[]=>rfl
 |p::r=>by
  rw[g7];by_cases e:p.1=k
  .simp only[jBA e,ao e,Bool.true_or,Option.isSome_some]
  .rw[jBB e,aK e,jk];exact jFU k r
theorem jBQ(kvs:List (κ×V))(k:κ)(v:V):(putK kvs k v).length<=kvs.length+1:=by
 unfold putK;split
 .rw[ag];lia
 .rw[aI,aU,cz];lia
theorem jK6{kvs:List (κ×V)}{k:κ}(v:V)(h:valV kvs k=none):putK kvs k v=kvs++[(k,v)]:=by
 unfold putK;rw[jFU,h];exact az Ac
def RelO.isSome_eq{u:Ao}(r:RelO o u):o.isSome=u.isSome:=by
 cases o with
 |none=>cases u with
  |none=>rfl
  |some _=>exact(show False from r).elim
 |some _=>cases u with
  |none=>exact(show False from r).elim
  |some _=>rfl
def KV.val{kvs:List (κ×V)}{vs:List (κ×Value)}(r:KV kvs vs)(k:κ):RelO (valV kvs k) (valueAt vs k):=by
 unfold KV at r
 induction r with
 |nil=>exact True.intro
 | @cons p q ps qs h t ih=>
  obtain⟨h1,h2⟩:=h;by_cases e:p.1=k
  .have e':q.1=k:=h1.symm.trans e;have b:valueAt (q::qs) k=some q.2:=by simp[valueAt,eE,e']
   rw[jBA e,b];exact h2
  .have e':¬q.1=k:=λz=>e (h1.trans z);have b:valueAt (q::qs) k=valueAt qs k:=by simp[valueAt,eE,e']
   rw[jBB e,b];exact ih
theorem KV.any{kvs:List (κ×V)}{vs:List (κ×Value)}(r:KV kvs vs)(k:κ):(kvs.any λkv=>decide (kv.1=k))=vs.any λkv=>decide (kv.1=k):=by
 unfold KV at r
 induction r with
 |nil=>rfl
 |cons h t ih=>rw[g7,g7,ih,h.1]
def KV.repl{kvs:List (κ×V)}{vs:List (κ×Value)}(r:KV kvs vs)(k:κ)(ry:RelV y u):
  KV (kvs.map λkv=>if kv.1=k then (kv.1,y) else kv) (vs.map λkv=>if kv.1=k then (kv.1,u) else kv):=by
 unfold KV at r ⊢
 induction r with
 |nil=>exact .nil
 | @cons p q ps qs h t ih=>
  rw[bg,bg];refine .cons ?_ ih;obtain⟨h1,h2⟩:=h;by_cases e:p.1=k
  .rw[aA e,aA (h1.symm.trans e)];exact⟨h1,ry⟩
  .rw[az e,az (λz=>e (h1.trans z))];exact⟨h1,h2⟩
theorem KV.put{kvs:List (κ×V)}{vs:List (κ×Value)}(r:KV kvs vs)(k:κ)(ry:RelV y u):KV (putK kvs k y) (stored vs k u):=by
 unfold putK stored;rw[r.any k];by_cases e:(vs.any λkv=>decide (kv.1=k))=true
 .rw[aA e,aA e];exact r.repl k ry
 .rw[az e,az e];exact Paired.snoc r ⟨rfl,ry⟩
def KV.keys{kvs:List (κ×V)}{vs:List (κ×Value)}(r:KV kvs vs):kvs.map (·.1)=vs.map (·.1):=by
 unfold KV at r
 induction r with
 |nil=>rfl
 |cons h t ih=>rw[bg,bg,ih,h.1]
def KV.length{kvs:List (κ×V)}{vs:List (κ×Value)}(r:KV kvs vs):kvs.length=vs.length:=gq r
end
def kV_is{k:Key}(r:RelV (kV k) u):(kZ P w).is k u=true:=by
 cases k with
 |inl i=>obtain⟨t,e⟩:=(show ∃t,u=Value.int i t from r);subst e;exact jJ2 P w i t
 |inr x=>obtain⟨t,e⟩:=(show ∃t,u=Value.str x t from r);subst e;exact jJ1 P w x t
def jHT:∀{ks:List Key}{us:Al},Vals (ks.map kV) us->ItemsAre (kZ P w) ks us
 |[],_,r=>by rw[dZ] at r;cases r;exact .nil
 |k::ks,_,r=>by
  rw[bg] at r;cases r with
  |cons h t=>exact .cons (kV_is h) (jHT t)
abbrev KT(H:Hp):List (List Key×V)->List (List Key×Addr×Value)->Prop:=Paired λp q=>p.1=q.1/\H q.2.1=some (.tup (p.1.map kV))/\RelV p.2 q.2.2
def KT.val(r:KT H kvs xs)(k:List Key):RelO (valV kvs k) ((atKey xs k).map (·.2)):=by
 induction r with
 |nil=>exact True.intro
 | @cons p q ps qs h t ih=>
  obtain⟨h1,_,h2⟩:=h;by_cases e:p.1=k
  .have e':q.1=k:=h1.symm.trans e;have b:atKey (q::qs) k=some q.2:=by simp[atKey,eE,e']
   rw[jBA e,b];exact h2
  .have e':¬q.1=k:=λz=>e (h1.trans z);have b:atKey (q::qs) k=atKey qs k:=by simp[atKey,eE,e']
   rw[jBB e,b];exact ih
def KT.repl(r:KT H kvs xs)(k:List Key)(ry:RelV y u):
  KT H (kvs.map λkv=>if kv.1=k then (kv.1,y) else kv) (xs.map (putAt k u)):=by
 induction r with
 |nil=>exact .nil
 | @cons p q ps qs h t ih=>
  rw[bg,bg];refine .cons ?_ ih;obtain⟨h1,h2,h3⟩:=h;unfold putAt;by_cases e:p.1=k
  .rw[aA e,aA (h1.symm.trans e)];exact⟨h1,h2,ry⟩
  .rw[az e,az (λz=>e (h1.trans z))];exact⟨h1,h2,h3⟩
theorem KT.put(r:KT H kvs xs)(k:List Key)(hb:H b=some (.tup (k.map kV)))(ry:RelV y u):
  KT H (putK kvs k y) (storedH xs k b u):=by
 have e:(kvs.any λkv=>decide (kv.1=k))=(atKey xs k).isSome:=by
  rw[jFU,(r.val k).isSome_eq,i7]
 unfold putK storedH;rw[e];by_cases q:(atKey xs k).isSome=true
 .rw[aA q,aA q];exact r.repl k ry
 .rw[az q,az q];exact Paired.snoc r ⟨rfl,hb,ry⟩
def KT.keeps(r:KT H kvs xs)(ht:∀b ys,H b=some (.tup ys)->H' b=some (.tup ys)):KT H' kvs xs:=
 Paired.mapP r λ_ _ z=>⟨z.1,ht _ _ z.2.1,z.2.2⟩
def rd_of{u:HO}(ok:HOk P w H h)(e:Rd H a u):ObjOk P w H h a u:=e.ok ok
def dk_rd{kvs:List (Key×V)}(ok:HOk P w H h)(e:Rd H a (.dK kvs)):kvs.length<=sizeLine/\(a==sysModules)=false/\∃vs,KV kvs vs/\h.DictOf (kZ P w) a vs:=
 show ObjOk P w H h a (.dK kvs) from rd_of ok e
def dk_of{kvs:List (Key×V)}(ok:HOk P w H h)(e:H a=some (.dK kvs)):kvs.length<=sizeLine/\(a==sysModules)=false/\∃vs,KV kvs vs/\h.DictOf (kZ P w) a vs:=dk_rd ok (.inl e)
def jHR{ks:List Key}(ok:HOk P w H h)(e:H a=some (.tup (ks.map kV))):(tupleKind (kZ P w)).is h ks a:=by
 obtain⟨_,its,r,p⟩:=(show ObjOk P w H h a (.tup (ks.map kV)) from ok a _ e);obtain⟨o,h1,h2,n,h3⟩:=p.isTup;exact⟨o,its.toArray,n,h1,h2,h3,by simpa using jHT r⟩
def dt_rd(ok:HOk P w H h)(e:Rd H a (.dT kvs)):kvs.length<=sizeLine/\(a==sysModules)=false/\
  ∃xs,KT H kvs xs/\h.DictOfH (tupleKind (kZ P w)) a xs:=by
 obtain⟨z,y,xs,r,o,es,ep,h1,h2,h3,h4,h5⟩:=(show ObjOk P w H h a (.dT kvs) from rd_of ok e);refine⟨z,y,xs,r,o,es,ep,h1,h2,h3,h4,λx hx=>?_,h5⟩;have all:∀{l:List (List Key×V)}{m:List (List Key×Addr×Value)},KT H l m->∀x∈m,(tupleKind (kZ P w)).is h x.1 x.2.1:=by
  intro l m q
  induction q with
  |nil=>intro x hx;exact nomatch hx
  | @cons p q ps qs hq t ih=>
   intro x hx;rcases aB.mp hx with e|hx
   .subst e;exact jHR ok (by rw[<- hq.1];exact hq.2.1)
   .exact ih x hx
 exact all r x hx
def dt_of(ok:HOk P w H h)(e:H a=some (.dT kvs)):kvs.length<=sizeLine/\(a==sysModules)=false/\
  ∃xs,KT H kvs xs/\h.DictOfH (tupleKind (kZ P w)) a xs:=dt_rd ok (.inl e)
def DGet(H:Hp)(a:Addr)(y:V)(r:Option V):Prop:=
 (∃kvs k,Rd H a (.dK kvs)/\y=kV k/\r=valV kvs k)\/∃kvs k b,Rd H a (.dT kvs)/\y=.ref b/\H b=some (.tup (k.map kV))/\r=valV kvs k
def DPut(H:Hp)(a:Addr)(y v:V)(H':Hp):Prop:=
 (∃kvs k,H a=some (.dK kvs)/\y=kV k/\kvs.length<sizeLine/\H'=upd H a (.dK (putK kvs k v)))\/
 ∃kvs k b,H a=some (.dT kvs)/\y=.ref b/\H b=some (.tup (k.map kV))/\kvs.length<sizeLine/\H'=upd H a (.dT (putK kvs k v))
def DGet.k{H:Hp}{a:Addr}{kvs:List (Key×V)}{k:Key}(e:H a=some (.dK kvs)):DGet H a (kV k) (valV kvs k):=.inl ⟨kvs,k,.inl e,rfl,rfl⟩
def DPut.k{H:Hp}{a:Addr}{kvs:List (Key×V)}{k:Key}{v:V}(e:H a=some (.dK kvs))(hl:kvs.length<sizeLine):DPut H a (kV k) v (upd H a (.dK (putK kvs k v))):=.inl ⟨kvs,k,e,rfl,hl,rfl⟩
variable {y:V}{u r:Value}
section
variable {σ:St}{v:V}{o:Option V}
theorem Inv.big(I:Inv X ma σ H s):sysModules<s.heap.objs.size:=by
 have h:mainGlobals<s.heap.objs.size:=(I.mod.glob.keeps I.bk).lt;exact fh Ac h
def jP7{Q:Ah}(hu:A.units+1<cLine)(I:Inv X ma σ H s)(g:DGet H a y (some v))(ry:RelV y u)(h:∀w' s',Inv X ma σ H s'->RelV v w'->Q w' s'):
  wpAny (model X.prog X.w) A (getItem (.ref a) u) Q E s:=by
 rcases g with ⟨kvs,k,e,ey,l⟩|⟨kvs,k,b,e,ey,eb,l⟩
 .subst ey;obtain⟨z,hd,vs,rel,dd⟩:=dk_rd I.hok e;obtain⟨w',hw,rw'⟩:=RelO.some_of (v:=v) (o:=valueAt vs k) (by rw[l];exact rel.val k);exact wpAny_getItem_of (kV_is ry) dd.mapOf hw (h w' _ (I.tok _) rw')
 .subst ey;cases (show u=Value.ref b from ry);obtain⟨z,hd,xs,rel,dd⟩:=dt_rd I.hok e;obtain⟨w',hw,rw'⟩:=RelO.some_of (v:=v) (o:=(atKey xs k).map (·.2)) (by rw[l];exact rel.val k);obtain⟨p,hp,hp2⟩:=Option.map_eq_some_iff.mp hw;refine wpAny_getItem_heap (gB hu) (jHR I.hok eb) dd hp ?_;rw[hp2];exact h w' _ (I.tok _) rw'
def d_in{Q:Ah}(hu:A.units+1<cLine)(I:Inv X ma σ H s)(g:DGet H a y o)(ry:RelV y u)(h:∀s',Inv X ma σ H s'->Q (.bool o.isSome) s'):
  wpAny (model X.prog X.w) A (compareOp .In u (.ref a)) Q E s:=by
 rcases g with ⟨kvs,k,e,ey,l⟩|⟨kvs,k,b,e,ey,eb,l⟩
 .subst ey;obtain⟨z,hd,vs,rel,dd⟩:=dk_rd I.hok e;refine wpAny_in_of (kV_is ry) hd dd.mapOf ?_;rw[<- (rel.val k).isSome_eq,<- l];exact h _ (I.tok _)
 .subst ey;cases (show u=Value.ref b from ry);obtain⟨z,hd,xs,rel,dd⟩:=dt_rd I.hok e;refine wpAny_in_heap (gB hu) (jHR I.hok eb) hd dd ?_;have q:=(rel.val k).isSome_eq;rw[i7] at q;rw[<- q,<- l];exact h _ (I.tok _)
def jUM{Q:Ah}(hu:A.units+1<cLine)(I:Inv X ma σ H s)(g:DGet H a y o)(ry:RelV y u)(h:∀s',Inv X ma σ H s'->Q (.bool (!o.isSome)) s'):
  wpAny (model X.prog X.w) A (compareOp .NotIn u (.ref a)) Q E s:=by
 rcases g with ⟨kvs,k,e,ey,l⟩|⟨kvs,k,b,e,ey,eb,l⟩
 .subst ey;obtain⟨z,hd,vs,rel,dd⟩:=dk_rd I.hok e;refine wpAny_notIn_of (kV_is ry) hd dd.mapOf ?_;rw[<- (rel.val k).isSome_eq,<- l];exact h _ (I.tok _)
 .subst ey;cases (show u=Value.ref b from ry);obtain⟨z,hd,xs,rel,dd⟩:=dt_rd I.hok e;refine wpAny_notIn_heap (gB hu) (jHR I.hok eb) hd dd ?_;have q:=(rel.val k).isSome_eq;rw[i7] at q;rw[<- q,<- l];exact h _ (I.tok _)
def jJJ{ob:HO}(I:Inv X ma σ H s)(mu:Mut (H a))(hs:Heap.SameBut a s.heap h')(he:∃q,h'.get? a=some q)(new:ObjOk X.prog X.w (upd H a ob) h' a ob):
  Inv X ma σ (upd H a ob) {s with heap:=h',toks:=t'}:=
 I.write (x:=a) (e:=a) mu (.inl rfl) (λb q hb z=>(hs.2 b hb).trans z) he new
def jSN{kvs:List (Key×V)}{vs:List (Key×Value)}(z:kvs.length<=sizeLine)(hd:(a==sysModules)=false)(rel:KV kvs vs)(dd:h'.DictOf (kZ P w) a vs):
  ObjOk P w H' h' a (.dK kvs):=⟨z,hd,vs,rel,dd⟩
theorem jP6{Q:Unit->Shared->Prop}(hu:A.units+1<cLine)(I:Inv X ma σ H s)(g:DPut H a y v H')(ry:RelV y u)(rv:RelV v r)(h:∀s',Inv X ma σ H' s'->Q () s'):
  wpAny (model X.prog X.w) A (setItem (.ref a) u r) Q E s:=by
 rcases g with ⟨kvs,k,e,ey,l,eH⟩|⟨kvs,k,b,e,ey,eb,l,eH⟩
 .subst ey eH;obtain⟨z,hd,vs,rel,dd⟩:=dk_of I.hok e;have hz:vs.length<=sizeLine:=by rw[<- rel.length];exact z
  have hl:(putK kvs k v).length<=sizeLine:=by have:=jBQ kvs k v;lia
  refine wpAny_setItem_pairs (hsz:=hz) (kV_is ry) dd λh' dd' hs=>h _ ?_;have he:∃q,h'.get? a=some q:=let ⟨q,_,_,hq,_⟩:=dd';⟨q,hq⟩;exact jJJ I (by rw[e];exact True.intro) hs he (jSN hl hd (rel.put k rv) dd')
 .subst ey eH;cases (show u=Value.ref b from ry);obtain⟨z,hd,xs,rel,dd⟩:=dt_of I.hok e;have hz:xs.length<=sizeLine:=by rw[<- gq rel];exact z
  have hl:(putK kvs k v).length<=sizeLine:=by have:=jBQ kvs k v;lia
  refine wpAny_setItem_heap (hsz:=hz) (gB hu) (jHR I.hok eb) dd λh' dd' hs=>h _ ?_;obtain⟨q,es,ep,hq,h2,h3,h4,_,h5⟩:=dd';refine jJJ I (by rw[e];exact True.intro) hs ⟨q,hq⟩ ⟨hl,hd,_,(rel.put k eb rv).keeps λc ys ec=>?_,q,es,ep,hq,h2,h3,h4,h5⟩;rw[jA (ne_of ec e (λz=>nomatch z))];exact ec
end
variable {kvs:List (Key×V)}
section
variable {σ:St}{k:Key}
end
def NoSl(i:Expr):Prop:=∀ov iv,subscripted i false ov iv=operate [ov,iv] (getItem ov iv)
def jSV{env:Env}{value slice:Expr}{T id:String}{Q:Ah}
  (hl:typeLookup (.type T) "__getitem__" =pure (some (.builtin id))) (hs:NoSl slice)
  (h:wpAny (model prog w) A (eval value env) (λo s₁=>wpAny (model prog w) A (eval slice env) (λi s₂=>s₂.TypeIs o T/\wpAny (model prog w) A (getItem o i) Q E s₂) E s₁) E s):
  wpAny (model prog w) A (eval (.Subscript value slice pos) env) Q E s:=by
 refine Subscript_ (bF h (λo s₁ h₁=>bF h₁ (λi s₂ h₂=>?_) λ_ _ x=>x) λ_ _ x=>x);obtain⟨hT,h₂⟩:=h₂;unfold subscriptTail;refine ae ?_;rw[getitemInPython_of_ne hT.not_modules];refine ae (kj hT hl ?_);have fin:wpAny (model prog w) A (subscripted slice false o i) (λr s₃=>wpAny (model prog w) A (letTemporaryGo value o r >>= λ_=>pure r) Q E s₃) E s₂:=by
  rw[hs o i];exact wpAny_operating (bF h₂ (λr s₃ h₃=>ae (wpAny_letTemporaryGo (aj h₃))) λ_ _ x=>x)
 first
  |exact aj (ae fin)
  |exact ae (aj (ae fin))
  |exact ae fin
def jJH(I:Inv X ma σ H s)(g:DGet H a y o):s.TypeIs (.ref a) "dict" :=by
 rcases g with ⟨kvs,k,e,_,_⟩|⟨kvs,k,b,e,_,_,_⟩
 .obtain⟨_,_,vs,_,dd⟩:=dk_rd I.hok e;exact dd.typeIs
 .obtain⟨_,_,xs,_,dd⟩:=dt_rd I.hok e;exact dd.typeIs
def tDGet(td ty:TE):TE:=λσ H Q=>td σ H λx H1=>ty σ H1 λy H2=>∃a v,x=.ref a/\DGet H2 a y (some v)/\Q v H2
def tDIn(ty td:TE):TE:=λσ H Q=>ty σ H λy H1=>td σ H1 λx H2=>∃a o,x=.ref a/\DGet H2 a y o/\Q (.bl o.isSome) H2
def jML(ty td:TE):TE:=λσ H Q=>ty σ H λy H1=>td σ H1 λx H2=>∃a o,x=.ref a/\DGet H2 a y o/\Q (.bl (!o.isSome)) H2
def sDPut(td ty tv:TE):TS:=λD σ H=>tv σ H λv H1=>td σ H1 λx H2=>ty σ H2 λy H3=>∃a H4,x=.ref a/\DPut H3 a y v H4/\D.nx σ H4
variable {o value:Expr}{pos':Pos}{td tv:TE}
section
variable {i:Expr}{tpos:Pos}{ty:TE}
def jTI(hu:X.A.units+1<cLine)(ho:PE X o td)(hi:PE X i ty)(hs:NoSl i):PE X (.Subscript o i pos) (tDGet td ty):=by
 intro ma s σ H Q I h;refine jSV PySem.F.slot_dict_getitem.lookup hs (mo (ho ma s σ H _ I h) λu s1 ⟨x,H1,I1,rx,q1⟩=>mo (hi ma s1 σ H1 _ I1 q1) λiv s2 ⟨y,H2,I2,ry,a,v,ex,g,q2⟩=>?_);subst ex;obtain rfl:u=Value.ref a:=rx;exact⟨jJH I2 g,jP7 hu I2 g ry λw' s3 I3 rw'=>⟨v,H2,I3,rw',q2⟩⟩
def jVW(hu:X.A.units+1<cLine)(hi:PE X i ty)(ho:PE X o td):PC X .In i o (tDIn ty td):=by
 intro ma s σ H Q I h;refine mo (hi ma s σ H _ I h) λiv s1 ⟨y,H1,I1,ry,q1⟩=>mo (ho ma s1 σ H1 _ I1 q1) λu s2 ⟨x,H2,I2,rx,a,ov,ex,g,q2⟩=>?_;subst ex;obtain rfl:u=Value.ref a:=rx;exact d_in hu I2 g ry λs3 I3=>⟨.bl ov.isSome,H2,I3,rfl,q2⟩
def jN8(hu:X.A.units+1<cLine)(hi:PE X i ty)(ho:PE X o td):PC X .NotIn i o (jML ty td):=by
 intro ma s σ H Q I h;refine mo (hi ma s σ H _ I h) λiv s1 ⟨y,H1,I1,ry,q1⟩=>mo (ho ma s1 σ H1 _ I1 q1) λu s2 ⟨x,H2,I2,rx,a,ov,ex,g,q2⟩=>?_;subst ex;obtain rfl:u=Value.ref a:=rx;exact jUM hu I2 g ry λs3 I3=>⟨.bl (!ov.isSome),H2,I3,rfl,q2⟩
def jT6(hu:X.A.units+1<cLine)(ho:PE X o td)(hi:PE X i ty)(hv:PE X value tv)(hs:swapsWith value (some (.Subscript o i pos')) pos.line X.env=pure false):
  PS X (.Assign [.Subscript o i pos'] value pos) (sDPut td ty tv):=by
 intro ma s σ H D I h;refine wpAny_Assign_Subscript (mo (hv ma s σ H _ I h) λr s1 ⟨v,H1,I1,rv,q1⟩=>mo (ho ma s1 σ H1 _ I1 q1) λu s2 ⟨x,H2,I2,rx,q2⟩=>mo (hi ma s2 σ H2 _ I2 q2) λiv s3 ⟨y,H3,I3,ry,a,H4,ex,g,q3⟩=>?_) hs;subst ex;obtain rfl:u=Value.ref a:=rx;exact jP6 hu I3 g ry rv λs4 I4=>⟨σ,H4,I4,q3⟩
end
def jR8(h:Heap)(hb:sysModules<h.objs.size):ObjOk P w H (h.push {cls:=.type "dict",data:=.dict #[]}) h.objs.size (.dK []):=
 ⟨br _,bW.mpr (cZ (aO hb)),[],.nil,km h⟩
def jMJ:List (TE×TE)->St->Hp->(List (V×V)->Hp->Prop)->Prop
 |[],_,H,Q=>Q [] H
 | (tk,tv)::r,σ,H,Q=>tk σ H λx H1=>tv σ H1 λy H2=>jMJ r σ H2 λps H3=>Q ((x,y)::ps) H3
abbrev VV:List (V×V)->List (Value×Value)->Prop:=Paired λp q=>RelV p.1 q.1/\RelV p.2 q.2
def PPs(X:Cx)(pos:Pos)(keys:List (Option Expr))(values:List Expr)(trs:List (TE×TE)):Prop:=
 ∀(ma:Ai) (s:Shared) (σ:St) (H:Hp) (Q:List (V×V)->Hp->Prop),Inv X ma σ H s->jMJ trs σ H Q->
  wpAny (model X.prog X.w) X.A (evalPairs (pairTrees keys values X.env pos)) (λvs s'=>∃ps H',Inv X ma σ H' s'/\VV ps vs/\Q ps H') X.xe s
def jT7:PPs X pos [] [] []:=λma s σ H Q I h=>pairTrees_nil_walk ⟨[],H,I,.nil,h⟩
def jQ4{k v:Expr}{ks:List (Option Expr)}{vs:List Expr}{tk:TE}(hk:PE X k tk)(hv:PE X v tv)(hr:PPs X pos ks vs trs):
  PPs X pos (some k::ks) (v::vs) ((tk,tv)::trs):=λma s σ H Q I h=>
 pairTrees_cons_walk (mo (hk ma s σ H _ I h) λu s1 ⟨x,H1,I1,rx,q1⟩=>mo (hv ma s1 σ H1 _ I1 q1) λw2 s2 ⟨y,H2,I2,ry,q2⟩=>
  mo (hr ma s2 σ H2 _ I2 q2) λws s3 ⟨ps,H3,I3,rel,q3⟩=>⟨(x,y)::ps,H3,I3,.cons ⟨rx,ry⟩ rel,q3⟩)
def jHM(kvs more:List (Key×V)):List (Key×V):=more.foldl (λacc kv=>putK acc kv.1 kv.2) kvs
def KV.merge:∀{more:List (Key×V)}{rs:List (Key×Value)}{kvs:List (Key×V)}{vs:List (Key×Value)},KV more rs->KV kvs vs->KV (jHM kvs more) (merged vs rs):=by
 intro more rs kvs vs r;unfold KV at r
 induction r generalizing kvs vs with
 |nil=>intro q;exact q
 | @cons p q ps qs h t ih=>
  intro r0;have e:KV (putK kvs p.1 p.2) (stored vs q.1 q.2):=by
   have:=r0.put p.1 h.2;rw[<- h.1];exact this
  exact ih e
theorem jC6:∀(more kvs:List (Key×V)),(jHM kvs more).length<=kvs.length+more.length
 |[],kvs=>by show kvs.length<=kvs.length+0;lia
 |p::r,kvs=>by
  have h1:=jC6 r (putK kvs p.1 p.2);have h2:=jBQ kvs p.1 p.2;show (jHM (putK kvs p.1 p.2) r).length<=_;rw[aU];lia
def jFP{P:Program}{w:World}:∀{kvs:List (Key×V)}{ws:List (Value×Value)},VV (kvs.map λkv=>(kV kv.1,kv.2)) ws->∃rs,Carries (kZ P w) ws rs/\KV kvs rs
 |[],_,r=>by rw[dZ] at r;cases r;exact⟨[],True.intro,.nil⟩
 |p::kvs,_,r=>by
  rw[bg] at r;cases r with
  | @cons a b as bs h t=>
   obtain⟨rs,c,q⟩:=jFP (P:=P) (w:=w) t;obtain⟨b1,b2⟩:=b;exact⟨(p.1,b2)::rs,⟨kV_is h.1,rfl,c⟩,.cons ⟨rfl,h.2⟩ q⟩
def tDisp(trs:List (TE×TE)):TE:=λσ H Q=>∀p,H p=none->jMJ trs σ (upd H p (.dK [])) λps H2=>H2 p=some (.dK [])/\∃kvs:List (Key×V),ps=kvs.map (λkv=>(kV kv.1,kv.2))/\kvs.length<=15/\Q (.ref p) (upd H2 p (.dK (jHM [] kvs)))
theorem jTH{keys:List (Option Expr)}{values:List Expr}(h:PPs X pos keys values trs)(hall:keys.all (·.isSome)=true)(hl:keys.length=values.length)(h0:keys≠[])
  (h15:keys.length<=15):PE X (.Dict keys values pos) (tDisp trs):=by
 intro ma s σ H Q I q;have hn:=I.hok.fresh (ar s.heap.objs.size);have I1:=I.laid (a:=s.heap.objs.size) (o:=.dK []) (h':=s.heap.push {cls:=.type "dict",data:=.dict #[]}) (t':=s.toks) (λ_ _ q=>af _ q) (ar _) (jR8 s.heap I.big);refine wpAny_Dict_walk (knd:=kZ X.prog X.w) hall hl h0 h15 (mo (h ma _ σ _ _ I1 (q _ hn)) λws s2 ⟨ps,H2,I2,rel,e,kvs,ep,lk,q2⟩=>?_);subst ep;obtain⟨rs,c,rk⟩:=jFP (P:=X.prog) (w:=X.w) rel;obtain⟨z,hd,vs0,r0,dd⟩:=dk_of I2.hok e;cases r0;refine⟨rs,c,dd,λh' dd' hs=>⟨.ref s.heap.objs.size,_,?_,rfl,q2⟩⟩;have hz:(jHM [] kvs).length<=sizeLine:=by
  have h1:=jC6 kvs [];rw[cz] at h1;rw[d0];lia
 have he:∃q,h'.get? s.heap.objs.size=some q:=let ⟨q,_,_,hq,_⟩:=dd';⟨q,hq⟩;exact jJJ I2 (by rw[e];exact True.intro) hs he (jSN hz hd (rk.merge .nil) dd')
section
variable {σ:St}{d:V}{o:Option V}
end
variable {apos:Pos}{tx:TE}
section
variable {f:Expr}{ty:TE}
end
section
variable {σ:St}
end
section
variable {σ:St}
end
section
variable {κ:Type} [DecidableEq κ]
end
section
variable {d:Addr}{kvs:List (Key×Value)}
def jJM{T:String}{r d:Addr}{n:Nat}{P:Nat->Value->Prop}{OK:Heap->Prop}{R:Al->Shared->Prop}(K:PySem.W.KdlSrc prog w T r d n P OK)(hh:A.handled=none)(hok:OK s.heap)(hn:n<=sizeLine)
  (h:∀(h':Heap) (tk:Nat) (acc:An),(∀b o,s.heap.get? b=some o->h'.get? b=some o)->s.heap.objs.size<h'.objs.size->ItemsOf P acc n->R acc.toList {s with heap:=h',toks:=tk}):
  wpAny (model prog w) A (collect (.ref r)) R E s:=by
 have hlt:=K.there _ hok;unfold collect;refine ae (fZ (bZ entry_proto_collect' ?_));rw[bY iE _];show wpAny _ A.in1 (newList [] >>= λl=>again (.builtin "list.__iadd__" ⟨[l,.ref r],[]⟩)) _ _ s;refine ae (bP ?_);refine aj ⟨eS eW _,bZ entry_list_iadd' ?_⟩;rw[bY eW _];have hS:(s.heap.push {cls:=.type "list",data:=.seq ([]:Al).toArray}).get? s.heap.objs.size=some {cls:=.type "list",data:=.seq #[]}:=aw _ rfl;show wpAny _ A.in1 (Builtin.List.listExtendWith (.ref s.heap.objs.size) (.ref r) (.ref s.heap.objs.size)) _ _ _;refine bF (PySem.W.kdl_extend (A:=A) (s:= {s with heap:=s.heap.push {cls:=.type "list",data:=.seq ([]:Al).toArray}})
  (R:=λ(q:Result) (s':Shared)=>∃(h':Heap) (tk:Nat) (acc:An) (c:Nat),q=.ok (.ret (.ref s.heap.objs.size))/\s'= {s with heap:=h',toks:=tk} /\
   (∀b o,s.heap.get? b=some o->h'.get? b=some o)/\h'.get? s.heap.objs.size=some {cls:=.type "list",dict:=none,data:=.seq acc c,slots:=#[]} /\ItemsOf P acc n)
  K hh (K.keep _ _ hok λb _ o e=>af _ e) s.heap.objs.size (de hlt.1) (de hlt.2) (.ref s.heap.objs.size) 0 hS
  (λh' tk acc c hk hS' hacc=>⟨h',tk,acc,c,rfl,rfl,λb o e=>hk b o (aO (ay e)) (af _ e),hS',hacc⟩) hn) (λfin s' x=>?_) λe s' x=>?_
 .cases fin with
  |done f=>
   obtain⟨h',tk,acc,c,e,rfl,hk,hS',hacc⟩:=x;cases e;show wpAny _ A (load s.heap.objs.size >>= _) _ _ _;exact ae (fJ hS' (aj (h h' tk acc hk (ay hS') hacc)))
  |again c1=>
   refine⟨x.1,df x.2 λq s2 y=>?_⟩;obtain⟨h',tk,acc,c,rfl,rfl,hk,hS',hacc⟩:=y;show wpAny _ A (load s.heap.objs.size >>= _) _ _ _;exact ae (fJ hS' (aj (h h' tk acc hk (ay hS') hacc)))
 .obtain⟨_,_,_,_,e',_⟩:=x;cases e'
end
section
variable {i f:Expr}{ty:TE}
def jJA(hu:X.A.units+1<cLine)(ho:JE X o td)(hi:JE X i ty)(hs:jB1 i):JE X (.Subscript o i pos) (tDGet td ty):=⟨jTI hu ho.h hi.h hs⟩
def jJ7(hu:X.A.units+1<cLine)(ho:JE X o td)(hi:JE X i ty)(hv:JE X value tv)(hs:SwOk value (some (.Subscript o i pos'))):JS X (.Assign [.Subscript o i pos'] value pos) (sDPut td ty tv):=⟨jT6 hu ho.h hi.h hv.h (hs.h _ _)⟩
end
def jH1:entryFor table "dict.update.loop" =some Builtin.«dict.update.loop»:=jq (by kernel_rfl)
theorem jBX:plainId "dict.update.loop" =true:=by decide+kernel
def jHP:typeLookup (.type "list") "keys" =pure none:=am_miss_of_fast (by kernel_rfl)
def jEE:typeLookup (.type "list") "__getattr__" =pure none:=am_miss_of_fast (by kernel_rfl)
theorem jNV(a:Addr)(name:Str)(u:Tok)(hmiss:typeLookup (.type "list") name=pure none)(hsz:name.length+100<=sizeLine)(hgd: [Str.ofString "__module__",Str.ofString "__name__",Str.ofString "__qualname__",Str.ofString "__doc__",Str.ofString "__annotations__"].contains name=false):Meets (Builtin.«object.__getattribute__» ⟨[.ref a,.str name u],[]⟩) (λA R s=>(∃its n,s.heap.get? a=some {cls:=.type "list",data:=.seq its n})/\raisesAttr (.ref a) name A R s):=
 Meets.of_wp λprog w A R s hs=>by
  obtain⟨⟨its,n,ho⟩,hs⟩:=hs;obtain⟨hp,g,d,tk,os⟩:=s;have hT:(⟨hp,g,d,tk,os⟩:Shared).TypeIs (.ref a) "list" :=⟨_,ho,rfl⟩;unfold Builtin.«object.__getattribute__»
  repeat (any_goals (first|assumption|wp_step))
  rw[hgd,az aC]
  repeat (any_goals (first|assumption|wp_step))
  exact wpAny_raiseAttrError hs.1 hs.2 (attrMsg_fits Ab hsz)
def jO8{name:Str}(hmiss:typeLookup (.type "list") name=pure none)(hsz:name.length+100<=sizeLine)(hgd: [Str.ofString "__module__",Str.ofString "__name__",Str.ofString "__qualname__",Str.ofString "__doc__",Str.ofString "__annotations__"].contains name=false){its:An}{n:Nat}{Q:Ao->Shared->Prop}(hA:A.handled=none)(ho:s.heap.get? a=some {cls:=.type "list",data:=.seq its n})
  (h:∀h' tk,(∀b u,s.heap.get? b=some u->h'.get? b=some u)->Q none {s with heap:=h',toks:=tk}):wpAny (model prog w) A (getAttr? (.ref a) name) Q E s:=by
 obtain⟨hp,g,d,tk,os⟩:=s;have hT:∀tk',(⟨hp,g,d,tk',os⟩:Shared).TypeIs (.ref a) "list" :=λ_=>⟨_,ho,rfl⟩;have f1:=sub_AttributeError;have f3:=F.slot_list_getattribute.lookup;have f4:=F.slot_list_getattribute.bind (.ref a);have f5:=jEE;unfold getAttr? getAttrBy? getAttrBy
 repeat (any_goals (first|assumption | ((with_reducible show wpAny _ _ (call (Value.builtin "list.__getattribute__") _ _) _ _ _);refine jx F.slot_list_getattribute (hT _) F.entry_list_ga (F.args_list_getattribute_2 _ _) (jNV a name _ hmiss hsz hgd) ⟨⟨its,n,ho⟩,hA,λh' tk' e hx=>?_⟩)|wp_step))
 obtain⟨t',u',he⟩:=hx.there;show wpAny _ _ (getattributeRaised _ _ _ _ _ _ _) _ _ _;unfold getattributeRaised
 repeat (any_goals (first|assumption|wp_step))
 exact h _ _ λb u q=>hx.keeps b u q
def jLO{k v:Value}{m:Nat}{Q:Al->Shared->Prop}(ho:s.heap.get? a=some {cls:=.type "tuple",data:=.seq #[k,v] m})(h:Q [k,v] s):wpAny (model prog w) A (Builtin.Dict.pairItems (.ref a)) Q E s:=by
 obtain⟨hp,g,d,tk,os⟩:=s;have hT:(⟨hp,g,d,tk,os⟩:Shared).TypeIs (.ref a) "tuple" :=⟨_,ho,rfl⟩;unfold Builtin.Dict.pairItems
 repeat (any_goals (first|assumption|wp_step))
section
variable {prog:Program}{w:World}{K:Type} [DecidableEq K]{knd:KeyKind prog w K}{A:Around}{R:Result->Shared->Prop}{I:Addr}{fp wr:List Addr}{n:Nat}{P:Nat->Value->Prop}{St:Nat->Shared->Prop}
def jL8(knd:KeyKind prog w K)(h:Heap)(a:Addr)(p:K×Value):Prop:=∃key m,h.get? a=some {cls:=.type "tuple",data:=.seq #[key,p.2] m} /\knd.is p.1 key=true
theorem upl(W:WalksS prog w A.in1 I fp wr (λa b=>b=a) n P St)(d:Addr)(hd:d∉fp)(more:List (K×Value))(hmn:more.length=n)(pa:Nat->Addr)(hpd:∀i,i<n->pa i≠d/\pa i∉wr)(hP:∀i v,P i v->v=.ref (pa i))(hn:n<=sizeLine):
  ∀(k i:Nat) (z:Int) (s:Shared),n-i=k->i<=n->St i s->s.heap.DictOf knd d (merged [] (more.take i))->(∀j p,more[j]?=some p->jL8 knd s.heap (pa j) p)->
   (∀s',Moved (d::wr) (λa b=>b=a) s s'->s'.heap.DictOf knd d (merged [] more)->R (.ok (.ret .none)) s')->
   codeAny (model prog w) A (.builtin "dict.update.loop" ⟨[.ref d,.ref I,rawInt z,.none],[]⟩) R s:=by
 have hdw:d∉wr:=λh=>hd (W.sub _ h);have sub1:∀b∈wr,b∈d::wr:=λb hb=>ah _ hb;intro k
 induction k with
 |zero=>
  intro i z s hk hi hst hS hp hR;obtain rfl:i=n:=by lia
  refine bZ jH1 ?_;rw[bY jBX _];show wpAny _ A.in1 (pyNext (.ref I) >>= _) _ _ s;refine ae (W.done s _ _ hst λs' mv=>?_);show wpAny _ A.in1 (Builtin.Dict.addKeywords d [] >>= λ_=>ret Value.none) _ _ s';refine ae (aj (aj (hR s' (mv.mono sub1) ?_)));obtain⟨o,es,ep,ho,r⟩:=hS;rw[<- hmn,bK] at r;exact⟨o,es,ep,mv.heap d o hdw ho,r⟩
 |succ k ih=>
  intro i z s hk hi hst hS hp hR;have hlt:i<n:=Aa;refine bZ jH1 ?_;rw[bY jBX _];show wpAny _ A.in1 (pyNext (.ref I) >>= _) _ _ s;refine ae (W.item i s _ _ hlt hst λv s' hPv hst' mv=>?_);obtain rfl:=hP i v hPv;have hS':s'.heap.DictOf knd d (merged [] (more.take i)):=by
   obtain⟨o,es,ep,ho,r⟩:=hS;exact⟨o,es,ep,mv.heap d o hdw ho,r⟩
  have hp':∀j p,more[j]?=some p->jL8 knd s'.heap (pa j) p:=λj p hj=>by
   obtain⟨key,m,e,q⟩:=hp j p hj;have hjn:j<n:=by rw[<- hmn];exact(am.mp hj).1
   exact⟨key,m,mv.heap _ _ (hpd j hjn).2 e,q⟩
  obtain⟨p,hpi⟩:∃p,more[i]?=some p:=⟨more[i],by simp[hmn,hlt]⟩;obtain⟨key,m,e1,hk1⟩:=hp' i p hpi;show wpAny _ A.in1 (holding [Value.ref (pa i)] _ >>= _) _ _ s';refine ae (bB (ae ?_));refine wpAny_tryCatch (jLO e1 ?_);refine bB (wpAny_dictSet_pairs hk1 hS' (λh' hd' sb=>?_) (by
   have:=merged_length_le (K:=K) [] (more.take i);have h2:=bC i more;have:(merged [] (more.take i)).length<=i:=by
    refine bh (merged_length_le (K:=K) [] (more.take i)) ?_;simp only[cz,Nat.zero_add];exact bC _ _
   lia))
  refine aj ⟨eS jBX _,ih (i+1) (z+1) _ Aa hlt (W.frame _ s' _ _ hst' (fb _) λb hb o e=>?_) ?_ (λj p hj=>?_) λs'' mv2 hS3=>?_⟩
  .rw[sb.2 b (λh:b=d=>hd (by rw[<- h];exact hb))];exact e
  .rw[merged_take_succ _ _ _ _ hpi];exact hd'
  .obtain⟨key,m,e,q⟩:=hp' j p hj;have hjn:j<n:=by rw[<- hmn];exact(am.mp hj).1
   exact⟨key,m,by show h'.get? _=_;rw[sb.2 _ (hpd j hjn).1];exact e,q⟩
  .refine hR s'' (Moved.trans W.gtrans ((mv.mono sub1).then_heap (fb _) λb o hb e=>?_) mv2) hS3;rw[sb.2 b (λh:b=d=>hb (by rw[h];exact ai))];exact e
end
section
variable {prog:Program}{w:World}{K:Type} [DecidableEq K]{knd:KeyKind prog w K}{A:Around}{E:Ah}{s:Shared}
theorem jF1{l:Addr}{its:Al}{nl:Nat}{more:List (K×Value)}{Q:Ah}(hA:A.handled=none)(hl:s.heap.get? l=some {cls:=.type "list",data:=.seq its.toArray nl})(hsz:its.length<=sizeLine)
  (pa:Nat->Addr) (hit:∀i v,its[i]?=some v->v=Value.ref (pa i)) (hlen:more.length=its.length) (hp:∀j p,more[j]?=some p->jL8 knd s.heap (pa j) p)
  (h:∀h' tk,h'.DictOf knd s.heap.objs.size (merged [] more)->(∀b u,s.heap.get? b=some u->h'.get? b=some u)->Q (.ref s.heap.objs.size) {s with heap:=h',toks:=tk}):
  wpAny (model prog w) A (call (.type "dict") [.ref l]) Q E s:=by
 refine callType_codes (Q₁:=λobj s₁=>obj=.ref s.heap.objs.size/\s₁= {s with heap:=s.heap.push {cls:=.type "dict",data:=.dict #[]}}) F.kt_called_dict (F.kt_typeCall_dict_1 _) F.entry_dict_init (kt_code_dict_new _ ⟨rfl,rfl⟩) ?_;rintro obj s₁ ⟨rfl,rfl⟩;have hnew:(s.heap.push {cls:=.type "dict",data:=.dict #[]}).DictOf knd s.heap.objs.size []:=km s.heap;have hl1:(s.heap.push {cls:=.type "dict",data:=.dict #[]}).get? l=some {cls:=.type "list",data:=.seq its.toArray nl}:=af _ hl;have hls:l<s.heap.objs.size:=ay hl;have hT:Shared.TypeIs {s with heap:=s.heap.push {cls:=.type "dict",data:=.dict #[]}} (.ref l) "list" :=⟨_,hl1,rfl⟩;refine⟨hnew.typeIs,F.args_dict_init_2 _ _,?_⟩;unfold Builtin.«dict.__init__»;refine ae ?_;unfold Builtin.Dict.selfAndRest;refine ae (wpAny_notOrdered_dict hnew.typeIs ?_);show wpAny _ _ (pure (s.heap.objs.size,[Value.ref l])) _ _ _;refine aj ?_;show wpAny _ _ (Builtin.Dict.updateFrom "dict.__init__" s.heap.objs.size (.ref l) [] .none) _ _ _;unfold Builtin.Dict.updateFrom;refine ae (iC hT ?_);rw[aA Ac];refine ae (jO8 jHP Ab Ab (by simpa using hA) hl1 λh2 tk2 k2=>?_);rw[aA (by rfl)];refine ae (dA (ae ?_));have hl2:h2.IsList l its.toArray:=⟨_,k2 _ _ hl1,rfl,nl,rfl⟩;refine dz hl2 ?_;have z2:s.heap.objs.size<h2.objs.size:=by
  have:=ay (k2 _ _ (aw s.heap (o:= {cls:=.type "dict",data:=.dict #[]}) rfl));exact this
 have hlI:l≠h2.objs.size:=aO (fh hls z2);have hdI:s.heap.objs.size≠h2.objs.size:=aO z2;have hdl:s.heap.objs.size≠l:=de hls;have hplt:∀i,i<its.length->pa i<s.heap.objs.size:=λi hi=>by
  obtain⟨key,m,e,_⟩:=hp i more[i] (by simp[hlen,hi]);exact ay e
 have keep:∀b u,s.heap.get? b=some u->(h2.push {cls:=.type "list_iterator",data:=.fields #[.ref l,.int 0 0]}).get? b=some u:=λb u e=>af _ (k2 _ _ (af _ e));refine aj ⟨eS jBX _,upl (knd:=knd) ((jy (by simp[hA]) _ l hlI its.toArray).toS) s.heap.objs.size ?_ more (by simp[hlen]) pa (λi hi=>?_) (λi v q=>hit i v (by simpa using q)) (by simpa using hsz) (its.toArray.size-0) 0 0 _ rfl (br _) ⟨⟨_,aw _ rfl,rfl,rfl⟩,hl2.push _⟩ ?_ (λj p hj=>?_) λs' mv hD=>?_⟩
 .simp only[aB,bq,cL,io];exact⟨hdI,hdl⟩
 .have:=hplt i (by simpa using hi);refine⟨aO this,?_⟩;simp only[aB,bq,cL];exact aO (fh this z2)
 .obtain⟨o,es,ep,ho,r⟩:=hnew;exact⟨o,es,ep,af _ (k2 _ _ ho),r⟩
 .obtain⟨key,m,e,q⟩:=hp j p hj;exact⟨key,m,keep _ _ e,q⟩
 .obtain⟨h',g',d',tk',os'⟩:=s';have e1:g'=s.gens:=mv.gens;have e2:d'=s.drawn:=mv.drawn;have e3:os'=s.os:=mv.os;subst e1;subst e2;subst e3;refine⟨rfl,h h' tk' hD λb u e=>mv.heap b u ?_ (keep b u e)⟩;have hb:=ay e;simp only[aB,bq,cL,io];exact⟨aO hb,aO (fh hb z2)⟩
end
def jNU{P:Program}{w:World}{h:Heap}:∀(kvs:List (Key×V)) (pa:Nat->Addr),(∀i k v,kvs[i]?=some (k,v)->∃key u m,h.get? (pa i)=some {cls:=.type "tuple",data:=.seq #[key,u] m} /\RelV (kV k) key/\RelV v u)->
  ∃more:List (Key×Value),KV kvs more/\∀j p,more[j]?=some p->jL8 (kZ P w) h (pa j) p
 |[],_,_=>⟨[],.nil,λj p e=>by simp at e⟩
 | (k,v)::r,pa,hk=>by
  obtain⟨more,k1,k2⟩:=jNU (P:=P) (w:=w) r (λi=>pa (i+1)) λi k v e=>hk (i+1) k v (by simpa using e);obtain⟨key,u,m,e,r1,r2⟩:=hk 0 k v rfl;refine⟨(k,u)::more,.cons ⟨rfl,r2⟩ k1,λj p hj=>?_⟩;cases j with
  |zero=>
   simp at hj;subst hj;exact⟨key,m,e,kV_is r1⟩
  |succ j=>exact k2 j p (by simpa using hj)
theorem jM6(hc:X.calm=true):yQ X (.type "dict") (λxs H Q=>∃(p:Addr) (vs:List V) (kvs:List (Key×V)),xs=[.ref p]/\H p=some (.lst vs)/\vs.length=kvs.length/\(∀(i:Nat) (k:Key) (v:V),kvs[i]?=some (k,v)->∃a:Addr,vs[i]?=some (V.ref a)/\H a=some (.tup [kV k,v]))/\(kvs.map (·.1)).Nodup/\∀l:Addr,H l=none->Q (.ref l) (upd H l (.dK kvs))):=by
 intro ma s σ H xs us Q I r h;obtain⟨p,vs,kvs,rfl,hq,hl,hkv,hnd,q⟩:=h;obtain⟨u,rfl,rx⟩:=r.one;cases rx;obtain⟨hz,its,nl,r',e0⟩:=I.hok p _ hq;have hli:=r'.length;obtain⟨more,k1,k2⟩:=jNU (P:=X.prog) (w:=X.w) (h:=s.heap) kvs (λi=>match vs[i]? with|some (.ref a)=>a|_=>0) λi k v e=>by
  obtain⟨a,e1,e2⟩:=hkv i k v e;obtain⟨_,it2,r2,m,e3⟩:=I.hok a _ e2;have l2:=r2.length;obtain⟨k',rest,rfl⟩:∃k' rest,it2=k'::rest:=by
   cases it2 with
   |nil=>simp at l2
   |cons a b=>exact⟨a,b,rfl⟩
  obtain⟨u',rest',rfl⟩:∃u' rest',rest=u'::rest':=by
   cases rest with
   |nil=>simp at l2
   |cons a b=>exact⟨a,b,rfl⟩
  obtain rfl:rest'=[]:=by
   cases rest' with
   |nil=>rfl
   |cons a b=>simp at l2
  rw[e1];cases r2 with
  |cons a1 a2=>
   cases a2 with
   |cons b1 b2=>exact⟨k',u',m,e3,a1,b1⟩
 have lm:more.length=kvs.length:=(gq k1).symm;refine jF1 (knd:=kZ X.prog X.w) (I.ok.hd hc) e0 Aa (λi=>match vs[i]? with|some (.ref a)=>a|_=>0) (λi v hv=>?_) Aa k2 λh' tk hD kp=>?_
 .have hi:i<its.length:=(am.mp hv).1;have hik:i<kvs.length:=Aa;obtain⟨a,e1,e2⟩:=hkv i kvs[i].1 kvs[i].2 (by simp[hik]);obtain⟨u,e3,e4⟩:=r'.get e1;rw[hv] at e3;cases e3;simp only[e1];exact e4
 .rw[merged_nil_of_nodup _ (by rw[<- KV.keys k1];exact hnd)] at hD;have hsz:(s.heap.objs.size==sysModules)=false:=by
   have:=I.big;exact bW.mpr (de this)
  exact⟨.ref s.heap.objs.size,_,I.laid (t':=tk) (o:=.dK kvs) kp (ar _) ⟨Aa,hsz,more,k1,hD⟩,rfl,q _ I.fresh⟩
section
variable {K:W.Frag}
theorem gl_n(h:sc.names.lookup x=some .globalImplicit:=by decide+kernel):Gl1 (cxN P w K mg Aq N qual sc f cd cl A mj s H) x:=⟨h⟩
theorem vis_n(h:sc.names.lookup x=some .local:=by decide+kernel):Vis1 (cxN P w K mg Aq N qual sc f cd cl A mj s H) x:=⟨.inl h⟩
def jRM(h:sc.names.lookup x=some .free):Vis1 (cxN P w K mg Aq N qual sc f cd cl A mj s H) x:=⟨.inr (.inr h)⟩
end
def jWO{x:Str}{args:Arguments}{body:List Stmt}{scope:Scope}{pos:Pos}{c0 T:Addr}{j:Nat}(hN:X.N.Nodup)(hj:X.N[j]?=some x)(lx:Loc1 X x)(hcode:X.env.code=.ref c0)(CH:PySem.W.CodeHd X.Aq c0 T)(hbm:qO X.Aq X.mg)
  (hfree:∀y∈scope.names,y.2=.free->X.env.scope.names.lookup y.1=some .cell\/X.env.scope.names.lookup y.1=some .free) (hdf:defaultsOf args X.env=([],[])) (han:annTrees args none X.env=[]):
  JS X (.FunctionDef x args body [] none [] scope none x pos) (tDef x (qualnameIn X.env x x) args body scope (jM X.env.cells scope.names []) T pos j):=⟨jVJ hN hj lx.a hcode CH hbm hfree hdf han lx.b⟩
def iSeq(K:W.Frag)(te:TE):TI:=λσ H R=>iList K te σ H R\/iTup K te σ H R
def jWQ{a:Expr}{ta:TE}(hl:JE X a ta):JI X tg a (iSeq X.K ta):=⟨λma s σ H R I h=>by
 rcases h with h|h
 .exact(yW hl).h ma s σ H R I h
 .exact(jDD hl).h ma s σ H R I h⟩
def AtS(tp:Bool)(H:Hp)(a:Addr)(xs:List V):Prop:=match tp with
 |false=>H a=some (.lst xs)
 |true=>H a=some (.tup xs)
def AtS.sq{tp:Bool}{xs:List V}(h:AtS tp H a xs):Sq tp K H a xs:=by
 cases tp with
 |false=>exact SqL.of h
 |true=>exact SqT.of h
def AtS.or{tp:Bool}{xs:List V}(h:AtS tp H a xs):SqL K H a xs\/SqT K H a xs:=by
 cases tp with
 |false=>exact .inl (SqL.of h)
 |true=>exact .inr (SqT.of h)
def AtS.ob(tp:Bool)(xs:List V):HO:=match tp with
 |false=> .lst xs
 |true=> .tup xs
def AtS.is{tp:Bool}{H:Hp}{a:Addr}{xs:List V}:AtS tp H a xs↔H a=some (AtS.ob tp xs):=by cases tp<;>exact Iff.rfl
def AtS.ext{tp:Bool}{xs:List V}(h:AtS tp H a xs)(e:Ext H H'):AtS tp H' a xs:=AtS.is.mpr (e _ _ (AtS.is.mp h))
def jWT{i:Expr}{ty:TE}(hu:X.A.units+1<cLine)(hi:JE X i ty)(ho:JE X o td)(h1:behindInMarks .In o=false):JT X (.Compare i [.In] [o] pos) (tB (tDIn ty td)):=⟨jS2 (jVW hu hi.h ho.h) h1⟩
section
variable {K:W.Frag}{σ:St}
theorem jHY{a:Addr}{xs:List V}(hn:xs.length<sizeLine)(Pv:Addr->Nat->St->Hp->List V->Prop)(h0:∀D,H1 D=none->Pv D 0 (blkσ m σ) (upd H1 D (.lst [])) [])
  (hD:∀D i σ' H' zs,H1 D=none->Pv D i σ' H' zs->H' a=some (.lst xs)/\H' D=some (.lst zs)/\zs.length<=i)
  (hs:∀D i σ' H' zs x,H1 D=none->xs[i]?=some x->Pv D i σ' H' zs->g x σ' H' λσ2 H2=>tt σ2 H2 λb H3=>if b=true then te σ2 H3 λv H4=>H4 D=some (.lst zs)/\Pv D (i+1) σ2 (upd H4 D (.lst (zs++[v]))) (zs++[v]) else Pv D (i+1) σ2 H3 zs)
  (hd:∀D σ' H' zs,H1 D=none->Pv D xs.length σ' H' zs->Q (.ref D) H'):qK m g tt te σ Q (Itl K a) H1:=by
 intro D hDn;refine⟨λi k σ' H' zs=>k=xs.length-i/\i<=xs.length/\Pv D i σ' H' zs,⟨_,rfl,br _,h0 D hDn⟩,?_⟩;rintro i k σ' H' zs ⟨rfl,hi,p⟩;obtain⟨s1,q1,q2⟩:=hD D i σ' H' zs hDn p;refine⟨q1,Aa,?_⟩;by_cases hlt:i<xs.length
 .refine .inr ⟨⟨xs,xs[i],SqL.of s1,by simp[hlt]⟩,Pv D (i+1),λσ2 H2 zs z=>⟨xs.length-(i+1),Aa,rfl,hlt,z⟩,λv H'' y=>?_⟩;obtain⟨e1,e2⟩:=y;subst e1;exact hs D i σ' _ zs v hDn (e2 xs (SqL.of s1)) p
 .have e:i=xs.length:=Aa;subst e;exact .inl ⟨⟨xs,SqL.of s1,ar _⟩,hd D σ' H' zs hDn p⟩
def jRA{tp:Bool}{ta:TE}{a:Addr}{xs:List V}(ha:AtS tp H1 a xs)(hta:∀Q:VK,Q (.ref a) H1->ta σ H1 Q)(hn:xs.length<sizeLine)(Pv:Addr->Nat->St->Hp->List V->Prop)(h0:∀D,H1 D=none->Pv D 0 (blkσ m σ) (upd H1 D (.lst [])) [])
  (hD:∀D i σ' H' zs,H1 D=none->Pv D i σ' H' zs->AtS tp H' a xs/\H' D=some (.lst zs)/\zs.length<=i)
  (hs:∀D i σ' H' zs x,H1 D=none->xs[i]?=some x->Pv D i σ' H' zs->g x σ' H' λσ2 H2=>tt σ2 H2 λb H3=>if b=true then te σ2 H3 λv H4=>H4 D=some (.lst zs)/\Pv D (i+1) σ2 (upd H4 D (.lst (zs++[v]))) (zs++[v]) else Pv D (i+1) σ2 H3 zs)
  (hd:∀D σ' H' zs,H1 D=none->Pv D xs.length σ' H' zs->Q (.ref D) H'):iSeq K ta σ H1 (qK m g tt te σ Q):=by
 cases tp with
 |false=>exact .inl (hta _ ⟨a,rfl,⟨xs,SqL.of ha⟩,jHY hn Pv h0 hD hs hd⟩)
 |true=>exact .inr (hta _ ⟨a,rfl,⟨xs,SqT.of ha⟩,jBK hn Pv h0 hD hs hd⟩)
end
def ExtT.of{T:Addr}{H H':Hp}(e:Ext H H'):ExtT T H H':=λb o h _=>e b o h
def ExtT.trans{H'':Hp}(a:ExtT T H H')(b:ExtT T H' H''):ExtT T H H'':=λc o h n=>b c o (a c o h n) n
def TabOk.is{H:Hp}{T:Addr}{pos:Pos}{q:Str}(t:TabOk H T pos q):∃ps,H T=some (.tbl ps):=by
 rcases t with h|⟨c,h,_⟩
 .exact⟨_,h⟩
 .exact⟨_,h⟩
def TabOk.ne(t:TabOk H T pos q){o:HO}(h:H b=some o)(ho:∀ps,o≠.tbl ps):b≠T:=λe=>by
 obtain⟨ps,z⟩:=t.is;rw[e,z] at h;cases h;exact ho ps rfl
def TabOk.ext(t:TabOk H T pos q)(e:Ext H H'):TabOk H' T pos q:=by
 rcases t with h|⟨c,h,h2⟩
 .exact .inl (e _ _ h)
 .exact .inr ⟨c,e _ _ h,e _ _ h2⟩
def ExtT.at{T:Addr}{H H':Hp}(e:ExtT T H H'){pos:Pos}{q:Str}(t:TabOk H T pos q){b:Addr}{o:HO}(h:H b=some o)(ho:∀ps,o≠.tbl ps:=by intro _ z;cases z):H' b=some o:=e b o h (t.ne h ho)
def ExtT.seq(e:ExtT T H H')(t:TabOk H T pos q){tp:Bool}{xs:List V}(h:AtS tp H b xs):AtS tp H' b xs:=by
 cases tp with
 |false=>exact e.at t (show H b=some (.lst xs) from h)
 |true=>exact e.at t (show H b=some (.tup xs) from h)
structure FunC (K:W.Frag)(x qual:Str)(st:Stmt)(f:Addr)(fd:FuncData)(c0:Addr):Prop where
 ex:∃(oc:Value) (od:Option Addr) (kV doc pm:Value) (an:Option Addr) (ct:Value) (osl:Array (Ao)),fd=PySem.W.fnOf x qual (yC st) (jE st) (j8 st) .none kV doc pm an (.ref c0) ct/\K.lookup f=some ⟨oc,od,.func fd,osl⟩/\PySem.W.codeIn K (.ref c0) qual=true
def FunC.ok{st:Stmt}{k:Nat}(F:FunC K x qual st f fd c0)(S:FnScope N ps (j8 st))(len:∀vs H Q E,sp vs H Q E->vs.length=ps.length)
  (hbody:∀(A:Around) (mj:List Env) (s:Shared) (H:Hp) (vs:List V) (Q:VK) (E:XK),Room k (A.deeper (envOfC qual (j8 st) s.heap.objs.size f (.ref c0)))->sp vs H Q E->
   ∃t,PSs (cxOf CX0 P w K mg Aq N qual (j8 st) f (.ref c0) A mj s H E).nox (jE st) t/\t {nx:=λ_ H'=>Q .non H',rt:=Q} (kT N vs) H):FnOk P w K mg Aq CX0 (k+1) f fd ps sp:=by
 obtain⟨oc,od,kV,doc,pm,an,ct,osl,rfl,lk,hcd⟩:=F.ex;refine fn_of lk hcd S len λA mj s H vs Q E hr hsp=>?_;obtain⟨t,ht,hq⟩:=hbody A mj s H vs Q E hr hsp;exact⟨t,ht.nox,hq⟩
variable {fp:List Addr}
section
variable {sc2:Scope}{cl2:Aj}{C2:Addr}{Nc2:Am}{fp2:List Addr}{s2:Shared}{H2:Hp}
def jJR:yQ (blk X sc cl C Nc fp s H) (.type "tuple") (λxs H Q=>∃p ys,xs=[.ref p]/\((SqL X.K H p ys/\∀l,H l=none->Q (.ref l) (upd H l (.tup ys)))\/(SqT X.K H p ys/\Q (.ref p) H))):=jV
end
def jKO{st:Stmt}:JS X st (λ_ _ _=>False):=⟨λ_ _ _ _ _ _ h=>h.elim⟩
section
variable {K:W.Frag}{σ:St}
abbrev TupsK(H H':Hp):Prop:=∀b xs,H b=some (.tup xs)->H' b=some (.tup xs)
structure ZOk (Z:Hp->List V->Nat->Prop):Prop where
 z0:∀H,Z H [] 0
 mono:∀H H' zs j,TupsK H H'->Z H zs j->Z H' zs j
 len:∀H zs j,Z H zs j->zs.length<=j
def jDW{D:Addr}(h:H D=some (.lst zs))(o:HO):TupsK H (upd H D o):=λb xs hb=>by
 rw[jA (λe=>by rw[e,h] at hb;cases hb)];exact hb
def TurnZ(g:TG)(tt:TT)(te:TE)(σP:St->Prop)(Z:Hp->List V->Nat->Prop)(x:V)(j:Nat)(σ':St)(H':Hp)(zs:List V):Prop:=
 ∀(R:St->V->Hp->Prop) (S:St->Hp->Prop),(∀σ2 v H2,σP σ2->Ext H' H2->Z H2 (zs++[v]) (j+1)->R σ2 v H2)->(∀σ2 H2,σP σ2->Ext H' H2->Z H2 zs (j+1)->S σ2 H2)->
  g x σ' H' λσ2 H2=>tt σ2 H2 λb H3=>if b=true then te σ2 H3 (R σ2) else S σ2 H3
def jPB{tp:Bool}{a:Addr}{xs:List V}(σP:St->Prop)(Z:Hp->List V->Nat->Prop)(zo:ZOk Z)(ha:AtS tp H a xs)(hn:xs.length<sizeLine)(h0:σP (blkσ m σ))
  (step:∀j x σ' H' zs,xs[j]?=some x->σP σ'->Ext H H'->Z H' zs j->TurnZ g tt te σP Z x j σ' H' zs)
  (hd:∀D H' zs,H' D=some (.lst zs)->Ext H H'->H D=none->Z H' zs xs.length->Q (.ref D) H'):qK m g tt te σ Q (match tp with|false=>Itl K a|true=>Itt K a) H:=by
 have turn:∀D j σ' H' zs x,H D=none->xs[j]?=some x->(σP σ'/\Ext H H'/\H' D=some (.lst zs)/\H D=none/\Z H' zs j)->g x σ' H' λσ2 H2=>tt σ2 H2 λb H3=>if b=true then te σ2 H3 λv H4=>H4 D=some (.lst zs)/\(σP σ2/\Ext H (upd H4 D (.lst (zs++[v])))/\(upd H4 D (.lst (zs++[v]))) D=some (.lst (zs++[v]))/\H D=none/\Z (upd H4 D (.lst (zs++[v]))) (zs++[v]) (j+1)) else (σP σ2/\Ext H H3/\H3 D=some (.lst zs)/\H D=none/\Z H3 zs (j+1)):=by
  rintro D j σ' H' zs x hD hx ⟨p,e,h2,hn,hz⟩;exact step j x σ' H' zs hx p e hz _ _ (λσ2 v H2 p2 e2 z2=>⟨e2 _ _ h2,p2,(e.trans e2).updNew hn _,j7,hn,zo.mono _ _ _ _ (jDW (e2 _ _ h2) _) z2⟩) λσ2 H2 p2 e2 z2=>⟨p2,e.trans e2,e2 _ _ h2,hn,z2⟩
 cases tp with
 |false=>exact jHY (xs:=xs) hn (λD j σ' H' zs=>σP σ'/\Ext H H'/\H' D=some (.lst zs)/\H D=none/\Z H' zs j) (λD hD=>⟨h0,(Ext.refl _).new hD _,j7,hD,zo.z0 _⟩) (λD j σ' H' zs hD ⟨_,e,h2,_,hz⟩=>⟨e _ _ ha,h2,zo.len _ _ _ hz⟩) turn λD σ' H' zs hD ⟨_,e,h2,hn,hz⟩=>hd D H' zs h2 e hn hz
 |true=>exact jBK (xs:=xs) hn (λD j σ' H' zs=>σP σ'/\Ext H H'/\H' D=some (.lst zs)/\H D=none/\Z H' zs j) (λD hD=>⟨h0,(Ext.refl _).new hD _,j7,hD,zo.z0 _⟩) (λD j σ' H' zs hD ⟨_,e,h2,_,hz⟩=>⟨e _ _ ha,h2,zo.len _ _ _ hz⟩) turn λD σ' H' zs hD ⟨_,e,h2,hn,hz⟩=>hd D H' zs h2 e hn hz
def jRB{a:Addr}{xs:List V}(σP:St->Prop)(Z:Hp->List V->Nat->Prop)(zo:ZOk Z)(ha:H a=some (.tup xs))(hn:xs.length<sizeLine)(h0:σP (blkσ m σ))
  (step:∀j x σ' H' zs,xs[j]?=some x->σP σ'->Ext H H'->Z H' zs j->TurnZ g tt te σP Z x j σ' H' zs)
  (hd:∀D H' zs,H' D=some (.lst zs)->Ext H H'->H D=none->Z H' zs xs.length->Q (.ref D) H'):qK m g tt te σ Q (Itt K a) H:=jPB (tp:=true) σP Z zo ha hn h0 step hd
def jAJ{a:Addr}{xs:List V}(σP:St->Prop)(Z:Hp->List V->Nat->Prop)(zo:ZOk Z)(ha:H a=some (.lst xs))(hn:xs.length<sizeLine)(h0:σP (blkσ m σ))
  (step:∀j x σ' H' zs,xs[j]?=some x->σP σ'->Ext H H'->Z H' zs j->TurnZ g tt te σP Z x j σ' H' zs)
  (hd:∀D H' zs,H' D=some (.lst zs)->Ext H H'->H D=none->Z H' zs xs.length->Q (.ref D) H'):qK m g tt te σ Q (Itl K a) H:=jPB (tp:=false) σP Z zo ha hn h0 step hd
def jGR{n:Nat}(σP:St->Prop)(Z:Hp->List V->Nat->Prop)(zo:ZOk Z)(hn:n<sizeLine)(h0:σP (blkσ m σ))
  (step:∀j σ' H' zs,j<n->σP σ'->Ext H H'->Z H' zs j->TurnZ g tt te σP Z (.int (0+j)) j σ' H' zs)
  (hd:∀D H' zs,H' D=some (.lst zs)->Ext H H'->H D=none->Z H' zs n->Q (.ref D) H'):qK m g tt te σ Q (Itr 0 n) H:=by
 refine jAI (lo:=0) (n:=n) hn (λD j σ' H' zs=>σP σ'/\Ext H H'/\H' D=some (.lst zs)/\H D=none/\Z H' zs j) (λD hD=>⟨h0,(Ext.refl _).new hD _,j7,hD,zo.z0 _⟩) (λD j σ' H' zs hD hj ⟨_,e,h2,_,hz⟩=>⟨h2,zo.len _ _ _ hz⟩) ?_ λD σ' H' zs hD ⟨_,e,h2,hn,hz⟩=>hd D H' zs h2 e hn hz;rintro D j σ' H' zs hD hj ⟨p,e,h2,hn,hz⟩;exact step j σ' H' zs hj p e hz _ _ (λσ2 v H2 p2 e2 z2=>⟨e2 _ _ h2,p2,(e.trans e2).updNew hn _,j7,hn,zo.mono _ _ _ _ (jDW (e2 _ _ h2) _) z2⟩) λσ2 H2 p2 e2 z2=>⟨p2,e.trans e2,e2 _ _ h2,hn,z2⟩
end
def outZ(l:List α)(p:α->Bool)(f:α->V):Hp->List V->Nat->Prop:=λ_ zs j=>zs=((l.take j).filter p).map f
def outZ.ok(l:List α)(p:α->Bool)(f:α->V):ZOk (outZ l p f):=⟨λ_=>rfl,λ_ _ _ _ _ h=>h,λ_ zs j h=>by
 rw[show zs=_ from h,ag];exact bh (bN _ _) (bC _ _)⟩
def outZ.yes{l:List α}{p:α->Bool}{f:α->V}{x:α}(h:outZ l p f H zs j)(hx:l[j]?=some x)(hp:p x=true):outZ l p f H' (zs++[f x]) (j+1):=by
 show _=_;rw[bv,hx,bU,aW,<- show zs=_ from h];simp[hp]
def outZ.no{l:List α}{p:α->Bool}{f:α->V}{x:α}(h:outZ l p f H zs j)(hx:l[j]?=some x)(hp:p x=false):outZ l p f H' zs (j+1):=by
 show _=_;rw[bv,hx,bU,aW,<- show zs=_ from h];simp[hp]
def outZ.all{l:List α}{p:α->Bool}{f:α->V}{n:Nat}(h:outZ l p f H zs n)(hn:l.length<=n):zs=(l.filter p).map f:=by
 rw[show zs=_ from h,bE hn]
def mapZ(l:List α)(f:α->V):Hp->List V->Nat->Prop:=λ_ zs j=>zs=(l.take j).map f
def mapZ.ok(l:List α)(f:α->V):ZOk (mapZ l f):=⟨λ_=>rfl,λ_ _ _ _ _ h=>h,λ_ zs j h=>by
 rw[show zs=_ from h,ag];exact bC _ _⟩
def mapZ.yes{l:List α}{f:α->V}{x:α}(h:mapZ l f H zs j)(hx:l[j]?=some x):mapZ l f H' (zs++[f x]) (j+1):=by
 show _=_;rw[bv,hx,aW,<- show zs=_ from h];rfl
def mapZ.all{l:List α}{f:α->V}{n:Nat}(h:mapZ l f H zs n)(hn:l.length<=n):zs=l.map f:=by
 rw[show zs=_ from h,bE hn]
def int_at{l:Ag}{x:V}(h:(l.map V.int)[j]?=some x):∃z:Int,l[j]?=some z/\x=V.int z:=by
 rw[aX] at h;cases hq:l[j]? with
 |none=>rw[hq] at h;cases h
 |some z=>rw[hq] at h;cases h;exact⟨z,rfl,rfl⟩
section
variable {st:Stmt}{sts:List Stmt}{t:TS}
noncomputable def JT.nox(h:JT X.nox e tt):JT X e tt:=⟨h.h.nox⟩
end
def jV3(E:XK)(t:TA):TS:=λ_ σ H=>t σ H λvs H1=>vs.length<=sizeLine/\∀a,E (.ref a) (some a) H1
theorem jOD{E:XK}{c:Const}{k:Nat}
  (hc:(cxOf (CXX P w C) P w K mg Aq N qual sc f mn A mj s H E).calm=true) (ek:ExcK K C) (hg:Gl1 (cxOf (CXX P w C) P w K mg Aq N qual sc f mn A mj s H E).nox x) (hm:mg x=some (.ref C)) (ha:JA (cxOf (CXX P w C) P w K mg Aq N qual sc f mn A mj s H E) [.Constant c k p] t) (hd:(x==("__debug__":Str))=false:=by decide):
  JS (cxOf (CXX P w C) P w K mg Aq N qual sc f mn A mj s H E) (.Raise (some (.Call (.Name x np) [.Constant c k p] [] cpos)) none pos) (jV3 E t):=
 ⟨jN2 hc ek hg.a hm ha.h (λ_ _ _ _ _ _ _ I m w1=>xe_cx I m w1) hd rfl rfl⟩
def Fun.okX{st:Stmt}{k:Nat}(F:Fun K x qual st f fd)(S:FnScope N ps (j8 st))(len:∀vs H Q E,sp vs H Q E->vs.length=ps.length)
  (hbody:∀(mn:Value) (A:Around) (mj:List Env) (s:Shared) (H:Hp) (vs:List V) (Q:VK) (E:XK),Room k (A.deeper (envOfC qual (j8 st) s.heap.objs.size f mn))->sp vs H Q E->
   ∃t,PSs (cxOf (CXX P w C) P w K mg Aq N qual (j8 st) f mn A mj s H E) (jE st) t/\t {nx:=λ_ H'=>Q .non H',rt:=Q} (kT N vs) H):FnOk P w K mg Aq (CXX P w C) (k+1) f fd ps sp:=by
 obtain⟨oc,od,kV,doc,pm,an,mn,ct,osl,rfl,lk,hcd⟩:=F.ex;exact fn_of lk hcd S len λA mj s H vs Q E hr hsp=>hbody mn A mj s H vs Q E hr hsp
end L2
namespace L2
open PySem
structure CanS (P:Program)(w:World)(K:W.Frag)(mg:Ak)(Aq:Heap)(x:Str)(k:Nat)(f:Addr)(fd:FuncData)(ps:Am)(sp:Addr->Sp):Prop where
 G:FnS P w K mg Aq k f fd ps sp
 m:mg x=some (.ref f)
 kp:keepIn K (.ref f)=true
 b:Binds K fd ps []
structure CanX (C:Addr)(P:Program)(w:World)(K:W.Frag)(mg:Ak)(Aq:Heap)(x:Str)(k:Nat)(f:Addr)(fd:FuncData)(ps:Am)(sp:Sp):Prop where
 G:FnOk P w K mg Aq (CXX P w C) k f fd ps sp
 m:mg x=some (.ref f)
 kp:keepIn K (.ref f)=true
 b:Binds K fd ps []
end L2
namespace L2
open PySem PySem.Spec PyProof.Rows
variable {f r:Addr}{P:Program}{Z:Shared->Hp->Prop}{K:W.Frag}{Aq:Heap}{scope:Scope}{n:Nat}{a c:Int}{fd:FuncData}{N ps:Am}{sp:Sp}{qual:Str}{mg:Ak}{args:Arguments}{A:Around}{mn:Value}{v u:Tok}
theorem RoomS.units101{k:Nat}{x:Addr}(r:RoomS k A x):A.units+101<cLine:=by have:=r.un;lia
section
variable {m:List (Option Nat)}{g:TG}{tt:TT}{te:TE}{σ:St}{H1:Hp}{Q:VK}
def jPA{x:Addr}{n:Nat}(hn:n<sizeLine)(Pv:Addr->Nat->St->Hp->List V->Prop)(h0:∀D,H1 D=none->Pv D 0 (blkσ m σ) (upd H1 D (.lst [])) [])
  (hD:∀D i σ' H' ys,H1 D=none->i<=n->Pv D i σ' H' ys->(∃C,H' x=some (.ext (excP x C)))/\H' D=some (.lst ys)/\ys.length<=i)
  (hs:∀D i σ' H' ys,H1 D=none->i<n->Pv D i σ' H' ys->g (.int (0+i)) σ' H' λσ2 H2=>tt σ2 H2 λb H3=>if b=true then te σ2 H3 λv H4=>H4 D=some (.lst ys)/\Pv D (i+1) σ2 (upd H4 D (.lst (ys++[v]))) (ys++[v]) else Pv D (i+1) σ2 H3 ys)
  (hd:∀D σ' H' ys,H1 D=none->Pv D n σ' H' ys->Q (.ref D) H'):qK m g tt te σ Q (ItrS x 0 n) H1:=by
 intro D hDn;obtain⟨W,w0,k⟩:=jAI (lo:=0) (m:=m) (g:=g) (tt:=tt) (te:=te) (σ:=σ) (Q:=λv H'=>(∃C,H' x=some (.ext (excP x C)))/\Q v H') hn Pv h0 (λD i σ' H' ys a b c=>(hD D i σ' H' ys a b c).2) hs (λD σ' H' ys a c=>⟨(hD D n σ' H' ys a (ar _) c).1,hd D σ' H' ys a c⟩) D hDn;refine⟨W,w0,λi n σ' H' ys w=>?_⟩;obtain⟨a,b,c⟩:=k i n σ' H' ys w;refine⟨a,b,?_⟩;rcases c with ⟨c1,c2,c3⟩|c
 .exact .inl ⟨⟨c1,c2⟩,c3⟩
 .exact .inr c
end
def jQF{w:World}{sc:Scope}{mj:List Env}{s:Shared}{H:Hp}{E:XK}{C:Addr}:
  jL7 (CXX P w C) (cxOf (CXX P w C) P w K mg Aq N qual sc f mn A mj s H E) E:=by
 intro ma σ H1 s1 e s2 I hq;obtain⟨x,T,H2,rfl,os2,bare2,un2,hok2,fx,fT,hx,hT,ex2,q2⟩:=hq;have I2:Inv (cxOf (CXX P w C) P w K mg Aq N qual sc f mn A mj s H E) ma σ H2 s2:=by
  obtain⟨hh,g,d,t,os'⟩:=s2;obtain rfl:os'=s1.os:=os2;exact I.call (h':=hh) (g':=g) (d':=d) (t':=t) (ch:=[]) un2 hok2 bare2 (λb z=>absurd z Ad)
 have st:s2.heap.FunFrames Aq (PyProof.Rows.envOfC qual sc s.heap.objs.size f mn::mj):=I2.stack;have sz:s.heap.objs.size<=s1.heap.objs.size:=I.sz;have un:Un (frs mj) [] H H2 s.heap s2.heap:=I2.Aq;have un1:Un (frs mj) [] H H1 s.heap s1.heap:=I.Aq;have nl:∀b o,s.heap.get? b=some o->b∉frs mj->b∉frs (PyProof.Rows.envOfC qual sc s.heap.objs.size f mn::mj):=λb o hb n1 hm=>by
  rcases aB.mp (show b∈s.heap.objs.size::frs mj from hm) with q|q
  .exact absurd (ay hb) (by rw[q];exact cF _)
  .exact n1 q
 have na:∀b o,s.heap.get? b=some o->b∉ [x,T]:=λb o hb hm=>by
  obtain⟨o',q⟩:=un1.there b o hb Ad;have hl:=ay hb;rcases aB.mp hm with z|z
  .rw[z,fx] at q;cases q
  .rw[ak.mp z] at hl;exact absurd hl (Nat.not_lt.mpr (bh sz fT))
 show wpAny _ _ (leaving _ (.ref x)) _ _ s2;unfold leaving;refine ae (jKE (Aq:=Aq) I2.ok.frames st rfl ex2 λh' T' n e z=>?_);refine⟨x,T',H2,rfl,I2.os,I2.bare,⟨λb o hb n1 n2 n3=>?_,λb o hb n1 n2 n3=>?_,un.free,λb o hb n3=>?_,un.tups,un.frzs,un.tbls⟩,?_,?_,?_,hx,?_,e,q2⟩
 .exact n.keep b o (un.keep b o hb n1 n2 n3) (nl b o hb n2) (na b o hb)
 .obtain⟨sl,q⟩:=un.slot b o hb n1 n2 n3;obtain⟨sl2,q2⟩:=n.slot b _ q (na b o hb);exact⟨sl2,q2⟩
 .obtain⟨o',q⟩:=un.there b o hb n3;obtain⟨sl2,q2⟩:=n.slot b _ q (na b o hb);exact⟨_,q2⟩
 .refine I2.hok.note n (λb hb=>I2.stkFree b hb) λb hb=>?_;rcases aB.mp hb with z|z
  .rw[z];exact hx
  .rw[ak.mp z];exact hT
 .cases q:s.heap.get? x with
  |none=>rfl
  |some o=>exact absurd (ai) (na x o q)
 .have sz2:s.heap.objs.size<=s2.heap.objs.size:=I2.sz;exact bh sz2 z
 .exact I2.hok.fresh z
open PySem.AutoSeq1 (wpAny_loadPart')
variable {w:World}{s:Shared}
section
variable {prog:Program}{A:Around}{E:Ah}
def jDG{R:Result->Shared->Prop}(hh:A.handled=none){b:Int}{t:Tok}(hr:IsRange s.heap r a b c t u v)(hsm:Builtin.Range.small a b c=true)(hn:Builtin.Range.rangeSize a b c=n)(hlen:n<=2^24)
  (k:∀(h':Heap) (tk:Nat) (acc:An) (c':Nat),(∀b o,s.heap.get? b=some o->h'.get? b=some o)->h'.get? s.heap.objs.size=some {cls:=.type "list",dict:=none,data:=.seq acc c',slots:=#[]} ->ItemsOf (λi v=>∃t,v=.int (a+i*c) t) acc n->R (.ok (.ret (.ref s.heap.objs.size))) {s with heap:=h',toks:=tk}):
  codeAny (model prog w) A (.builtin "proto.collect" ⟨[.ref r],[]⟩) R s:=by
 refine bZ F.entry_proto_collect ?_;rw[bY F.plain_proto_collect _];refine(?_:wpAny _ A.in1 (newList [] >>= λl=>again (.builtin "list.__iadd__" ⟨[l,.ref r],[]⟩)) _ _ s);refine ae (bP (aj ⟨eS F.plain_list_iadd _,bZ F.entry_list_iadd ?_⟩));rw[bY F.plain_list_iadd _];refine(?_:wpAny _ A.in1 (Builtin.List.listExtendWith (.ref s.heap.objs.size) (.ref r) (.ref s.heap.objs.size)) _ _ _);have hr1:IsRange (s.heap.push {cls:=.type "list",data:=.seq ([]:Al).toArray}) r a b c t u v:=af _ hr;have hS1:(s.heap.push {cls:=.type "list",data:=.seq ([]:Al).toArray}).get? s.heap.objs.size=some {cls:=.type "list",data:=.seq #[]}:=aw _ rfl;exact wpAny_extend_range (R:=R) (s:= {s with heap:=s.heap.push {cls:=.type "list",data:=.seq ([]:Al).toArray}}) hh hr1 hsm hn hlen s.heap.objs.size _ 0 hS1 λh' tk acc' c' kp hS' hacc=>k h' tk acc' c' (λb o e=>kp b o (aO (ay e)) (af _ e)) hS' hacc
def jJO{Q:Al->Shared->Prop}(hh:A.handled=none){b:Int}{t:Tok}(hr:IsRange s.heap r a b c t u v)(hsm:Builtin.Range.small a b c=true)(hn:Builtin.Range.rangeSize a b c=n)(hlen:n<=2^24)
  (k:∀(h':Heap) (tk:Nat) (acc:An),(∀b o,s.heap.get? b=some o->h'.get? b=some o)->s.heap.objs.size<=h'.objs.size->ItemsOf (λi v=>∃t,v=.int (a+i*c) t) acc n->Q acc.toList {s with heap:=h',toks:=tk}):
  wpAny (model prog w) A (collect (.ref r)) Q E s:=by
 unfold collect;refine ae (fZ (jDG hh hr hsm hn hlen λh' tk acc c' kp hS' hacc=>?_));refine(?_:wpAny _ A (load s.heap.objs.size >>= _) _ _ _);exact ae (fJ hS' (aj (k h' tk acc kp (cU (ay hS')) hacc)))
end
theorem jE8(r:Addr)(a b c:Int)(t u v:Tok)(n:Nat)(hsm:Builtin.Range.small a b c=true)(hn:Builtin.Range.rangeSize a b c=n)(hlen:n<=2^24):
  Meets (Builtin.«tuple.__new__» ⟨[.type "tuple",.ref r],[]⟩) (λA R s=>A.handled=none/\IsRange s.heap r a b c t u v/\∀(h':Heap) (tk:Nat) (acc:An),(∀b o,s.heap.get? b=some o->h'.get? b=some o)->s.heap.objs.size<=h'.objs.size->ItemsOf (λi v=>∃t,v=.int (a+i*c) t) acc n->
   R (.ok (.ret (.ref h'.objs.size))) {s with heap:=h'.push {cls:=.type "tuple",data:=.seq acc},toks:=tk}):=
 .of_wp λprog w A R s h=>by
  obtain⟨hh,hr,k⟩:=h;have sub:=sub_tuple_self;have ini:=init_tuple_lookup;have mh:=madeHere_tuple;have ty:s.TypeIs (.ref r) "range" :=⟨_,hr,rfl⟩;have hh1:A.in1.handled=none:=hh;have nt:(Value.type "range" ==Value.type "tuple")=false:=Ac
  wp_walk using iC ty,jJO hh1 hr hsm hn hlen
  intro h' tk acc kp hsz hacc;refine(?_:wpAny _ _ (Builtin.Tuple.tupleExact acc.toList.toArray >>= λv=>ret v) _ _ _);unfold Builtin.Tuple.tupleExact;refine ae (bP (aj ⟨_,rfl,?_⟩) (show acc.toList.toArray.size<=sizeLine by rw[cP,hacc.1,d0];lia));rw[cP];exact k h' tk acc kp hsz hacc
def jCB(a:Int)(n:Nat):Ag:=(List.range n).map λ(i:Nat)=>a+(i:Int)
theorem jMC{acc:An}(h:ItemsOf (λi v=>∃t,v=Value.int (a+(i:Int)*1) t) acc n):Vals ((jCB a n).map V.int) acc.toList:=by
 have key:∀(l:Al) (k:Nat),(∀j v,l[j]?=some v->∃t,v=Value.int (a+((k+j:Nat):Int)) t)->Vals ((range' k l.length).map λ(i:Nat)=>V.int (a+(i:Int))) l:=by
  intro l
  induction l with
  |nil=>intro k _;exact .nil
  |cons v l ih=>
   intro k hk;rw[aU,List.range'_succ,bg];refine .cons ?_ (ih (k+1) λj u hj=>?_)
   .obtain⟨t,e⟩:=hk 0 v rfl;exact⟨t,by simpa using e⟩
   .obtain⟨t,e⟩:=hk (j+1) u (by simpa using hj);exact⟨t,by rw[e];congr 2;lia⟩
 have:=key acc.toList 0 λj v hj=>by
  obtain⟨t,e⟩:=h.2 j v (by simpa using hj);exact⟨t,by rw[e,l0,Nat.zero_add]⟩
 rw[aN,h.1,<- lw] at this;unfold jCB;rw[bX];exact this
variable {X:Cx}
section
theorem jJS(hc:X.calm=true):yQ X (.type "tuple") (λxs H Q=>∃p i j,xs=[.ref p]/\H p=some (.rng i j)/\0<=i/\i<=j/\j<=1000/\∀l,H l=none->Q (.ref l) (upd H l (.tup ((jCB i (j-i).toNat).map V.int)))):=by
 intro ma s σ H xs us Q I r h;obtain⟨p,i,j,rfl,hp,h0,h1,h2,q⟩:=h;obtain⟨u,rfl,rx⟩:=r.one;cases rx;obtain⟨t,u,v,e⟩:=I.hok p _ hp;have en:Builtin.Range.rangeSize i j 1=((j-i).toNat:Int):=by
  rw[jg];split<;>lia
 refine callType_new F.called_tuple Ac (F.typeCall_tuple_1 _) (F.newCall_tuple_1 _) (λobj=>F.args_object_init_2 obj _) F.entry_tuple_new
  (jE8 p i j 1 t u v (j-i).toNat (small_one Aa Aa Aa Aa) en Aa) ⟨I.ok.hd hc,e,λh' tk acc kp hsz hacc=>⟨⟨_,aw _ rfl,rfl⟩,?_⟩⟩
 have hv:=jMC hacc;refine⟨.ref h'.objs.size,_,I.laid (a:=h'.objs.size) (t':=tk) (o:=.tup ((jCB i (j-i).toNat).map V.int)) (λb o e=>af _ (kp b o e)) hsz ?_,rfl,q _ (I.hok.fresh hsz)⟩;refine⟨?_,acc.toList,hv,0,?_⟩
 .unfold jCB;rw[ag,ag,b7,d0];lia
 .have:acc.toList.toArray=acc:=by simp
  rw[this];exact aw _ rfl
variable {sc:Scope}{cl:Aj}{C:Addr}{Nc:Am}{fp:List Addr}{H:Hp}
end
structure FnZ (P:Program)(w:World)(K:W.Frag)(mg:Ak)(Aq:Heap)(CX:CXT)(Z:Shared->Hp->Prop)(k:Nat)(f:Addr)(fd:FuncData)(ps:Am)(sp:Sp):Prop where
 len:∀vs H Q E,sp vs H Q E->vs.length=ps.length
 run:∀(A:Around) (mj:List Env) (s:Shared) (H:Hp) (args:Args) (us:Al) (vs:List V) (Q:VK) (E:XK),Room k A->Env0 P w K mg Aq A mj s H->BindsTo s fd args (ps.zip us)->Vals vs us->Z s H->sp vs H Q E->
  codeAny (model P w) A (.call (.ref f) args) (CR CX mj P w H s Q E) s
def jSK{CX:CXT}{k:Nat}{name:Str}{params:Arguments}{body:List Stmt}{dV kV doc pm ct oc:Value}{an od:Option Addr}
  {osl:Array (Ao)}(lk:K.lookup f=some ⟨oc,od,.func (PySem.W.fnOf name qual params body scope dV kV doc pm an mn ct),osl⟩) (hcd:PySem.W.codeIn K mn qual=true) (S:FnScope N ps scope)
  (len:∀vs H Q E,sp vs H Q E->vs.length=ps.length)
  (hbody:∀(A:Around) (mj:List Env) (s:Shared) (H:Hp) (vs:List V) (Q:VK) (E:XK),Room k (A.deeper (envOfC qual scope s.heap.objs.size f mn))->Z s H->sp vs H Q E->
   ∃t,PSs (cxOf CX P w K mg Aq N qual scope f mn A mj s H E) body t/\t {nx:=λ_ H'=>Q .non H',rt:=Q} (kT N vs) H):
  FnZ P w K mg Aq CX Z (k+1) f (PySem.W.fnOf name qual params body scope dV kV doc pm an mn ct) ps sp:=by
 refine⟨len,λA mj s H args us vs Q E hr e0 hb r hz hsp=>?_⟩;have hl:=len _ _ _ _ hsp;have KX:K.In s.heap:=e0.mod.kin.keeps λb o e=>(e0.bs b o e).1;have lim:s.heap.NoLimit:=e0.mod.nolimit.keeps λb o e=>(e0.bs b o e).1;have hkind:∀y∈ps.zip us,scope.names.lookup y.1=some .local\/(scope.names.lookup y.1=some .cell/\((cellsFrom (s.heap.objs.size+1) scope.names []).lookup y.1).isSome=true):=λ⟨n,v⟩ hy=>by
  rcases S.par n (dG hy).1 with q|q
  .exact .inl q
  .exact .inr ⟨q,ff _ _ _ (.inl q)⟩
 refine gW hr.depth (KX _ _ lk) rfl S.co S.gen rfl (iM KX hcd) (hb _ _ _ _ ?_);refine fS S.kind hkind λenv he s1 x=>?_;subst he;refine⟨lim.keeps x.toInCall.keep,codeAny_func ?_⟩;obtain⟨t,ht,hq⟩:=hbody A mj s H vs Q E (hr.deeper _) hz hsp;have I:Inv (cxOf CX P w K mg Aq N qual scope f mn A mj s H E) [] (kT N vs) H s1:=jEJ S hr.hd e0 hl r x;refine bF (ht [] s1 (kT N vs) H _ I hq) (λfl s' hs=>?_) λe s' hs=>hs;have fin:∀{σ':St}{H':Hp}{v:V}{u:Value},Inv (cxOf CX P w K mg Aq N qual scope f mn A mj s H E) [] σ' H' s'->RelV v u->Q v H'->CE mj P w H s Q u s':=
  λ{σ' H' v u} J rv q=>⟨v,H',J.os,J.bare,J.Aq,J.hok,rv,q⟩
 cases fl with
 |ret u=>
  obtain⟨v,σ',H',J,rv,q⟩:=hs;exact fin J rv q
 |next=>
  obtain⟨σ',H',J,q⟩:=hs;exact fin (v:=V.non) (u:=Value.none) J rfl q
 |brk=>
  obtain⟨_,_,_,q⟩:=hs;exact False.elim q
 |cont=>
  obtain⟨_,_,_,q⟩:=hs;exact False.elim q
def ZSt(Z:Shared->Hp->Prop):Prop:=∀(fs:List Addr) (s s':Shared) (H H':Hp),Un fs [] H H' s.heap s'.heap->Z s H->Z s' H'
abbrev ZT:Shared->Hp->Prop:=λ_ _=>True
def ZT.st:ZSt ZT:=λ_ _ _ _ _ _ _=>trivial
def FnZ.ok{CX:CXT}{k:Nat}(F:FnZ P w K mg Aq CX ZT k f fd ps sp):FnOk P w K mg Aq CX k f fd ps sp:=
 ⟨F.len,λA mj s H args us vs Q E hr he hb hv hs=>F.run A mj s H args us vs Q E hr he hb hv trivial hs⟩
section
variable {P:Program}{K:W.Frag}{mg:Ak}{Aq:Heap}
def Fun.okZ{x:Str}{st:Stmt}{k:Nat}(F:Fun K x qual st f fd)(S:FnScope N ps (j8 st))(len:∀vs H Q E,sp vs H Q E->vs.length=ps.length)
  (hbody:∀(mn:Value) (A:Around) (mj:List Env) (s:Shared) (H:Hp) (vs:List V) (Q:VK) (E:XK),Room k (A.deeper (envOfC qual (j8 st) s.heap.objs.size f mn))->Z s H->sp vs H Q E->
   ∃t,PSs (cxOf CX0 P w K mg Aq N qual (j8 st) f mn A mj s H E).nox (jE st) t/\t {nx:=λ_ H'=>Q .non H',rt:=Q} (kT N vs) H):FnZ P w K mg Aq CX0 Z (k+1) f fd ps sp:=by
 obtain⟨_,_,_,_,_,_,mn,_,_,rfl,lk,hcd⟩:=F.ex;refine jSK lk hcd S len λA mj s H vs Q E hr hz hsp=>?_;obtain⟨t,h,q⟩:=hbody mn A mj s H vs Q E hr hz hsp;exact⟨t,h.nox,q⟩
end
structure Callee (P:Program)(w:World)(K:W.Frag)(mg:Ak)(Aq:Heap)(Z:Shared->Hp->Prop)(zh:Hp->Prop)(k:Nat)(a:Addr)(sp:Sp):Prop where
 fn:∀(A:Around) (mj:List Env) (s:Shared) (H:Hp),Env0 P w K mg Aq A mj s H->zh H->PySem.W.FnAt a s.heap
 run:∀(A:Around) (mj:List Env) (s:Shared) (H:Hp) (us:Al) (vs:List V) (Q:VK) (E:XK),Room k A->Env0 P w K mg Aq A mj s H->Z s H->zh H->Vals vs us->sp vs H Q E->codeAny (model P w) A (.call (.ref a) ⟨us,[]⟩) (CR CX0 mj P w H s Q E) s
def jV8(a:Addr)(zh:Hp->Prop)(sp:Sp)(j:Nat)(t:TA):TE:=λσ H Q=>σ[j]?=some (some (.ref a))/\t σ H λvs H1=>zh H1/\sp vs H1 Q E0
section
variable {Z:Shared->Hp->Prop}{zh:Hp->Prop}{k:Nat}{a:Addr}{sp:Sp}{x:Str}{p pos:Pos}{e:Expr}{es:List Expr}{t:TA}{j:Nat}
theorem jKU(F:Callee X.prog X.w X.K X.mg X.Aq Z zh k a sp)(hr:Room k X.A)(st:ZSt Z)(hz:Z X.s₀ X.H₀)(hex:X.ex=[])(hN:X.N[j]?=some x)(hv:Vis1 X x)
  (ha:JA X (e::es) t) (he:starEach (e::es) X.env=(false,eval e X.env)::starEach es X.env) (hdb:(x==("__debug__":Str))=false:=by decide) (hcd:(x==("__classdict__":Str))=false:=by decide) (hpl:(backTo pos (starEach es X.env)).any (·.1)=false:=by rfl):
  JE X (.Call (.Name x p) (e::es) [] pos) (jV8 a zh sp j t):=by
 refine⟨λma s σ H Q I h=>?_⟩;obtain⟨hj,h⟩:=h;refine cC (mo (jHG (pos:=p) hN hv.a hdb hcd ma s σ H (λv H'=>v=.ref a/\H'=H) I ⟨_,hj,rfl,rfl⟩) λv s1 ⟨v',H1,I1,r1,q1,q2⟩=>?_);subst q1 q2;cases (show v=Value.ref a from r1);have hX:=mo (ha.h pos ma s1 σ H1 _ I1 h) λus s2 (z:AP X ma σ _ us s2)=>show PySem.W.FnAt a s2.heap/\wpAny (model X.prog X.w) X.A (call (.ref a) ([]++us)) (EP X ma σ Q) X.xe s2 from by
  obtain⟨vs,H2,I2,r,h1,h2⟩:=z;have un:=I2.Aq;rw[hex] at un;refine⟨F.fn _ _ _ _ I2.env0 h1,fe (df (F.run X.A X.stack s2 H2 us vs Q E0 hr I2.env0 (st _ _ _ _ _ un hz) h1 r h2) λr s' hq=>?_)⟩;cases r with
  |error e=>exact hq.elim
  |ok fl=>
   cases fl with
   |ret u=>exact I2.after hq
   |next=>exact False.elim hq
   |brk=>exact False.elim hq
   |cont=>exact False.elim hq
 rw[he] at hX ⊢;exact ix (by show ((false || (backTo pos (starEach es X.env)).any (·.1)) ||false)=false;rw[hpl];rfl) kn (dP hX)
end
def nlP(q:Str)(args:Arguments)(body:Expr)(scope:Scope)(cl:Aj)(a c:Addr):Heap->Prop:=λh=>∃pm ctv,h.get? a=some (kla_obj "<lambda>" q args body scope cl pm c ctv)
def nlP.stay{q:Str}{body:Expr}{cl:Aj}{a c:Addr}(h1 h2:Heap)(p:nlP q args body scope cl a c h1)(k:∀o,h1.get? a=some o->h2.get? a=some o):nlP q args body scope cl a c h2:=by
 obtain⟨m,t,e⟩:=p;exact⟨m,t,k _ e⟩
def tLam(q:Str)(args:Arguments)(body:Expr)(scope:Scope)(cl:Aj)(T:Addr)(pos:Pos):TE:=λ_ H Q=>TabOk H T pos q/\∀a c H',H' a=some (.ext (nlP q args body scope cl a c))->H' c=some (.ext (ncP q c))->H' T=some (.tbl (onePs pos c))->ExtT T H H'->H a=none->Q (.ref a) H'
def jKS{body:Expr}{pos:Pos}{c0 T:Addr}(hcode:X.env.code=.ref c0)(CH:PySem.W.CodeHd X.Aq c0 T)(hbm:qO X.Aq X.mg)
  (hfree:∀y∈scope.names,y.2=.free->X.env.scope.names.lookup y.1=some .cell\/X.env.scope.names.lookup y.1=some .free) (hdf:defaultsOf args X.env=([],[])):
  JE X (.Lambda args body scope pos) (tLam (X.env.qual++ "<lambda>") args body scope (jM X.env.cells scope.names []) T pos):=by
 refine⟨λma s σ H Q I h=>?_⟩;obtain⟨tab,h⟩:=h;refine PySem.W.kla_eval hdf ?_;have hcl:closureFor scope X.env=pure (jM X.env.cells scope.names []):=jGT λy hy hz=>I.ok.has y.1 (hfree y hy hz);have hg:s.heap.Ns mainGlobals X.mg:=I.mod.glob.keeps I.bk;have C:=CH.keeps I.bk;have gT:∀{ps:An},H T=some (.tbl ps)->mainGlobals≠T:=λhT z=>by
  obtain⟨o,es,ep,e,_⟩:=I.mod.glob;have:=(I.bs _ _ e).2;rw[z,hT] at this;cases this
 have bT:∀{ps:An},H T=some (.tbl ps)->s.heap.BuiltinsAt X.mg T:=λhT=>by
  obtain⟨bm,o,h1,h2,h3,h4,h5,h6,h7⟩:=hbm;refine⟨bm,o,h1,h2,h3,λz=>?_,(I.bs _ _ h4).1,h5,h6,h7⟩;have:=(I.bs _ _ h4).2;rw[z,hT] at this;cases this
 rcases tab with hT|⟨c,hT,hc⟩
 .refine PySem.W.kla_makeFunction hcl I.ok.glob hg hcode C (I.hok T _ hT) trivial rfl (gT hT) (bT hT) λc ctv h' tk k1 k2 k3 k4 k5=>?_;obtain⟨oc,hoc⟩:=ncP.is (q:=X.env.qual++ "<lambda>") k4;have I1:Inv X ma σ (upd (upd H T (.tbl (#[]++onePs pos c))) c (.ext (ncP (X.env.qual++ "<lambda>") c))) {s with heap:=h',toks:=tk}:=I.grown hT k1 k5 k2 k4 ⟨oc,hoc⟩ ncP.stay;have I2:=I1.laidX (t':=tk) (a:=h'.objs.size) (φ:=nlP (X.env.qual++ "<lambda>") args body scope (jM X.env.cells scope.names []) h'.objs.size c) (h':=h'.push (kla_obj "<lambda>" (X.env.qual++ "<lambda>") args body scope (jM X.env.cells scope.names []) ((X.mg "__name__").getD .none) c ctv)) (λb u q=>af _ q) (ar _) ⟨_,ctv,aw _ rfl⟩ ⟨_,aw _ rfl⟩ nlP.stay;have hcn:H c=none:=I.hok.fresh k2;have han:H h'.objs.size=none:=I.hok.fresh (bh k2 (cU k3));have ca:c≠h'.objs.size:=aO k3;have Tc:T≠c:=λz=>by rw[z,hcn] at hT;cases hT
  have Ta:T≠h'.objs.size:=λz=>by rw[z,han] at hT;cases hT
  refine⟨.ref _,_,I2,rfl,h _ c _ j7 (by rw[jA ca,j7]) (by rw[jA Ta,jA Tc,j7,lS]) (λb o e n=>?_) han⟩;rw[jA (jC e han),jA (jC e hcn),jA n];exact e
 .refine PySem.W.kla_makeFunctionHit (cv:=.ref c) hcl I.ok.glob hg hcode C (I.hok T _ hT) (by exact trivial) (by simp[codeAmong,rawInt]) (bT hT) λctv h' tk k1 k2=>?_;have I2:=I.laidX (t':=tk) (a:=h'.objs.size) (φ:=nlP (X.env.qual++ "<lambda>") args body scope (jM X.env.cells scope.names []) h'.objs.size c) (h':=h'.push (kla_obj "<lambda>" (X.env.qual++ "<lambda>") args body scope (jM X.env.cells scope.names []) ((X.mg "__name__").getD .none) c ctv)) (λb u q=>af _ (k1 b u q)) k2 ⟨_,ctv,aw _ rfl⟩ ⟨_,aw _ rfl⟩ nlP.stay;have han:H h'.objs.size=none:=I.hok.fresh k2;refine⟨.ref _,_,I2,rfl,h _ c _ j7 (by rw[jA (jC hc han)];exact hc) (by rw[jA (jC hT han)];exact hT) (λb o e n=>?_) han⟩;rw[jA (jC e han)];exact e
def jOZ{P:Program}{w:World}{K:W.Frag}{mg:Ak}{Aq:Heap}{k:Nat}{q:Str}{args:Arguments}{body:Expr}{scope:Scope}{N ps fs:Am}{sp:Sp}{cl:Aj}{fv:List V}{a c:Addr}(S:NScope N ps fs scope)(len:∀vs H Q E,sp vs H Q E->vs.length=ps.length)
  (hb:∀pm ctv (us:Al),us.length=ps.length->bindArgs (kla_fn "<lambda>" q args body scope cl pm (.ref c) ctv) ⟨us,[]⟩=pure (ps.zip us))
  (hbody:∀(A:Around) (mj:List Env) (s:Shared) (H:Hp) (vs:List V) (Q:VK) (E:XK),Room k (A.deeper (envX q scope s.heap.objs.size a (.ref c) cl))->sp vs H Q E->
   ∃t,PE (cxN P w K mg Aq N q scope a (.ref c) cl A mj s H) body t/\t (yN N vs fv) H Q):
  Callee P w K mg Aq (λs H=>ClOk cl s H/\FvOk fs fv cl s) (λH=>H a=some (.ext (nlP q args body scope cl a c))/\H c=some (.ext (ncP q c))) (k+1) a sp:=by
 refine⟨λA mj s H e z=>?_,λA mj s H us vs Q E hr e0 hz zh r hsp=>?_⟩
 .obtain⟨⟨m,t,g⟩,_,_⟩:=(show ObjOk P w H s.heap a (.ext _) from e.hok a _ z.1);exact⟨_,_,_,_,g⟩
 obtain⟨C,Fv⟩:=hz;obtain⟨⟨pm,ctv,ho⟩,_,_⟩:=(show ObjOk P w H s.heap a (.ext _) from e0.hok a _ zh.1);obtain⟨hc,_,_⟩:=(show ObjOk P w H s.heap c (.ext _) from e0.hok c _ zh.2);have hl:us.length=ps.length:=r.length.symm.trans (len _ _ _ _ hsp);have lim:s.heap.NoLimit:=e0.mod.nolimit.keeps λb o e=>(e0.bs b o e).1;refine lA hr.depth ho rfl S.co S.gen rfl hc ?_;rw[hb pm ctv us hl];refine aj (ic S.nocell (λy hy=>S.par y.1 (dG hy).1) (λh₁ hns hsb=>⟨lim.fresh _ hsb,?_⟩) S.kind);show codeAny _ _ (.expr body (envX q scope s.heap.objs.size a (.ref c) cl)) _ _;have hk:∀b o,s.heap.get? b=some o->h₁.get? b=some o:=λb o e=>hsb.extBut b o (aO (ay e)) (af _ e);obtain⟨t,ht,hq⟩:=hbody A mj s H vs Q E (hr.deeper _) hsp;have I:Inv (cxN P w K mg Aq N q scope a (.ref c) cl A mj s H) [] (yN N vs fv) H {s with heap:=h₁,toks:=s.toks+(ps.zip us).length}:=jFK S hr.hd e0 hl r C Fv hns hk;refine lB (bF (ht [] _ (yN N vs fv) H _ I hq) (λu s' hs=>?_) λe s' hs=>False.elim hs);obtain⟨v,H',J,rv,q⟩:=hs;exact⟨v,H',J.os,J.bare,J.Aq,J.hok,rv,q⟩
end L2
namespace TM
open PySem PyProof.Rows
variable {xs ys a₀:Array Keyed}{Q:Option Nat->SortSt->Prop}{l b a o tot v u m xb xa:List Keyed}{p y x q:Keyed}{n i ib ia hint:Nat}{st':SortSt}
class Od where
 kd:SortKind
 ky:Keyed->Int
 is:Keyed->Prop
abbrev key [Od]:Keyed->Int:=Od.ky
abbrev IsI [Od]:Keyed->Prop:=Od.is
class LtOk (prog:Program) (w:World) (A:Around) (s:Shared) [Od]:Prop where
 lt:∀{E:Ah}{st:SortSt}{x y:Keyed}{Q:Option Bool->SortSt->Prop},kindOf st=Od.kd->IsI x->IsI y->Q (some (decide (key x<key y))) st->wpS (model prog w) A E s (lt' x y) Q st
variable [Od]
abbrev AllI(l:List Keyed):Prop:=∀p∈l,IsI p
abbrev LE(x y:Keyed):Prop:=key x<=key y
def jBU:Bool->Keyed->Array Keyed->Nat->Nat->Nat->StateT SortSt Sem (Option Nat):=sortPriv% PySem.Builtin.gallop
def gallopB: {g:Bool->Keyed->Array Keyed->Nat->Nat->Nat->StateT SortSt Sem (Option Nat) // jBU=g}:=⟨λ_ _ _ _ _ _=>bind _ _,rfl⟩
def elP:(sortPriv% PySem.Builtin.elem)=elem':=rfl
def ltP:(sortPriv% PySem.Builtin.lt)=lt':=rfl
def ltAtP:(sortPriv% PySem.Builtin.ltAt)=ltAt':=rfl
def jJE:(sortPriv% PySem.Builtin.gallop)=jBU:=rfl
section
variable {prog:Program}{w:World}{A:Around}{E:Ah}{s:Shared}
theorem jGY [LtOk prog w A s]{st:SortSt}{Q:Option Bool->SortSt->Prop}(hk:kindOf st=Od.kd)(hx:IsI x)(hy:IsI y)(h:Q (some (decide (key x<key y))) st):wpS (model prog w) A E s (lt' x y) Q st:=LtOk.lt hk hx hy h
def jT{st:SortSt}{arr:Array Keyed}{Q:Keyed->SortSt->Prop}(hi:arr[i]?=some p)(h:Q p st):wpS (model prog w) A E s (elem' arr i) Q st:=by
 rw[elem'_eq,hi];exact aR h
end
section
variable {prog:Program}{w:World}{A:Around}{E:Ah}{s:Shared} [LtOk prog w A s]
theorem jB9{left:Bool}{ky:Keyed}{arr:Array Keyed}{Aq:Nat}{st:SortSt}(hk:kindOf st=Od.kd)(hky:IsI ky)(hI:∀i,i<n->∃p,arr[Aq+i]?=some p/\IsI p)(hh:hint<n)(B:Nat->Bool)
  (hB:∀i p,i<n->arr[Aq+i]?=some p->B i=(if left=true then decide (key p<key ky) else !decide (key ky<key p))) (mono:∀i j,i<=j->j<n->B j=true->B i=true)
  (h:∀k,k<=n->(∀i,i<k->B i=true)->(∀i,k<=i->i<n->B i=false)->Q (some k) st):wpS (model prog w) A E s (jBU left ky arr Aq n hint) Q st:=by
 rw[gallopB.2]
 delta gallopB
 dsimp only;simp only[elP,ltP];have bey:∀i (R:Option Bool->SortSt->Prop),i<n->R (some (B i)) st->wpS (model prog w) A E s (do
   let x <- elem' arr (Aq+i)
   if left=true then lt' x ky else do
    let r <- lt' ky x
    pure (r.map (!·))) R st:=λi R hi hR=>by
  obtain⟨p,hp,ip⟩:=hI i hi;refine aM (jT hp ?_);have e:=hB i p hi hp;cases left with
  |true=>
   rw[aA rfl] at e ⊢;rw[e] at hR;exact jGY hk ip hky hR
  |false=>
   rw[az aC] at e ⊢;rw[e] at hR;exact aM (jGY hk hky ip (aR hR))
 have down:∀i j,i<=j->j<n->B i=false->B j=false:=λi j hij hj hi=>by
  cases hb:B j with
  |false=>rfl
  |true=>rw[mono i j hij hj hb] at hi;cases hi
 refine aM (bey hint _ hh ?_);dsimp only;cases hb:B hint with
 |true=>
  rw[aA rfl];refine aM (dQ (cn (I:=λx c st'=>st'=st/\∃l o,c=(none,l,o)/\l<o/\x+1<=o/\hint+l<n/\B (hint+l)=true)
   (Q:=λc st'=>st'=st/\∃l o,c=(none,l,o)/\l<o/\hint+l<n/\B (hint+l)=true/\(n-hint<=o\/(hint+o<n/\B (hint+o)=false))) ?step ?fin ⟨rfl,0,1,rfl,Aa,Aa,Aa,by rw[lX];exact hb⟩) ?post)
  case post=>
   rintro c st' ⟨rfl,l,o,rfl,a1,a2,a3,a4⟩;dsimp only;have p3:∀i,i<hint+l+1->B i=true:=λi hi=>mono i (hint+l) Aa a2 a3;have p4:∀i,hint+min o (n-hint)<=i->i<n->B i=false:=λi h1 h2=>by
    rcases a4 with a4|⟨a4,a5⟩
    .lia
    .exact down (hint+o) i Aa h2 a5
   refine aM (dQ (cn (I:=λx c st''=>st''=st'/\∃lo hi,c=(none,lo,hi)/\lo<=hi/\hi<=n/\hi-lo<=n-x/\(∀i,i<lo->B i=true)/\(∀i,hi<=i->i<n->B i=false))
    (Q:=λc st''=>st''=st'/\∃k,c=(none,k,k)/\k<=n/\(∀i,i<k->B i=true)/\(∀i,k<=i->i<n->B i=false)) ?step2 ?fin2 ⟨rfl,hint+l+1,hint+min o (n-hint),rfl,Aa,Aa,Aa,p3,p4⟩) ?post2)
   case post2=>
    rintro c st'' ⟨rfl,k,rfl,k1,k2,k3⟩;exact aR (h k k1 k2 k3)
   case fin2=>
    rintro c st'' ⟨rfl,lo,hi,rfl,a1,a2,a3,a4,a5⟩;have:lo=hi:=by lia
    subst this;exact⟨rfl,lo,rfl,a2,a4,a5⟩
   case step2=>
    rintro x c st'' _ hx ⟨rfl,lo,hi,rfl,a1,a2,a3,a4,a5⟩;dsimp only;by_cases hge:lo ≥ hi
    .rw[aA hge];have:lo=hi:=by lia
     subst this;exact aR ⟨rfl,lo,rfl,a2,a4,a5⟩
    .rw[az hge];refine aM (bey _ _ Aa ?_);dsimp only;cases hb:B (lo+(hi-lo)/2) with
     |true=>
      rw[aA rfl];exact aR ⟨rfl,lo+(hi-lo)/2+1,hi,rfl,Aa,a2,Aa,λi hi'=>mono i _ Aa Aa hb,a5⟩
     |false=>
      rw[az aC];exact aR ⟨rfl,lo,lo+(hi-lo)/2,rfl,Aa,Aa,Aa,a4,λi h1 h2=>down _ i h1 h2 hb⟩
  case fin=>
   rintro c st' ⟨rfl,l,o,rfl,a1,a2,a3,a4⟩;exact⟨rfl,l,o,rfl,a1,a3,a4,.inl Aa⟩
  case step=>
   rintro x c st' _ hx ⟨rfl,l,o,rfl,a1,a2,a3,a4⟩;dsimp only;by_cases hge:o ≥ n-hint
   .rw[aA hge];exact aR ⟨rfl,l,o,rfl,a1,a3,a4,.inl hge⟩
   .rw[az hge];refine aM (bey _ _ Aa ?_);dsimp only;cases hb2:B (hint+o) with
    |true=>
     rw[az Ac];exact aR ⟨rfl,o,2*o+1,rfl,Aa,Aa,Aa,hb2⟩
    |false=>
     rw[aA Ac];exact aR ⟨rfl,l,o,rfl,a1,a3,a4,.inr ⟨Aa,hb2⟩⟩
 |false=>
  rw[az aC];refine aM (dQ (cn (I:=λx c st'=>st'=st/\∃l o,c=(none,l,o)/\l<o/\x+1<=o/\l<=hint/\B (hint-l)=false)
   (Q:=λc st'=>st'=st/\∃l o,c=(none,l,o)/\l<o/\l<=hint/\B (hint-l)=false/\(hint+1<=o\/(o<=hint/\B (hint-o)=true))) ?step ?fin ⟨rfl,0,1,rfl,Aa,Aa,Aa,by rw[Nat.sub_zero];exact hb⟩) ?post)
  case post=>
   rintro c st' ⟨rfl,l,o,rfl,a1,a2,a3,a4⟩;dsimp only;have p3:∀i,i<hint+1-min o (hint+1)->B i=true:=λi hi=>by
    rcases a4 with a4|⟨a4,a5⟩
    .lia
    .exact mono i (hint-o) Aa Aa a5
   have p4:∀i,hint-l<=i->i<n->B i=false:=λi h1 h2=>down (hint-l) i Aa h2 a3;refine aM (dQ (cn (I:=λx c st''=>st''=st'/\∃lo hi,c=(none,lo,hi)/\lo<=hi/\hi<=n/\hi-lo<=n-x/\(∀i,i<lo->B i=true)/\(∀i,hi<=i->i<n->B i=false))
    (Q:=λc st''=>st''=st'/\∃k,c=(none,k,k)/\k<=n/\(∀i,i<k->B i=true)/\(∀i,k<=i->i<n->B i=false)) ?step2 ?fin2 ⟨rfl,hint+1-min o (hint+1),hint-l,rfl,Aa,Aa,Aa,p3,p4⟩) ?post2)
   case post2=>
    rintro c st'' ⟨rfl,k,rfl,k1,k2,k3⟩;exact aR (h k k1 k2 k3)
   case fin2=>
    rintro c st'' ⟨rfl,lo,hi,rfl,a1,a2,a3,a4,a5⟩;have:lo=hi:=by lia
    subst this;exact⟨rfl,lo,rfl,a2,a4,a5⟩
   case step2=>
    rintro x c st'' _ hx ⟨rfl,lo,hi,rfl,a1,a2,a3,a4,a5⟩;dsimp only;by_cases hge:lo ≥ hi
    .rw[aA hge];have:lo=hi:=by lia
     subst this;exact aR ⟨rfl,lo,rfl,a2,a4,a5⟩
    .rw[az hge];refine aM (bey _ _ Aa ?_);dsimp only;cases hb:B (lo+(hi-lo)/2) with
     |true=>
      rw[aA rfl];exact aR ⟨rfl,lo+(hi-lo)/2+1,hi,rfl,Aa,a2,Aa,λi hi'=>mono i _ Aa Aa hb,a5⟩
     |false=>
      rw[az aC];exact aR ⟨rfl,lo,lo+(hi-lo)/2,rfl,Aa,Aa,Aa,a4,λi h1 h2=>down _ i h1 h2 hb⟩
  case fin=>
   rintro c st' ⟨rfl,l,o,rfl,a1,a2,a3,a4⟩;exact⟨rfl,l,o,rfl,a1,a3,a4,.inl Aa⟩
  case step=>
   rintro x c st' _ hx ⟨rfl,l,o,rfl,a1,a2,a3,a4⟩;dsimp only;by_cases hge:o ≥ hint+1
   .rw[aA hge];exact aR ⟨rfl,l,o,rfl,a1,a3,a4,.inl hge⟩
   .rw[az hge];refine aM (bey _ _ Aa ?_);dsimp only;cases hb2:B (hint-o) with
    |true=>
     rw[aA rfl];exact aR ⟨rfl,l,o,rfl,a1,a3,a4,.inr ⟨Aa,hb2⟩⟩
    |false=>
     rw[az aC];exact aR ⟨rfl,o,2*o+1,rfl,Aa,Aa,Aa,hb2⟩
end
noncomputable abbrev jHA(st:SortSt)(g:Nat):SortSt:=SortSt.mk' (kindOf st) (arrOf st) (pendingOf st) g (failedOf st)
def jC1:Nat->StateT SortSt Sem Unit:=sortPriv% PySem.Builtin.setMinGallop
def jMV:(sortPriv% PySem.Builtin.setMinGallop)=jC1:=rfl
def jA3(g:Nat):jC1 g=modify λs=>jHA s g:=rfl
def jGA:Array Keyed->Array Keyed->StateT SortSt Sem (Array Keyed):=sortPriv% PySem.Builtin.mergeLo
def mergeLoB: {g:Array Keyed->Array Keyed->StateT SortSt Sem (Array Keyed) // jGA=g}:=⟨λ_ _=>bind _ _,rfl⟩
def jQN:(sortPriv% PySem.Builtin.mergeLo)=jGA:=rfl
def jGB:Array Keyed->Array Keyed->StateT SortSt Sem (Array Keyed):=sortPriv% PySem.Builtin.mergeHi
def mergeHiB: {g:Array Keyed->Array Keyed->StateT SortSt Sem (Array Keyed) // jGB=g}:=⟨λ_ _=>bind _ _,rfl⟩
def jQO:(sortPriv% PySem.Builtin.mergeHi)=jGB:=rfl
abbrev Srt(l:List Keyed):Prop:=l.Pairwise LE
structure ML (a b out:List Keyed)(ia ib:Nat):Prop where
 perm:(out++(a.drop ia++b.drop ib)).Perm (a++b)
 srt:Srt out
 le:∀x∈out,∀y∈a.drop ia++b.drop ib,LE x y
def Srt.drop(h:Srt l)(i:Nat):Srt (l.drop i):=h.sublist (i4 _ _)
def Srt.take(h:Srt l)(i:Nat):Srt (l.take i):=h.sublist (eJ _ _)
def q0(h1:Srt l)(h2:Srt m)(h:∀x∈l,∀y∈m,LE x y):Srt (l++m):=cN.mpr ⟨h1,h2,h⟩
def ML.takeA{out:List Keyed}(h:ML a b out ia ib)(sa:Srt a)(k:Nat)(hc:∀x∈(a.drop ia).take k,∀y∈b.drop ib,LE x y):ML a b (out++(a.drop ia).take k) (ia+k) ib:=by
 have e:a.drop (ia+k)=(a.drop ia).drop k:=by rw[iT]
 refine⟨?_,q0 h.srt ((sa.drop ia).take k) λx hx y hy=>h.le x hx y (ba _ (cQ hy)),λx hx y hy=>?_⟩
 .refine List.Perm.trans ?_ h.perm;rw[e];refine ko ?_;rw[aY,<- aY ((a.drop ia).take k),bM]
 .rcases aP.mp hx with q|q
  .refine h.le x q y ?_;rcases aP.mp hy with z|z
   .rw[e] at z;exact ba _ (dj z)
   .exact aE _ z
  .rcases aP.mp hy with z|z
   .rw[e] at z;have s:=sa.drop ia;rw[<- bM k (a.drop ia)] at s;exact(cN.mp s).2.2 x q y z
   .exact hc x q y z
def ML.takeB{out:List Keyed}(h:ML a b out ia ib)(sb:Srt b)(k:Nat)(hc:∀x∈(b.drop ib).take k,∀y∈a.drop ia,LE x y):ML a b (out++(b.drop ib).take k) ia (ib+k):=by
 have e:b.drop (ib+k)=(b.drop ib).drop k:=by rw[iT]
 refine⟨?_,q0 h.srt ((sb.drop ib).take k) λx hx y hy=>h.le x hx y (aE _ (cQ hy)),λx hx y hy=>?_⟩
 .refine List.Perm.trans ?_ h.perm;rw[e,aY];refine dI out ?_;refine eh.trans ?_;rw[aY];refine dI _ ?_;refine eh.trans ?_;rw[bM]
 .rcases aP.mp hx with q|q
  .refine h.le x q y ?_;rcases aP.mp hy with z|z
   .exact ba _ z
   .rw[e] at z;exact aE _ (dj z)
  .rcases aP.mp hy with z|z
   .exact hc x q y z
   .rw[e] at z;have s:=sb.drop ib;rw[<- bM k (b.drop ib)] at s;exact(cN.mp s).2.2 x q y z
def ML.outA{out:List Keyed}(h:ML a b out ia ib)(sa:Srt a)(hb:b.length<=ib):(out++a.drop ia++b.drop ib).Perm (a++b)/\Srt (out++a.drop ia++b.drop ib):=by
 refine⟨by rw[aY];exact h.perm,?_⟩;rw[ka hb,aV];exact q0 h.srt (sa.drop ia) λx hx y hy=>h.le x hx y (ba _ hy)
def ML.outB{out:List Keyed}(h:ML a b out ia ib)(sb:Srt b)(ha:a.length<=ia):(out++a.drop ia++b.drop ib).Perm (a++b)/\Srt (out++a.drop ia++b.drop ib):=by
 refine⟨by rw[aY];exact h.perm,?_⟩;rw[ka ha,aV];exact q0 h.srt (sb.drop ib) λx hx y hy=>h.le x hx y (aE _ hy)
def ML.last{out:List Keyed}(h:ML a b out ia ib)(sa:Srt a)(sb:Srt b)(ha:∀x∈b,∀y∈a.drop ia,LE x y):(out++b.drop ib++a.drop ia).Perm (a++b)/\Srt (out++b.drop ib++a.drop ia):=by
 refine⟨?_,?_⟩
 .rw[aY];exact(dI out eh).trans h.perm
 .refine q0 (q0 h.srt (sb.drop ib) λx hx y hy=>h.le x hx y (aE _ hy)) (sa.drop ia) λx hx y hy=>?_;rcases aP.mp hx with q|q
  .exact h.le x q y (ba _ hy)
  .exact ha x (dj q) y hy
def jAC(h:l[i]?=some p):(l.drop i).take 1=[p]:=by
 obtain⟨hi,e⟩:=am.mp h;rw[<- List.getElem_cons_drop (h:=hi),e];rfl
theorem jF4(h:Srt l){j:Nat}(hx:l[i]?=some x)(hy:l[j]?=some y)(hij:i<=j):LE x y:=by
 obtain⟨h1,rfl⟩:=am.mp hx;obtain⟨h2,rfl⟩:=am.mp hy;by_cases e:i=j
 .subst e;exact dR _
 .exact bV.mp h i j h1 h2 Aa
theorem jDQ(h:y∈l.drop i):∃j,i<=j/\l[j]?=some y:=by
 obtain⟨k,hk⟩:=bL h;rw[iU] at hk;exact⟨i+k,Aa,hk⟩
theorem jA5{k:Nat}(h:y∈(l.drop i).take k):∃j,i<=j/\j<i+k/\l[j]?=some y:=by
 obtain⟨n,hn⟩:=bL h;have hlt:n<k:=by
  have:=(am.mp hn).1;rw[bO] at this;lia
 rw[cG hlt,iU] at hn;exact⟨i+n,Aa,Aa,hn⟩
def jCZ{a:Array Keyed}:(a.extract i a.size).toList=a.toList.drop i:=by
 rw[fU,eB];exact bE (by rw[gZ,aN];exact ar _)
def ext_k{a:Array Keyed}{k:Nat}:(a.extract i (i+k)).toList=(a.toList.drop i).take k:=by
 rw[fU,eB,dr]
structure Two (a b:Array Keyed):Prop where
 ia:AllI a.toList
 ib:AllI b.toList
 sa:Srt a.toList
 sb:Srt b.toList
 na:0<a.size
 nb:0<b.size
 last:∀x∈b.toList,∀y,a.toList[a.size-1]?=some y->key x<key y
 first:∀y∈a.toList,∀p,b.toList[0]?=some p->key p<key y
def yU(a b r:Array Keyed):Prop:=r.toList.Perm (a.toList++b.toList)/\Srt r.toList
structure SG (st st':SortSt):Prop where
 k:kindOf st'=kindOf st
 a:arrOf st'=arrOf st
 p:pendingOf st'=pendingOf st
 f:failedOf st'=failedOf st
def SG.refl(st:SortSt):SG st st:=⟨rfl,rfl,rfl,rfl⟩
def SG.gal{st:SortSt}(h:SG st st')(g:Nat):SG st (jHA st' g):=⟨h.k,h.a,h.p,h.f⟩
abbrev MA(a b out:Array Keyed)(ia ib:Nat):Prop:=ML a.toList b.toList out.toList ia ib
variable {a b:Array Keyed}{i j:Nat}
section
variable {out:Array Keyed}{k:Nat}
def at_list:a[i]?=some p↔a.toList[i]?=some p:=by rw[bR]
def qJ(h:i<a.size):∃p,a[i]?=some p/\a.toList[i]?=some p:=⟨a[i],by simp[h],by simp[h]⟩
def MA.doneA(T:Two a b)(h:MA a b out i j)(hj:b.size<=j):yU a b (out++a.extract i a.size++b.extract j b.size):=by
 unfold yU;rw[bD,bD,jCZ,jCZ];exact ML.outA h T.sa (by rw[aN];exact hj)
def MA.doneB(T:Two a b)(h:MA a b out i j)(hi:a.size<=i):yU a b (out++a.extract i a.size++b.extract j b.size):=by
 unfold yU;rw[bD,bD,jCZ,jCZ];exact ML.outB h T.sb (by rw[aN];exact hi)
theorem MA.doneL(T:Two a b)(h:MA a b out i j)(hi:i+1=a.size):yU a b (out++b.extract j b.size++a.extract i a.size):=by
 unfold yU;rw[bD,bD,jCZ,jCZ];refine ML.last h T.sa T.sb λx hx y hy=>?_;obtain⟨n,h1,h2⟩:=jDQ hy;have:n=a.size-1:=by
  have:=(am.mp h2).1;rw[aN] at this;lia
 subst this;exact cV (T.last x hx y h2)
def MA.pushB(T:Two a b)(h:MA a b out i j){p q:Keyed}(hp:b[j]?=some p)(hc:∀y∈a.toList.drop i,LE p y):MA a b (out.push p) i (j+1):=by
 have:=ML.takeB h T.sb 1 (by
  rw[jAC (at_list.mp hp)];intro x hx;rw[ak.mp hx];exact hc)
 rw[jAC (at_list.mp hp)] at this;unfold MA;rw[eL];exact this
def MA.pushA(T:Two a b)(h:MA a b out i j){p q:Keyed}(hp:a[i]?=some p)(hc:∀y∈b.toList.drop j,LE p y):MA a b (out.push p) (i+1) j:=by
 have:=ML.takeA h T.sa 1 (by
  rw[jAC (at_list.mp hp)];intro x hx;rw[ak.mp hx];exact hc)
 rw[jAC (at_list.mp hp)] at this;unfold MA;rw[eL];exact this
def MA.appA(T:Two a b)(h:MA a b out i j)(k:Nat)(hc:∀n x,i<=n->n<i+k->a.toList[n]?=some x->∀y∈b.toList.drop j,LE x y):MA a b (out++a.extract i (i+k)) (i+k) j:=by
 unfold MA;rw[bD,ext_k];exact ML.takeA h T.sa k λx hx y hy=>by
  obtain⟨n,h1,h2,h3⟩:=jA5 hx;exact hc n x h1 h2 h3 y hy
def MA.appB(T:Two a b)(h:MA a b out i j)(k:Nat)(hc:∀n x,j<=n->n<j+k->b.toList[n]?=some x->∀y∈a.toList.drop i,LE x y):MA a b (out++b.extract j (j+k)) i (j+k):=by
 unfold MA;rw[bD,ext_k];exact ML.takeB h T.sb k λx hx y hy=>by
  obtain⟨n,h1,h2,h3⟩:=jA5 hx;exact hc n x h1 h2 h3 y hy
def Two.atA(T:Two a b)(h:i<a.size):∃p,a[i]?=some p/\IsI p:=by
 obtain⟨p,h1,h2⟩:=qJ h;exact⟨p,h1,T.ia p (aQ h2)⟩
def Two.atB(T:Two a b)(h:i<b.size):∃p,b[i]?=some p/\IsI p:=by
 obtain⟨p,h1,h2⟩:=qJ h;exact⟨p,h1,T.ib p (aQ h2)⟩
def jGI(s:Srt a.toList)(hp:a[i]?=some p)(h:LE q p):∀y∈a.toList.drop i,LE q y:=λy hy=>by
 obtain⟨n,h1,h2⟩:=jDQ hy;exact dB h (jF4 s (at_list.mp hp) h2 h1)
end
section
variable {prog:Program}{w:World}{A:Around}{E:Ah}{s:Shared} [LtOk prog w A s]
theorem jUF{st:SortSt}(hk:kindOf st=Od.kd)(hp:IsI p)(ha:AllI a.toList)(sa:Srt a.toList)(hi:i<a.size)
  (h:∀k,i+k<=a.size->(∀n x,i<=n->n<i+k->a.toList[n]?=some x->LE x p)->(∀n x,i+k<=n->a.toList[n]?=some x->key p<key x)->Q (some k) st):
  wpS (model prog w) A E s (jBU false p a i (a.size-i) 0) Q st:=by
 refine jB9 hk hp (λn hn=>?_) Aa (λn=>match a[i+n]? with|some x=>!decide (key p<key x)|none=>false) (λn x hn hx=>?_) (λn m hnm hm hb=>?_) λk hk1 hk2 hk3=>h k Aa (λn x h1 h2 h3=>?_) λn x h1 h2=>?_
 .obtain⟨q,q1,q2⟩:=qJ (a:=a) (i:=i+n) Aa;exact⟨q,q1,ha q (aQ q2)⟩
 .rw[hx,az aC]
 .obtain⟨x,x1,x2⟩:=qJ (a:=a) (i:=i+n) Aa;obtain⟨y,y1,y2⟩:=qJ (a:=a) (i:=i+m) Aa;rw[y1] at hb;rw[x1];have:=jF4 sa x2 y2 Aa;have hb:¬key p<key y:=by simpa using hb
  show (!decide (key p<key x))=true;rw[cq,dv];have:key x<=key y:=this;lia
 .have:=hk2 (n-i) Aa;rw[show i+(n-i)=n by lia,at_list.mpr h3] at this;have this:¬key p<key x:=by simpa using this
  show key x<=key p;lia
 .have hn:=(am.mp h2).1;rw[aN] at hn;have:=hk3 (n-i) Aa Aa;rw[show i+(n-i)=n by lia,at_list.mpr h2] at this;simpa using this
theorem jUG{st:SortSt}(hk:kindOf st=Od.kd)(hp:IsI p)(ha:AllI a.toList)(sa:Srt a.toList)(hi:i<a.size)
  (h:∀k,i+k<=a.size->(∀n x,i<=n->n<i+k->a.toList[n]?=some x->key x<key p)->(∀n x,i+k<=n->a.toList[n]?=some x->LE p x)->Q (some k) st):
  wpS (model prog w) A E s (jBU true p a i (a.size-i) 0) Q st:=by
 refine jB9 hk hp (λn hn=>?_) Aa (λn=>match a[i+n]? with|some x=>decide (key x<key p)|none=>false) (λn x hn hx=>?_) (λn m hnm hm hb=>?_) λk hk1 hk2 hk3=>h k Aa (λn x h1 h2 h3=>?_) λn x h1 h2=>?_
 .obtain⟨q,q1,q2⟩:=qJ (a:=a) (i:=i+n) Aa;exact⟨q,q1,ha q (aQ q2)⟩
 .rw[hx,aA rfl]
 .obtain⟨x,x1,x2⟩:=qJ (a:=a) (i:=i+n) Aa;obtain⟨y,y1,y2⟩:=qJ (a:=a) (i:=i+m) Aa;rw[y1] at hb;rw[x1];have:=jF4 sa x2 y2 Aa;have hb:key y<key p:=aL hb;show decide (key x<key p)=true;rw[bz];have:key x<=key y:=this;lia
 .have:=hk2 (n-i) Aa;rw[show i+(n-i)=n by lia,at_list.mpr h3] at this;exact aL this
 .have hn:=(am.mp h2).1;rw[aN] at hn;have:=hk3 (n-i) Aa Aa;rw[show i+(n-i)=n by lia,at_list.mpr h2] at this;have this:¬key x<key p:=gC this;show key p<=key x;lia
end
section
variable {prog:Program}{w:World}{A:Around}{E:Ah}{s:Shared} [LtOk prog w A s]
def bp{a b:Nat}(h:a=b):(a==b)=true:=gA.mpr h
def bn{a b:Nat}(h:¬a=b):¬(a==b)=true:=λz=>h (gA.mp z)
structure LoI (a b:Array Keyed)(st:SortSt)(out:Array Keyed)(ia ib:Nat)(st':SortSt):Prop where
 m:MA a b out ia ib
 i:ia+1<a.size
 j:ib<b.size
 s:SG st st'
theorem jII{st:SortSt}{Q:Array Keyed->SortSt->Prop}(hk:kindOf st=Od.kd)(T:Two a b)(h:∀r st',yU a b r->SG st st'->Q r st'):wpS (model prog w) A E s (jGA a b) Q st:=by
 rw[mergeLoB.2]
 delta mergeLoB
 dsimp only;simp only[elP,ltP,jJE,jMV];have na:=T.na;have nb:=T.nb;refine aM (iV (dA ⟨rfl,?_⟩));obtain⟨p0,hp0,ip0⟩:=T.atB nb;refine aM (jT hp0 ?_);have M0:MA a b #[p0] 0 1:=by
  have z:MA a b #[] 0 0:=⟨by show (([]:List Keyed)++(a.toList.drop 0++b.toList.drop 0)).Perm _;rw[kq,iR,iR],List.Pairwise.nil,λx hx=>by cases hx⟩;have:=MA.pushB (q:=p0) T z hp0 λy hy=>cV (T.first y (dj hy) p0 (at_list.mp hp0));exact this
 by_cases e1:1=b.size
 .rw[aA (bp e1)];exact aR (h _ _ (MA.doneA T M0 Aa) (SG.refl _))
 rw[az (bn e1)];by_cases e2:0+1=a.size
 .rw[aA (bp e2)];exact aR (h _ _ (MA.doneL T M0 e2) (SG.refl _))
 rw[az (bn e2)];refine aM (g9 ?_);refine aM (dQ (cn (I:=λx c st'=>∃out ia ib mg,c=(none,out,ia,ib,mg)/\LoI a b st out ia ib st'/\x+1<=ia+ib)
  (Q:=λc st'=>∃r,c.1=some r/\yU a b r/\SG st st') ?step ?fin ⟨_,0,1,_,rfl,⟨M0,Aa,Aa,SG.refl _⟩,Aa⟩) ?post)
 case post=>
  rintro ⟨r0,c⟩ st' ⟨r,hr,d,g⟩;have hr:r0=some r:=hr;subst hr;exact aR (h r st' d g)
 case fin=>
  rintro c st' ⟨out,ia,ib,mg,rfl,I0,hx⟩;have:=I0.i;have:=I0.j;lia
 case step=>
  rintro x c st1 _ hx ⟨out,ia,ib,mg,rfl,I0,hxx⟩;dsimp only;refine aM (dQ (cn (I:=λy c st'=>∃out' ia' ib' ac bc,c=(none,out',ia',ib',ac,bc)/\LoI a b st out' ia' ib' st'/\ia+ib<=ia'+ib'/\(y=0\/ia+ib<ia'+ib'))
   (Q:=λc st'=>(∃r,c.1=some r/\yU a b r/\SG st st')\/∃out' ia' ib' ac bc,c=(none,out',ia',ib',ac,bc)/\LoI a b st out' ia' ib' st'/\ia+ib<ia'+ib') ?step1 ?fin1 ⟨_,_,_,_,_,rfl,I0,Aa,.inl rfl⟩) ?post1)
  case fin1=>
   rintro c st' ⟨out',ia',ib',ac,bc,rfl,I1,h1,h2⟩;exact .inr ⟨_,_,_,_,_,rfl,I1,Aa⟩
  case step1=>
   rintro y c st2 _ hy ⟨out',ia',ib',ac,bc,rfl,I1,h1,h2⟩;dsimp only;obtain⟨pb,hpb,ipb⟩:=T.atB I1.j;obtain⟨pa,hpa,ipa⟩:=T.atA (i:=ia') (by have:=I1.i;lia);have ii:=I1.i;have jj:=I1.j;refine aM (jT hpb (aM (jT hpa (aM (jGY (I1.s.k.trans hk) ipb ipa ?_)))));dsimp only;by_cases hlt:key pb<key pa
   .rw[ao hlt,aA rfl];refine aM (jT hpb ?_);have M2:=MA.pushB (q:=pb) T I1.m hpb (jGI T.sa hpa (cV hlt));by_cases f1:ib'+1=b.size
    .rw[aA (bp f1)];exact aR (.inl ⟨_,rfl,MA.doneA T M2 Aa,I1.s⟩)
    rw[az (bn f1)];split
    .exact aR (.inr ⟨_,_,_,_,_,rfl,⟨M2,ii,Aa,I1.s⟩,Aa⟩)
    .exact aR ⟨_,_,_,_,_,rfl,⟨M2,ii,Aa,I1.s⟩,Aa,.inr Aa⟩
   .rw[aK hlt,az aC];refine aM (jT hpa ?_);have M2:=MA.pushA (q:=pa) T I1.m hpa (jGI T.sb hpb (by show key pa<=key pb;lia));by_cases f1:ia'+1+1=a.size
    .rw[aA (bp f1)];exact aR (.inl ⟨_,rfl,MA.doneL T M2 f1,I1.s⟩)
    rw[az (bn f1)];split
    .exact aR (.inr ⟨_,_,_,_,_,rfl,⟨M2,Aa,jj,I1.s⟩,Aa⟩)
    .exact aR ⟨_,_,_,_,_,rfl,⟨M2,Aa,jj,I1.s⟩,Aa,.inr Aa⟩
  case post1=>
   rintro c st2 (⟨r,hr,d,g⟩|⟨out1,ia1,ib1,ac,bc,rfl,I1,h1⟩)
   .obtain⟨r0,c⟩:=c;have hr:r0=some r:=hr;subst hr;exact aR ⟨r,rfl,d,g⟩
   dsimp only;refine aM (iV (dA ⟨rfl,?_⟩));refine aM (dQ (cn (I:=λy c st'=>∃out' ia' ib' mg' ac bc,c=(none,out',ia',ib',mg',ac,bc)/\LoI a b st out' ia' ib' st'/\ia+ib<ia'+ib')
    (Q:=λc st'=>(∃r,c.1=some r/\yU a b r/\SG st st')\/∃out' ia' ib' mg' ac bc,c=(none,out',ia',ib',mg',ac,bc)/\LoI a b st out' ia' ib' st'/\ia+ib<ia'+ib') ?step2 ?fin2 ⟨_,_,_,_,_,_,rfl,I1,h1⟩) ?post2)
   case fin2=>
    rintro c st' ⟨out',ia',ib',mg',ac,bc,rfl,I2,h2⟩;exact .inr ⟨_,_,_,_,_,_,rfl,I2,h2⟩
   case post2=>
    rintro c st3 (⟨r,hr,d,g⟩|⟨out2,ia2,ib2,mg2,ac,bc,rfl,I2,h2⟩)
    .obtain⟨r0,c⟩:=c;have hr:r0=some r:=hr;subst hr;exact aR ⟨r,rfl,d,g⟩
    dsimp only;rw[jA3];exact aM (fm (aR ⟨_,_,_,_,rfl,⟨I2.m,I2.i,I2.j,I2.s.gal _⟩,Aa⟩))
   case step2=>
    clear I0 I1;rintro y c st2 _ hy ⟨out,ia,ib,mg',ac,bc,rfl,I0,h2⟩;dsimp only;obtain⟨pb,hpb,ipb⟩:=T.atB I0.j;by_cases hg:mg'>1
    case' pos=>
     rw[aA hg];generalize hgg:mg'-1=gg
    case' neg=>
     rw[az hg];generalize hgg:mg'=gg
    all_goals
     rw[jA3];refine aM (fm ?_);have G1:=I0.s.gal gg;refine aM (jT hpb ?_);refine aM (jUF (G1.k.trans hk) ipb T.ia T.sa (by have:=I0.i;lia) λk1 g1 g2 g3=>?_);dsimp only;have M1:=MA.appA T I0.m k1 (λn x h1 h2 h3=>jGI T.sb hpb (g2 n x h1 h2 h3));have hgt:∀y∈a.toList.drop (ia+k1),LE pb y:=λy hy=>by
      obtain⟨n,h1,h2⟩:=jDQ hy;exact cV (g3 n y h1 h2)
     have jb:=I0.j;by_cases e0:k1>0
     case' pos=>
      rw[aA e0];by_cases f1:ia+k1+1=a.size
      .rw[aA (bp f1)];exact aR (.inl ⟨_,rfl,MA.doneL T M1 f1,G1⟩)
      rw[az (bn f1)];by_cases f2:ia+k1=a.size
      .rw[aA (bp f2)];exact aR (.inl ⟨_,rfl,MA.doneB T M1 Aa,G1⟩)
      rw[az (bn f2)];obtain⟨pa,hpa,ipa⟩:=T.atA (i:=ia+k1) Aa;have hz:ia+k1<a.size:=Aa;generalize hiz:ia+k1=iz at*
     case' neg=>
      rw[az e0];have e0':k1=0:=Aa;subst e0';have M1:=I0.m;obtain⟨pa,hpa,ipa⟩:=T.atA (i:=ia) (by have:=I0.i;lia);have hz:ia<a.size:=by have:=I0.i;lia
      rw[lX] at hgt;have hia:=I0.i;generalize hiz:ia=iz at*
     all_goals
      refine aM (jT hpb ?_);have M2:=MA.pushB (q:=pb) T M1 hpb hgt;by_cases e1:ib+1=b.size
      .rw[aA (bp e1)];exact aR (.inl ⟨_,rfl,MA.doneA T M2 Aa,G1⟩)
      rw[az (bn e1)];refine aM (jT hpa ?_);refine aM (jUG (G1.k.trans hk) ipa T.ib T.sb Aa λk2 l1 l2 l3=>?_);dsimp only;have M3:=MA.appB T M2 k2 (λn x h1 h2 h3=>jGI T.sa hpa (cV (l2 n x h1 h2 h3)));have fin3:∀y∈b.toList.drop (ib+1+k2),LE pa y:=λy hy=>by
       obtain⟨n,h1,h2⟩:=jDQ hy;exact l3 n y h1 h2
      by_cases e2:k2>0
      .rw[aA e2];by_cases e3:ib+1+k2=b.size
       .rw[aA (bp e3)];exact aR (.inl ⟨_,rfl,MA.doneA T M3 Aa,G1⟩)
       rw[az (bn e3)];refine aM (jT hpa ?_);have M4:=MA.pushA (q:=pa) T M3 hpa fin3;by_cases e4:iz+1+1=a.size
       .rw[aA (bp e4)];exact aR (.inl ⟨_,rfl,MA.doneL T M4 e4,G1⟩)
       rw[az (bn e4)];split
       .exact aR (.inr ⟨_,_,_,_,_,_,rfl,⟨M4,Aa,Aa,G1⟩,Aa⟩)
       .exact aR ⟨_,_,_,_,_,_,rfl,⟨M4,Aa,Aa,G1⟩,Aa⟩
      .rw[az e2];have e0:k2=0:=Aa;subst e0;refine aM (jT hpa ?_);have M4:=MA.pushA (q:=pa) T M2 hpa fin3;by_cases e4:iz+1+1=a.size
       .rw[aA (bp e4)];exact aR (.inl ⟨_,rfl,MA.doneL T M4 e4,G1⟩)
       rw[az (bn e4)];split
       .exact aR (.inr ⟨_,_,_,_,_,_,rfl,⟨M4,Aa,Aa,G1⟩,Aa⟩)
       .exact aR ⟨_,_,_,_,_,_,rfl,⟨M4,Aa,Aa,G1⟩,Aa⟩
end
structure MHL (tot xa xb o:List Keyed):Prop where
 perm:(xa++xb++o).Perm tot
 srt:Srt o
 le:∀x∈o,∀y∈xa++xb,LE y x
def MHL.takeA(h:MHL tot (u++v) xb o)(s:Srt (u++v))(hc:∀x∈v,∀y∈xb,LE y x):MHL tot u xb (v++o):=by
 have sp:=cN.mp s;refine⟨?_,q0 sp.2.1 h.srt λx hx y hy=>h.le y hy x (ba _ (aE _ hx)),λx hx y hy=>?_⟩
 .refine List.Perm.trans ?_ h.perm;rw[aY,aY,aY];refine dI u ?_;rw[<- aY,<- aY];exact gO o eh
 .rcases aP.mp hx with q|q
  .rcases aP.mp hy with z|z
   .exact sp.2.2 y z x q
   .exact hc x q y z
  .refine h.le x q y ?_;rcases aP.mp hy with z|z
   .exact ba _ (ba _ z)
   .exact aE _ z
def MHL.takeB(h:MHL tot xa (u++v) o)(s:Srt (u++v))(hc:∀x∈v,∀y∈xa,LE y x):MHL tot xa u (v++o):=by
 have sp:=cN.mp s;refine⟨?_,q0 sp.2.1 h.srt λx hx y hy=>h.le y hy x (aE _ (aE _ hx)),λx hx y hy=>?_⟩
 .refine List.Perm.trans (ko ?_) h.perm;simp only[aY]
 .rcases aP.mp hx with q|q
  .rcases aP.mp hy with z|z
   .exact hc x q y z
   .exact sp.2.2 y z x q
  .refine h.le x q y ?_;rcases aP.mp hy with z|z
   .exact ba _ z
   .exact aE _ (ba _ z)
def MHL.out{tot xa xb o:List Keyed}(h:MHL tot xa xb o)(s:Srt (xa++xb)):(xa++xb++o).Perm tot/\Srt (xa++xb++o):=
 ⟨h.perm,q0 s h.srt λx hx y hy=>h.le y hy x hx⟩
def MHL.outF(h:MHL tot xa xb o)(s:Srt (xb++xa)):(xb++xa++o).Perm tot/\Srt (xb++xa++o):=
 ⟨(gO o eh).trans h.perm,q0 s h.srt λx hx y hy=>h.le y hy x (by
  rcases aP.mp hx with z|z
  .exact aE _ z
  .exact ba _ z)⟩
theorem jJW(hn:0<n)(h:l[n-1]?=some p):l.take n=l.take (n-1)++[p]:=by
 obtain⟨m,rfl⟩:∃m,n=m+1:=⟨n-1,Aa⟩;rw[Nat.add_sub_cancel] at h ⊢;rw[List.take_succ,h];rfl
theorem jJV{l:List Keyed}{k n:Nat}(hk:k<=n):l.take n=l.take k++(l.drop k).take (n-k):=by
 obtain⟨m,rfl⟩:∃m,n=k+m:=⟨n-k,Aa⟩;rw[dr,List.take_add]
def jAM{k:Nat}:(a.extract k n).toList=(a.toList.drop k).take (n-k):=by
 rw[fU,eB]
def jBJ:(a.extract 0 n).toList=a.toList.take n:=by
 rw[jAM,iR,Nat.sub_zero]
abbrev MH(a b out:Array Keyed)(na nb:Nat):Prop:=MHL (a.toList++b.toList) (a.toList.take na) (b.toList.take nb) out.toList.reverse
theorem jDP(h:y∈l.take n):∃j,j<n/\l[j]?=some y:=by
 obtain⟨k,hk⟩:=bL h;have hlt:k<n:=by
  have:=(am.mp hk).1;rw[bO] at this;lia
 rw[cG hlt] at hk;exact⟨k,hlt,hk⟩
section
variable {out:Array Keyed}{k:Nat}
theorem jDN(s:Srt a.toList)(hp:a[i-1]?=some p)(h:LE p q):∀y∈a.toList.take i,LE y q:=λy hy=>by
 obtain⟨n,h1,h2⟩:=jDP hy;exact dB (jF4 s h2 (at_list.mp hp) Aa) h
def MH.pushA(T:Two a b)(h:MH a b out i j){p:Keyed}(hi:0<i)(hp:a[i-1]?=some p)(hc:∀y∈b.toList.take j,LE y p):MH a b (out.push p) (i-1) j:=by
 have e:=jJW hi (at_list.mp hp);have s:=T.sa.take i;unfold MH at h ⊢;rw[e] at h s;rw[eL,gm];exact h.takeA s λx hx=>by rw[ak.mp hx];exact hc
def MH.pushB(T:Two a b)(h:MH a b out i j){p:Keyed}(hj:0<j)(hp:b[j-1]?=some p)(hc:∀y∈a.toList.take i,LE y p):MH a b (out.push p) i (j-1):=by
 have e:=jJW hj (at_list.mp hp);have s:=T.sb.take j;unfold MH at h ⊢;rw[e] at h s;rw[eL,gm];exact h.takeB s λx hx=>by rw[ak.mp hx];exact hc
theorem MH.appA(T:Two a b)(h:MH a b out i j)(hk:k<=i)(hc:∀n x,k<=n->n<i->a.toList[n]?=some x->∀y∈b.toList.take j,LE y x):MH a b (out++(a.extract k i).reverse) k j:=by
 have e:=jJV (l:=a.toList) hk;have s:=T.sa.take i;unfold MH at h ⊢;rw[e] at h s;rw[bD,dS,gm,lC,jAM];exact h.takeA s λx hx y hy=>by
  obtain⟨n,h1,h2,h3⟩:=jA5 hx;exact hc n x h1 Aa h3 y hy
theorem MH.appB(T:Two a b)(h:MH a b out i j)(hk:k<=j)(hc:∀n x,k<=n->n<j->b.toList[n]?=some x->∀y∈a.toList.take i,LE y x):MH a b (out++(b.extract k j).reverse) i k:=by
 have e:=jJV (l:=b.toList) hk;have s:=T.sb.take j;unfold MH at h ⊢;rw[e] at h s;rw[bD,dS,gm,lC,jAM];exact h.takeB s λx hx y hy=>by
  obtain⟨n,h1,h2,h3⟩:=jA5 hx;exact hc n x h1 Aa h3 y hy
def MH.doneA(T:Two a b)(h:MH a b out 0 j):yU a b (a.extract 0 0++b.extract 0 j++out.reverse):=by
 unfold yU;rw[bD,bD,jBJ,jBJ,dS];exact h.out (by rw[iW];exact T.sb.take j)
def MH.doneB(T:Two a b)(h:MH a b out i 0):yU a b (a.extract 0 i++b.extract 0 0++out.reverse):=by
 unfold yU;rw[bD,bD,jBJ,jBJ,dS];exact h.out (by rw[iW,aV];exact T.sa.take i)
theorem MH.doneF(T:Two a b)(h:MH a b out i 1):yU a b (b.extract 0 1++a.extract 0 i++out.reverse):=by
 unfold yU;rw[bD,bD,jBJ,jBJ,dS];refine h.outF (q0 (T.sb.take 1) (T.sa.take i) λx hx y hy=>?_);obtain⟨n,h1,h2⟩:=jDP hx;have:n=0:=by lia
 subst this;exact cV (T.first y (cQ hy) x h2)
end
section
variable {prog:Program}{w:World}{A:Around}{E:Ah}{s:Shared} [LtOk prog w A s]
theorem jKX{st:SortSt}{len:Nat}(hk:kindOf st=Od.kd)(hp:IsI p)(ha:AllI a.toList)
  (sa:∀n m x y,i<=n->n<=m->m<i+len->a[n]?=some x->a[m]?=some y->LE x y) (hh:hint<len) (hl:i+len<=a.size)
  (h:∀k,k<=len->(∀n x,i<=n->n<i+k->a[n]?=some x->LE x p)->(∀n x,i+k<=n->n<i+len->a[n]?=some x->key p<key x)->Q (some k) st):
  wpS (model prog w) A E s (jBU false p a i len hint) Q st:=by
 refine jB9 hk hp (λn hn=>?_) hh (λn=>match a[i+n]? with|some x=>!decide (key p<key x)|none=>false) (λn x hn hx=>?_) (λn m hnm hm hb=>?_) λk hk1 hk2 hk3=>h k Aa (λn x h1 h2 h3=>?_) λn x h1 h2 h3=>?_
 .obtain⟨q,q1,q2⟩:=qJ (a:=a) (i:=i+n) Aa;exact⟨q,q1,ha q (aQ q2)⟩
 .rw[hx,az aC]
 .obtain⟨x,x1,x2⟩:=qJ (a:=a) (i:=i+n) Aa;obtain⟨y,y1,y2⟩:=qJ (a:=a) (i:=i+m) Aa;rw[y1] at hb;rw[x1];have:=sa (i+n) (i+m) x y Aa Aa Aa x1 y1;have hb:¬key p<key y:=by simpa using hb
  show (!decide (key p<key x))=true;rw[cq,dv];have:key x<=key y:=this;lia
 .have:=hk2 (n-i) Aa;rw[show i+(n-i)=n by lia,h3] at this;have this:¬key p<key x:=by simpa using this
  show key x<=key p;lia
 .have:=hk3 (n-i) Aa Aa;rw[show i+(n-i)=n by lia,h3] at this;simpa using this
theorem jKY{st:SortSt}{len:Nat}(hk:kindOf st=Od.kd)(hp:IsI p)(ha:AllI a.toList)
  (sa:∀n m x y,i<=n->n<=m->m<i+len->a[n]?=some x->a[m]?=some y->LE x y) (hh:hint<len) (hl:i+len<=a.size)
  (h:∀k,k<=len->(∀n x,i<=n->n<i+k->a[n]?=some x->key x<key p)->(∀n x,i+k<=n->n<i+len->a[n]?=some x->LE p x)->Q (some k) st):
  wpS (model prog w) A E s (jBU true p a i len hint) Q st:=by
 refine jB9 hk hp (λn hn=>?_) hh (λn=>match a[i+n]? with|some x=>decide (key x<key p)|none=>false) (λn x hn hx=>?_) (λn m hnm hm hb=>?_) λk hk1 hk2 hk3=>h k Aa (λn x h1 h2 h3=>?_) λn x h1 h2 h3=>?_
 .obtain⟨q,q1,q2⟩:=qJ (a:=a) (i:=i+n) Aa;exact⟨q,q1,ha q (aQ q2)⟩
 .rw[hx,aA rfl]
 .obtain⟨x,x1,x2⟩:=qJ (a:=a) (i:=i+n) Aa;obtain⟨y,y1,y2⟩:=qJ (a:=a) (i:=i+m) Aa;rw[y1] at hb;rw[x1];have:=sa (i+n) (i+m) x y Aa Aa Aa x1 y1;have hb:key y<key p:=aL hb;show decide (key x<key p)=true;rw[bz];have:key x<=key y:=this;lia
 .have:=hk2 (n-i) Aa;rw[show i+(n-i)=n by lia,h3] at this;exact aL this
 .have:=hk3 (n-i) Aa Aa;rw[show i+(n-i)=n by lia,h3] at this;have this:¬key x<key p:=gC this;show key p<=key x;lia
end
section
variable {prog:Program}{w:World}{A:Around}{E:Ah}{s:Shared} [LtOk prog w A s]
structure HiI (a b:Array Keyed)(st:SortSt)(out:Array Keyed)(na nb:Nat)(st':SortSt):Prop where
 m:MH a b out na nb
 i:0<na
 ia:na<=a.size
 j:1<nb
 jb:nb<=b.size
 s:SG st st'
def whole(s:Srt a.toList){len:Nat}:∀n m x y,0<=n->n<=m->m<0+len->a[n]?=some x->a[m]?=some y->LE x y:=λn m x y _ h _ hx hy=>jF4 s (at_list.mp hx) (at_list.mp hy) h
theorem jIJ{st:SortSt}{Q:Array Keyed->SortSt->Prop}(hk:kindOf st=Od.kd)(T:Two a b)(h:∀r st',yU a b r->SG st st'->Q r st'):wpS (model prog w) A E s (jGB a b) Q st:=by
 rw[mergeHiB.2]
 delta mergeHiB
 dsimp only;simp only[elP,ltP,jJE,jMV];have na:=T.na;have nb:=T.nb;refine aM (iV (dA ⟨rfl,?_⟩));obtain⟨p0,hp0,ip0⟩:=T.atA (i:=a.size-1) Aa;refine aM (jT hp0 ?_);have M0:MH a b #[p0] (a.size-1) b.size:=by
  have z:MH a b #[] a.size b.size:=⟨by
   rw[show a.toList.take a.size=a.toList from bE Ad,show b.toList.take b.size=b.toList from bE Ad];show ((a.toList++b.toList)++([]:List Keyed)).Perm _;rw[aV],List.Pairwise.nil,λx hx=>by cases hx⟩
  have:=MH.pushA T z Aa hp0 λy hy=>cV (T.last y (cQ hy) p0 (at_list.mp hp0));exact this
 by_cases e1:a.size-1=0
 .rw[aA (bp e1)];rw[e1] at M0 ⊢;exact aR (h _ _ (MH.doneA T M0) (SG.refl _))
 rw[az (bn e1)];by_cases e2:b.size=1
 .rw[aA (bp e2)];rw[e2] at M0 ⊢;exact aR (h _ _ (MH.doneF T M0) (SG.refl _))
 rw[az (bn e2)];refine aM (g9 ?_);refine aM (dQ (cn (I:=λx c st'=>∃out na nb mg,c=(none,na,nb,out,mg)/\HiI a b st out na nb st'/\x+1<=a.size-na+(b.size-nb))
  (Q:=λc st'=>∃r,c.1=some r/\yU a b r/\SG st st') ?step ?fin ⟨_,_,_,_,rfl,⟨M0,Aa,Aa,Aa,Aa,SG.refl _⟩,Aa⟩) ?post)
 case post=>
  rintro ⟨r0,c⟩ st' ⟨r,hr,d,g⟩;have hr:r0=some r:=hr;subst hr;exact aR (h r st' d g)
 case fin=>
  rintro c st' ⟨out,na,nb,mg,rfl,I0,hx⟩;have:=I0.i;have:=I0.j;lia
 case step=>
  rintro x c st1 _ hx ⟨out,na,nb,mg,rfl,I0,hxx⟩;dsimp only;refine aM (dQ (cn (I:=λy c st'=>∃out' na' nb' ac bc,c=(none,na',nb',out',ac,bc)/\HiI a b st out' na' nb' st'/\na'+nb'<=na+nb/\(y=0\/na'+nb'<na+nb))
   (Q:=λc st'=>(∃r,c.1=some r/\yU a b r/\SG st st')\/∃out' na' nb' ac bc,c=(none,na',nb',out',ac,bc)/\HiI a b st out' na' nb' st'/\na'+nb'<na+nb) ?step1 ?fin1 ⟨_,_,_,_,_,rfl,I0,Aa,.inl rfl⟩) ?post1)
  case fin1=>
   rintro c st' ⟨out',na',nb',ac,bc,rfl,I1,h1,h2⟩;exact .inr ⟨_,_,_,_,_,rfl,I1,Aa⟩
  case step1=>
   rintro y c st2 _ hy ⟨out',na',nb',ac,bc,rfl,I1,h1,h2⟩;dsimp only;have i0:=I1.i;have i1:=I1.ia;have j0:=I1.j;have j1:=I1.jb;obtain⟨pb,hpb,ipb⟩:=T.atB (i:=nb'-1) Aa;obtain⟨pa,hpa,ipa⟩:=T.atA (i:=na'-1) Aa;refine aM (jT hpb (aM (jT hpa (aM (jGY (I1.s.k.trans hk) ipb ipa ?_)))));dsimp only;by_cases hlt:key pb<key pa
   .rw[ao hlt,aA rfl];refine aM (jT hpa ?_);have M2:=MH.pushA T I1.m i0 hpa (jDN T.sb hpb (cV hlt));by_cases f1:na'-1=0
    .rw[aA (bp f1)];rw[f1] at M2 ⊢;exact aR (.inl ⟨_,rfl,MH.doneA T M2,I1.s⟩)
    rw[az (bn f1)];split
    .exact aR (.inr ⟨_,_,_,_,_,rfl,⟨M2,Aa,Aa,j0,j1,I1.s⟩,Aa⟩)
    .exact aR ⟨_,_,_,_,_,rfl,⟨M2,Aa,Aa,j0,j1,I1.s⟩,Aa,.inr Aa⟩
   .rw[aK hlt,az aC];refine aM (jT hpb ?_);have M2:=MH.pushB T I1.m Aa hpb (jDN T.sa hpa (by show key pa<=key pb;lia));by_cases f1:nb'-1=1
    .rw[aA (bp f1)];rw[f1] at M2 ⊢;exact aR (.inl ⟨_,rfl,MH.doneF T M2,I1.s⟩)
    rw[az (bn f1)];split
    .exact aR (.inr ⟨_,_,_,_,_,rfl,⟨M2,i0,i1,Aa,Aa,I1.s⟩,Aa⟩)
    .exact aR ⟨_,_,_,_,_,rfl,⟨M2,i0,i1,Aa,Aa,I1.s⟩,Aa,.inr Aa⟩
  case post1=>
   rintro c st2 (⟨r,hr,d,g⟩|⟨out1,na1,nb1,ac,bc,rfl,I1,h1⟩)
   .obtain⟨r0,c⟩:=c;have hr:r0=some r:=hr;subst hr;exact aR ⟨r,rfl,d,g⟩
   dsimp only;refine aM (iV (dA ⟨rfl,?_⟩));refine aM (dQ (cn (I:=λy c st'=>∃out' na' nb' mg' ac bc,c=(none,na',nb',out',mg',ac,bc)/\HiI a b st out' na' nb' st'/\na'+nb'<na+nb)
    (Q:=λc st'=>(∃r,c.1=some r/\yU a b r/\SG st st')\/∃out' na' nb' mg' ac bc,c=(none,na',nb',out',mg',ac,bc)/\HiI a b st out' na' nb' st'/\na'+nb'<na+nb) ?step2 ?fin2 ⟨_,_,_,_,_,_,rfl,I1,h1⟩) ?post2)
   case fin2=>
    rintro c st' ⟨out',na',nb',mg',ac,bc,rfl,I2,h2⟩;exact .inr ⟨_,_,_,_,_,_,rfl,I2,h2⟩
   case post2=>
    have q1:=I0.ia;have q2:=I0.jb;rintro c st3 (⟨r,hr,d,g⟩|⟨out2,na2,nb2,mg2,ac,bc,rfl,I2,h2⟩)
    .obtain⟨r0,c⟩:=c;have hr:r0=some r:=hr;subst hr;exact aR ⟨r,rfl,d,g⟩
    dsimp only;rw[jA3];have q3:=I2.ia;have q4:=I2.jb;exact aM (fm (aR ⟨_,_,_,_,rfl,⟨I2.m,I2.i,I2.ia,I2.j,I2.jb,I2.s.gal _⟩,Aa⟩))
   case step2=>
    clear I0 I1;rename_i na00 nb00;generalize hbd:na+nb=bd;clear hxx h1;rintro y c st2 _ hy ⟨out,na,nb,mg',ac,bc,rfl,I0,h2⟩;dsimp only;obtain⟨pb,hpb,ipb⟩:=T.atB (i:=nb-1) (by have:=I0.j;have:=I0.jb;lia);by_cases hg:mg'>1
    case' pos=>
     rw[aA hg];generalize hgg:mg'-1=gg
    case' neg=>
     rw[az hg];generalize hgg:mg'=gg
    all_goals
     rw[jA3];refine aM (fm ?_);have G1:=I0.s.gal gg;have na0:=I0.i;have na1:=I0.ia;have nb0:=I0.j;have nb1:=I0.jb;refine aM (jT hpb ?_);refine aM (jKX (G1.k.trans hk) ipb T.ia (whole T.sa) Aa Aa λk1 g1 g2 g3=>?_);dsimp only;have M1:=MH.appA T I0.m g1 (λn x h1 h2 h3=>jDN T.sb hpb (cV (g3 n x Aa Aa (at_list.mpr h3))));have hle:∀y∈a.toList.take k1,LE y pb:=λy hy=>by
      obtain⟨n,h1,h2⟩:=jDP hy;exact g2 n y Aa Aa (at_list.mpr h2)
     by_cases e0:na-k1>0
     case' pos=>
      rw[aA e0];by_cases f1:k1=0
      .rw[aA (bp f1)];rw[f1] at M1 ⊢;exact aR (.inl ⟨_,rfl,MH.doneA T M1,G1⟩)
      rw[az (bn f1)];obtain⟨pa,hpa,ipa⟩:=T.atA (i:=k1-1) Aa;have hz:0<k1:=Aa;generalize hiz:k1=iz at*
     case' neg=>
      rw[az e0];have e0':k1=na:=Aa;subst e0';have M1:=I0.m;obtain⟨pa,hpa,ipa⟩:=T.atA (i:=k1-1) Aa;have hz:0<k1:=Aa;generalize hiz:k1=iz at*
     all_goals
      refine aM (jT hpb ?_);have M2:=MH.pushB T M1 Aa hpb hle;by_cases e1:nb-1=1
      .rw[aA (bp e1)];rw[e1] at M2 ⊢;exact aR (.inl ⟨_,rfl,MH.doneF T M2,G1⟩)
      rw[az (bn e1)];refine aM (jT hpa ?_);refine aM (jKY (G1.k.trans hk) ipa T.ib (whole T.sb) Aa Aa λk2 l1 l2 l3=>?_);dsimp only;have M3:=MH.appB T M2 l1 (λn x h1 h2 h3=>jDN T.sa hpa (l3 n x Aa Aa (at_list.mpr h3)));have fin3:∀y∈b.toList.take k2,LE y pa:=λy hy=>by
       obtain⟨n,h1,h2⟩:=jDP hy;exact cV (l2 n y Aa Aa (at_list.mpr h2))
      by_cases e2:nb-1-k2>0
      .rw[aA e2];by_cases e3:k2=1
       .rw[aA (bp e3)];rw[e3] at M3 ⊢;exact aR (.inl ⟨_,rfl,MH.doneF T M3,G1⟩)
       rw[az (bn e3)];by_cases e5:k2=0
       .rw[aA (bp e5)];rw[e5] at M3 ⊢;exact aR (.inl ⟨_,rfl,MH.doneB T M3,G1⟩)
       rw[az (bn e5)];refine aM (jT hpa ?_);have M4:=MH.pushA T M3 hz hpa fin3;by_cases e4:iz-1=0
       .rw[aA (bp e4)];rw[e4] at M4 ⊢;exact aR (.inl ⟨_,rfl,MH.doneA T M4,G1⟩)
       rw[az (bn e4)];split
       .exact aR (.inr ⟨_,_,_,_,_,_,rfl,⟨M4,Aa,Aa,Aa,Aa,G1⟩,Aa⟩)
       .exact aR ⟨_,_,_,_,_,_,rfl,⟨M4,Aa,Aa,Aa,Aa,G1⟩,Aa⟩
      .rw[az e2];have e0:k2=nb-1:=Aa;subst e0;refine aM (jT hpa ?_);have M4:=MH.pushA T M2 hz hpa fin3;by_cases e4:iz-1=0
       .rw[aA (bp e4)];rw[e4] at M4 ⊢;exact aR (.inl ⟨_,rfl,MH.doneA T M4,G1⟩)
       rw[az (bn e4)];split
       .exact aR (.inr ⟨_,_,_,_,_,_,rfl,⟨M4,Aa,Aa,Aa,Aa,G1⟩,Aa⟩)
       .exact aR ⟨_,_,_,_,_,_,rfl,⟨M4,Aa,Aa,Aa,Aa,G1⟩,Aa⟩
end
def KI(xs:Array Keyed)(i:Nat):Int:=match xs[i]? with
 |some p=>key p
 |none=>0
def STo(xs:Array Keyed)(k:Nat):Prop:=∀i j,i<=j->j<k->KI xs i<=KI xs j
structure SB (a₀:Array Keyed)(st:SortSt):Prop where
 perm:(arrOf st).Perm a₀
 kind:kindOf st=Od.kd
 failed:failedOf st=none
 pend:pendingOf st=#[]
def SB.size{st:SortSt}(h:SB a₀ st):(arrOf st).size=a₀.size:=h.perm.size_eq
def jBL(h:xs[i]?=ys[j]?):KI xs i=KI ys j:=by unfold KI;rw[h]
def jPR{src d:Nat}(hs:src<xs.size)(hd:d<=src)(k:Nat):
  KI (bubble xs src d) k=if k=src-d then KI xs src else if src-d<k/\k<=src then KI xs (k-1) else KI xs k:=by
 have e:=getElem?_bubble hs d hd k;by_cases h1:k=src-d
 .rw[aA h1] at e ⊢;exact jBL e
 .rw[az h1] at e ⊢;by_cases h2:src-d<k/\k<=src
  .rw[aA h2] at e ⊢;exact jBL e
  .rw[az h2] at e ⊢;exact jBL e
def jCH(hj:j<=xs.size)(k:Nat):
  KI (mirror xs i j ((j-i)/2)) k=if i<=k/\k<j then KI xs (i+j-1-k) else KI xs k:=by
 have e:=getElem?_mirror_all (i:=i) hj k;by_cases h1:i<=k/\k<j
 .rw[aA h1] at e;rw[aA h1];exact jBL e
 .rw[az h1] at e;rw[az h1];exact jBL e
theorem jA2(hj:j<=xs.size)(heq:∀k,i<=k->k<j->KI xs k=KI xs (j-1))(k:Nat):
  KI (mirror xs i j ((j-i)/2)) k=KI xs k:=by
 rw[jCH hj];split
 .rename_i h;rw[heq _ Aa Aa,heq k h.1 h.2]
 .rfl
def Up(xs:Array Keyed)(lo n:Nat):Prop:=∀i j,lo<=i->i<=j->j<lo+n->KI xs i<=KI xs j
def Dn(xs:Array Keyed)(lo n:Nat):Prop:=∀i j,lo<=i->i<=j->j<lo+n->KI xs j<=KI xs i
structure BB (a₀:Array Keyed)(p:Array (Nat×Nat×Nat))(F:Nat->Int)(lo:Nat)(st:SortSt):Prop where
 perm:(arrOf st).Perm a₀
 kind:kindOf st=Od.kd
 failed:failedOf st=none
 pend:pendingOf st=p
 low:∀k,k<lo->KI (arrOf st) k=F k
def jSD(hp:xs.Perm a₀)(h0:AllI a₀.toList)(hi:i<a₀.size):∃q,xs[i]?=some q/\IsI q/\key q=KI xs i:=by
 have hi':i<xs.size:=by rw[hp.size_eq];exact hi
 have hm:xs[i]∈a₀.toList:=(cR.mp hp).mem_iff.mp Ad;have e:xs[i]?=some xs[i]:=lY _ i hi';exact⟨xs[i],e,h0 _ hm,by unfold KI;rw[e]⟩
section
variable {prog:Program}{w:World}{A:Around}{E:Ah}{s:Shared} [LtOk prog w A s]{a₀:Array Keyed}{p:Array (Nat×Nat×Nat)}{F:Nat->Int}{lo:Nat}
def BB.sz{st:SortSt}(h:BB a₀ p F lo st):(arrOf st).size=a₀.size:=h.perm.size_eq
def BB.arr{st:SortSt}(h:BB a₀ p F lo st){xs:Array Keyed}(hp:xs.Perm (arrOf st))(hl:∀k,k<lo->KI xs k=KI (arrOf st) k):BB a₀ p F lo (setArr st xs):=
 ⟨hp.trans h.perm,h.kind,h.failed,h.pend,λk hk=>(hl k hk).trans (h.low k hk)⟩
theorem jCI{st:SortSt}{Q:Option Bool->SortSt->Prop}(hB:BB a₀ p F lo st)(h0:AllI a₀.toList)(hi:i<a₀.size)(hj:j<a₀.size)
  (h:Q (some (decide (KI (arrOf st) i<KI (arrOf st) j))) st):wpS (model prog w) A E s (ltAt' i j) Q st:=by
 obtain⟨x,e1,i1,k1⟩:=jSD hB.perm h0 hi;obtain⟨y,e2,i2,k2⟩:=jSD hB.perm h0 hj;rw[ltAt'_eq];refine aM (g9 ?_);show wpS _ _ _ _ (do let x <- elem' (arrOf st) i;let y <- elem' (arrOf st) j;lt' x y) Q st;rw[elem'_eq,elem'_eq,e1,e2];refine aM (aR (aM (aR (jGY hB.kind i1 i2 ?_))));rw[k1,k2];exact h
theorem Up.one:Up xs lo 1:=λi j h1 h2 h3=>by
 have:i=j:=by lia
 rw[this];exact dR _
theorem Dn.one:Dn xs lo 1:=λi j h1 h2 h3=>by
 have:i=j:=by lia
 rw[this];exact dR _
theorem Up.more(h:Up xs lo n)(hn:0<n)(hc:KI xs (lo+n-1)<=KI xs (lo+n)):Up xs lo (n+1):=λi j h1 h2 h3=>by
 by_cases e:j<lo+n
 .exact h i j h1 h2 e
 .have ej:j=lo+n:=Aa;subst ej;by_cases ei:i=lo+n
  .rw[ei];exact dR _
  .exact dB (h i (lo+n-1) h1 Aa Aa) hc
theorem Dn.more(h:Dn xs lo n)(hn:0<n)(hc:KI xs (lo+n)<=KI xs (lo+n-1)):Dn xs lo (n+1):=λi j h1 h2 h3=>by
 by_cases e:j<lo+n
 .exact h i j h1 h2 e
 .have ej:j=lo+n:=Aa;subst ej;by_cases ei:i=lo+n
  .rw[ei];exact dR _
  .exact dB hc (h i (lo+n-1) h1 Aa Aa)
def Dn.congr(h:Dn xs lo n)(e:∀k,KI ys k=KI xs k):Dn ys lo n:=λi j h1 h2 h3=>by
 rw[e i,e j];exact h i j h1 h2 h3
theorem jFS{st:SortSt}{nrem:Nat}{Q:Option Nat->SortSt->Prop}(h0:AllI a₀.toList)(hn:lo+nrem<=a₀.size)(hn1:1<=nrem)(hB:BB a₀ p F lo st)
  (h:∀m st',BB a₀ p F lo st'->1<=m->m<=nrem->Up (arrOf st') lo m->Q (some m) st'):wpS (model prog w) A E s (countRun' lo nrem) Q st:=by
 rw[countRun'_eq];dsimp only;refine aM (dQ (cn (I:=λx c st'=>st'=st/\c=(none,x)/\Up (arrOf st) lo x)
  (Q:=λc st'=>st'=st/\∃n,c=(none,n)/\1<=n/\n<=nrem/\Up (arrOf st) lo n/\(n=nrem\/KI (arrOf st) (lo+n)<KI (arrOf st) (lo+n-1))) ?step ?fin ⟨rfl,rfl,Up.one⟩) ?post)
 case fin=>
  rintro c st' ⟨rfl,rfl,hu⟩;rw[show max 1 nrem=nrem by lia] at hu ⊢;exact⟨rfl,nrem,rfl,hn1,ar _,hu,.inl rfl⟩
 case step=>
  rintro x c st' h1 h2 ⟨rfl,rfl,hu⟩;dsimp only;refine aM (jCI hB h0 Aa Aa ?_);dsimp only;by_cases hl:KI (arrOf st') (lo+x)<KI (arrOf st') (lo+x-1)
  .rw[ao hl,aA rfl];exact aR ⟨rfl,x,rfl,Aa,Aa,hu,.inr hl⟩
  .rw[aK hl,az aC];exact aR ⟨rfl,rfl,hu.more Aa Aa⟩
 case post=>
  rintro c st' ⟨rfl,n,rfl,n1,n2,hu,hor⟩;dsimp only;by_cases hnn:n=nrem
  .rw[aA (bp hnn)];exact aR (h n st' hB n1 n2 hu)
  rw[az (bn hnn)];have hlt:=hor.resolve_left hnn;have hz:lo+n<=(arrOf st').size:=by rw[hB.sz];lia
  by_cases hgt:n>1
  case' pos=>
   rw[aA hgt];refine aM (jCI hB h0 Aa Aa ?_);dsimp only;by_cases hr:KI (arrOf st') lo<KI (arrOf st') (lo+n-1)
   .rw[ao hr,aA rfl];exact aR (h n st' hB n1 n2 hu)
   rw[aK hr,az aC];have hall:∀k,lo<=k->k<lo+n->KI (arrOf st') k=KI (arrOf st') (lo+n-1):=λk h1 h2=>by
    have a1:=hu lo k Aa h1 h2;have a2:=hu k (lo+n-1) h1 Aa Aa;lia
   refine aM (wpS_reverse ?_);have hB1:=hB.arr (xs:=mirror (arrOf st') lo (lo+n) ((lo+n-lo)/2)) (mirror_perm _ _ _ _) λk _=>jA2 hz hall k;have hs0:Dn (arrOf st') lo n:=λi j h1 h2 h3=>by
    rw[hall i h1 Aa,hall j Aa h3];exact dR _
   have hs1:Dn (arrOf (setArr st' (mirror (arrOf st') lo (lo+n) ((lo+n-lo)/2)))) lo (n+1):=(hs0.more Aa (cV hlt)).congr (jA2 hz hall);generalize setArr st' (mirror (arrOf st') lo (lo+n) ((lo+n-lo)/2))=st1 at*
  case' neg=>
   rw[az hgt];have en:n=1:=Aa;have hB1:=hB;have hs1:Dn (arrOf st') lo (n+1):=by
    rw[en] at hlt ⊢;exact Dn.one.more Aa (cV hlt)
  all_goals
   refine aM (iV (dA ⟨rfl,?_⟩));refine aM (dQ (cn (I:=λx c st'=>∃q,c=(none,x,q)/\BB a₀ p F lo st'/\Dn (arrOf st') lo x/\q+1<=x/\∀i,lo+x-(q+1)<=i->i<lo+x->KI (arrOf st') i=KI (arrOf st') (lo+x-1))
    (Q:=λc st'=>∃m q,c=(none,m,q)/\1<=m/\m<=nrem/\BB a₀ p F lo st'/\Dn (arrOf st') lo m/\q+1<=m/\∀i,lo+m-(q+1)<=i->i<lo+m->KI (arrOf st') i=KI (arrOf st') (lo+m-1)) ?dstep ?dfin ⟨0,rfl,hB1,hs1,Aa,λi h1 h2=>by congr 1;lia⟩) ?dpost)
   case dfin=>
    rintro c st' ⟨q,rfl,hb,hd,hq,he⟩;rw[show max (n+1) nrem=nrem by lia] at hd hq he ⊢;exact⟨nrem,q,rfl,Aa,Aa,hb,hd,hq,he⟩
   case dstep=>
    rintro x c st' h1 h2 ⟨q,rfl,hb,hd,hq,he⟩;dsimp only;have hz:lo+x<=(arrOf st').size:=by rw[hb.sz];lia
    refine aM (jCI hb h0 Aa Aa ?_);dsimp only;by_cases hl:KI (arrOf st') (lo+x)<KI (arrOf st') (lo+x-1)
    .rw[ao hl,aA rfl];have d1:=hd.more Aa (cV hl);by_cases hq0:q>0
     .rw[aA hq0];refine aM (wpS_reverse (aR ⟨0,rfl,hb.arr (mirror_perm _ _ _ _) λk _=>jA2 hz he k,d1.congr (jA2 hz he),Aa,λi h1 h2=>by congr 1;lia⟩))
     .rw[az hq0];exact aR ⟨0,rfl,hb,d1,Aa,λi h1 h2=>by congr 1;lia⟩
    .rw[aK hl,az aC];refine aM (jCI hb h0 Aa Aa ?_);dsimp only;by_cases hg:KI (arrOf st') (lo+x-1)<KI (arrOf st') (lo+x)
     .rw[ao hg,aA rfl];exact aR ⟨x,q,rfl,Aa,Aa,hb,hd,hq,he⟩
     .rw[aK hg,az aC];have ex:KI (arrOf st') (lo+x)=KI (arrOf st') (lo+x-1):=Aa;refine aR ⟨q+1,rfl,hb,hd.more Aa Aa,Aa,λi h1 h2=>?_⟩;rw[show lo+(x+1)-1=lo+x by lia];by_cases hix:i=lo+x
      .rw[hix]
      .rw[ex];exact he i Aa Aa
   case dpost=>
    rintro c st2 ⟨m,q,rfl,m1,m2,hB2,hs2,hq,he⟩;dsimp only;have hz2:lo+m<=(arrOf st2).size:=by rw[hB2.sz];lia
    by_cases hq0:q>0
    case' pos=>
     rw[aA hq0];refine aM (wpS_reverse ?_);have hB3:=hB2.arr (xs:=mirror (arrOf st2) (lo+m-(q+1)) (lo+m) ((lo+m-(lo+m-(q+1)))/2)) (mirror_perm _ _ _ _) λk _=>jA2 hz2 he k;have hs3:Dn (arrOf (setArr st2 (mirror (arrOf st2) (lo+m-(q+1)) (lo+m) ((lo+m-(lo+m-(q+1)))/2)))) lo m:=hs2.congr (jA2 hz2 he);generalize setArr st2 (mirror (arrOf st2) (lo+m-(q+1)) (lo+m) ((lo+m-(lo+m-(q+1)))/2))=st3 at*
    case' neg=>
     rw[az hq0];have hB3:=hB2;have hs3:=hs2;generalize st2=st3 at*
    all_goals
     have hz3:lo+m<=(arrOf st3).size:=by rw[hB3.sz];lia
     refine aM (wpS_reverse ?_);have hB4:=hB3.arr (xs:=mirror (arrOf st3) lo (lo+m) ((lo+m-lo)/2)) (mirror_perm _ _ _ _) λk hk=>by
      rw[jCH hz3,az Aa]
     have hU:Up (mirror (arrOf st3) lo (lo+m) ((lo+m-lo)/2)) lo m:=λi j h1 h2 h3=>by
      rw[jCH hz3,jCH hz3,aA ⟨h1,Aa⟩,aA ⟨Aa,h3⟩];exact hs3 _ _ Aa Aa Aa
     generalize mirror (arrOf st3) lo (lo+m) ((lo+m-lo)/2)=xs4 at*;refine aM (dQ (cn (I:=λx c st'=>st'=setArr st3 xs4/\c=(none,x)/\Up xs4 lo x)
      (Q:=λc st'=>st'=setArr st3 xs4/\∃n,c=(none,n)/\1<=n/\n<=nrem/\Up xs4 lo n) ?tstep ?tfin ⟨rfl,rfl,hU⟩) ?tpost)
     case tfin=>
      rintro c st' ⟨rfl,rfl,hu⟩;rw[show max m nrem=nrem by lia] at hu ⊢;exact⟨rfl,nrem,rfl,Aa,Aa,hu⟩
     case tstep=>
      rintro x c st' h1 h2 ⟨rfl,rfl,hu⟩;dsimp only;refine aM (jCI hB4 h0 Aa Aa ?_);dsimp only;by_cases hl:KI xs4 (lo+x)<KI xs4 (lo+x-1)
      .rw[ao hl,aA rfl];exact aR ⟨rfl,x,rfl,Aa,Aa,hu⟩
      .rw[aK hl,az aC];exact aR ⟨rfl,rfl,hu.more Aa Aa⟩
     case tpost=>
      rintro c st' ⟨rfl,n,rfl,n1,n2,hu⟩;exact aR (h n _ hB4 n1 n2 hu)
theorem jDU{st:SortSt}{ok:Nat}{Q:Bool->SortSt->Prop}(h0:AllI a₀.toList)(hn:lo+n<=a₀.size)(hok:ok<=n)(hB:BB a₀ p F lo st)(hs:Up (arrOf st) lo ok)
  (h:∀st',BB a₀ p F lo st'->Up (arrOf st') lo n->Q true st'):wpS (model prog w) A E s (binarySort' lo n ok) Q st:=by
 rw[binarySort'_eq];dsimp only;refine aM (dQ (cn (I:=λk c st'=>c=(none,())/\BB a₀ p F lo st'/\Up (arrOf st') lo (min k n))
  (Q:=λc st'=>c=(none,())/\BB a₀ p F lo st'/\Up (arrOf st') lo n) ?step ?fin ⟨rfl,hB,?init⟩) ?post)
 case post=>
  rintro c st' ⟨rfl,hb,hu⟩;exact aR (h st' hb hu)
 case init=>
  by_cases e:ok=0
  .intro i j h1 h2 h3;have:i=j:=by lia
   rw[this];exact dR _
  .exact λi j h1 h2 h3=>hs i j h1 h2 Aa
 case fin=>
  rintro c st' ⟨hc,hb,hu⟩;rw[show min (max (max ok 1) n) n=n by lia] at hu;exact⟨hc,hb,hu⟩
 case step=>
  rintro k c st1 hk1 hk2 ⟨rfl,hb,hu⟩;rw[show min k n=k by lia] at hu;refine aM (dQ (cn (I:=λx c st'=>st'=st1/\∃l r,c=(none,l,r)/\l<=r/\r<=k/\r-l<=k-x/\
    (∀i,i<l->KI (arrOf st1) (lo+i)<=KI (arrOf st1) (lo+k))/\∀i,r<=i->i<k->KI (arrOf st1) (lo+k)<KI (arrOf st1) (lo+i))
   (Q:=λc st'=>st'=st1/\∃l r,c=(none,l,r)/\l<=k/\
    (∀i,i<l->KI (arrOf st1) (lo+i)<=KI (arrOf st1) (lo+k))/\∀i,l<=i->i<k->KI (arrOf st1) (lo+k)<KI (arrOf st1) (lo+i)) ?step1 ?fin1 ⟨rfl,0,k,rfl,Aa,Aa,Aa,λi hi=>by lia,λi h1 h2=>by lia⟩) ?post1)
  case fin1=>
   rintro c st' ⟨rfl,l,r,rfl,b1,b2,b3,b4,b5⟩;have:l=r:=by lia
   subst this;exact⟨rfl,l,l,rfl,b2,b4,b5⟩
  case step1=>
   rintro x c st' _ hx ⟨rfl,l,r,rfl,b1,b2,b3,b4,b5⟩;dsimp only;by_cases hge:l ≥ r
   .rw[aA hge];have:l=r:=by lia
    subst this;exact aR ⟨rfl,l,l,rfl,b2,b4,b5⟩
   rw[az hge];refine aM (jCI hb h0 Aa Aa ?_);dsimp only;by_cases hl:KI (arrOf st') (lo+k)<KI (arrOf st') (lo+(l+r)/2)
   .rw[ao hl,aA rfl];exact aR ⟨rfl,l,(l+r)/2,rfl,Aa,Aa,Aa,b4,λi h1 h2=>Int.lt_of_lt_of_le hl (hu _ _ Aa Aa Aa)⟩
   .rw[aK hl,az aC];exact aR ⟨rfl,(l+r)/2+1,r,rfl,Aa,Aa,Aa,λi h1=>dB (hu (lo+i) (lo+(l+r)/2) Aa Aa Aa) (Int.not_lt.mp hl),b5⟩
  case post1=>
   rintro c st' ⟨rfl,l,r,rfl,hlk,b4,b5⟩;dsimp only;rw[moveDown'_eq];have hks:lo+k<(arrOf st').size:=by rw[hb.sz];lia
   have kb:∀x,KI (bubble (arrOf st') (lo+k) (lo+k-(lo+l))) x=if x=lo+l then KI (arrOf st') (lo+k) else if lo+l<x/\x<=lo+k then KI (arrOf st') (x-1) else KI (arrOf st') x:=λx=>by
    have:=jPR hks (d:=lo+k-(lo+l)) Aa x;rw[show lo+k-(lo+k-(lo+l))=lo+l by lia] at this;exact this
   refine aM (fm (aR ⟨rfl,hb.arr (bubble_perm _ _ _) λx hx=>?_,?_⟩))
   .rw[kb,az Aa,az Aa]
   rw[show min (k+1) n=k+1 by lia];intro i j h1 h2 h3;show KI (bubble _ _ _) i<=KI (bubble _ _ _) j;rw[kb,kb];have lo1:∀i,lo<=i->i<lo+l->KI (arrOf st') i<=KI (arrOf st') (lo+k):=λi h1 h2=>by
    have:=b4 (i-lo) Aa;rw[show lo+(i-lo)=i by lia] at this;exact this
   have hi1:∀i,lo+l<=i->i<lo+k->KI (arrOf st') (lo+k)<=KI (arrOf st') i:=λi h1 h2=>by
    have:=b5 (i-lo) Aa Aa;rw[show lo+(i-lo)=i by lia] at this;exact cV this
   repeat' split
   all_goals first
    | (exfalso;lia)
    |exact dR _
    |exact lo1 _ Aa Aa
    |exact hi1 _ Aa Aa
    |exact hu _ _ Aa Aa Aa
end
def mergeAtB: {g:Nat->StateT SortSt Sem Bool // mergeAt'=g}:=⟨λ_=>bind _ _,rfl⟩
def KI_key{xs:Array Keyed}{i:Nat}{p:Keyed}(h:xs[i]?=some p):KI xs i=key p:=by
 unfold KI;rw[h]
def jK5(s1:Nat):∀(l:List Keyed) (j0:Nat) (a:Array Keyed) (P M S:List Keyed),P.length=s1+j0->M.length=l.length->a.toList=P++(M++S)->
  ((l.zipIdx j0).foldl (λ(a:Array Keyed) (x:Keyed×Nat)=>a.setIfInBounds (s1+x.2) x.1) a).toList=P++(l++S)
 |[],j0,a,P,M,S,h1,h2,h3=>by
  rw[dU h2] at h3;exact h3
 |q::l,j0,a,P,[],S,h1,h2,h3=>by cases h2
 |q::l,j0,a,P,m::M,S,h1,h2,h3=>by
  rw[List.zipIdx_cons,List.foldl_cons];have:=jK5 s1 l (j0+1) (a.setIfInBounds (s1+j0) q) (P++[q]) M S (by rw[aI,h1];rfl) (Nat.succ.inj h2) (by
   rw[iX,h3,<- h1,lh _ _ (ar _),gP,aY];rfl)
  rw[this,aY];rfl
theorem jU6{P m1 m2 S:List Keyed}(e:m1.length=m2.length){k:Nat}(h:k<P.length\/P.length+m1.length<=k):(P++(m1++S))[k]?=(P++(m2++S))[k]?:=by
 rcases h with h|h
 .rw[cf h,cf h]
 .rw[bw Aa,bw Aa,bw Aa,bw Aa,e]
theorem jWC{P S:List Keyed}{k:Nat}(h1:P.length<=k)(h2:k<P.length+m.length):(P++(m++S))[k]?=m[k-P.length]?:=by
 rw[bw h1,cf Aa]
def jL0{xs:Array Keyed}{i j t:Nat}(h:t<j-i):(xs.extract i j).toList[t]?=xs[i+t]?:=by
 rw[jAM,cG h,iU,bR]
theorem jCY(h:p∈(xs.extract i j).toList):∃t,i<=t/\t<j/\xs[t]?=some p:=by
 rw[jAM] at h;obtain⟨t,h1,h2,h3⟩:=jA5 h;exact⟨t,h1,Aa,at_list.mpr h3⟩
theorem jER(h:j<=xs.size):(xs.extract i j).size=j-i:=by
 rw[Array.size_extract];lia
theorem jP2(h:∀n m x y,i<=n->n<=m->m<j->xs[n]?=some x->xs[m]?=some y->LE x y):Srt (xs.extract i j).toList:=by
 refine bV.mpr λa b ha hb hab=>?_;have hl:(xs.extract i j).toList.length<=j-i:=by rw[jAM,bO];lia
 have e1:=jL0 (xs:=xs) (i:=i) (j:=j) (t:=a) Aa;have e2:=jL0 (xs:=xs) (i:=i) (j:=j) (t:=b) Aa;rw[aF ha] at e1;rw[aF hb] at e2;exact h (i+a) (i+b) _ _ Aa Aa Aa e1.symm e2.symm
def KI_at(h:xs.toList[i]?=ys.toList[j]?):KI xs i=KI ys j:=jBL (by rw[<- bR,<- bR];exact h)
theorem jLR{xs r R:Array Keyed}{sa na sb nb k1 k2:Nat}(hsb:sb=sa+na)(hk1:k1<na)(hk2:0<k2)(hk2':k2<=nb)(hz:sb+nb<=xs.size)
  (u1:Up xs sa na) (u2:Up xs sb nb) (g2:∀t,sa<=t->t<sa+k1->KI xs t<=KI xs sb) (l3:∀t,sb+k2<=t->t<sb+nb->KI xs (sb-1)<=KI xs t)
  (D:yU (xs.extract (sa+k1) sb) (xs.extract sb (sb+k2)) r)
  (hR:R.toList=xs.toList.take (sa+k1)++(r.toList++xs.toList.drop (sb+k2))):
  R.Perm xs/\(∀k,k<sa\/sa+(na+nb)<=k->KI R k=KI xs k)/\Up R sa (na+nb):=by
 have lr:r.toList.length=sb+k2-(sa+k1):=by
  rw[D.1.length_eq,aI,aN,aN,jER Aa,jER Aa];lia
 have lP:(xs.toList.take (sa+k1)).length=sa+k1:=by rw[bO,aN];lia
 have hX:xs.toList=xs.toList.take (sa+k1)++(((xs.extract (sa+k1) sb).toList++(xs.extract sb (sb+k2)).toList)++xs.toList.drop (sb+k2)):=by
  have a1:=bM (sa+k1) xs.toList;have a2:=bM (sb-(sa+k1)) (xs.toList.drop (sa+k1));have a3:=bM k2 (xs.toList.drop sb);rw[iT] at a2 a3;rw[show sa+k1+(sb-(sa+k1))=sb by lia] at a2;rw[jAM,jAM,dr,aY,a3,a2,a1]
 have lm:((xs.extract (sa+k1) sb).toList++(xs.extract sb (sb+k2)).toList).length=r.toList.length:=D.1.length_eq.symm;have out:∀k,k<sa+k1\/sb+k2<=k->KI R k=KI xs k:=λk hk=>KI_at (by
  have:=jU6 (P:=xs.toList.take (sa+k1)) (S:=xs.toList.drop (sb+k2)) lm.symm (k:=k) (by rw[lP,lr];lia);exact(ce (·[k]?) hR).trans (this.trans (ce (·[k]?) hX).symm))
 have inn:∀k,sa+k1<=k->k<sb+k2->R.toList[k]?=r.toList[k-(sa+k1)]?:=λk h1 h2=>by
  rw[hR,jWC (by rw[lP];exact h1) (by rw[lP,lr];lia),lP]
 have mem:∀k,sa+k1<=k->k<sb+k2->∃t,sa+k1<=t/\t<sb+k2/\KI R k=KI xs t:=λk h1 h2=>by
  have hk:k-(sa+k1)<r.toList.length:=Aa;have e:=inn k h1 h2;rw[aF hk] at e;have hm:=D.1.mem_iff.mp (dq hk);rcases aP.mp hm with q|q
  .obtain⟨t,t1,t2,t3⟩:=jCY q;exact⟨t,t1,Aa,(KI_key (at_list.mpr e)).trans (KI_key t3).symm⟩
  .obtain⟨t,t1,t2,t3⟩:=jCY q;exact⟨t,Aa,t2,(KI_key (at_list.mpr e)).trans (KI_key t3).symm⟩
 have srt:∀i j,sa+k1<=i->i<=j->j<sb+k2->KI R i<=KI R j:=λi j h1 h2 h3=>by
  have hi:i-(sa+k1)<r.toList.length:=Aa;have hj:j-(sa+k1)<r.toList.length:=Aa;have e1:=inn i h1 Aa;have e2:=inn j Aa h3;rw[aF hi] at e1;rw[aF hj] at e2;rw[KI_key (at_list.mpr e1),KI_key (at_list.mpr e2)];exact jF4 D.2 (aF hi) (aF hj) Aa
 have low:∀t u,sa<=t->t<sa+k1->t<=u->u<sb+nb->KI xs t<=KI xs u:=λt u h1 h2 h3 h4=>by
  by_cases e:u<sb
  .exact u1 t u h1 h3 Aa
  .exact dB (g2 t h1 h2) (u2 sb u (ar _) Aa h4)
 have high:∀t u,sa<=t->t<=u->sb+k2<=u->u<sb+nb->KI xs t<=KI xs u:=λt u h1 h2 h3 h4=>by
  by_cases e:t<sb
  .exact dB (u1 t (sb-1) h1 Aa Aa) (l3 u h3 h4)
  .exact u2 t u Aa h2 h4
 refine⟨?_,λk hk=>out k Aa,λi j h1 h2 h3=>?_⟩
 .refine cR.mpr ?_;rw[hR];refine List.Perm.trans ?_ (ko hX.symm);exact dI _ (gO _ D.1)
 .have h3:j<sb+nb:=Aa;by_cases i1:i<sa+k1
  .rw[out i (.inl i1)];by_cases j1:j<sa+k1
   .rw[out j (.inl j1)];exact low i j h1 i1 h2 h3
   by_cases j2:j<sb+k2
   .obtain⟨t,t1,t2,t3⟩:=mem j Aa j2;rw[t3];exact low i t h1 i1 Aa Aa
   .rw[out j (.inr Aa)];exact low i j h1 i1 h2 h3
  by_cases i2:i<sb+k2
  .by_cases j2:j<sb+k2
   .exact srt i j Aa h2 j2
   .obtain⟨t,t1,t2,t3⟩:=mem i Aa i2;rw[t3,out j (.inr Aa)];exact high t j Aa Aa Aa h3
  .rw[out i (.inr Aa),out j (.inr Aa)];exact high i j h1 h2 Aa h3
section
variable {prog:Program}{w:World}{A:Around}{E:Ah}{s:Shared} [LtOk prog w A s]
def jSP{st:SortSt}{Q:PUnit->SortSt->Prop}(h:Q ⟨⟩ st'):wpS (model prog w) A E s (set st':StateT SortSt Sem PUnit) Q st:=fm (f:=λ_=>st') h
def jM8{α:Type}{a b:α}{Q:α->SortSt->Prop}{st:SortSt}(e:a=b)(h:Q b st):wpS (model prog w) A E s (pure a:StateT SortSt Sem α) Q st:=aR (e ▸ h)
structure Merged (st st':SortSt)(i sa na sb nb pw:Nat):Prop where
 perm:(arrOf st').Perm (arrOf st)
 kind:kindOf st'=Od.kd
 failed:failedOf st'=none
 pend:pendingOf st'=((pendingOf st).setIfInBounds i (sa,na+nb,pw)).eraseIdxIfInBounds (i+1)
 out:∀k,k<sa\/sa+(na+nb)<=k->KI (arrOf st') k=KI (arrOf st) k
 up:Up (arrOf st') sa (na+nb)
theorem jIK{st:SortSt}{sa na pw sb nb w2:Nat}{Q:Bool->SortSt->Prop}(hk:kindOf st=Od.kd)(hf:failedOf st=none)(hI:AllI (arrOf st).toList)
  (h1:(pendingOf st)[i]?=some (sa,na,pw)) (h2:(pendingOf st)[i+1]?=some (sb,nb,w2)) (hsb:sb=sa+na) (hna:0<na) (hnb:0<nb) (hz:sb+nb<=(arrOf st).size)
  (u1:Up (arrOf st) sa na) (u2:Up (arrOf st) sb nb) (h:∀st',Merged st st' i sa na sb nb pw->Q true st'):wpS (model prog w) A E s (mergeAt' i) Q st:=by
 rw[mergeAtB.2]
 delta mergeAtB
 dsimp only;simp only[elP,ltP,ltAtP,jJE,jQN,jQO];refine aM (g9 ?_);rw[h1,h2];dsimp only;refine aM (jSP ?_);generalize hpp:((pendingOf st).setIfInBounds i (sa,na+nb,pw)).eraseIdxIfInBounds (i+1)=pp;show wpS _ _ _ _ _ _ (SortSt.mk' (kindOf st) (arrOf st) pp (gallopOf st) (failedOf st));generalize hst1:SortSt.mk' (kindOf st) (arrOf st) pp (gallopOf st) (failedOf st)=st1;have G1:kindOf st1=kindOf st/\arrOf st1=arrOf st/\pendingOf st1=pp/\failedOf st1=failedOf st:=by rw[<- hst1];exact⟨rfl,rfl,rfl,rfl⟩
 have at_:∀t,t<(arrOf st).size->∃q,(arrOf st)[t]?=some q/\IsI q:=λt ht=>by
  obtain⟨q,q1,q2⟩:=qJ ht;exact⟨q,q1,hI q (aQ q2)⟩
 have m1:∀n m x y,sa<=n->n<=m->m<sa+na->(arrOf st)[n]?=some x->(arrOf st)[m]?=some y->LE x y:=λn m x y a1 a2 a3 hx hy=>by
  have:=u1 n m a1 a2 a3;rw[KI_key hx,KI_key hy] at this;exact this
 have m2:∀n m x y,sb<=n->n<=m->m<sb+nb->(arrOf st)[n]?=some x->(arrOf st)[m]?=some y->LE x y:=λn m x y a1 a2 a3 hx hy=>by
  have:=u2 n m a1 a2 a3;rw[KI_key hx,KI_key hy] at this;exact this
 obtain⟨pb,hpb,ipb⟩:=at_ sb Aa;refine aM (jT hpb ?_);refine aM (jKX (G1.1.trans hk) ipb hI m1 hna (show sa+na<=(arrOf st).size by lia) λk1 g1 g2 g3=>?_);dsimp only;have g2:∀t,sa<=t->t<sa+k1->KI (arrOf st) t<=KI (arrOf st) sb:=λt t1 t2=>by
  obtain⟨q,hq,_⟩:=at_ t Aa;rw[KI_key hq,KI_key hpb];exact g2 t q t1 t2 hq
 by_cases e1:na-k1=0
 .rw[aA (bp e1)];refine aR (h _ ⟨?_,G1.1.trans hk,G1.2.2.2.trans hf,G1.2.2.1.trans hpp.symm,λk _=>?_,?_⟩)
  .rw[G1.2.1]
  .rw[G1.2.1]
  .rw[G1.2.1];intro i j i1 i2 i3;by_cases a:i<sb
   .by_cases b:j<sb
    .exact u1 i j i1 i2 Aa
    .exact dB (g2 i i1 Aa) (u2 sb j (ar _) Aa Aa)
   .exact u2 i j Aa i2 Aa
 rw[az (bn e1)];obtain⟨pa,hpa,ipa⟩:=at_ (sa+k1+(na-k1)-1) Aa;refine aM (jT hpa ?_);refine aM (jKY (G1.1.trans hk) ipa hI m2 Aa (show sb+nb<=(arrOf st).size by lia) λk2 l1 l2 l3=>?_);dsimp only;have epa:sa+k1+(na-k1)-1=sb-1:=Aa;rw[epa] at hpa;have l3':∀t,sb+k2<=t->t<sb+nb->KI (arrOf st) (sb-1)<=KI (arrOf st) t:=λt t1 t2=>by
  obtain⟨q,hq,_⟩:=at_ t Aa;rw[KI_key hq,KI_key hpa];exact l3 t q t1 t2 hq
 by_cases e2:k2=0
 .rw[aA (bp e2)];refine aR (h _ ⟨?_,G1.1.trans hk,G1.2.2.2.trans hf,G1.2.2.1.trans hpp.symm,λk _=>?_,?_⟩)
  .rw[G1.2.1]
  .rw[G1.2.1]
  .rw[G1.2.1];intro i j i1 i2 i3;by_cases a:i<sb
   .by_cases b:j<sb
    .exact u1 i j i1 i2 Aa
    .exact dB (u1 i (sb-1) i1 Aa Aa) (l3' j Aa Aa)
   .exact u2 i j Aa i2 Aa
 rw[az (bn e2)];have T:Two ((arrOf st).extract (sa+k1) sb) ((arrOf st).extract sb (sb+k2)):=by
  refine⟨λq hq=>?_,λq hq=>?_,jP2 λn m x y a1 a2 a3=>m1 n m x y Aa a2 Aa,jP2 λn m x y a1 a2 a3=>m2 n m x y Aa a2 Aa,?_,?_,λx hx y hy=>?_,λy hy q hq=>?_⟩
  .obtain⟨t,_,_,t3⟩:=jCY hq;exact hI q (aQ (at_list.mp t3))
  .obtain⟨t,_,_,t3⟩:=jCY hq;exact hI q (aQ (at_list.mp t3))
  .rw[jER Aa];lia
  .rw[jER Aa];lia
  .obtain⟨t,t1,t2,t3⟩:=jCY hx;rw[jER Aa,jL0 Aa,show sa+k1+(sb-(sa+k1)-1)=sb-1 by lia,hpa] at hy;cases hy;exact l2 t x t1 t2 t3
  .obtain⟨t,t1,t2,t3⟩:=jCY hy;rw[jL0 Aa,lX,hpb] at hq;cases hq;exact g3 t y t1 Aa t3
 by_cases e3:na-k1<=k2
 case' pos=>
  rw[aA e3];refine aM (jII (G1.1.trans hk) T λr st2 D G0=>?_);have G:SG (SortSt.mk' (kindOf st) (arrOf st) pp (gallopOf st) (failedOf st)) st2:=by rw[hst1];exact G0
  subst hpp
 case' neg=>
  rw[az e3];refine aM (jIJ (G1.1.trans hk) T λr st2 D G0=>?_);have G:SG (SortSt.mk' (kindOf st) (arrOf st) pp (gallopOf st) (failedOf st)) st2:=by rw[hst1];exact G0
  subst hpp
 all_goals
  refine aM (fm (aM (g9 ?_)));have ea:arrOf st2=arrOf st:=G.a;have W:=jLR (R:=((r.toList.zipIdx 0).foldl (λ(a:Array Keyed) (x:Keyed×Nat)=>a.setIfInBounds (sa+k1+x.2) x.1) (arrOf st))) hsb Aa Aa l1 hz u1 u2 g2 l3' D (jK5 (sa+k1) r.toList 0 (arrOf st) ((arrOf st).toList.take (sa+k1)) (((arrOf st).extract (sa+k1) sb).toList++((arrOf st).extract sb (sb+k2)).toList) ((arrOf st).toList.drop (sb+k2)) (by rw[bO,aN];lia) D.1.length_eq.symm (by
   have a1:=bM (sa+k1) (arrOf st).toList;have a2:=bM (sb-(sa+k1)) ((arrOf st).toList.drop (sa+k1));have a3:=bM k2 ((arrOf st).toList.drop sb);rw[iT] at a2 a3;rw[show sa+k1+(sb-(sa+k1))=sb by lia] at a2;rw[jAM,jAM,dr,aY,a3,a2,a1]))
  rw[<- ea] at W;refine jM8 (by show (failedOf st2).isNone=true;rw[G.f];show (failedOf st).isNone=true;rw[hf];rfl) (h _ ⟨?_,G.k.trans hk,G.f.trans hf,G.p,?_,?_⟩)
  .rw[<- ea];exact W.1
  .rw[<- ea];exact W.2.1
  .exact W.2.2
end
def Runs(xs:Array Keyed):List (Nat×Nat×Nat)->Nat->Nat->Prop
 |[],a,b=>a=b
 | (s,n,_)::t,a,b=>s=a/\0<n/\Up xs s n/\Runs xs t (a+n) b
section
variable {xs ys:Array Keyed}
theorem Runs.le:∀{l:List (Nat×Nat×Nat)}{a b:Nat},Runs xs l a b->a+l.length<=b
 |[],a,b,h=>by have:a=b:=h;rw[cz];lia
 | (s,n,_)::t,a,b,⟨_,h2,_,h4⟩=>by
  have:=Runs.le h4;rw[aU];lia
def Runs.app:∀{l m:List (Nat×Nat×Nat)}{a b:Nat},Runs xs (l++m) a b->∃c,Runs xs l a c/\Runs xs m c b
 |[],m,a,b,h=>⟨a,rfl,h⟩
 | (s,n,_)::t,m,a,b,⟨h1,h2,h3,h4⟩=>by
  obtain⟨c,c1,c2⟩:=Runs.app h4;exact⟨c,⟨h1,h2,h3,c1⟩,c2⟩
def Runs.put:∀{l m:List (Nat×Nat×Nat)}{a b c:Nat},Runs xs l a c->Runs xs m c b->Runs xs (l++m) a b
 |[],m,a,b,c,h,g=>by have:a=c:=h;subst this;exact g
 | (s,n,_)::t,m,a,b,c,⟨h1,h2,h3,h4⟩,g=>⟨h1,h2,h3,Runs.put h4 g⟩
theorem Up.same{lo n:Nat}(h:Up xs lo n)(e:∀k,lo<=k->k<lo+n->KI ys k=KI xs k):Up ys lo n:=λi j h1 h2 h3=>by
 rw[e i h1 Aa,e j Aa h3];exact h i j h1 h2 h3
theorem Runs.same:∀{l:List (Nat×Nat×Nat)}{a b:Nat},Runs xs l a b->(∀k,a<=k->k<b->KI ys k=KI xs k)->Runs ys l a b
 |[],a,b,h,_=>h
 | (s,n,_)::t,a,b,⟨h1,h2,h3,h4⟩,e=>by
  have:=Runs.le h4;exact⟨h1,h2,h3.same λk k1 k2=>e k Aa Aa,Runs.same h4 λk k1 k2=>e k Aa k2⟩
def Runs.mod{f:Nat×Nat×Nat->Nat×Nat×Nat}(hf:∀x,(f x).1=x.1/\(f x).2.1=x.2.1):∀{l:List (Nat×Nat×Nat)}{i a b:Nat},Runs xs l a b->Runs xs (l.modify i f) a b
 |[],i,a,b,h=>by rw[List.modify_nil];exact h
 | (s,n,w)::t,0,a,b,⟨h1,h2,h3,h4⟩=>by
  rw[List.modify_zero_cons];obtain⟨e1,e2⟩:=hf (s,n,w);generalize f (s,n,w)=v at e1 e2 ⊢;obtain⟨s',n',w'⟩:=v;have e1:s'=s:=e1;have e2:n'=n:=e2;subst e1 e2;exact⟨h1,h2,h3,h4⟩
 | (s,n,w)::t,i+1,a,b,⟨h1,h2,h3,h4⟩=>by
  rw[List.modify_succ_cons];exact⟨h1,h2,h3,Runs.mod hf h4⟩
end
structure RI (a₀:Array Keyed)(lo:Nat)(st:SortSt):Prop where
 perm:(arrOf st).Perm a₀
 kind:kindOf st=Od.kd
 failed:failedOf st=none
 runs:Runs (arrOf st) (pendingOf st).toList 0 lo
theorem jH4:∀(l:List (Nat×Nat×Nat)) (i:Nat),i+1<l.length->∃u x y t,l=u++x::y::t/\u.length=i
 |[],i,h=>absurd h (eD _)
 |[x],i,h=>by rw[gX] at h;lia
 |x::y::t,0,h=>⟨[],x,y,t,rfl,rfl⟩
 |x::y::t,i+1,h=>by
  obtain⟨u,x',y',t',e,hu⟩:=jH4 (y::t) i (by rw[aU] at h;lia);exact⟨x::u,x',y',t',by rw[e];rfl,by rw[aU,hu]⟩
def jUV(h0:AllI a₀.toList)(hp:xs.Perm a₀):AllI xs.toList:=λp hp'=>h0 p ((cR.mp hp).mem_iff.mp hp')
section
variable {prog:Program}{w:World}{A:Around}{E:Ah}{s:Shared} [LtOk prog w A s]{a₀:Array Keyed}
theorem jDT{st:SortSt}{lo:Nat}{Q:Bool->SortSt->Prop}(h0:AllI a₀.toList)(R:RI a₀ lo st)(hlo:lo<=a₀.size)(hi:i+1<(pendingOf st).size)
  (h:∀st',RI a₀ lo st'->(pendingOf st').size+1=(pendingOf st).size->(∀k,lo<=k->KI (arrOf st') k=KI (arrOf st) k)->Q true st'):wpS (model prog w) A E s (mergeAt' i) Q st:=by
 obtain⟨u,⟨sa,na,pw⟩,⟨sb,nb,w2⟩,t,e,hu⟩:=jH4 (pendingOf st).toList i (by rw[aN];exact hi);have rr:=R.runs;rw[e] at rr;obtain⟨c,r1,a1,a2,a3,a4,a5,a6,a7⟩:=Runs.app rr;have r2:=Runs.le a7;have r3:=Runs.le r1;subst a1;have e1:(pendingOf st)[i]?=some (sa,na,pw):=by
  rw[<- bR,e,bw Aa,hu,gP];rfl
 have e2:(pendingOf st)[i+1]?=some (sb,nb,w2):=by
  rw[<- bR,e,bw Aa,hu,dr];rfl
 have z:=R.perm.size_eq;refine jIK R.kind R.failed (jUV h0 R.perm) e1 e2 a4 a2 a5 Aa a3 a6 λst' M=>?_;have ep:(pendingOf st').toList=u++(sa,na+nb,pw)::t:=by
  rw[M.pend,Array.toList_eraseIdxIfInBounds,iX,e,lh _ _ Aa,hu,gP,List.set_cons_zero,List.eraseIdx_append_of_length_le Aa,hu,dr];rfl
 refine h st' ⟨M.perm.trans R.perm,M.kind,M.failed,?_⟩ ?_ λk hk=>M.out k Aa
 .rw[ep];refine Runs.put (Runs.same r1 λk k1 k2=>M.out k Aa) ⟨rfl,Aa,M.up,?_⟩;have:=Runs.same (ys:=arrOf st') a7 λk k1 k2=>M.out k Aa;rw[Nat.add_assoc] at this;exact this
 .have q1:=ce List.length ep;have q2:=ce List.length e;rw[aN,aI,aU] at q1;rw[aN,aI,aU,aU] at q2;lia
def RI.of{st:SortSt}{F:Nat->Int}{lo:Nat}{p:Array (Nat×Nat×Nat)}{xs:Array Keyed}(h:BB a₀ p F lo st)(hr:Runs xs p.toList 0 lo)(hF:∀k,F k=KI xs k):RI a₀ lo st:=
 ⟨h.perm,h.kind,h.failed,by rw[h.pend];exact hr.same λk _ hk=>(h.low k hk).trans (hF k)⟩
theorem wpS_sortRunsAny{st:SortSt}{Q:Unit->SortSt->Prop}(h0:AllI a₀.toList)(hB:SB a₀ st)(h1:1<=a₀.size)
  (h:∀st',(arrOf st').Perm a₀->failedOf st'=none->STo (arrOf st') a₀.size->Q () st'):wpS (model prog w) A E s sortRuns' Q st:=by
 rw[sortRuns'_eq];refine aM (g9 ?_)
 try dsimp only
 have hz:=hB.size;rw[hz];generalize minRun' a₀.size a₀.size 0=mr;refine aM (dQ (cn (I:=λx c st'=>∃lo,c=(none,lo)/\x<=lo/\lo<=a₀.size/\RI a₀ lo st')
  (Q:=λc st'=>c=(none,a₀.size)/\RI a₀ a₀.size st') ?step ?fin ⟨0,rfl,ar _,br _,hB.perm,hB.kind,hB.failed,by rw[hB.pend];rfl⟩) ?post)
 case fin=>
  rintro c st' ⟨lo,rfl,l1,l2,R⟩;have:lo=a₀.size:=by lia
  subst this;exact⟨rfl,R⟩
 case step=>
  rintro x c st1 _ hx ⟨lo,rfl,l1,l2,R1⟩
  try dsimp only
  by_cases hl:lo ≥ a₀.size
  .rw[aA hl];have:lo=a₀.size:=by lia
   subst this;exact aR ⟨rfl,R1⟩
  rw[az hl];refine aM (jFS (F:=λk=>KI (arrOf st1) k) (p:=pendingOf st1) h0 Aa Aa ⟨R1.perm,R1.kind,R1.failed,rfl,λ_ _=>rfl⟩ λm st2 B2 m1 m2 U2=>?_)
  try dsimp only
  by_cases hm:m<mr
  case' pos=>
   rw[aA hm];refine aM (iV (dA ⟨rfl,?_⟩));refine aM (jDU h0 Aa Aa B2 U2 λst4 B4 U4=>?_);have R4:=RI.of B4 R1.runs λ_=>rfl;have n0:0<min (a₀.size-lo) mr:=Aa;have n9:min (a₀.size-lo) mr<=a₀.size-lo:=Aa;generalize min (a₀.size-lo) mr=n at*
  case' neg=>
   rw[az hm];have R4:=RI.of B2 R1.runs λ_=>rfl;have U4:=U2;generalize st2=st4 at*;generalize m=n at*
  all_goals
   refine aM (g9 ?_);have last:∀st5:SortSt,RI a₀ lo st5->Up (arrOf st5) lo n->∃lo',(none,lo+n)=((none:Option PUnit),lo')/\x+1<=lo'/\lo'<=a₀.size/\RI a₀ lo' (setPending st5 ((pendingOf st5).push (lo,n,0))):=λst5 R5 U5=>
    ⟨lo+n,rfl,Aa,Aa,R5.perm,R5.kind,R5.failed,by
     show Runs (arrOf st5) ((pendingOf st5).push (lo,n,0)).toList 0 (lo+n);rw[eL];exact R5.runs.put ⟨rfl,Aa,U5,rfl⟩⟩
   cases hb:(pendingOf st4).back? with
   |none=>
    try dsimp only
    exact aM (fm (aR (last st4 R4 U4)))
   |some v=>
    obtain⟨s1,n1,w1⟩:=v
    try dsimp only
    refine aM (dQ (cn (I:=λ_ c st'=>c=(none,())/\RI a₀ lo st'/\Up (arrOf st') lo n) (Q:=λc st'=>c=(none,())/\RI a₀ lo st'/\Up (arrOf st') lo n) ?mstep (λ_ _ z=>z) ⟨rfl,R4,U4⟩) ?mpost)
    case mstep=>
     rintro y c st5 _ _ ⟨rfl,R5,U5⟩
     try dsimp only
     refine aM (g9 ?_);by_cases hs:(pendingOf st5).size>1
     .rw[aA hs];obtain⟨v,hv⟩:∃v,(pendingOf st5)[(pendingOf st5).size-2]?=some v:=⟨_,Array.getElem?_eq_getElem Aa⟩;rw[hv];obtain⟨v1,v2,older⟩:=v
      try dsimp only
      by_cases ho:older<=power' a₀.size (2*s1+n1) (2*s1+n1+n1+n) a₀.size
      .rw[aA ho];exact aR ⟨rfl,R5,U5⟩
      rw[az ho];refine aM (jDT h0 R5 Aa Aa λst6 R6 _ E6=>?_);exact aR ⟨rfl,R6,U5.same λk k1 _=>E6 k k1⟩
     .rw[az hs];exact aR ⟨rfl,R5,U5⟩
    case mpost=>
     rintro c st5 ⟨rfl,R5,U5⟩
     try dsimp only
     refine aM (fm (aM (fm (aR (last (setPending st5 ((pendingOf st5).modify ((pendingOf st5).size-1) λx=>(x.1,x.2.1,power' a₀.size (2*s1+n1) (2*s1+n1+n1+n) a₀.size))) ⟨R5.perm,R5.kind,R5.failed,?_⟩ U5)))));show Runs (arrOf st5) (Array.modify _ _ _).toList 0 lo;rw[Array.toList_modify];exact Runs.mod (f:=λx=>(x.1,x.2.1,power' a₀.size (2*s1+n1) (2*s1+n1+n1+n) a₀.size)) (λ_=>⟨rfl,rfl⟩) R5.runs
 case post=>
  rintro c st1 ⟨rfl,R1⟩
  try dsimp only
  refine aM (dQ (cn (I:=λx c st'=>c=(none,())/\RI a₀ a₀.size st'/\1<=(pendingOf st').size/\(pendingOf st').size+x<=a₀.size)
   (Q:=λc st'=>c=(none,())/\RI a₀ a₀.size st'/\(pendingOf st').size=1) ?step2 ?fin2 ⟨rfl,R1,?a1,?a2⟩) ?post2)
  case a1=>
   have:=R1.runs;cases hp:(pendingOf st1).toList with
   |nil=>
    rw[hp] at this;have:0=a₀.size:=this;lia
   |cons v t=>
    have:=ce List.length hp;rw[aN,aU] at this;lia
  case a2=>
   have:=R1.runs.le;rw[aN] at this;lia
  case fin2=>
   rintro c st2 ⟨_,_,h2,h3⟩;lia
  case post2=>
   rintro c st2 ⟨rfl,R2,h2⟩
   try dsimp only
   refine aR (h st2 R2.perm R2.failed ?_);have rr:=R2.runs;cases hp:(pendingOf st2).toList with
   |nil=>
    rw[<- aN,hp] at h2;cases h2
   |cons v t=>
    have:=ce List.length hp;rw[aN,h2,aU] at this;have:t=[]:=dU Aa;subst this;rw[hp] at rr;obtain⟨v1,v2,v3⟩:=v;obtain⟨q1,q2,q3,q4⟩:=rr;have q4:0+v2=a₀.size:=q4;subst q1;exact λi j hij hj=>q3 i j (br _) hij Aa
  case step2=>
   rintro x c st2 _ hx ⟨rfl,R2,h2,h3⟩
   try dsimp only
   refine aM (g9 ?_);by_cases hs:(pendingOf st2).size<=1
   .rw[aA hs];exact aR ⟨rfl,R2,Aa⟩
   rw[az hs];refine aM (jDT h0 R2 (ar _) ?_ λst3 R3 e3 _=>?_)
   .have ite_le:∀(c:Prop) [Decidable c] (a b:Nat),(if c then a else b)<=max a b:=λc _ a b=>by
     by_cases z:c
     .rw[aA z];lia
     .rw[az z];lia
    refine lO (Nat.add_le_add_right (ite_le _ _ _) 1) ?_;lia
   .exact aR ⟨rfl,R3,Aa,Aa⟩
end
end TM
namespace TM
open PySem PySem.Spec PyProof.Rows
variable {b:Bool}{a:Addr}
section
variable {prog:Program}{w:World}{A:Around}{E:Ah}{s:Shared}
abbrev turned(b:Bool)(xs:An):An:=if b then xs.reverse else xs
def jIN{xs:An}:(turned b xs).size=xs.size:=by
 cases b
 .rfl
 .exact Array.size_reverse
def jCM(b:Bool)(vs:Al):(if b=true then (vs.toArray.zip vs.toArray).reverse else vs.toArray.zip vs.toArray).Perm (pairsOf vs):=by
 cases b with
 |false=>exact ku _
 |true=>exact cR.mpr (by show ((vs.toArray.zip vs.toArray).reverse).toList.Perm _;rw[dS];exact List.reverse_perm _)
def AskOk [Od](prog:Program)(w:World)(A:Around)(s:Shared)(a:Addr)(vs:Al):Prop:=
 ∀h6:Heap,(∀c o,s.heap.get? c=some o->c≠a->h6.get? c=some o)->
  (∀(Q:SortKind->Shared->Prop) (E:Ah),Q Od.kd {s with heap:=h6} ->wpAny (model prog w) A (keyKind' vs.toArray) Q E {s with heap:=h6})/\LtOk prog w A {s with heap:=h6}
theorem jPZ [Od]{a:Addr}{vs:Al}{n:Nat}{b:Bool}{P:Fin->Shared->Prop}(ho:s.heap.get? a=some (seqObj "list" vs.toArray n))(hz:vs.length<=sizeLine)(hI:AllI (pairsOf vs).toList)(hk:2<=vs.length->AskOk prog w A s a vs)
  (h:∀xs:Array Keyed,xs.Perm (pairsOf vs)->STo xs (pairsOf vs).size->P (.done (.ret .none)) {s with heap:=sortedHeap s.heap a vs (turned b (xs.map (·.2)))}):
  wpAny (model prog w) A (Builtin.«list.sort» ⟨[.ref a],[(Str.ofString "reverse",.bool b)]⟩) P E s:=by
 rw[list_sort_rev];have ha:=ay ho;have hz':vs.toArray.size<=sizeLine:=by rw[aq];exact hz
 refine ae (iF ho rfl (ae (eT ho rfl ?_ hz' (br _))));obtain⟨e1,ho1⟩:∃e1,(s.heap.update a (Obj.mapSeq λ_=>#[])).get? a=some (seqObj "list" #[] e1):=⟨_,gu ho _⟩;refine ae (i8 ho1 rfl (ae (lz ?_ hz)));refine ae (fz (bB ?_));generalize hh6:((s.heap.update a (Obj.mapSeq λ_=>#[])).push (seqObj "tuple" vs.toArray 0)).push (seqObj "list" #[] 0)=h6;have ho6:h6.get? a=some (seqObj "list" #[] e1):=by
  rw[<- hh6];exact af _ (af _ ho1)
 have k6:∀c o,s.heap.get? c=some o->c≠a->h6.get? c=some o:=λc o q ne=>by
  rw[<- hh6];exact af _ (af _ ((bi _ _ (cZ ne)).trans q))
 have sh:∀out,sortedHeap s.heap a vs out=h6.update a (Obj.mapSeq λ_=>out):=λout=>by rw[<- hh6];rfl
 have go:∀X:Sem Fin,wpAny (model prog w) A X P E {s with heap:=h6} ->wpAny (model prog w) A (if b=true then (do let _ <- rule "list.sort.reverse"; X) else X) P E {s with heap:=h6}:=λX hX=>by
  cases b with
  |false=>exact hX
  |true=>exact ae (dA hX)
 have hend:∀st':SortSt,(arrOf st').Perm (pairsOf vs)->STo (arrOf st') (pairsOf vs).size->P (.done (.ret .none)) {s with heap:=h6.update a (Obj.mapSeq λ_=>turned b ((arrOf st').map (·.2)))}:=λst' p1 p2=>by
  rw[<- sh];exact h _ p1 p2
 have hfit:∀st':SortSt,(arrOf st').Perm (pairsOf vs)->(turned b ((arrOf st').map (·.2))).size<=sizeLine+1:=λst' p1=>by
  rw[jIN,size_map,p1.size_eq,pairsOf_size];lia
 dsimp only;refine go _ ?_;by_cases few:vs.toArray.size<2
 .rw[aA few,aA few];refine ae (aj ?_);rw[StateT.run_pure];refine ae (aj ?_);dsimp only;refine ae (i8 ho6 rfl (ae (eT ho6 rfl ?_ (br _) (hfit (SortSt.mk' general' _ #[] 7 none) (jCM b vs)))));rw[i9,az aC];refine aj (hend (SortSt.mk' general' _ #[] 7 none) (jCM b vs) λi j hij hj=>?_);have:i=j:=by
   rw[pairsOf_size] at hj;rw[aq] at few;lia
  rw[this];exact dR _
 .rw[az few,az few];rw[aq] at few;obtain⟨kk,ll⟩:=hk Aa h6 k6;refine ae (kk _ _ (ae (bF (wpS_sortRunsAny (a₀:=pairsOf vs) (st:=SortSt.mk' Od.kd _ #[] 7 none)
   (Q:=λ_ st'=>(arrOf st').Perm (pairsOf vs)/\failedOf st'=none/\STo (arrOf st') (pairsOf vs).size)
   hI ⟨jCM b _,rfl,rfl,rfl⟩ (by rw[pairsOf_size];lia) λst' a1 a2 a3=>⟨a1,a2,a3⟩) ?_ λ_ _ e=>e)))
  rintro ⟨⟨⟩,st'⟩ s' ⟨rfl,p1,p2,p3⟩;dsimp only;refine ae (i8 ho6 rfl (ae (eT ho6 rfl ?_ (br _) (hfit st' p1))));rw[p2];dsimp only;rw[i9,az aC];exact aj (hend st' p1 p3)
abbrev odI:Od:=⟨oneType',λp=>numOf p.1,λp=>∃n t,p.1=Value.int n t⟩
def ltI: @LtOk prog w A s odI:= @LtOk.mk prog w A s odI λ{E st x y Q} hk hx hy h=>by
 obtain⟨a,t,ha⟩:=hx;obtain⟨b,u,hb⟩:=hy;have e1: @key odI x=a:=by show numOf x.1=a;rw[ha];rfl
 have e2: @key odI y=b:=by show numOf y.1=b;rw[hb];rfl
 rw[e1,e2] at h;rw[lt'_eq];refine aM (g9 ?_);rw[show kindOf st=oneType' from hk,keyLt'_oneType,ha,hb];exact aM (iV (dN (oneLt_int ⟨rfl,aR h⟩)))
def stoI{xs:Array Keyed}{k:Nat}(h: @STo odI xs k):SortedTo xs k:=h
theorem askI{vs:Al}{ns:Ag}(hI:IntsAre vs ns)(h2:2<=vs.length): @AskOk odI prog w A s a vs:=λh6 _=>⟨λQ E h=>by
 obtain⟨u,v,r,rfl⟩:∃u v r,vs=u::v::r:=by
  match vs,h2 with
  |[_],few=>exact absurd few (show ¬2<=1 by decide)
  |u::v::r,_=>exact⟨u,v,r,rfl⟩
 rw[keyKind_ints hI];exact aj h,ltI⟩
def sort_rev_any{vs:Al}{ns:Ag}{n:Nat}{P:Fin->Shared->Prop}(ho:s.heap.get? a=some (seqObj "list" vs.toArray n))(hI:IntsAre vs ns)(hz:vs.length<=sizeLine)
  (h:∀(out:An) (ns':Ag),IntsAre out.toList ns'->ns'.Perm ns->Ordered b ns'->P (.done (.ret .none)) {s with heap:=sortedHeap s.heap a vs out}):
  wpAny (model prog w) A (Builtin.«list.sort» ⟨[.ref a],[(Str.ofString "reverse",.bool b)]⟩) P E s:=
 @jPZ prog w A E s odI a vs n b P ho hz hI.intKeys (λh2=>askI hI h2) λxs p1 p2=>by
  obtain⟨ns',q1,q2,q3⟩:=sorted_out_rev hI p1 (stoI p2) b;exact h _ ns' q1 q2 q3
end
end TM
namespace L2
open PySem PySem.Spec PyProof.Rows
variable {m w:Nat}{α:Type}{c:Int×Nat}{o:Expr}
section
variable {prog:Program}{w:World}{A:Around}{E:Ah}{s:Shared}{d:Addr}{kvs:List (Key×Value)}
def jFL:∀{vs:Al}{ks:Ag},vs.length=ks.length->(∀(j:Nat) (v:Value),vs[j]?=some v->∃i t,ks[j]?=some i/\v=Value.int i t)->IntsAre vs ks
 |[],[],_,_=> .nil
 |[],_::_,h,_=>by cases h
 |_::_,[],h,_=>by cases h
 |v::vs,a::r,h,hat=>by
  obtain⟨i,t,e1,rfl⟩:=hat 0 v rfl;cases e1;exact .cons _ t (jFL (Nat.succ.inj h) λj v e=>hat (j+1) v e)
theorem jH6{Q:Ah}{ks:Ag}{b:Bool}(hh:A.handled=none)(lo:(d==sysModules)=false)(D:s.heap.DictOf (kZ prog w) d kvs)(hk:kvs.map (·.1)=ks.map Sum.inl)(hz:ks.length<=sizeLine)
  (h:∀(hf:Heap) (tk:Nat) (l:Addr) (vs:Al) (ns:Ag) (e:Nat),s.heap.objs.size<=l->(∀b u,s.heap.get? b=some u->hf.get? b=some u)->
   hf.get? l=some {cls:=.type "list",data:=.seq vs.toArray e} ->IntsAre vs ns->ns.Perm ks->Ordered b ns->Q (.ref l) {s with heap:=hf,toks:=tk}):
  wpAny (model prog w) A (call (.builtin "sorted") [.ref d] [(Str.ofString "reverse",.bool b)]) Q E s:=by
 obtain⟨ep,hat⟩:=D.dictAt;have hlen:kvs.length=ks.length:=by
  have:=ce List.length hk
  rwa [ag,ag] at this
 refine call_function_entry_kw kind_sorted plain_sorted entry_sorted (args_sorted_rev _ _) ?_;unfold Builtin.«sorted»;refine ae (m:=checkCount "sorted" 1 1 _) (aj ?_);refine ae (jJM (A:=A.in1) (PySem.W.kdl_dict (knd:=kZ prog w) (kvs:=kvs) (ep:=ep) lo) hh hat Aa λh1 tk acc hk1 hlt1 hacc=>?_);have hal:acc.toList.length=ks.length:=by rw[aN,hacc.1,hlen]
 have hI:IntsAre acc.toList ks:=jFL hal λj v e=>by
  obtain⟨k,x,hx,hv⟩:=hacc.2 j v (by rw[<- bR];exact e);have e2:(kvs.map (·.1))[j]?=some k:=by rw[aX,hx];rfl
  rw[hk,aX] at e2;cases hq:ks[j]? with
  |none=>rw[hq] at e2;cases e2
  |some i=>
   rw[hq] at e2;cases e2;rcases jA1 (show keyIs (Sum.inl i) v=true from hv) with ⟨i',t,q1,q2⟩|⟨x,t,q1,q2⟩
   .cases q1;exact⟨i,t,rfl,q2⟩
   .cases q1
 refine ae (fz ?_ Aa);have hL:(h1.push (seqObj "list" acc.toList.toArray 0)).get? h1.objs.size=some (seqObj "list" acc.toList.toArray 0):=aw _ rfl;show wpAny _ _ _ _ _ {s with heap:=h1.push (seqObj "list" acc.toList.toArray 0),toks:=tk};refine ae (bB (wpAny_call_entry_kw iP ⟨_,hL,rfl⟩ iq (TM.sort_rev_any hL hI Aa λout ns' a1 a2 a3=>⟨_,rfl,?_⟩) (args_list_sort_rev _ _)));obtain⟨e,he⟩:=sortedHeap_at (out:=out) hL;have kept:∀b u,s.heap.get? b=some u->(sortedHeap (h1.push (seqObj "list" acc.toList.toArray 0)) h1.objs.size acc.toList out).get? b=some u:=λb u q=>by
  have q1:=hk1 b u q;have hb:b<h1.objs.size:=ay q1;rw[sortedHeap_old (aO hb) (by rw[iQ];exact cB hb)];exact af _ q1
 generalize sortedHeap (h1.push (seqObj "list" acc.toList.toArray 0)) h1.objs.size acc.toList out=hf at he kept ⊢;exact aj ⟨_,rfl,h hf tk h1.objs.size out.toList ns' e (cU hlt1) kept (by rw[cP];exact he) a1 a2 a3⟩
end
def jPS(X:Cx)(f:Value)(ks:Am)(r:List V->List V->Hp->VK->Prop):Prop:=
 ∀(ma:Ai) (s:Shared) (σ:St) (H:Hp) (xs zs:List V) (us ws:Al) (Q:VK),Inv X ma σ H s->Vals xs us->Vals zs ws->r xs zs H Q->
  wpAny (model X.prog X.w) X.A (call f us (ks.zip ws)) (EP X ma σ Q) X.xe s
def tCBK(r:List V->List V->Hp->VK->Prop)(t tk:TA):TE:=λσ H Q=>t σ H λvs H1=>tk σ H1 λzs H2=>r vs zs H2 Q
structure JK (X:Cx)(kws:List Keyword)(t:TA):Prop where
 h:PK X kws t
variable {X:Cx}
section
variable {x:Str}{p pos kpos:Pos}{e:Expr}{es:List Expr}{kws:List Keyword}{t tk:TA}{te:TE}{nm:Option Str}{ks:Am}{id:String}{r:List V->List V->Hp->VK->Prop}
def jSF:JK X [] tNil:=⟨jVK⟩
def jOG(ha:JE X e te)(hr:JK X kws t):JK X (⟨nm,e,kpos⟩::kws) (tCons te t):=⟨jTA ha.h hr.h⟩
theorem jHS(hc:jPS X (.builtin id) ks r)(hg:Gl1 X x)(hm:X.mg x=none)(hv:bootBuiltins x=some (.builtin id))(ha:JA X (e::es) t)(hkw:JK X kws tk)(he:starEach (e::es) X.env=(false,eval e X.env)::starEach es X.env)
  (hn:x≠"__name__" :=by decide) (hdb:(x==("__debug__":Str))=false:=by decide) (hall:(backToKw pos (keywordEach kws X.env)).all (·.1.isSome)=true:=by rfl) (hks:(backToKw pos (keywordEach kws X.env)).filterMap (·.1)=ks:=by rfl)
  (hpl:(backTo pos (starEach es X.env)).any (·.1)=false:=by rfl) (hkn:(backToKw pos (keywordEach kws X.env)).any (·.1.isNone)=false:=by rfl):JE X (.Call (.Name x p) (e::es) kws pos) (tCBK r t tk):=by
 refine⟨λma s σ H Q I h=>?_⟩;refine cC (jDB I hg.a hm hv ?_ hn hdb);refine callWith_kw (mo (ha.h pos ma s σ H _ I h) λus s1 ⟨vs,H1,I1,r1,q1⟩=>mo (hkw.h pos ma s1 σ H1 _ I1 q1) λws s2 ⟨zs,H2,I2,rz,q2⟩=>?_) (by rw[he];rfl) (by rw[he];exact hpl) hall hkn;rw[hks];exact hc ma s2 σ H2 vs zs us ws Q I2 r1 rz q2
def jGU(hc:X.calm=true):jPS X (.builtin "sorted") [Str.ofString "reverse"] (λxs zs H Q=>∃(p:Addr) (kvs:List (Key×V)) (ks:Ag) (b:Bool),xs=[.ref p]/\zs=[.bl b]/\H p=some (.dK kvs)/\kvs.map (·.1)=ks.map Sum.inl/\ks.length<=sizeLine/\
  ∀(l:Addr) (ns:Ag),H l=none->Ordered b ns->ns.Perm ks->Q (.ref l) (upd H l (.lst (ns.map V.int)))):=by
 intro ma s σ H xs zs us ws Q I r rz h;obtain⟨p,kvs,ks,b,rfl,rfl,hp,hk,hn,q⟩:=h;obtain⟨u,rfl,rx⟩:=r.one;obtain⟨v,rfl,ry⟩:=rz.one;cases rx;cases ry;obtain⟨z,lo,vs,rel,dd⟩:=dk_of I.hok hp;refine jH6 (I.ok.hd hc) lo dd (by rw[<- rel.keys];exact hk) hn λhf tk l vs ns e hl kp he hi pm srt=>?_;have hz:(ns.map V.int).length<=sizeLine:=by rw[ag,pm.length_eq];exact hn
 have I2:Inv X ma σ (upd H l (.lst (ns.map V.int))) {s with heap:=hf,toks:=tk}:=I.laid (t':=tk) kp hl ⟨hz,vs,e,jAB hi,he⟩;exact⟨.ref l,_,I2,rfl,q l ns (I.hok.fresh hl) srt pm⟩
end
def jOM{to:TE}{name:Str}{apos cpos:Pos}{T id:String}{r:V->List V->Hp->VK->Prop}(pa:PlainAttrs T)(slot:Slot T name id)(hty:typeOf (.builtin id)=pure (.type "method_descriptor"))(hm:MtR X id r)(ho:JE X o to)
  (hbase:attributeBase o name X.env (eval o X.env)=eval o X.env:=by rfl) (hline:(apos.endLine==cpos.line)=true:=by rfl):JE X (.Call (.Attribute o name apos) [] [] cpos) (tBM0 X.K T r to):=⟨jVT pa slot hty hm ho.h hbase hline⟩
def rBits:V->List V->Hp->VK->Prop:=λx vs H Q=>∃i,x=.int i/\vs=[]/\Q (.int (Builtin.Int.intBits i)) H
def jNT:MtR X "int.bit_length" rBits:=by
 intro ma s σ H x vs v us Q I rx rv h;obtain⟨i,rfl,rfl,q⟩:=h;obtain⟨t,rfl⟩:=rx;have hus:=rv.zero;subst hus;exact call_int_bit_length ⟨.int _,H,I.tok _,⟨_,rfl⟩,q⟩
def jOL{i:Expr}{ty td:TE}{pos:Pos}(hu:X.A.units+1<cLine)(hi:JE X i ty)(ho:JE X o td)(h1:behindInMarks .NotIn o=false):JT X (.Compare i [.NotIn] [o] pos) (tB (jML ty td)):=⟨jS2 (jN8 hu hi.h ho.h) h1⟩
def jV4(i:Int)(b:Bool):TE:=λ_ H Q=>∀p H',H' p=some (.dK [(.inl i,.bl b)])->Ext H H'->H p=none->Q (.ref p) H'
theorem jQY{i:Int}{b:Bool}{k1 k2:Nat}{p1 p2 pos:Pos}:JE X (.Dict [some (.Constant (.int i) k1 p1)] [.Constant (.bool b) k2 p2] pos) (jV4 i b):=
 ⟨λma s σ H Q I h=>jTH (jQ4 je_int.h je_bl.h jT7) rfl rfl (by intro z;cases z) (by show 1<=15;decide) ma s σ H Q I λp hp=>⟨j7,[(.inl i,.bl b)],rfl,by show 1<=15;decide,h p _ j7 (((Ext.refl H).new hp _).updNew hp _) hp⟩⟩
theorem jR5{K:W.Frag}{tp:Bool}{l:Addr}{xs:List V}{g:TG}{tb:TS}{D:Ends}{σ:St}{H:Hp}(Pv:Nat->St->Hp->Prop)(h0:Pv 0 σ H)(hl:∀i σ H,Pv i σ H->Sq tp K H l xs)
  (hs:∀i x T σ H,xs[i]?=some x->H T=none->Pv i σ H->g (.ref T) σ (upd H T (.tup [.int (i:Int),x])) λσ2 H2=>tb {D with nx:=Pv (i+1),ct:=Pv (i+1),bk:=D.nx} σ2 H2) (hd:∀σ H,Pv xs.length σ H->D.nx σ H):
  ∃W:Nat->Nat->St->Hp->Prop,(∃m,W 0 m σ H)/\∀i m σ H,W i m σ H->
   ((Ite tp K l).stop i H/\D.nx σ H)\/((Ite tp K l).go i H/\∃N:St->Hp->Prop,(∀σ' H',N σ' H'->∃m',m'<m/\W (i+1) m' σ' H')/\∀x H',(Ite tp K l).yld i H x H'->g x σ H' λσ2 H2=>tb {D with nx:=N,ct:=N,bk:=D.nx} σ2 H2):=by
 refine⟨λi m σ H=>m=xs.length-i/\i<=xs.length/\Pv i σ H,⟨_,rfl,br _,h0⟩,?_⟩;rintro i m σ H ⟨rfl,hi,p⟩;have s1:=hl i σ H p;by_cases hlt:i<xs.length
 .refine .inr ⟨⟨xs,xs[i],s1,by simp[hlt]⟩,Pv (i+1),λσ' H' p'=>⟨xs.length-(i+1),Aa,rfl,hlt,p'⟩,λv H'' y=>?_⟩;obtain⟨T,x,e1,e2,e3,e4⟩:=y;subst e2 e3;exact hs i x T σ _ (e4 xs s1) e1 p
 .have e:i=xs.length:=Aa;subst e;exact .inl ⟨⟨xs,s1,ar _⟩,hd σ H p⟩
def All2{β:Type}(R:α->β->Prop):List α->List β->Prop
 |[],[]=>True
 |a::as,b::bs=>R a b/\All2 R as bs
 |_,_=>False
section
variable {α β:Type}{R S:α->β->Prop}
def All2.len:∀{as:List α}{bs:List β},All2 R as bs->as.length=bs.length
 |[],[],_=>rfl
 |_::_,_::_,h=>ce (· +1) (All2.len h.2)
def All2.imp(f:∀a b,R a b->S a b):∀{as:List α}{bs:List β},All2 R as bs->All2 S as bs
 |[],[],_=>trivial
 |_::_,_::_,h=>⟨f _ _ h.1,All2.imp f h.2⟩
def All2.snoc{a:α}{b:β}:∀{as:List α}{bs:List β},All2 R as bs->R a b->All2 R (as++[a]) (bs++[b])
 |[],[],_,h=>⟨h,trivial⟩
 |_::_,_::_,h,k=>⟨h.1,All2.snoc h.2 k⟩
def All2.get:∀{as:List α}{bs:List β}{i:Nat}{b:β},All2 R as bs->bs[i]?=some b->∃a,as[i]?=some a/\R a b
 |[],[],i,b,_,h=>by simp at h
 |a::_,_::_,0,b,h,e=>by
  simp at e;subst e;exact⟨a,rfl,h.1⟩
 |_::_,_::_,i+1,b,h,e=>by
  obtain⟨a,h1,h2⟩:=All2.get h.2 (i:=i) (b:=b) (by simpa using e);exact⟨a,by simpa using h1,h2⟩
def All2.get':∀{as:List α}{bs:List β}{i:Nat}{a:α},All2 R as bs->as[i]?=some a->∃b,bs[i]?=some b/\R a b
 |[],[],i,b,_,h=>by simp at h
 |a::_,b::_,0,x,h,e=>by
  simp at e;subst e;exact⟨b,rfl,h.1⟩
 |_::_,_::_,i+1,x,h,e=>by
  obtain⟨b,h1,h2⟩:=All2.get' h.2 (i:=i) (a:=x) (by simpa using e);exact⟨b,by simpa using h1,h2⟩
def All2.append:∀{as as':List α}{bs bs':List β},All2 R as bs->All2 R as' bs'->All2 R (as++as') (bs++bs')
 |[],_,[],_,_,h=>h
 |_::_,_,_::_,_,h,k=>⟨h.1,All2.append h.2 k⟩
def All2.of_get{as:List α}{bs:List β}(hl:as.length=bs.length)(h:∀(i:Nat) a b,as[i]?=some a->bs[i]?=some b->R a b):All2 R as bs:=by
 induction as generalizing bs with
 |nil=>cases bs with
  |nil=>trivial
  |cons b bs=>cases hl
 |cons a as ih=>cases bs with
  |nil=>cases hl
  |cons b bs=>exact⟨h 0 a b rfl rfl,ih (by simpa using hl) λi a b h1 h2=>h (i+1) a b (by simpa using h1) (by simpa using h2)⟩
end
def lowN(m:Nat):Nat:=if m%2=1 then lowN (m/2)+1 else 0
theorem jED(h:m%2=0):lowN m=0:=by
 unfold lowN;rw[az Aa]
def jGE(h:m%2=1):lowN m=lowN (m/2)+1:=by
 rw[lowN,aA h]
theorem jUU(a b:Nat):a&&&b=2*((a/2)&&&(b/2))+(a%2)*(b%2):=by
 have h1:(a&&&b)/2=(a/2)&&&(b/2):=Nat.and_div_two;have h2:(a&&&b)%2=(a%2)*(b%2):=by
  have t:=eF a b 0;rw[gf,gf,gf] at t;have t':((a&&&b)%2=1)↔(a%2=1/\b%2=1):=by
   rw[<- dW.trans (and_congr bz bz),<- t,bz]
  rcases dC a with ha|ha<;>rcases dC b with hb|hb<;>rw[ha,hb] at t' ⊢ <;> lia
 lia
theorem jU7(m:Nat):(m+1)-((m+1)&&&m)=2^lowN m:=by
 induction m using strongRecOn with
 |_ m ih=>
  rw[jUU];rcases dC m with h|h
  .rw[jED h,show (m+1)/2=m/2 by lia,Nat.and_self,h];lia
  .have:=ih (m/2) Aa;rw[jGE h,Nat.pow_succ,show (m+1)/2=m/2+1 by lia,show (m+1)%2=0 by lia];lia
theorem jQQ(m:Nat):Builtin.Int.intBits (Builtin.bitAnd (Builtin.bitNot (m:Int)) ((m:Int)+1))=lowN m+1:=by
 have e:Builtin.bitAnd (Builtin.bitNot (m:Int)) ((m:Int)+1)=((2^lowN m:Nat):Int):=by
  unfold Builtin.bitAnd;have h1:¬(0<=Builtin.bitNot (m:Int)):=by unfold Builtin.bitNot;lia
  have h2:(0:Int)<=(m:Int)+1:=Aa;have h3:(Builtin.bitNot (Builtin.bitNot (m:Int))).toNat=m:=by unfold Builtin.bitNot;lia
  rw[aK h1,ao h2];show ((m:Int)+1)-((((m:Int)+1).toNat&&&(Builtin.bitNot (Builtin.bitNot (m:Int))).toNat:Nat):Int)=_;rw[h3,show ((m:Int)+1).toNat=m+1 by lia,<- jU7 m];have:(m+1)&&&m<=m+1:=Nat.and_le_left;lia
 rw[e];unfold Builtin.Int.intBits;have hp:0<2^lowN m:=eG _;have h0:((((2^lowN m:Nat):Int))==0)=false:=by
  rw[bW];lia
 rw[h0];simp[Nat.log2_two_pow]
theorem jEB(m:Nat):m.testBit (lowN m)=false:=by
 induction m using strongRecOn with
 |_ m ih=>
  rcases dC m with h|h
  .rw[jED h,gf,h];rfl
  .rw[jGE h,Nat.testBit_succ];exact ih _ Aa
theorem jGD(m:Nat):∀j,j<lowN m->m.testBit j=true:=by
 induction m using strongRecOn with
 |_ m ih=>
  intro j hj;rcases dC m with h|h
  .rw[jED h] at hj;lia
  .rw[jGE h] at hj;cases j with
   |zero=>rw[gf,h];rfl
   |succ j=>
    rw[Nat.testBit_succ];exact ih _ Aa j Aa
def jSA{t:Nat}(h1:m.testBit t=false)(h2:∀j,j<t->m.testBit j=true):lowN m=t:=by
 rcases gM (lowN m) t with h|h|h
 .have:=h2 _ h;rw[jEB] at this;cases this
 .exact h
 .have:=jGD m t h;rw[h1] at this;cases this
theorem jOW(h:m<2^w)(a:∀j,j<w->m.testBit j=true):m=2^w-1:=by
 apply eO;intro i;rw[dy];by_cases hi:i<w
 .rw[a i hi,ao hi]
 .rw[aK hi];exact gQ (aS h (cr Ac Aa))
theorem jEC(h:m<2^w)(hn:m≠2^w-1):lowN m<w:=by
 refine cg λz=>hn (jOW h λj hj=>jGD m j Aa)
abbrev Ch:=List (List (Int×Nat))
def fullN(ch:Ch):Nat:=2^ch.length-1
def chAt(ch:Ch)(m:Nat):List (Int×Nat):=(ch.getD (lowN m) []).filter λc=>c.2&&&m==0
structure ChOk (ch:Ch):Prop where
 w:ch.length<=16
 len:∀(t:Nat) (cs:List (Int×Nat)),ch[t]?=some cs->cs.length<=33
 it:∀(t:Nat) (cs:List (Int×Nat)),ch[t]?=some cs->∀c∈cs,c.2.testBit t=true/\c.2<2^ch.length/\ -1<=c.1/\c.1<32
variable {ch:Ch}
def ChOk.mem(o:ChOk ch)(h:m<2^ch.length)(hn:m≠fullN ch)(hc:c∈chAt ch m):c.2.testBit (lowN m)=true/\c.2<2^ch.length/\c.2&&&m=0/\ -1<=c.1/\c.1<32:=by
 obtain⟨h1,h2⟩:=be.mp hc;have hl:=jEC h hn;rw[aG,aF hl] at h1;obtain⟨a,b,c1,c2⟩:=o.it _ _ (aF hl) c h1;exact⟨a,b,by simpa using h2,c1,c2⟩
def ChOk.up(o:ChOk ch)(h:m<2^ch.length)(hn:m≠fullN ch)(hc:c∈chAt ch m):m<m|||c.2/\m|||c.2<2^ch.length:=by
 obtain⟨a,b,z,_⟩:=o.mem h hn hc;refine⟨?_,ja h b⟩;refine Nat.lt_of_le_of_ne Nat.left_le_or λe=>?_;have t:m.testBit (lowN m)=(m|||c.2).testBit (lowN m):=ce (λz=>z.testBit (lowN m)) e;rw[cm,a,fj,jEB] at t;cases t
def gvN(ch:Ch)(e:α)(J:List (Int×α)->α):Nat->Nat->α
 | 0,_=>e
 |n+1,m=>if m=fullN ch then e else J ((chAt ch m).map λc=>(c.1,gvN ch e J n (m|||c.2)))
def gv(ch:Ch)(e:α)(J:List (Int×α)->α)(m:Nat):α:=gvN ch e J (fullN ch-m) m
theorem jUD{e:α}{J:List (Int×α)->α}(o:ChOk ch):∀(k n m:Nat),fullN ch-m<=k->fullN ch-m<=n->m<2^ch.length->gvN ch e J n m=gvN ch e J k m:=by
 intro k
 induction k with
 |zero=>
  intro n m h1 h2 h3;have:m=fullN ch:=by
   unfold fullN at h1 ⊢;lia
  subst this;cases n with
  |zero=>rfl
  |succ n=>show gvN ch e J (n+1) (fullN ch)=e;rw[gvN,aA rfl]
 |succ k ih=>
  intro n m h1 h2 h3;by_cases hm:m=fullN ch
  .subst hm;cases n with
   |zero=>show e=gvN ch e J (k+1) (fullN ch);rw[gvN,aA rfl]
   |succ n=>
    have q:∀i,gvN ch e J (i+1) (fullN ch)=e:=λi=>by rw[gvN,aA rfl]
    rw[q,q]
  .have hlt:m<fullN ch:=by
    unfold fullN at hm ⊢;lia
   cases n with
   |zero=>lia
   |succ n=>
    rw[gvN,az hm,gvN,az hm];congr 1;refine cK λc hc=>?_;obtain⟨u1,u2⟩:=o.up h3 hm hc;rw[ih n (m|||c.2) Aa Aa u2]
def jUC{e:α}{J:List (Int×α)->α}:gv ch e J (fullN ch)=e:=by
 unfold gv;rw[gP,gvN]
theorem jUB{e:α}{J:List (Int×α)->α}(o:ChOk ch)(h:m<2^ch.length)(hn:m≠fullN ch):gv ch e J m=J ((chAt ch m).map λc=>(c.1,gv ch e J (m|||c.2))):=by
 have hlt:m<fullN ch:=by
  unfold fullN at hn ⊢;lia
 have:gv ch e J m=gvN ch e J ((fullN ch-m-1)+1) m:=by
  unfold gv;rw[show fullN ch-m-1+1=fullN ch-m by lia]
 rw[this,gvN,az hn];congr 1;refine cK λc hc=>?_;obtain⟨u1,u2⟩:=o.up h hn hc;unfold gv;rw[jUD o (fullN ch-(m|||c.2)) _ _ (ar _) Aa u2]
end L2
namespace L2
open PySem
variable {X:Cx}
section
variable {tg iter elt:Expr}{ifs:List Expr}{sc:Scope}{pos:Pos}{wi:TI}{g:TG}{tt:TT}{te:TE}{m:List (Option Nat)}{Nc:Am}
end
end L2
namespace L2
open PySem PySem.Spec PyProof.Rows
def ZC(cl:Aj)(fs:Am)(fv:List V):Shared->Hp->Prop:=λs H=>ClOk cl s H/\FvOk fs fv cl s
def ZC.st(cl:Aj)(fs:Am)(fv:List V):ZSt (ZC cl fs fv):=by
 rintro fr s s' H H' u ⟨C,F1,F2⟩;have kc:∀{x c v},cl.lookup x=some c->s.heap.IsCell c v->s'.heap.IsCell c v:=λ{x c v} hc ⟨o,ho,hd⟩=>by
  obtain⟨sl,e⟩:=u.any ho (C.cell x c hc).2 Ad;exact⟨_,e,hd⟩
 refine⟨⟨C.inj,λx c hc=>?_⟩,F1,λi x v h1 h2=>?_⟩
 .obtain⟨⟨v,o,ho,hd⟩,n⟩:=C.cell x c hc;exact⟨⟨v,kc hc ⟨o,ho,hd⟩⟩,u.free c o ho n Ad⟩
 .obtain⟨c,w,a1,a2,a3⟩:=F2 i x v h1 h2;exact⟨c,w,a1,a2,kc a1 a3⟩
def jV6{ι:Type}(G:ι->St->Prop)(sp:ι->Sp)(t:TA):TE:=λσ H Q=>t σ H λvs H1=>∃i,G i σ/\sp i vs H1 Q E0
theorem jKT{ι:Type}{X:Cx}{Z:ι->Shared->Hp->Prop}{G:ι->St->Prop}{k:Nat}{f:Addr}{fd:FuncData}{ps:Am}{sp:ι->Sp}{x:Str}{p pos:Pos}{e:Expr}{es:List Expr}{t:TA}(F:∀i,FnZ X.prog X.w X.K X.mg X.Aq CX0 (Z i) k f fd ps (sp i))(hr:Room k X.A)(hg:Gl1 X x)(hm:X.mg x=some (.ref f))(hk:keepIn X.K (.ref f)=true)(hb:Binds X.K fd ps [])
  (hZ:∀i ma s σ H,Inv X ma σ H s->G i σ->Z i s H) (ha:JA X (e::es) t) (he:starEach (e::es) X.env=(false,eval e X.env)::starEach es X.env) (hdb:(x==("__debug__":Str))=false:=by decide) (hpl:(backTo pos (starEach es X.env)).any (·.1)=false:=by rfl):
  JE X (.Call (.Name x p) (e::es) [] pos) (jV6 G sp t):=by
 refine⟨λma s σ H Q I h=>?_⟩;refine cC (jBR I hg.a hm ?_ hdb);refine gy (h₀:=X.Aq) I.ok.mod.kin hk (mo (ha.h pos ma s σ H _ I h) λus s1 ⟨vs,H1,I1,r,i,gi,q⟩=>⟨I1.kIn,?_⟩) he hpl;have hl:(us++[]).length=ps.length:=by rw[aV,<- r.length];exact(F i).len _ _ _ _ q
 have b:=hb s1 us I1.kIn hl;rw[aV] at b;refine fe (df ((F i).run X.A X.stack s1 H1 ⟨us,[]⟩ us vs Q E0 hr I1.env0 b r (hZ i _ _ _ _ I1 gi) q) λr s' hq=>?_);cases r with
 |error e=>exact hq.elim
 |ok fl=>
  cases fl with
  |ret u=>exact I1.after hq
  |next=>exact False.elim hq
  |brk=>exact False.elim hq
  |cont=>exact False.elim hq
end L2
namespace TM
open PySem PySem.Spec PyProof.Rows PySem.W
open HT (lexLt lexLt_cons)
open L2 (All2)
def lex_irr:∀x:Ag,lexLt x x=false
 |[]=>rfl
 |a::x=>by rw[lexLt_cons,aA rfl];exact lex_irr x
theorem lex_tr:∀{x y z:Ag},lexLt x y=true->lexLt y z=true->lexLt x z=true
 |[],[],_,h,_=>by cases h
 |[],_::_,[],_,h=>by cases h
 |[],_::_,_::_,_,_=>rfl
 |_::_,[],_,h,_=>by cases h
 |_::_,_::_,[],_,h=>by cases h
 |a::x,b::y,c::z,h,k=>by
  rw[lexLt_cons] at h k ⊢;by_cases e1:a=b
  .rw[aA e1] at h;by_cases e2:b=c
   .rw[aA e2] at k;rw[aA (e1.trans e2)];exact lex_tr h k
   .rw[az e2] at k;rw[az (e1 ▸ e2),e1];exact k
  .rw[az e1] at h;have h:=aL h;by_cases e2:b=c
   .rw[az (e2 ▸ e1),<- e2];exact ao h
   .rw[az e2] at k;have k:=aL k;rw[az Aa];exact ao Aa
theorem lex_tot:∀{x y:Ag},lexLt x y=false->lexLt y x=false->x=y
 |[],[],_,_=>rfl
 |[],_::_,h,_=>by cases h
 |_::_,[],_,h=>by cases h
 |a::x,b::y,h,k=>by
  rw[lexLt_cons] at h k;by_cases e:a=b
  .rw[aA e] at h;rw[aA e.symm] at k;rw[e,lex_tot h k]
  .rw[az e] at h;rw[az (λz=>e z.symm)] at k;have:=gC h;have:=gC k;lia
def rk(ws:Af)(x:Ag):Int:=((ws.countP λz=>lexLt z x:Nat):Int)
theorem jGQ{p q:Ag->Bool}(h:∀z,p z=true->q z=true):∀ws:Af,ws.countP p<=ws.countP q
 |[]=>ar _
 |a::ws=>by
  have:=jGQ h ws;rw[dL,dL];have:=h a;cases hp:p a<;>cases hq:q a<;>simp_all<;>lia
theorem jL3{p q:Ag->Bool}(h:∀z,p z=true->q z=true){x:Ag}(hp:p x=false)(hq:q x=true):∀{ws:Af},x∈ws->ws.countP p<ws.countP q
 |a::ws,hx=>by
  rw[dL,dL];rcases aB.mp hx with e|hx
  .have:=jGQ h ws;rw[<- e,hp,hq];simp;lia
  .have:=jL3 h hp hq hx;have:=h a;cases hpa:p a<;>cases hqa:q a<;>simp_all<;>lia
theorem rk_lt{ws:Af}{x y:Ag}(hx:x∈ws):decide (rk ws x<rk ws y)=lexLt x y:=by
 unfold rk;cases h:lexLt x y with
 |true=>
  have:=jL3 (p:=λz=>lexLt z x) (q:=λz=>lexLt z y) (λz hz=>lex_tr hz h) (lex_irr x) h hx;exact ao Aa
 |false=>
  refine aK ?_;by_cases k:lexLt y x=true
  .have:=jGQ (p:=λz=>lexLt z y) (q:=λz=>lexLt z x) (λz hz=>lex_tr hz k) ws;lia
  .have:=lex_tot h (b9.mpr k);rw[this];lia
variable {prog:Program}{w:World}{A:Around}{E:Ah}{s:Shared}
section
variable {kd:SortKind}{f:Value->Ag}
end
def TupI(h:Heap)(v:Value)(l:Ag):Prop:=∃a n its,v=.ref a/\h.get? a=some {cls:=.type "tuple",data:=.seq its n} /\IntsAre its.toList l
noncomputable def decV(h:Heap):Value->Ag
 | .ref a=>match h.get? a with
  |some o=>match o.data with
   | .seq xs _=>xs.toList.map numOf
   |_=>[]
  |none=>[]
 |_=>[]
def TupI.dec{h:Heap}{v:Value}{l:Ag}(t:TupI h v l):decV h v=l:=by
 obtain⟨a,n,its,rfl,ho,hi⟩:=t;dsimp only[decV];rw[ho];exact hi.nums
theorem jTQ{b:Bool}{x y:Int}{t u:Tok}{Q:Bool->Shared->Prop}(h:Q (decide (x<y)) s):wpAny (model prog w) A (oneLt' b (.int x t) (.int y u)) Q E s:=by
 cases b with
 |true=>exact oneLt_int h
 |false=>exact kat_one _ _ (HT.rcLt_int A s x t y u prog w E _ h)
end TM
namespace L2
open PySem PySem.Spec PyProof.Rows
variable {h:Heap}{D kS:Addr}{P:Program}{w:World}{H:Hp}{KF:V->Ag}
variable {X:Cx}
noncomputable def refV:Value->V
 | .ref a=> .ref a
 |_=> .non
def jGF:∀{x y:Af},x.Perm y->x.Pairwise (λa b=>HT.lexLt b a=false)->y.Pairwise (λa b=>HT.lexLt b a=false)->x=y
 |[],y,p,_,_=>(List.nil_perm.mp p).symm
 |a::x,[],p,_,_=>absurd (List.perm_nil.mp p) Ad
 |a::x,b::y,p,h,k=>by
  obtain⟨h1,h2⟩:=dh.mp h;obtain⟨k1,k2⟩:=dh.mp k;have e:a=b:=by
   refine TM.lex_tot ?_ ?_
   .rcases aB.mp (p.mem_iff.mp (ai ..)) with z|z
    .rw[z];exact TM.lex_irr b
    .exact k1 a z
   .rcases aB.mp (p.mem_iff.mpr (ai ..)) with z|z
    .rw[z];exact TM.lex_irr a
    .exact h1 b z
  subst e;rw[jGF (List.perm_cons a |>.mp p) h2 k2]
structure KeyS where
 TK:Heap->Value->Ag->Prop
 KR:Hp->V->Ag->Prop
 kd:Af->SortKind
 dc:Heap->Value->Ag
structure KeyOk (S:KeyS):Prop where
 of:∀{P:Program}{w:World}{H:Hp}{h:Heap}{v:V}{u:Value}{l:Ag},HOk P w H h->RelV v u->S.KR H v l->S.TK h u l
 mono:∀{H H':Hp}{v:V}{l:Ag},TupsK H H'->S.KR H v l->S.KR H' v l
 dec:∀{h:Heap}{u:Value}{l:Ag},S.TK h u l->S.dc h u=l
 kind:∀{prog:Program}{w:World}{A:Around}{E:Ah}{s:Shared}{vs:Al}{ws:Af}{Q:SortKind->Shared->Prop},All2 (S.TK s.heap) vs ws->vs≠[]->Q (S.kd ws) s->wpAny (model prog w) A (keyKind' vs.toArray) Q E s
 lt:∀{prog:Program}{w:World}{A:Around}{E:Ah}{s:Shared}{ws:Af}{u v:Value}{x y:Ag}{Q:Bool->Shared->Prop},S.TK s.heap u x->S.TK s.heap v y->A.units+2<cLine->Q (HT.lexLt x y) s->wpAny (model prog w) A (keyLt' (S.kd ws) u v) Q E s
variable {S:KeyS}
section
variable {prog:Program}{w:World}{A:Around}{E:Ah}{s:Shared}
noncomputable abbrev odK(S:KeyS)(ws:Af)(h:Heap)(ks:Al):TM.Od:=⟨S.kd ws,λp=>TM.rk (ks.map (S.dc h)) (S.dc h p.1),λp=>p.1∈ks⟩
theorem ltK(ok:KeyOk S){ks:Al}{ws:Af}(t:All2 (S.TK s.heap) ks ws)(room:A.units+2<cLine): @TM.LtOk prog w A s (odK S ws s.heap ks):= @TM.LtOk.mk prog w A s (odK S ws s.heap ks) λ{E st x y Q} hk hx hy h=>by
 have e:decide (@TM.key (odK S ws s.heap ks) x< @TM.key (odK S ws s.heap ks) y)=HT.lexLt (S.dc s.heap x.1) (S.dc s.heap y.1):=TM.rk_lt (cY hx);rw[e] at h;rw[lt'_eq];refine aM (g9 ?_);rw[show kindOf st=S.kd ws from hk];obtain⟨i,hi⟩:=bL hx;obtain⟨j,hj⟩:=bL hy;obtain⟨l1,_,t1⟩:=t.get' hi;obtain⟨l2,_,t2⟩:=t.get' hj;rw[ok.dec t1,ok.dec t2] at h;exact aM (iV (dN (ok.lt t1 t2 room ⟨rfl,aR h⟩)))
theorem jO7(ok:KeyOk S){its ks:Al}{ws:Af}{e1 e:Nat}{P:PySem.Fin->Shared->Prop}(hl:ks.length=its.length)(hz:its.length<=sizeLine)(t:All2 (S.TK s.heap) ks ws)(room:A.units+2<cLine)
  (hD:s.heap.get? D=some (seqObj "list" #[] e1)) (hK:s.heap.get? kS=some (seqObj "list" ks.toArray e)) (ne:D≠kS)
  (h:∀ps:List (Value×Value),ps.Perm (ks.zip its)->ps.Pairwise (λp q=>HT.lexLt (S.dc s.heap q.1) (S.dc s.heap p.1)=false)->
   P (.done (.ret .none)) {s with heap:=(s.heap.update kS (Obj.mapSeq λ_=>#[])).update D (Obj.mapSeq λ_=>(ps.map Prod.snd).toArray)}):
  wpAny (model prog w) A (ksk_end D false its.toArray e1 (.ref kS) ks.toArray) P E s:=by
 have hpz:(ks.toArray.zip its.toArray).toList=ks.zip its:=Ad;have hpn:(ks.toArray.zip its.toArray).size=its.length:=by rw[<- aN,hpz,kx];lia
 have hD2:(s.heap.update kS (Obj.mapSeq λ_=>(#[]:An))).get? D=some (seqObj "list" #[] e1):=(bi _ _ (cZ ne)).trans hD;have tail:∀st:SortSt,failedOf st=none->(arrOf st).Perm (ks.toArray.zip its.toArray)->(arrOf st).toList.Pairwise (λp q=>HT.lexLt (S.dc s.heap q.1) (S.dc s.heap p.1)=false)->wpAny (model prog w) A (ksk_tail D false e1 (.ref kS) st) P E s:=λst hf hp hs=>by
  unfold ksk_tail;dsimp only;refine ae (eT hK rfl ?_ (by rw[aq];lia) (br _));refine ae (wpAny_letGo ?_);refine ae (i8 hD2 rfl ?_);refine ae (eT hD2 rfl ?_ (br _) ?_)
  .rw[hf];simp only[i9,eg,iN];refine aj ?_;have:=h (arrOf st).toList (by rw[<- hpz];exact cR.mp hp) hs;have e:∀xs:Array Keyed,(xs.toList.map Prod.snd).toArray=xs.map (·.2):=λxs=>by rw[<- Array.toList_map,cP]
   rw[e] at this;exact this
  .simp only[eg,iN];rw[size_map,hp.size_eq,hpn];lia
 unfold ksk_end;dsimp only;simp only[eg,iN];by_cases few:its.toArray.size<2
 .rw[aA few,aA few];refine ae (aj ?_);rw[StateT.run_pure];refine ae (aj ?_);dsimp only;refine tail (SortSt.mk' general' _ #[] 7 none) rfl (ku _) ?_;show (ks.toArray.zip its.toArray).toList.Pairwise _;rw[hpz];rw[aq] at few;have:(ks.zip its).length<=1:=by rw[kx];lia
  match hq:ks.zip its,this with
  |[],_=>exact .nil
  |[_],_=>exact eZ _ _
 .rw[az few,az few];rw[aq] at few;have nek:ks≠[]:=λz=>by rw[z] at hl;simp at hl;lia
  have allk: @TM.AllI (odK S ws s.heap ks) (ks.toArray.zip its.toArray).toList:=λp hp=>by
   rw[hpz] at hp;exact(dG hp).1
  letI iO:TM.Od:=odK S ws s.heap ks
  haveI iL:TM.LtOk prog w A s:=ltK ok t room
  refine ae (ok.kind t nek (ae (bF (TM.wpS_sortRunsAny (a₀:=ks.toArray.zip its.toArray) (st:=SortSt.mk' (S.kd ws) _ #[] 7 none)
   (Q:=λ_ st'=>(arrOf st').Perm (ks.toArray.zip its.toArray)/\failedOf st'=none/\TM.STo (arrOf st') (ks.toArray.zip its.toArray).size)
   allk ⟨ku _,rfl,rfl,rfl⟩ (by rw[hpn];lia) λst' a1 a2 a3=>⟨a1,a2,a3⟩) ?_ λ_ _ e=>e)))
  rintro ⟨⟨⟩,st'⟩ s' ⟨rfl,p1,p2,p3⟩;dsimp only at p1 p2 p3 ⊢;refine tail st' p2 p1 ?_;have pl:=cR.mp p1;rw[bV];intro i j hi hj hij;rw[aN] at hi hj;have sz:=p1.size_eq;have k:=p3 i j (cU hij) Aa;have ei:(arrOf st')[i]?=some (arrOf st')[i]:=lY _ i hi;have ej:(arrOf st')[j]?=some (arrOf st')[j]:=lY _ j hj;have m2:(arrOf st')[j].1∈ks:=allk _ (pl.mem_iff.mp Ad);rw[@TM.KI_key (odK S ws s'.heap ks) _ _ _ ei,@TM.KI_key (odK S ws s'.heap ks) _ _ _ ej] at k;have e:decide (@TM.key (odK S ws s'.heap ks) (arrOf st')[j]< @TM.key (odK S ws s'.heap ks) (arrOf st')[i])=HT.lexLt (S.dc s'.heap (arrOf st')[j].1) (S.dc s'.heap (arrOf st')[i].1):=TM.rk_lt (cY m2);rw[ig,ig,<- e];exact aK (Int.not_lt.mpr k)
end
def Un.out{fs:List Addr}{H H':Hp}{h h1 h2:Heap}(u:Un fs [] H H' h h1)(k:∀b,b<h.objs.size->h2.get? b=h1.get? b):Un fs [] H H' h h2 where
 keep b o e n f x:=(k b (ay e)).trans (u.keep b o e n f x)
 slot b o e n f x:=by obtain⟨sl,q⟩:=u.slot b o e n f x;exact⟨sl,(k b (ay e)).trans q⟩
 free:=u.free
 there b o e x:=by obtain⟨o',q⟩:=u.there b o e x;exact⟨o',(k b (ay e)).trans q⟩
 tups:=u.tups
 frzs:=u.frzs
 tbls:=u.tbls
def Un.track{fs:List Addr}{H':Hp}{h1:Heap}{o:HO}(ok:HOk P w H h)(u:Un fs [] H H' h h1)(hD:h.objs.size<=D):Un fs [] H (upd H' D o) h h1 where
 keep:=u.keep
 slot:=u.slot
 free b ob e n x:=by rw[jA (aO (aS (ay e) hD))];exact u.free b ob e n x
 there:=u.there
 tups b xs e:=by rw[jA (aO (aS (ok.lt e) hD))];exact u.tups b xs e
 frzs b ob q e:=by rw[jA (aO (aS (ok.lt e) hD))];exact u.frzs b ob q e
 tbls b ps e:=by rw[jA (aO (aS (ok.lt e) hD))];exact u.tbls b ps e
def HOk.adopt{o:HO}(ok:HOk P w H h)(hn:H D=none)(new:ObjOk P w (upd H D o) h D o):HOk P w (upd H D o) h:=λb u e=>by
 by_cases hb:b=D
 .subst hb;rw[j7] at e;cases e;exact new
 .rw[jA hb] at e;exact(ok b u e).stay (λc v _ q=>q) (λc q=>by rw[jA (jC q hn)];exact q) λc xs q=>by rw[jA (jC q hn)];exact q
def Inv.repin{ma:Ai}{σ:St}{H:Hp}{s:Shared}{D kS:Addr}{oD oK oK':Obj}{f:Obj->Obj}(I:Inv X (ma++[(D,oD),(kS,oK)]) σ H s)(fk:FpOk X ma H kS)(ne:D≠kS)(e:(s.heap.update kS f).get? kS=some oK')(hc:∀v,oK'.data≠.cell v):
  Inv X (ma++[(D,oD),(kS,oK')]) σ H {s with heap:=s.heap.update kS f}:=by
 obtain⟨f0,f1,f2,f3,f4,f5⟩:=fk;have I1:Inv X (ma++[(D,oD)]) σ H s:=I.pins_of λp hp=>I.pin p (aE _ (by
  rcases aP.mp hp with z|z
  .exact ba _ z
  .exact aE _ (by rw[ak] at z;rw[z];exact ai ..)))
 have I2:Inv X (ma++[(D,oD)]) σ H {s with heap:=s.heap.update kS f,toks:=s.toks}:=I1.turned (it:=kS) (λb o hb q=>(bi _ _ (cZ hb)).trans q) f0 f1 f3 f4 λp hp=>by
  rcases aP.mp hp with z|z
  .exact f5 p (ba _ z)
  .rcases aP.mp z with z|z
   .exact f5 p (aE _ z)
   .rw[ak] at z;rw[z];exact ne
 refine I2.pins_of λp hp=>?_;rcases aP.mp hp with z|z
 .exact I2.pin p (aE _ (ba _ z))
 .rcases aB.mp z with z|z
  .exact I2.pin p (aE _ (aE _ (by rw[z];exact ai ..)))
  .rw[ak] at z;rw[z];exact⟨e,f0,f1,f2,hc⟩
theorem jKN(ok:KeyOk S){k:Nat}{q:Addr}{zh:Hp->Prop}{sp:Sp}(F:Callee X.prog X.w X.K X.mg X.Aq ZT zh k q sp)(zo:∀H H',Ext H H'->zh H->zh H')(hr:Room k X.A.in1.in1){ma:Ai}{σ:St}{H:Hp}{s:Shared}{oD:Obj}{us:List V}{E:Ah}
  (hkey:∀v∈us,∀(H1:Hp) (Q1:VK),Ext H H1->(∀r H2,S.KR H2 r (KF v)->Ext H1 H2->Q1 r H2)->sp [v] H1 Q1 E0) (fk:FpOk X ma H kS) (ne:D≠kS) (hkS:s.heap.objs.size<=kS)
  {body:Value->PUnit->Sem (ForInStep PUnit)}(hb:∀x (sj:Shared) (C:ForInStep PUnit->Shared->Prop),wpAny (model X.prog X.w) X.A.in1.in1 (call (.ref q) [x]) (λkv s''=>∃ks e,s''.heap.get? kS=some (seqObj "list" ks e)/\ks.size<sizeLine/\C (.yield ⟨⟩) {s'' with heap:=s''.heap.update kS (Obj.mapSeq (·.push kv))}) (λ_ _=>False) sj->wpAny (model X.prog X.w) X.A.in1.in1 (body x ⟨⟩) C E sj):
  ∀(r:Al) (rv:List V) (ks:Al) (kvs dn:List V) (e:Nat) (sj:Shared) (Hj:Hp),Vals rv r->(∀v∈rv,v∈us)->ks.length+r.length<=sizeLine->
   Inv X (ma++[(D,oD),(kS,seqObj "list" ks.toArray e)]) σ Hj sj->Un (frs X.stack) [] H Hj s.heap sj.heap->Ext H Hj->zh Hj->Vals kvs ks->All2 (λkv v=>S.KR Hj kv (KF v)) kvs dn->
   wpAny (model X.prog X.w) X.A.in1.in1 (forIn r PUnit.unit body) (λ_ s'=>∃ks' kvs' e' H',Inv X (ma++[(D,oD),(kS,seqObj "list" ks'.toArray e')]) σ H' s'/\Un (frs X.stack) [] H H' s.heap s'.heap/\Ext H H'/\Vals kvs' ks'/\All2 (λkv v=>S.KR H' kv (KF v)) kvs' (dn++rv)) E sj
 |[],rv,ks,kvs,dn,e,sj,Hj,hv,hm,hz,I,u,ex,z,hk,al=>by
  rw[List.forIn_nil];cases hv;exact aj ⟨ks,kvs,e,Hj,I,u,ex,hk,by rw[aV];exact al⟩
 |x::r,rv,ks,kvs,dn,e,sj,Hj,hv,hm,hz,I,u,ex,z,hk,al=>by
  cases hv with
  | @cons v _ rv' _ rx rs=>
  rw[aU] at hz;rw[kg];refine ae (hb x sj _ ?_);have sp1:=hkey v (hm v (ai ..)) Hj (λr H2=>S.KR H2 r (KF v)/\Ext Hj H2) ex λr H2 h1 h2=>⟨h1,h2⟩;refine fe (df (F.run X.A.in1.in1 X.stack sj Hj [x] [v] _ E0 hr I.env0.in1.in1 trivial z (.cons rx .nil) sp1) λfr s' hq=>?_);cases fr with
  |error e=>exact hq.elim
  |ok fl=>
   cases fl with
   |ret kv=>
    obtain⟨v',H2,os,bare,un,hok,rel,kr,e2⟩:=hq;have I2:=Inv.call' I os un hok bare λb z=>absurd z Ad;obtain⟨gk,nk,_,_,_⟩:=I2.pin (kS,seqObj "list" ks.toArray e) (aE _ (aE _ (ah _ (ai ..))));have ea:ks.toArray.push kv=(ks++[kv]).toArray:=Ad;obtain⟨c2,hc2⟩:∃c2,(s'.heap.update kS (Obj.mapSeq (·.push kv))).get? kS=some (seqObj "list" (ks++[kv]).toArray c2):=⟨_,by rw[<- ea];exact gu gk (·.push kv)⟩;have I3:=I2.repin (oK':=seqObj "list" (ks++[kv]).toArray c2) ⟨nk,fk.2⟩ ne hc2 (by intro v q;cases q);refine⟨_,e,gk,by rw[aq];lia,?_⟩;show wpAny (model X.prog X.w) X.A.in1.in1 (forIn r PUnit.unit body) _ E _;have u3:=(u.trans un).out (h2:=s'.heap.update kS (Obj.mapSeq (·.push kv))) λb hb=>bi _ _ (de (aS hb hkS));have:=jKN ok F zo hr hkey fk ne hkS hb r rv' (ks++[kv]) (kvs++[v']) (dn++[v]) c2 _ H2 rs (λw hw=>hm w (ah _ hw)) (by rw[aI,gX];lia) I3 u3 (ex.trans e2) (zo _ _ e2 z) (hk.append (.cons rel .nil)) (All2.snoc (All2.imp (λa b q=>ok.mono (λc xs h=>e2 c _ h) q) al) kr);rw[aY] at this;exact this
   |next=>exact False.elim hq
   |brk=>exact False.elim hq
   |cont=>exact False.elim hq
def jSC(ok:KeyOk S)(hk:HOk P w H h) :∀{kvs:List V}{ks:Al}{us:List V},Vals kvs ks->All2 (λkv v=>S.KR H kv (KF v)) kvs us->All2 (S.TK h) ks (us.map KF)
 |[],_,[],.nil,_=>trivial
 |_::_,_,_::_,.cons r rs,⟨t,ts⟩=>⟨ok.of hk r t,jSC ok hk rs ts⟩
def jHD:∀{us:List V}{its:Al},Vals us its->(∀v∈us,∃a,v=V.ref a)->its.map refV=us
 |[],_,.nil,_=>rfl
 |v::us,_,.cons r rs,h=>by
  obtain⟨a,e⟩:=h v (ai ..);subst e;cases r;rw[bg,jHD rs λw hw=>h w (ah _ hw)];rfl
def jHC:∀{its:Al},(∀u∈its,∃a,u=Value.ref a)->Vals (its.map refV) its
 |[],_=> .nil
 |u::its,h=>by
  obtain⟨a,e⟩:=h u (ai ..);subst e;exact .cons rfl (jHC λw hw=>h w (ah _ hw))
def jGZ:∀{us:List V}{its:Al},Vals us its->(∀v∈us,∃a,v=V.ref a)->∀u∈its,∃a,u=Value.ref a
 |[],_,.nil,_,u,hu=>by cases hu
 |v::us,_,.cons r rs,h,u,hu=>by
  obtain⟨a,e⟩:=h v (ai ..);subst e;cases r;rcases aB.mp hu with z|z
  .exact⟨a,z⟩
  .exact jGZ rs (λw hw=>h w (ah _ hw)) u z
def jM7{ks its:Al}{f:Value->Ag}{g:Value->Ag}:∀{ks its:Al}{us:List V}{KF:V->Ag},ks.map f=us.map KF->its.map refV=us->∀p∈ks.zip its,f p.1=KF (refV p.2)
 |[],_,_,_,_,_,p,hp=>by cases hp
 |_::_,[],_,_,_,_,p,hp=>by cases hp
 |k::ks,u::its,us,KF,e1,e2,p,hp=>by
  subst e2;rw[bg,bg,bg] at e1;injection e1 with q1 q2;rw[fg] at hp;rcases aB.mp hp with z|z
  .rw[z];exact q1
  .exact jM7 (ks:=ks) (its:=its) (f:=f) (g:=g) q2 rfl p z
def jRP(ok:KeyOk S) :∀{ks:Al}{ws:Af},All2 (S.TK h) ks ws->ks.map (S.dc h)=ws
 |[],[],_=>rfl
 |_::_,_::_,⟨t,r⟩=>by rw[bg,ok.dec t,jRP ok r]
theorem jI4(ok:KeyOk S){k:Nat}{sp:Sp}{zh:Addr->Addr->Hp->Prop}(F:∀q c,Callee X.prog X.w X.K X.mg X.Aq ZT (zh q c) k q sp)(zo:∀q c H H',Ext H H'->zh q c H->zh q c H')(hr:Room (k+2) X.A):
  jPS X (.builtin "sorted") [Str.ofString "key"] (λxs zs H Q=>∃(p:Addr) (us:List V) (q c:Addr) (KF:V->Ag),xs=[.ref p]/\zs=[.ref q]/\SqL X.K H p us/\zh q c H/\(∀v∈us,∃a,v=V.ref a)/\
   (∀v∈us,∀(H1:Hp) (Q1:VK),Ext H H1->(∀r H2,S.KR H2 r (KF v)->Ext H1 H2->Q1 r H2)->sp [v] H1 Q1 E0)/\
   ∀(l:Addr) (us':List V) (H':Hp),H l=none->us'.Perm us->us'.Pairwise (λu v=>HT.lexLt (KF v) (KF u)=false)->Ext H H'->H' l=some (.lst us')->Q (.ref l) H'):=by
 intro ma s σ H xs zs us0 ws0 Q I r1 r2 h;obtain⟨p,us,q,c,KF,rfl,rfl,hp,hz,hrf,hkey,fin⟩:=h;obtain⟨u,rfl,rx⟩:=r1.one;cases rx;obtain⟨u2,rfl,ry⟩:=r2.one;cases ry;obtain⟨its,rv,pl,hlen⟩:=I.list hp;have rl:=rv.length;show wpAny (model X.prog X.w) X.A (call (.builtin "sorted") [.ref p] [(Str.ofString "key",.ref q)]) (EP X ma σ Q) X.xe s;refine call_function_entry_kw kind_sorted plain_sorted entry_sorted (ksk_s1 _ _) ?_;unfold Builtin.«sorted»;refine ae (m:=checkCount "sorted" 1 1 _) (aj ?_);refine ae (collect_list pl.isList ?_ Aa);refine ae (fz ?_ Aa);have hsz:((s.heap.push (seqObj "list" #[] 0)).update s.heap.objs.size (Obj.mapSeq (· ++its.toArray))).objs.size=s.heap.objs.size+1:=by
  rw[eY,iQ]
 have hoL:(((s.heap.push (seqObj "list" #[] 0)).update s.heap.objs.size (Obj.mapSeq (· ++its.toArray))).push (seqObj "list" its.toArray 0)).get? (s.heap.objs.size+1)=some (seqObj "list" its.toArray 0):=by
  rw[<- hsz];exact aw _ rfl
 have k5:∀b o,s.heap.get? b=some o->(((s.heap.push (seqObj "list" #[] 0)).update s.heap.objs.size (Obj.mapSeq (· ++its.toArray))).push (seqObj "list" its.toArray 0)).get? b=some o:=λb o q=>by
  refine af _ ?_;rw[bi _ _ (de (ay q))];exact af _ q
 have z5:(((s.heap.push (seqObj "list" #[] 0)).update s.heap.objs.size (Obj.mapSeq (· ++its.toArray))).push (seqObj "list" its.toArray 0)).objs.size=s.heap.objs.size+2:=by rw[iQ,hsz]
 show wpAny _ _ _ _ _ {s with heap:=((s.heap.push (seqObj "list" #[] 0)).update s.heap.objs.size (Obj.mapSeq (· ++its.toArray))).push (seqObj "list" its.toArray 0)};rw[hsz];generalize ((s.heap.push (seqObj "list" #[] 0)).update s.heap.objs.size (Obj.mapSeq (· ++its.toArray))).push (seqObj "list" its.toArray 0)=h5 at hoL k5 z5;have hD:s.heap.objs.size<=s.heap.objs.size+1:=fb _;have hDk:s.heap.objs.size+1≠h5.objs.size+1:=Aa;have hkS:s.heap.objs.size<=h5.objs.size+1:=Aa;generalize s.heap.objs.size+1=D at hoL hD hDk;refine ae (bB (wpAny_call_entry_kw iP ⟨_,hoL,rfl⟩ iq ?body (ksk_l1 _ _)))
 case body=>
  show wpAny (model X.prog X.w) X.A.in1.in1 (Builtin.«list.sort» ⟨[.ref D],[(Str.ofString "key",.ref q)]⟩) _ _ _;rw[ksk_t1];unfold ksk_tree;refine ae (iF hoL rfl ?_);refine ae (eT hoL rfl ?_ (by rw[aq];lia) (br _));obtain⟨e1,ho1⟩:∃e1,(h5.update D (Obj.mapSeq λ_=>(#[]:An))).get? D=some (seqObj "list" #[] e1):=⟨_,gu hoL λ_=>#[]⟩;refine ae (i8 ho1 rfl ?_);refine ae (lz ?_ (by show its.length<=_;lia));refine ae (fz ?_ (br _));refine bB ?_;have hkz:((h5.update D (Obj.mapSeq λ_=>(#[]:An))).push (seqObj "tuple" its.toArray 0)).objs.size=h5.objs.size+1:=by rw[iQ,eY]
  have hoK:(((h5.update D (Obj.mapSeq λ_=>(#[]:An))).push (seqObj "tuple" its.toArray 0)).push (seqObj "list" #[] 0)).get? (h5.objs.size+1)=some (seqObj "list" #[] 0):=by
   rw[<- hkz];exact aw _ rfl
  have hoD:(((h5.update D (Obj.mapSeq λ_=>(#[]:An))).push (seqObj "tuple" its.toArray 0)).push (seqObj "list" #[] 0)).get? D=some (seqObj "list" #[] e1):=af _ (af _ ho1);have k6:∀b o,s.heap.get? b=some o->(((h5.update D (Obj.mapSeq λ_=>(#[]:An))).push (seqObj "tuple" its.toArray 0)).push (seqObj "list" #[] 0)).get? b=some o:=λb o z=>by
   refine af _ (af _ ?_);rw[bi _ _ (de (aS (ay z) hD))];exact k5 b o z
  show wpAny _ _ (ksk_rest D (.ref q) false its.toArray e1 (.ref ((h5.update D (Obj.mapSeq λ_=>(#[]:An))).push (seqObj "tuple" its.toArray 0)).objs.size)) _ _ {s with heap:=((h5.update D (Obj.mapSeq λ_=>(#[]:An))).push (seqObj "tuple" its.toArray 0)).push (seqObj "list" #[] 0)};rw[hkz];generalize ((h5.update D (Obj.mapSeq λ_=>(#[]:An))).push (seqObj "tuple" its.toArray 0)).push (seqObj "list" #[] 0)=h6 at hoK hoD k6;generalize h5.objs.size+1=kS at hoK hkS hDk;have fD:FpOk X ma H D:=I.fpOk hD (I.hok.fresh hD);have fK:FpOk X ma H kS:=I.fpOk hkS (I.hok.fresh hkS);have I6:Inv X ma σ H {s with heap:=h6,toks:=s.toks}:=I.kept k6;have I7:Inv X (ma++[(D,seqObj "list" #[] e1),(kS,seqObj "list" ([]:Al).toArray 0)]) σ H {s with heap:=h6}:=I6.pins_of λx hx=>by
   rcases aP.mp hx with z|z
   .exact I6.pin x (aE _ z)
   .rcases aB.mp z with z|z
    .rw[z];exact⟨hoD,fD.1,fD.2.1,fD.2.2.1,by intro v q;cases q⟩
    .rw[ak] at z;rw[z];exact⟨hoK,fK.1,fK.2.1,fK.2.2.1,by intro v q;cases q⟩
  have u7:Un (frs X.stack) [] H H s.heap h6:=Un.kept k6;unfold ksk_rest;refine ae (dA ?_);rw[<- Array.forIn_toList];simp only[List.toList_toArray];refine ae (bF (jKN ok (F q c) (zo q c) hr.in1.in1 hkey fK hDk hkS (λx sj C hx=>?_) its us [] [] [] 0 {s with heap:=h6} H rv (λv hv=>hv) (by rw[cz];lia) I7 u7 (Ext.refl _) hz .nil trivial) (λ_ s' hd=>?_) λ_ _ x=>x)
  .refine ae (dN (bF hx (λkv s'' hk=>?_) λ_ _ hF=>hF.elim));obtain⟨ks,e,gk,sz,hc⟩:=hk;dsimp only;refine ae (eT gk rfl ?_ (cU sz) (bh (Nat.le_of_eq (Array.size_push ..)) Aa));exact aj hc
  .obtain⟨ks,kvs,e,HN,IN,uN,eN,vk,al⟩:=hd;rw[kq] at al;obtain⟨gD,nD,_,_,_⟩:=IN.pin (D,seqObj "list" #[] e1) (aE _ (aE _ (ai ..)));obtain⟨gK,nK,_,_,_⟩:=IN.pin (kS,seqObj "list" ks.toArray e) (aE _ (aE _ (ah _ (ai ..))));refine ae (iF gK rfl ?_);have tk:=jSC ok IN.hok vk al;have kl:ks.length=its.length:=by rw[<- vk.length,al.len];exact rl
   have un:=hr.un;refine jO7 ok kl Aa tk (by rw[eX,eX];lia) gD gK hDk λps pm pw=>⟨_,rfl,aj ⟨_,rfl,?_⟩⟩;have bk:=jHD rv hrf;have dk:∀x∈ks.zip its,S.dc s'.heap x.1=KF (refV x.2):=jM7 (g:=λ_=>[]) (ks:=[]) (its:=[]) (jRP ok tk) bk;have pi:(ps.map Prod.snd).Perm its:=by
    have:=pm.map Prod.snd;rw[List.map_snd_zip Aa] at this;exact this
   have rf:∀u∈ps.map Prod.snd,∃a,u=Value.ref a:=λu hu=>jGZ rv hrf u (pi.mem_iff.mp hu);have p1:((ps.map Prod.snd).map refV).Perm us:=by rw[<- bk];exact pi.map _
   have p2:((ps.map Prod.snd).map refV).Pairwise λu v=>HT.lexLt (KF v) (KF u)=false:=by
    rw[bH,bH];exact(List.Pairwise.and_mem.mp pw).imp λ{a b} h=>by
     rw[<- dk a (pm.mem_iff.mp h.1),<- dk b (pm.mem_iff.mp h.2.1)];exact h.2.2
   obtain⟨e9,he9⟩:∃e9,((s'.heap.update kS (Obj.mapSeq λ_=>(#[]:An))).update D (Obj.mapSeq λ_=>(ps.map Prod.snd).toArray)).get? D=some (seqObj "list" (ps.map Prod.snd).toArray e9):=⟨_,gu ((bi _ _ (cZ hDk)).trans gD) λ_=>(ps.map Prod.snd).toArray⟩;have oth:∀b,b≠D->b≠kS->((s'.heap.update kS (Obj.mapSeq λ_=>(#[]:An))).update D (Obj.mapSeq λ_=>(ps.map Prod.snd).toArray)).get? b=s'.heap.get? b:=λb n1 n2=>(bi _ _ (cZ n1)).trans (bi _ _ (cZ n2));generalize (s'.heap.update kS (Obj.mapSeq λ_=>(#[]:An))).update D (Obj.mapSeq λ_=>(ps.map Prod.snd).toArray)=hf at he9 oth;have nt:∀b o,HN b=some o->b≠D/\b≠kS:=λb o z=>⟨λy=>(by rw[y,nD] at z;cases z),λy=>(by rw[y,nK] at z;cases z)⟩;have ok1:HOk X.prog X.w HN hf:=λb o z=>(IN.hok b o z).stay (λc v hc y=>by
    have:c≠D/\c≠kS:=by
     rcases hc with e|e
     .rw[e];exact nt b o z
     .exact nt c _ e
    rw[oth c this.1 this.2];exact y) (λ_ y=>y) λ_ _ y=>y
   have pz:((ps.map Prod.snd).map refV).length<=sizeLine:=by rw[ag,pi.length_eq];lia
   have ok2:HOk X.prog X.w (upd HN D (.lst ((ps.map Prod.snd).map refV))) hf:=ok1.adopt nD ⟨pz,ps.map Prod.snd,e9,jHC rf,he9⟩;have u9:Un (frs X.stack) [] H (upd HN D (.lst ((ps.map Prod.snd).map refV))) s.heap hf:=(uN.out λb hb=>oth b (aO (aS hb hD)) (aO (aS hb hkS))).track I.hok hD;have I9:Inv X ma σ (upd HN D (.lst ((ps.map Prod.snd).map refV))) {s' with heap:=hf}:=Inv.call' I (IN.os.trans I.os.symm) u9 ok2 IN.bare λb z=>absurd z Ad;exact⟨.ref D,_,I9,rfl,fin D _ _ (I.hok.fresh hD) p1 p2 (λb o z=>by rw[jA (aO (aS (I.hok.lt z) hD))];exact eN b o z) j7⟩
end L2
namespace TM
open PySem PySem.Spec PyProof.Rows PySem.W
open L2 (All2)
variable {v u:Value}
def TupP(h:Heap)(v:Value)(l:Ag):Prop:=∃a m n t c lot,v=.ref a/\h.get? a=some {cls:=.type "tuple",data:=.seq #[.int n t,.ref c] m} /\TupI h (.ref c) lot/\l=n::lot
noncomputable def decP(h:Heap):Value->Ag
 | .ref a=>match h.get? a with
  |some o=>match o.data with
   | .seq xs _=>match xs.toList with
    |[k,c]=>numOf k::decV h c
    |_=>[]
   |_=>[]
  |none=>[]
 |_=>[]
def TupP.dec{h:Heap}{l:Ag}(t:TupP h v l):decP h v=l:=by
 obtain⟨a,m,n,t,c,lot,rfl,ho,hc,rfl⟩:=t;dsimp only[decP];rw[ho];show n::decV h (.ref c)=_;rw[hc.dec]
section
variable {prog:Program}{w:World}{A:Around}{E:Ah}{s:Shared}
theorem eqTup{x y:Ag}(hu:TupI s.heap u x)(hv:TupI s.heap v y)(room:A.units+1<cLine):SeqAt.EqAt A s u v (decide (x=y)):=by
 obtain⟨a,n,its,rfl,ho,hi⟩:=hu;obtain⟨b,m,its2,rfl,ho2,hi2⟩:=hv;by_cases e:a=b
 .subst e;rw[ho] at ho2;cases ho2;have:x=y:=hi.nums.symm.trans hi2.nums;rw[ao this];exact SeqAt.EqAt.same _
 .refine SeqAt.EqAt.of_refs e ?_;have key:=SeqAt.RcAt.tuples (A:=A) (s:=s) (l:=a) (b:=b) (items:=its) (items2:=its2) (e:=λj=>decide (x.getD j 0=y.getD j 0)) ⟨_,ho,rfl,n,rfl⟩ ⟨_,ho2,rfl,m,rfl⟩ Aa λj h1 h2=>by
   have at1:∀{vs:Al}{ns:Ag},IntsAre vs ns->∀(j:Nat) (h:j<vs.length),∃t,vs[j]=Value.int (ns.getD j 0) t:=by
    intro vs ns h
    induction h with
    |nil=>intro j h;cases h
    |cons n t _ ih=>
     intro j h;cases j with
     |zero=>exact⟨t,rfl⟩
     |succ j=>exact ih j (Nat.lt_of_succ_lt_succ h)
   obtain⟨t1,e1⟩:=at1 hi j (by rw[aN];exact h1);obtain⟨t2,e2⟩:=at1 hi2 j (by rw[aN];exact h2);rw[ig] at e1 e2;rw[e1,e2];exact gz _ t1 _ t2
  have l1:its.size=x.length:=by rw[<- hi.nums,ag,aN]
  have l2:its2.size=y.length:=by rw[<- hi2.nums,ag,aN]
  have ee:((List.range (min its.size its2.size)).all (λj=>decide (x.getD j 0=y.getD j 0))&&its.size==its2.size)=decide (x=y):=by
   rw[cj,bJ,bz,ck,gA,l1,l2];constructor
   .rintro ⟨h1,h2⟩;refine jt h2 λj q1 q2=>?_;have:=aL (h1 j (bI.mpr Aa));rw[aG,aG,aF q1,aF q2] at this;exact this
   .intro z;subst z;exact⟨λj _=>ao rfl,rfl⟩
  rw[ee] at key;exact key
def jE3:∀{vs:Al}{ws:Af},All2 (TupP s.heap) vs ws->∃fs:Al,KatTups s.heap vs fs/\fs.length=vs.length/\∀v∈fs,∃n t,v=Value.int n t
 |[],[],_=>⟨[],trivial,rfl,λv h=>by cases h⟩
 |v::vs,l::ws,⟨⟨a,m,n,t,c,lot,e,ho,hc,_⟩,r⟩=>by
  obtain⟨fs,h1,h2,h3⟩:=jE3 r;refine⟨.int n t::fs,⟨⟨a,_,_,m,e,ho,rfl,rfl,rfl⟩,h1⟩,ce (· +1) h2,λv hv=>?_⟩;rcases aB.mp hv with z|z
  .exact⟨n,t,z⟩
  .exact h3 v z
def pair_kind{vs:Al}{ws:Af}{Q:SortKind->Shared->Prop}(t:All2 (TupP s.heap) vs ws)(h2:vs≠[])(h:Q (tuples' true) s):wpAny (model prog w) A (keyKind' vs.toArray) Q E s:=by
 obtain⟨fs,f1,f2,f3⟩:=jE3 t;refine kat_kind (T:=.type "int") f1 (by rw[f2];exact List.length_pos_iff.mpr h2) (λv hv=>?_) rfl h;obtain⟨n,t',e⟩:=f3 v hv;rw[e];exact .now
theorem pair_lt{x y:Ag}{Q:Bool->Shared->Prop}(hu:TupP s.heap u x)(hv:TupP s.heap v y)(room:A.units+2<cLine)(h:Q (HT.lexLt x y) s):wpAny (model prog w) A (keyLt' (tuples' true) u v) Q E s:=by
 obtain⟨a,m,n,t,c,lot,rfl,ho,hc,rfl⟩:=hu;obtain⟨a2,m2,n2,t2,c2,lot2,rfl,ho2,hc2,rfl⟩:=hv;refine kat_lt ho rfl ho2 rfl ?_;show KatLex prog w A true false Q [(.int n t,.int n2 t2),(.ref c,.ref c2)] 0 s;rw[HT.lexLt_cons] at h;refine kat_cons (gz n t n2 t2 prog w _ _ ?_);by_cases e:n=n2
 .rw[aA e] at h;rw[show (n==n2)=true by simp[e]];refine kat_yes (kat_cons (eqTup hc hc2 Aa prog w _ _ ?_));by_cases e2:lot=lot2
  .rw[e2,lex_irr] at h;rw[ao e2];exact kat_yes (kat_nil h)
  .rw[aK e2];refine kat_no ?_;obtain⟨b1,k1,its1,q1,o1,i1⟩:=hc;obtain⟨b2,k2,its2,q2,o2,i2⟩:=hc2;cases q1;cases q2;exact kat_one _ _ (HT.lt_tupInts (items:=its1) (items2:=its2) ⟨_,o1,rfl,k1,rfl⟩ ⟨_,o2,rfl,k2,rfl⟩ i1 i2 Aa h)
 .rw[az e] at h;rw[show (n==n2)=false by simp[e]];exact kat_no (jTQ h)
end
end TM
namespace L2
open PySem PySem.Spec PyProof.Rows
def PairR(H:Hp)(v:V)(l:Ag):Prop:=∃t a n lot,v=.ref t/\H t=some (.tup [.int n,.ref a])/\H a=some (.tup (lot.map V.int))/\l=n::lot
def PairR.at{P:Program}{w:World}{H:Hp}{h:Heap}{v:V}{u:Value}{l:Ag}(ok:HOk P w H h)(r:RelV v u)(k:PairR H v l):TM.TupP h u l:=by
 obtain⟨t,a,n,lot,rfl,ht,ha,rfl⟩:=k;cases r;obtain⟨_,its,r2,m,ho⟩:=(show ObjOk P w H h t (.tup _) from ok t _ ht);obtain⟨_,its2,r3,m2,ho2⟩:=(show ObjOk P w H h a (.tup _) from ok a _ ha);cases r2 with
 |cons q1 q2=>
  cases q2 with
  |cons q3 q4=>
   cases q4;obtain⟨tk,rfl⟩:=q1;cases q3;exact⟨t,m,n,tk,a,lot,rfl,ho,⟨a,m2,its2.toArray,rfl,ho2,jM0 r3⟩,rfl⟩
def keyP:KeyS:=⟨TM.TupP,PairR,λ_=>tuples' true,TM.decP⟩
def jU8:KeyOk keyP where
 of:=PairR.at
 mono:=λt k=>let ⟨q,a,n,lot,e,h1,h2,h3⟩:=k;⟨q,a,n,lot,e,t _ _ h1,t _ _ h2,h3⟩
 dec:=TM.TupP.dec
 kind:=TM.pair_kind
 lt:=TM.pair_lt
variable {X:Cx}
section
variable {S:KeyS}
end
def jU2{M:Model}{A:Around}{E:Ah}{s:Shared}{scope:Scope}{globals:Addr}{closure:Aj}{x:Str}{v:Value}{qual:Str}{func:Option Addr}{code:Value}{builtins:Addr}{Q:Env->Shared->Prop}
  (hk:scope.kind=.function) (hx:scope.names.lookup x=some .cell) (hcl:∀y c,closure.lookup y=some c->∃u,s.heap.IsCell c u)
  (hQ:∀h',h'.Ns s.heap.objs.size (λ_=>none)->(∀b o,s.heap.get? b=some o->h'.get? b=some o)->(∀y c,(cellsFrom (s.heap.objs.size+1) scope.names closure).lookup y=some c->∃u,h'.IsCell c u)->(∀c,(cellsFrom (s.heap.objs.size+1) scope.names closure).lookup x=some c->h'.IsCell c (some v))->
   Q (newEnv scope s.heap.objs.size globals (cellsFrom (s.heap.objs.size+1) scope.names closure) qual func code none builtins) {s with heap:=h'}):
  wpAny M A (newFunctionEnv scope globals closure [(x,v)] qual func code none builtins) Q E s:=by
 simp only[newFunctionEnv,lQ,eg,iN];refine ae (wpAny_alloc ?_);refine ae (wpAny_layCells _ (λname kind cells=>by cases hkc:kind==NameKind.cell<;>simp[hkc]) _ _ _ _ ?_);rw[show ({s with heap:=s.heap.push {cls:=.type "frame",data:=.dict #[]}}:Shared).heap.objs.size=s.heap.objs.size+1 from cA ..];have old:∀b o,s.heap.get? b=some o->(pushCells (s.heap.push {cls:=.type "frame",data:=.dict #[]}) scope.names).get? b=some o:=λb o e=>pushCells_keeps _ _ b o (af _ e);have hns:(pushCells (s.heap.push {cls:=.type "frame",data:=.dict #[]}) scope.names).Ns s.heap.objs.size (λ_=>none):=(Heap.Ns.new s.heap (.type "frame")).keeps (pushCells_keeps _ _);have hcc:∀y c,(cellsFrom (s.heap.objs.size+1) scope.names closure).lookup y=some c->∃u,(pushCells (s.heap.push {cls:=.type "frame",data:=.dict #[]}) scope.names).IsCell c u:=λy c e=>by
  have e':(cellsFrom (s.heap.push {cls:=.type "frame",data:=.dict #[]}).objs.size scope.names closure).lookup y=some c:=by
   rw[show (s.heap.push {cls:=.type "frame",data:=.dict #[]}).objs.size=s.heap.objs.size+1 from cA _ _];exact e
  refine jJQ _ _ _ (λx c q=>?_) y c e';obtain⟨v,o,ho,hd⟩:=hcl x c q;exact⟨v,o,af _ ho,hd⟩
 obtain⟨c,hc⟩:=jFO scope.names (s.heap.objs.size+1) closure (.inl (bG hx));have hnew:s.heap.objs.size+1<=c:=jPE (n0:=s.heap.objs.size+1) _ _ _ (ar _) (.inl (bG hx)) hc;obtain⟨u,hu⟩:=hcc x c hc;refine ae ?_;rw[kg];refine ae (ae (wpAny_storeName_cell (env:=newEnv scope s.heap.objs.size globals (cellsFrom (s.heap.objs.size+1) scope.names closure) qual func code none builtins) hk hx hc hu λh' hc' hs'=>aj ?_));dsimp only;rw[List.forIn_nil];refine aj (aj (hQ h' (hns.sameBut hs' (aO (aS (eV _) hnew))) (λb o e=>?_) (λy d hd=>?_) λd hd=>?_))
 .exact hs'.extBut b o (aO (aS (ay e) (Nat.le_of_succ_le hnew))) (old b o e)
 .by_cases z:d=c
  .subst z;exact⟨_,hc'⟩
  .obtain⟨u',hu'⟩:=hcc y d hd;exact⟨u',hu'.sameBut hs' z⟩
 .rw[hc] at hd;cases hd;exact hc'
structure NScopeC (N:Am)(x:Str)(fs:Am)(sc:Scope):Prop where
 kind:sc.kind=.function
 co:sc.isCoroutine=false
 gen:sc.isGenerator=false
 nd:N.Nodup
 pre:N=x::fs
 par:sc.names.lookup x=some .cell
 fre:∀y∈fs,sc.names.lookup y=some .free
 all:∀y,sc.names.lookup y=some .free->y∈fs
 dis:∀y∈fs,(y,NameKind.cell)∉sc.names
section
variable {P:Program}{w:World}{K:W.Frag}{mg:Ak}{Aq:Heap}{N fs:Am}{x:Str}{qual:Str}{scope:Scope}{f:Addr}{cd:Value}{cl:Aj}{A:Around}{mj:List Env}{s:Shared}{H:Hp}{u:Value}{v:V}{fv:List V}
theorem jLZ{h1:Heap}{tk:Nat}(S:NScopeC N x fs scope)(hd:A.handled=none)(e0:Env0 P w K mg Aq A mj s H)(r:RelV v u)(C:ClOk cl s H)(Fv:FvOk fs fv cl s)
  (ns:h1.Ns s.heap.objs.size λ_=>none) (hk:∀b o,s.heap.get? b=some o->h1.get? b=some o) (hc:∀y c,(cellsFrom (s.heap.objs.size+1) scope.names cl).lookup y=some c->∃u,h1.IsCell c u) (hx:∀c,(cellsFrom (s.heap.objs.size+1) scope.names cl).lookup x=some c->h1.IsCell c (some u)):
  Inv (cxN P w K mg Aq N qual scope f cd (cellsFrom (s.heap.objs.size+1) scope.names cl) A mj s H) [] (yN N [v] fv) H {s with heap:=h1,toks:=tk}:=by
 have noA:∀b:Addr,b∉(cxN P w K mg Aq N qual scope f cd (cellsFrom (s.heap.objs.size+1) scope.names cl) A mj s H).ex:=λb z=>absurd (show b∈([]:List Addr) from z) Ad;have Nl:N.length=1+fs.length:=by rw[S.pre,aU];lia
 have st:yN N [v] fv=(v::fv).map some:=by
  unfold yN kT;rw[Nl,show [v]++fv=v::fv from rfl,aU,Fv.1,show 1+fs.length-(fs.length+1)=0 by lia];exact aV _
 refine⟨⟨e0.mod,S.kind,rfl,rfl,ar _,jPF _ _ _ C.inj (λy c e=>?_),λy hy=>?_,λy c z=>(nomatch z),λ_=>hd,fQ e0.frames,.inr ⟨rfl,rfl⟩,λb z=>absurd z (noA b),e0.bs,e0.bsz,λb _ _=>noA b,λb z=>absurd z (noA b),e0.funs,e0.frf⟩,
  rfl,e0.bare,Un.kept hk,⟨_,ns,λi y v' h1' h2 h3=>?_⟩,λy c h=>hc y c h,e0.hok.fresh (ar _),λy c h=>?_,λp hp=>absurd (show p∈([]:Ai) from hp) Ad,e0.hok.kept hk,?_⟩
 .obtain⟨⟨v,o,ho,_⟩,_⟩:=C.cell y c e;exact cB (ay ho)
 .have hy:scope.names.lookup y=some .cell\/scope.names.lookup y=some .free:=hy;rcases hy with hy|hy
  .exact jFO _ _ _ (.inl (bG hy))
  .have m:=S.all y hy;obtain⟨i,hi⟩:=bL m;have hi2:i<fv.length:=by rw[Fv.1];exact(am.mp hi).1
   obtain⟨c,u,e,_⟩:=Fv.2 i y fv[i] hi (by simp[hi2]);exact jFO _ _ _ (.inr ⟨c,e⟩)
 .have h1':N[i]?=some y:=h1';rw[S.pre] at h1';rw[st,aX] at h2;cases i with
  |zero=>
   cases h1';cases h2;obtain⟨c,e⟩:=jFO scope.names (s.heap.objs.size+1) cl (.inl (bG S.par));exact⟨u,r,.inr ⟨.inl S.par,c,e,hx c e⟩⟩
  |succ i=>
   have hy:fs[i]?=some y:=h1';rw[List.getElem?_cons_succ] at h2;have hv:fv[i]?=some v':=by
    cases e:fv[i]? with
    |none=>rw[e] at h2;cases h2
    |some a=>rw[e] at h2;cases h2;rfl
   obtain⟨c,u',e,rv,o,ho,hd⟩:=Fv.2 i y v' hy hv;have m:=aQ hy;exact⟨u',rv,.inr ⟨.inr (S.fre y m),c,(jJP _ _ _ (S.dis y m)).trans e,o,hk _ _ ho,hd⟩⟩
 .rcases jPD _ _ _ h with q|q
  .exact(C.cell y c q).2
  .exact e0.hok.fresh (by have:=q.1;lia)
 .show (yN N [v] fv).length=N.length;rw[st,Nl,ag,aU,Fv.1];lia
end
def jUI{P:Program}{w:World}{K:W.Frag}{mg:Ak}{Aq:Heap}{k:Nat}{q:Str}{args:Arguments}{body:Expr}{scope:Scope}{N fs:Am}{x:Str}{sp:Sp}{cl:Aj}{fv:List V}{a c:Addr}(S:NScopeC N x fs scope)(len:∀vs H Q E,sp vs H Q E->vs.length=1)
  (hb:∀pm ctv (u:Value),bindArgs (kla_fn "<lambda>" q args body scope cl pm (.ref c) ctv) ⟨[u],[]⟩=pure [(x,u)])
  (hbody:∀(A:Around) (mj:List Env) (s:Shared) (H:Hp) (vs:List V) (Q:VK) (E:XK) (cl':Aj),Room k (A.deeper (envX q scope s.heap.objs.size a (.ref c) cl'))->sp vs H Q E->
   ∃t,PE (cxN P w K mg Aq N q scope a (.ref c) cl' A mj s H) body t/\t (yN N vs fv) H Q):
  Callee P w K mg Aq (λs H=>ClOk cl s H/\FvOk fs fv cl s) (λH=>H a=some (.ext (nlP q args body scope cl a c))/\H c=some (.ext (ncP q c))) (k+1) a sp:=by
 refine⟨λA mj s H e z=>?_,λA mj s H us vs Q E hr e0 hz zh r hsp=>?_⟩
 .obtain⟨⟨m,t,g⟩,_,_⟩:=(show ObjOk P w H s.heap a (.ext _) from e.hok a _ z.1);exact⟨_,_,_,_,g⟩
 obtain⟨C,Fv⟩:=hz;obtain⟨⟨pm,ctv,ho⟩,_,_⟩:=(show ObjOk P w H s.heap a (.ext _) from e0.hok a _ zh.1);obtain⟨hc,_,_⟩:=(show ObjOk P w H s.heap c (.ext _) from e0.hok c _ zh.2);have hl:vs.length=1:=len _ _ _ _ hsp;have hl2:us.length=1:=r.length.symm.trans hl
 match vs,us,hl,hl2,r,hsp with
 |[v],[u],_,_,r,hsp=>
 have r1:RelV v u:=by
  obtain⟨u',hu,rv⟩:=Vals.get r (i:=0) (x:=v) rfl;cases hu;exact rv
 have lim:s.heap.NoLimit:=e0.mod.nolimit.keeps λb o e=>(e0.bs b o e).1;refine lA hr.depth ho rfl S.co S.gen rfl hc ?_;rw[hb pm ctv u];refine aj (jU2 S.kind S.par (λy c h=>(C.cell y c h).1) λh₁ hns hk hcc hcx=>⟨lim.keeps hk,?_⟩);show codeAny _ _ (.expr body (envX q scope s.heap.objs.size a (.ref c) (cellsFrom (s.heap.objs.size+1) scope.names cl))) _ _;obtain⟨t,ht,hq⟩:=hbody A mj s H [v] Q E (cellsFrom (s.heap.objs.size+1) scope.names cl) (hr.deeper _) hsp;have I:Inv (cxN P w K mg Aq N q scope a (.ref c) (cellsFrom (s.heap.objs.size+1) scope.names cl) A mj s H) [] (yN N [v] fv) H {s with heap:=h₁,toks:=s.toks}:=jLZ S hr.hd e0 r1 C Fv hns hk hcc hcx;refine lB (bF (ht [] _ (yN N [v] fv) H _ I hq) (λu s' hs=>?_) λe s' hs=>False.elim hs);obtain⟨v,H',J,rv,q⟩:=hs;exact⟨v,H',J.os,J.bare,J.Aq,J.hok,rv,q⟩
def tBMX(K:W.Frag)(T:String)(r:V->List V->Hp->VK->Prop)(to:TE)(t1:TEX):TEX:=λσ H Q W=>to σ H λx H1=>tyV K T x H1/\t1 σ H1 (λv H2=>r x [v] H2 Q) W
section
variable {o e:Expr}{to:TE}{t1:TEX}{T id:String}{name:Str}{r:V->List V->Hp->VK->Prop}{apos cpos:Pos}
theorem jx_bm(pa:PlainAttrs T)(slot:Slot T name id)(hty:typeOf (.builtin id)=pure (.type "method_descriptor"))(hm:MtR X id r)(ho:JE X o to)(h1:JX X e t1)
  (hs:starEach [e] X.env=(false,eval e X.env)::starEach [] X.env) (hxe:X.xe=λ_ _=>False:=by rfl)
  (hbase:attributeBase o name X.env (eval o X.env)=eval o X.env:=by rfl)
  (hfew:((backTo cpos (starEach [e] X.env)).all (λx=>!x.1)&&(backToKw cpos (keywordEach [] X.env)).all (λx=>x.1.isSome)
   &&decide ([e].length+([]:List Keyword).length+(if ([]:List Keyword).isEmpty then 0 else 1)<30))=true:=by rfl)
  (hline:(apos.endLine==cpos.line)=true:=by rfl):
  JX X (.Call (.Attribute o name apos) [e] [] cpos) (tBMX X.K T r to t1):=by
 have nox:∀{α:Type}{m:Sem α}{Q:α->Shared->Prop}{R:Ah}{s:Shared},wpAny (model X.prog X.w) X.A m Q X.xe s->wpAny (model X.prog X.w) X.A m Q R s:=λh=>bF h (λ_ _ z=>z) λ_ _ z=>by rw[hxe] at z;exact z.elim
 refine⟨λma s σ H Q W I h=>wpAny_Call_method_late hbase hfew hline rfl (bF (nox (ho.h ma s σ H _ I h)) (λv s1 ⟨x,H1,I1,r1,ty,q1⟩=>?_) λ_ _ z=>z)⟩;obtain⟨a1,a2⟩:=jMD I1 r1 ty;refine⟨T,id,pa,slot,hty,a1,a2,?_⟩;rw[hs];refine gL rfl (dP ?_);refine Calls.spliced_cons (bF (h1.h ma s1 σ H1 _ W I1 q1) (λu s2 ⟨y,H2,I2,r2,q2⟩=>?_) λ_ _ z=>z);refine Calls.spliced_nil ?_;exact nox (hm ma s2 σ H2 x [y] v [u] Q I2 r1 (.cons r2 .nil) q2)
end
end L2
open PySem L2
variable {P:Program}{w:World}{K:W.Frag}{mg:Ak}{Aq:Heap}{f fT fL fW fR fG c0 tb fM fF fA j fC fP fB a c fH fN tb1 tb2 fO tb3 tb4 tb5 cE:Addr}{fdT fdL fdW fdR fdG fdM fdF fdA fdC fdP fdB fdH fdN fdO:FuncData}{mn:Value}{A:Around}{mj:List Env}{s:Shared}{H0:Hp}{E:XK}{cl:Aj}{Z:Shared->Hp->Prop}{zh:Hp->Prop}{ms:Ag}{Ar:Ae}{S:List Addr}{ks:Nat->Bool}
namespace Eo
open PySem L2
variable {H H' H5 H1:Hp}{fd:FuncData}{p qm ql b qp:Addr}{v9 v8 v10 v7 v6:Option V}{D:Ends}{N mt mp:Int}{v:V}{mays lf ts:Ag}{es:List Expr}{xs vs:List V}{e:Expr}{x:Str}
def Keep(H H':Hp)(p:Addr):Prop:=∀b o,H b=some o->b≠p->H' b=some o
structure Txt (mg:Ak):Prop where
 len:mg "len" =none
 range:mg "range" =none
 tuple:mg "tuple" =none
 sorted:mg "sorted" =none
 set:mg "set" =none
 list:mg "list" =none
 int:mg "int" =none
 isinstance:mg "isinstance" =none
 bool:mg "bool" =none
 str:mg "str" =none
 all:mg "all" =none
 zip:mg "zip" =none
 max:mg "max" =none
 min:mg "min" =none
 any:mg "any" =none
 abs:mg "abs" =none
 sum:mg "sum" =none
 enumerate:mg "enumerate" =none
 dict:mg "dict" =none
 ValueError:mg "ValueError" =none
structure Can (P:Program)(w:World)(K:W.Frag)(mg:Ak)(Aq:Heap)(x:Str)(k:Nat)(f:Addr)(fd:FuncData)(ps:Am)(sp:Sp):Prop where
 G:FnOk P w K mg Aq CX0 k f fd ps sp
 m:mg x=some (.ref f)
 kp:keepIn K (.ref f)=true
 b:Binds K fd ps []
theorem Can.pe{X:Cx}{k:Nat}{ps:Am}{sp:Sp}{t:TA}{p pos:Pos}(C:Can X.prog X.w X.K X.mg X.Aq x k f fd ps sp)(hr:Room k X.A)(hg:Gl X x)(ha:PA X (e::es) t)(hdb:(x==("__debug__":Str))=false:=by decide)
  (he:starEach (e::es) X.env=(false,eval e X.env)::starEach es X.env:=by rfl) (hpl:(backTo pos (starEach es X.env)).any (·.1)=false:=by rfl):PE X (.Call (.Name x p) (e::es) [] pos) (tCall sp [] E0 t):=
 jN7 C.G hr hg C.m C.kp C.b .nil pass0 ha hdb he hpl
theorem Can.je{X:Cx}{k:Nat}{ps:Am}{sp:Sp}{t:TA}{p pos:Pos}(C:Can X.prog X.w X.K X.mg X.Aq x k f fd ps sp)(hr:Room k X.A)(hg:Gl1 X x)(ha:JA X (e::es) t)(he:starEach (e::es) X.env=(false,eval e X.env)::starEach es X.env)
  (hdb:(x==("__debug__":Str))=false:=by decide) (hpl:(backTo pos (starEach es X.env)).any (·.1)=false:=by rfl):JE X (.Call (.Name x p) (e::es) [] pos) (tCall sp [] E0 t):=
 ⟨C.pe hr hg.a ha.h hdb he hpl⟩
def jMT(K:W.Frag):Sp:=λvs H Q _=>∃(a:Addr) (ns:Ag) (k:Int),vs=[.ref a,.int k]/\SqL K H a (ns.map V.int)/\0<=k/\∀c:Int,Q (.int c) H
def jVB:FnScope ["script","k"] ["script","k"] (j8 sCell):= {}
theorem jTZ(F:Fun K "_law_cell_at" "_law_cell_at" sCell f fd)(T:Txt mg):FnOk P w K mg Aq CX0 1 f fd ["script","k"] (jMT K):=by
 refine F.ok jVB (λvs H Q E h=>?_) (λmn A mj s H vs Q E hr h=>?_)
 .obtain⟨a,ns,k,rfl,_⟩:=h;rfl
 .obtain⟨a,ns,k,rfl,hS,h0,q⟩:=h;refine⟨_,y0 (ps_if (jE0 op_lt (pv 1) (jG4 jA0 (by rfl) T.len PySem.boot_len (jX (pv 0) yJ)) (jR _)) (jAX (jD7 (pe_ix jBT (pv 0) (pv 1) (λ_ _=>rfl)))) jG2) (jAX (jD7 jP)),?_⟩;refine⟨_,rfl,_,rfl,a,_,rfl,.inl hS,_,_,rfl,rfl,_,rfl,?_⟩;refine ite2 (λhlt=>?_) (λ_=>?_)
  .have hlt:k<((ns.map V.int).length:Int):=aL hlt;have hk:k.toNat<ns.length:=by rw[ag] at hlt;lia
   refine⟨_,rfl,_,rfl,a,_,k,.int (ns[k.toNat]),rfl,rfl,hS,?_,q _⟩;have e:(k.toNat:Int)=k:=Aa;have q2:=jAN (xs:=ns.map V.int) (j:=k.toNat) (v:=V.int ns[k.toNat]) (by simp[hk]);rw[e] at q2;exact q2
  .exact q 0
def yY:Sp:=λvs H Q _=>∃(p:Addr) (N w:Int),vs=[.ref p,.int w]/\H p=some (.lst [.int N])/\0<=N/\0<w/\w<2^64/\∀N' r:Int,0<=N'->0<=r->r<w->Q (.int r) (upd H p (.lst [.int N']))
def scTake:FnScope ["pot","wide","found"] ["pot","wide"] (j8 sTake):= {}
theorem jTT(F:Fun K "_law_take" "_law_take" sTake f fd):FnOk P w K mg Aq CX0 1 f fd ["pot","wide"] yY:=by
 refine F.ok scTake (λvs H Q E h=>?_) (λmn A mj s H vs Q E hr h=>?_)
 .obtain⟨a,ns,k,rfl,_⟩:=h;rfl
 .obtain⟨p,N,w,rfl,hp,h0,h1,h2,q⟩:=h;refine⟨_,y0 (qH (i:=2) scTake.nd rfl (Or.inl rfl) (kU jHJ (pe_ix jBT (pv 0) jP (λ_ _=>rfl)) (pv 1)))
   (y0 (jS4 (kU jKB (pe_ix jBT (pv 0) jP (λ_ _=>rfl)) (pv 1)) (jVN (pv 0) jP jQ0))
   (jAX (jD7 (pv 2)))),?_⟩
  refine⟨_,rfl,p,_,0,.int N,rfl,rfl,SqL.of hp,rfl,_,rfl,_,_,rfl,rfl,h1,?_⟩;refine⟨_,rfl,p,_,0,.int N,rfl,rfl,SqL.of hp,rfl,_,rfl,_,_,rfl,rfl,⟨h1,h2⟩,?_⟩;refine⟨_,rfl,p,_,0,0,rfl,rfl,hp,rfl,_,rfl,?_⟩;exact q _ _ (Int.ediv_nonneg h0 Aa) (Int.emod_nonneg _ Aa) (lT _ h1)
def spPot:Sp:=λvs H Q _=>∃c:Int,vs=[.int c]/\∀(p:Addr) (N:Int),H p=none->0<=N->Q (.ref p) (upd H p (.lst [.int N]))
def scPot:FnScope ["cell","number","j","more"] ["cell"] (j8 sPot):= {}
theorem jVZ(F:Fun K "_law_pot" "_law_pot" sPot f fd)(T:Txt mg):FnOk P w K mg Aq CX0 1 f fd ["cell"] spPot:=by
 refine F.ok scPot (λvs H Q E h=>?_) (λmn A mj s H vs Q E hr h=>?_)
 .obtain⟨c,rfl,_⟩:=h;rfl
 .obtain⟨c,rfl,q⟩:=h;have one: [V.int 0].length<=sizeLine:=by show 1<=sizeLine;decide
  refine⟨_,y0 (ps_if (jE0 op_ge (pv 0) (kU jN9 jP jP) (jR _)) (jAX (jD7 (jKA (jX (kU jD9 (pv 0) (kU jN9 jP jP)) yJ)))) jG2)
   (y0 (qH (i:=1) scPot.nd rfl (Or.inl rfl) jP)
   (y0 (jS3 dH rfl (jC3 rfl T.range (jX jP yJ)) (jG3 (i:=2) scPot.nd rfl (Or.inl rfl))
    (y0 (qH (i:=3) scPot.nd rfl (Or.inl rfl) (kU jHJ (kU jDA (kU yE (kU yE (kU jHJ (pv 0) jP) (kU jDA jP (pv 2))) jP) jP) jP))
    (y0 (qH (i:=3) scPot.nd rfl (Or.inl rfl) (kU jHJ (kU yE (kU yE (kU jDA (pv 3) (pv 3)) (kU jDA jP (pv 2))) jP) jP))
    (jAX (qH (i:=1) scPot.nd rfl (Or.inl rfl) (kU yE (kU jDA (pv 1) jP) (pv 3)))))))
   (jAX (jD7 (jKA (jX (pv 1) yJ)))))),?_⟩
  refine⟨_,rfl,_,_,rfl,rfl,⟨Ac,Ac,Ac⟩,_,_,rfl,rfl,_,rfl,?_⟩;refine ite2 (λhge=>?_) (λ_=>?_)
  .refine⟨_,rfl,_,_,rfl,rfl,⟨Ac,Ac,Ac⟩,_,_,rfl,rfl,one,λp hp=>q p _ hp ?_⟩;exact Int.sub_nonneg_of_le (aL hge)
  .refine⟨64,rfl,Ac,Ac,jEO (n:=64) (λi σ H2=>∃(num:Int) (v1 v2:Option V),σ=[some (.int c),some (.int num),v1,v2]/\0<=num/\H2=H) ⟨0,none,none,rfl,dR _,rfl⟩ ?_ ?_⟩
   .rintro i σ H2 hi ⟨num,v1,v2,rfl,hn,rfl⟩;refine⟨_,rfl,_,_,rfl,rfl,(by show (0:Int)<2147483629;decide),_,rfl,_,_,rfl,rfl,.inl ⟨Ac,Ac⟩,_,_,rfl,rfl,_,_,rfl,rfl,_,_,rfl,rfl,.inr ⟨Ac,Ac⟩,_,_,rfl,rfl,(by show (0:Int)<2147483647;decide),?_⟩;refine⟨_,rfl,_,rfl,_,_,rfl,rfl,.inl ⟨?_,?_⟩,_,rfl,_,_,rfl,rfl,.inl ⟨Ac,Ac⟩,_,_,rfl,rfl,_,_,rfl,rfl,_,_,rfl,rfl,(by show (0:Int)<2147483587;decide),?_⟩
    .lia
    .lia
    .refine⟨_,rfl,_,_,rfl,rfl,.inr ⟨Ac,Ac⟩,_,rfl,_,_,rfl,rfl,?_⟩;refine⟨_,_,_,rfl,?_,rfl⟩;lia
   .rintro σ H2 ⟨num,v1,v2,rfl,hn,rfl⟩;exact⟨_,rfl,one,λp hp=>q p num hp hn⟩
def jCL{o o':HO}:upd (upd H a o) a o'=upd H a o':=by
 funext b;unfold upd;by_cases h:b=a
 .rw[aA h,aA h]
 .rw[az h,az h,az h]
def yG{o:HO}(h:upd H a o b=none):b≠a/\H b=none:=by
 have h1:b≠a:=λe=>by rw[e,j7] at h;cases h
 exact⟨h1,by rw[jA h1] at h;exact h⟩
def Keep.refl(H:Hp)(p:Addr):Keep H H p:=λ_ _ h _=>h
def Keep.trans{H2:Hp}(a:Keep H H1 p)(b:Keep H1 H2 p):Keep H H2 p:=λc o h n=>b c o (a c o h n) n
def Keep.upd(a:Keep H H1 p)(o:HO):Keep H (upd H1 p o) p:=λc u h n=>by rw[jA n];exact a c u h n
def Keep.new{H H1:Hp}{p l:Addr}(a:Keep H H1 p)(hl:H1 l=none)(o:HO):Keep H (L2.upd H1 l o) p:=λc u h n=>by
 have:=a c u h n;rw[jA (jC this hl)];exact this
theorem pw{w:Int}(h1:1<=w)(h2:w<=16):(2:Int)<=2^w.toNat/\(2:Int)^w.toNat<=65536:=by
 have e:∀n:Nat,n<17->1<=n->(2:Int)<=2^n/\(2:Int)^n<=65536:=Ab;exact e w.toNat Aa Aa
structure Lot (w:Int)(ts:Ag):Prop where
 ris:ts.Pairwise (· < ·)
 bnd:∀z∈ts,0<=z/\z<w
 ne:ts≠[]
def bits(n:Int)(k:Nat):Ag:=((List.range k).filter λt=>decide (Builtin.bitAnd (n/2^t) 1=1)).map λ(t:Nat)=>(t:Int)
theorem jIA(n:Int)(k:Nat):bits n (k+1)=bits n k++(if decide (Builtin.bitAnd (n/2^k) 1=1)=true then [(k:Int)] else []):=by
 unfold bits;rw[gw,bU,aW];congr 1;rw[cW];split<;>rfl
theorem jRG{n w:Int}(h1:1<=n)(hw:0<=w)(h2:n<2^w.toNat):Lot w (bits n w.toNat):=by
 refine⟨?_,λz hz=>?_,?_⟩
 .unfold bits;rw[bH];have:=(gR (n:=w.toNat)).filter (λt=>decide (Builtin.bitAnd (n/2^t) 1=1));exact this.imp λh=>by lia
 .unfold bits at hz;obtain⟨t,ht,rfl⟩:=aZ.mp hz;have:=bI.mp (be.mp ht).1;lia
 .obtain⟨m,rfl⟩:∃m:Nat,n=(m:Int):=⟨n.toNat,Aa⟩;have hm:m≠0:=Aa;have hlt:m<2^w.toNat:=by
   have:((m:Nat):Int)<((2^w.toNat:Nat):Int):=by rw[Int.natCast_pow];exact h2
   lia
  obtain⟨i,hi⟩:=Nat.exists_testBit_of_ne_zero hm;have hiw:i<w.toNat:=by
   rcases fo i w.toNat with h|h
   .exact h
   .rw[gQ (aS hlt (cr Aa h))] at hi;cases hi
  have hb:Builtin.bitAnd ((m:Int)/2^i) 1=1:=by
   have e:((m:Int)/2^i)=((m/2^i:Nat):Int):=by rw[Int.natCast_ediv,Int.natCast_pow];rfl
   rw[e,PyProof.Rows.bitAnd_pp (gx _) Ac];have e2:(((m/2^i:Nat):Int).toNat&&&(1:Int).toNat)=1:=by
    rw[bo];show (m/2^i)&&&1=1;rw[lU];have:=hi;rw[gS] at this;exact aL this
   rw[e2];rfl
  intro z;have hmem:(i:Int)∈bits (m:Int) w.toNat:=by
   unfold bits;exact aZ.mpr ⟨i,be.mpr ⟨bI.mpr hiw,ao hb⟩,rfl⟩
  rw[z] at hmem;cases hmem
def qN:Sp:=λvs H Q _=>∃(p:Addr) (N w:Int),vs=[.ref p,.int w]/\H p=some (.lst [.int N])/\0<=N/\1<=w/\w<=16/\
 ∀(q:Addr) (N':Int) (ts:Ag) (H':Hp),0<=N'->Lot w ts->H' q=some (.tup (ts.map V.int))->H' p=some (.lst [.int N'])->Keep H H' p->Q (.ref q) H'
def scLot:FnScope ["pot","wide","way","number","start","step","size"] ["pot","wide"] (j8 sLot):= {}
theorem jW2(F:Fun K "_law_lot" "_law_lot" sLot f fd)(T:Txt mg)(CT:Can P w K mg Aq "_law_take" 1 fT fdT ["pot","wide"] yY):FnOk P w K mg Aq CX0 2 f fd ["pot","wide"] qN:=by
 refine F.ok scLot (λvs H Q E h=>?_) (λmn A mj s H vs Q E hr h=>?_)
 .obtain⟨a,ns,k,rfl,_⟩:=h;rfl
 .obtain⟨p,N,w,rfl,hp,hN,h1,h2,q⟩:=h;have hpw:=pw h1 h2;have nd:=scLot.nd;refine⟨_,y0 (qH (i:=2) nd rfl (Or.inl rfl) (CT.pe hr rfl (jX (pv 0) (jX jP yJ))))
   (y0 (ps_if (jE0 qC (pv 2) jP (jR _))
    (y0 (qH (i:=3) nd rfl (Or.inr rfl) (kU yE jP (CT.pe hr rfl (jX (pv 0) (jX (kU jD9 (kU jHH jP (pv 1)) jP) yJ)))))
    (jAX (jD7 (jC4 jV rfl T.tuple Ab (jX
     (jIU (m:=[none,some 3]) (Nc:=["t","number"]) rfl (jC3 rfl T.range (jX (pv 1) yJ)) rfl Ab Ab (jK (psc:=j8 sLot))
      (jI (N:=["pot","wide","way","number","start","step","size"]) rfl rfl Ab)
      (λcl C fp s H=>jG3 (i:=0) (show (["t","number"]:Am).Nodup by decide+kernel) rfl (Or.inl rfl))
      (λcl C fp s H=>jN0 (jE0 qC (kU jKC (kU jS7 (pv 1) (pv 0)) jP) jP (jR _)))
      (λcl C fp s H=>pv 0)) yJ)))))
    jG2)
   (y0 (qH (i:=4) nd rfl (Or.inr rfl) (CT.pe hr rfl (jX (pv 0) (jX (pv 1) yJ))))
   (y0 (qH (i:=5) nd rfl (Or.inr rfl) (kU yE jP (CT.pe hr rfl (jX (pv 0) (jX jP yJ)))))
   (y0 (qH (i:=6) nd rfl (Or.inl rfl) (kU yE jP (CT.pe hr rfl (jX (pv 0) (jX (pe_ix jBT (jKA (jX jP (jX jP (jX jP yJ)))) (kU jD9 (pv 2) jP) (λ_ _=>rfl)) yJ)))))
   (jAX (jD7 (jC4 jV rfl T.tuple Ab (jX (jG4 (jF0 rfl) rfl T.sorted Ab (jX (jC4 (jPG rfl) rfl T.set Ab (jX
     (jIU (m:=[none,some 4,some 5,some 1]) (Nc:=["j","start","step","wide"]) rfl (jC3 rfl T.range (jX (pv 6) yJ)) rfl Ab Ab (jK (psc:=j8 sLot))
      (jI (N:=["pot","wide","way","number","start","step","size"]) rfl rfl Ab)
      (λcl C fp s H=>jG3 (i:=0) (show (["j","start","step","wide"]:Am).Nodup by decide+kernel) rfl (Or.inl rfl))
      (λcl C fp s H=>jN1)
      (λcl C fp s H=>kU jHJ (kU yE (pv 1) (kU jDA (pv 2) (pv 0))) (pv 3))) yJ)) yJ)) yJ)))))))),?_⟩
  refine⟨_,rfl,p,N,4,rfl,hp,hN,Ac,Ac,λN1 way b1 b2 b3=>?_⟩;have hp1:∀M,(upd H p (.lst [.int M])) p=some (.lst [.int M]):=λ_=>j7;refine⟨_,rfl,rfl,_,rfl,?_⟩;refine ite2 (λ_=>?_) (λhw0=>?_)
  .refine⟨_,rfl,_,rfl,_,_,rfl,rfl,⟨Aa,Aa,Ac⟩,_,_,rfl,rfl,p,N1,_,rfl,hp1 _,b1,Aa,Aa,λN2 r2 c1 c2 c3=>⟨_,_,rfl,rfl,?_⟩⟩;have hnum:1+r2<2^w.toNat:=Aa;refine⟨_,rfl,w,rfl,Aa,Aa,jAI (n:=w.toNat) (by rw[aJ];lia) (λD i σ' H' ys=>(∃v,σ'=[v,some (.int (1+r2))])/\ys=(bits (1+r2) i).map V.int/\H'=upd (upd (upd H p (.lst [.int N1])) p (.lst [.int N2])) D (.lst ys)) ?_ ?_ ?_ ?_⟩
   .intro D hD;exact⟨⟨_,rfl⟩,rfl,rfl⟩
   .rintro D i σ' H' ys hD hi ⟨_,e1,e2⟩;refine⟨by rw[e2];exact j7,?_⟩;rw[e1,ag];unfold bits;rw[ag];exact bh (bN _ _) (by rw[b7];exact ar _)
   .rintro D i σ' H' ys hD hi ⟨⟨v,rfl⟩,rfl,rfl⟩;refine⟨_,rfl,_,rfl,_,_,rfl,rfl,(by show (0:Int)<=0+(i:Int);lia),_,_,rfl,rfl,rfl,_,rfl,?_⟩;have ei:(0+(i:Int)).toNat=i:=Aa;refine ite2 (λhb=>?_) (λhb=>?_)
    .have hb:Builtin.bitAnd ((1+r2)/2^i) 1=1:=by
      have:=aL hb;rw[ei] at this;exact V.int.inj this
     refine⟨_,rfl,j7,⟨_,rfl⟩,?_,jCL⟩;rw[jIA,aA (ao hb),aW];congr 1;show [V.int (0+(i:Int))]=[V.int (i:Int)];rw[fq]
    .have hb:¬Builtin.bitAnd ((1+r2)/2^i) 1=1:=λe=>hb (ao (by rw[ei];exact ce V.int e));refine⟨⟨_,rfl⟩,?_,rfl⟩;rw[jIA,az (by simpa using hb),aV]
   .rintro D σ' H' ys hD ⟨_,rfl,rfl⟩;refine⟨D,_,rfl,.inl ⟨SqL.of j7,λqq hqq=>?_⟩⟩;obtain⟨n1,n2⟩:=yG hqq;have pD:p≠D:=jC j7 hD;have pq:p≠qq:=jC j7 n2;exact q qq N2 (bits (1+r2) w.toNat) _ c1 (jRG Aa Aa hnum) j7 (by rw[jA pq,jA pD,j7]) (((((Keep.refl H p).upd _).upd _).new hD _).new hqq _)
  .have hway:1<=way:=by
    have:¬way=0:=λe=>hw0 (ao (by rw[e]));lia
   refine⟨_,rfl,_,rfl,p,N1,w,rfl,hp1 _,b1,Aa,Aa,λN2 kT c1 c2 c3=>?_⟩;rw[jCL];refine⟨_,rfl,p,N2,3,rfl,hp1 _,c1,Ac,Ac,λN3 st d1 d2 d3=>⟨_,_,rfl,rfl,?_⟩⟩;rw[jCL];refine⟨_,rfl,(by show 3<=sizeLine;decide),λl hl=>?_⟩;have pl:p≠l:=jC (hp1 _) hl;obtain⟨wd,hwd,e1,e2⟩:∃wd:Int,atI [V.int 1,V.int 2,V.int 4] (way-1)=some (.int wd)/\1<=wd/\wd<=4:=by
    rcases (show way=1\/way=2\/way=3 by lia) with e|e|e
    .subst e;exact⟨1,rfl,Ac,Ac⟩
    .subst e;exact⟨2,rfl,Ac,Ac⟩
    .subst e;exact⟨4,rfl,Ac,Ac⟩
   refine⟨_,rfl,_,_,rfl,rfl,l,_,_,_,rfl,rfl,SqL.of j7,hwd,p,N3,wd,rfl,by rw[jA pl];exact hp1 _,d1,Aa,Aa,λN4 r4 g1 g2 g3=>⟨_,_,rfl,rfl,?_⟩⟩;have kp:Keep H (upd (upd (upd H p (.lst [.int N3])) l (.lst [V.int 1,V.int 2,V.int 4])) p (.lst [.int N4])) p:=(((Keep.refl H p).upd _).new hl _).upd _;have hp4:(upd (upd (upd H p (.lst [.int N3])) l (.lst [V.int 1,V.int 2,V.int 4])) p (.lst [.int N4])) p=some (.lst [.int N4]):=j7;generalize (upd (upd (upd H p (.lst [.int N3])) l (.lst [V.int 1,V.int 2,V.int 4])) p (.lst [.int N4]))=H4 at kp hp4 ⊢;refine⟨_,rfl,1+r4,rfl,Aa,Aa,jAI (n:=(1+r4).toNat) (by rw[aJ];lia) (λD i σ' H' ys=>(∃v,σ'=[v,some (.int kT),some (.int (1+st)),some (.int w)])/\(∃ns:Ag,ys=ns.map V.int/\ns.length=i/\∀z∈ns,0<=z/\z<w)/\H'=upd H4 D (.lst ys)) ?_ ?_ ?_ ?_⟩
   .intro D hD;exact⟨⟨_,rfl⟩,⟨[],rfl,rfl,λz hz=>by cases hz⟩,rfl⟩
   .rintro D i σ' H' ys hD hi ⟨_,⟨ns,rfl,e,_⟩,rfl⟩;exact⟨j7,by rw[ag,e];exact ar _⟩
   .rintro D i σ' H' ys hD hi ⟨⟨v,rfl⟩,⟨ns,rfl,e,hb⟩,rfl⟩;dsimp only[kX,yR];rw[aA rfl];refine⟨_,rfl,_,rfl,_,rfl,_,_,rfl,rfl,.inl ⟨Aa,Aa⟩,_,_,rfl,rfl,_,rfl,_,_,rfl,rfl,(by show 0<w;lia),j7,⟨_,rfl⟩,⟨ns++[(kT+(1+st)*(0+(i:Int)))%w],Ad,by simp[e],λz hz=>?_⟩,jCL⟩;rcases aP.mp hz with hz|hz
    .exact hb z hz
    .have:z=(kT+(1+st)*(0+(i:Int)))%w:=by simpa using hz
     rw[this];exact⟨Int.emod_nonneg _ Aa,lT _ Aa⟩
   .rintro D σ' H' ys hD ⟨_,⟨ns,rfl,e,hb⟩,rfl⟩;refine⟨D,ns,rfl,SqL.of j7,Aa,λz hz=>⟨(hb z hz).1,by have:=(hb z hz).2;lia⟩,λl1 ks h11 hm1=>?_⟩;refine⟨l1,ks,rfl,j7,λl2 ms h12 srt hm2=>?_⟩;refine⟨l2,_,rfl,.inl ⟨SqL.of j7,λqq hqq=>?_⟩⟩;have pD:p≠D:=jC hp4 hD;have p1:p≠l1:=jC hp4 (yG h11).2;have p2:p≠l2:=jC hp4 (yG (yG h12).2).2;have pq:p≠qq:=jC hp4 (yG (yG (yG hqq).2).2).2;refine q qq N4 ms _ g1 ⟨srt,λz hz=>hb z ((hm1 z).mp ((hm2 z).mp hz)),λz=>?_⟩ j7 (by rw[jA pq,jA p2,jA p1,jA pD];exact hp4) ((((kp.new hD _).new h11 _).new h12 _).new hqq _);subst z;cases ns with
    |nil=>simp at e;lia
    |cons x r=>
     have:=(hm2 x).mpr ((hm1 x).mpr ai);cases this
structure Ris (w:Int)(ts:Ag):Prop where
 ris:ts.Pairwise (· < ·)
 bnd:∀z∈ts,0<=z/\z<w
def Ris.nil(w:Int):Ris w []:=⟨.nil,λz hz=>by cases hz⟩
def Ris.take{w:Int}(h:Ris w ts)(k:Nat):Ris w (ts.take k):=⟨h.ris.sublist (eJ _ _),λz hz=>h.bnd z (cQ hz)⟩
def Ris.drop{w:Int}(h:Ris w ts)(k:Nat):Ris w (ts.drop k):=⟨h.ris.sublist (i4 _ _),λz hz=>h.bnd z (dj hz)⟩
theorem Ris.snoc{i:Nat}{ts:Ag}(h:Ris i ts):Ris (i+1:Nat) (ts++[(i:Int)]):=by
 refine⟨cN.mpr ⟨h.ris,eZ _ _,λa ha b hb=>?_⟩,λz hz=>?_⟩
 .have:=(h.bnd a ha).2;have e:b=i:=by simpa using hb
  lia
 .rcases aP.mp hz with q|q
  .have:=h.bnd z q;lia
  .have e:z=i:=by simpa using q
   lia
theorem Ris.step{i:Nat}{ts:Ag}(h:Ris i ts):Ris (i+1:Nat) ts:=⟨h.ris,λz hz=>by have:=h.bnd z hz;lia⟩
def upto(n:Nat):Ag:=(List.range n).map λ(i:Nat)=>(i:Int)
def jOS(n:Nat):jEL n=(upto n).map V.int:=by
 unfold jEL upto;rw[bX];rfl
theorem kJ(n:Nat):Ris n (upto n):=by
 refine⟨?_,λz hz=>?_⟩
 .unfold upto;rw[bH];exact gR.imp λh=>by lia
 .unfold upto at hz;obtain⟨t,ht,rfl⟩:=aZ.mp hz;have:=bI.mp ht;lia
def Tups(H H':Hp):Prop:=∀b xs,H b=some (.tup xs)->H' b=some (.tup xs)
def Tups.trans{H2:Hp}(a:Tups H H1)(b:Tups H1 H2):Tups H H2:=λc o h=>b c o (a c o h)
def Keep.tups(k:Keep H H' p)(hp:H p=some (.lst xs)):Tups H H':=λb ys hb=>k b _ hb λe=>by
 subst e;rw[hb] at hp;cases hp
def Tups.upd(hp:H p=some (.lst xs))(o:HO):Tups H (upd H p o):=λb ys hb=>by
 rw[jA (λe=>by subst e;rw[hb] at hp;cases hp)];exact hb
def Tups.new{H:Hp}{p:Addr}(hp:H p=none)(o:HO):Tups H (L2.upd H p o):=λb ys hb=>by
 rw[jA (jC hb hp)];exact hb
def PcAt(H:Hp)(v:V)(pc:List Int×Int):Prop:=∃a q,v=.ref a/\H a=some (.tup [.ref q,.int pc.2])/\H q=some (.tup (pc.1.map V.int))
def PcsAt(H:Hp):List V->Ae->Prop
 |[],[]=>True
 |v::vs,p::ps=>PcAt H v p/\PcsAt H vs ps
 |_,_=>False
def PcAt.mono{pc:List Int×Int}(h:PcAt H v pc)(t:Tups H H'):PcAt H' v pc:=by
 obtain⟨a,q,rfl,h1,h2⟩:=h;exact⟨a,q,rfl,t _ _ h1,t _ _ h2⟩
def PcsAt.mono(t:Tups H H'):∀{vs:List V}{ps:Ae},PcsAt H vs ps->PcsAt H' vs ps
 |[],[],_=>trivial
 |_::_,_::_,h=>⟨h.1.mono t,PcsAt.mono t h.2⟩
 |[],_::_,h=>h.elim
 |_::_,[],h=>h.elim
def PcsAt.len:∀{vs:List V}{ps:Ae},PcsAt H vs ps->vs.length=ps.length
 |[],[],_=>rfl
 |_::_,_::_,h=>ce (· +1) (PcsAt.len h.2)
 |[],_::_,h=>h.elim
 |_::_,[],h=>h.elim
def PcsAt.put{p:List Int×Int}(hv:PcAt H v p):∀(k:Nat) {vs:List V}{ps:Ae},PcsAt H vs ps->PcsAt H (vs.take k++v::vs.drop k) (ps.take k++p::ps.drop k)
 | 0,_,_,h=>⟨hv,h⟩
 |_+1,[],[],_=>⟨hv,trivial⟩
 |k+1,_::_,_::_,h=>⟨h.1,PcsAt.put hv k h.2⟩
 |_+1,[],_::_,h=>h.elim
 |_+1,_::_,[],h=>h.elim
structure GoodPc (w:Int)(pc:List Int×Int):Prop where
 lot:Lot w pc.1
 lo: -1000000000000<=pc.2
 hi:pc.2<=1000000000000
structure BoxAt (H:Hp)(b:Addr)(w:Int)(mays:Ag)(Ar:Ae):Prop where
 ex:∃qm qp vs,H b=some (.tup [.int w,.ref qm,.ref qp])/\H qm=some (.tup (mays.map V.int))/\H qp=some (.tup vs)/\PcsAt H vs Ar
def BoxAt.mono{w:Int}(h:BoxAt H b w mays Ar)(t:Tups H H'):BoxAt H' b w mays Ar:=by
 obtain⟨qm,qp,vs,h1,h2,h3,h4⟩:=h.ex;exact⟨qm,qp,vs,t _ _ h1,t _ _ h2,t _ _ h3,h4.mono t⟩
structure Good (mt mp:Int)(w:Int)(mays:Ag)(Ar:Ae):Prop where
 w0:0<=w
 w1:w<=mt
 mr:Ris w mays
 pl:(Ar.length:Int)<=mp
 pg:∀pc∈Ar,GoodPc w pc
def Keep.updNew{l:Addr}(a:Keep H H1 p)(hl:H l=none)(o:HO):Keep H (L2.upd H1 l o) p:=λc u h n=>by
 rw[jA (jC h hl)];exact a c u h n
def spBox:Sp:=λvs H Q _=>∃(p:Addr) (N mt mp:Int),vs=[.ref p,.int mt,.int mp]/\H p=some (.lst [.int N])/\0<=N/\0<=mt/\mt<=16/\0<=mp/\mp<=32/\
 ∀(b:Addr) (N' w:Int) (mays:Ag) (Ar:Ae) (H':Hp),0<=N'->H' p=some (.lst [.int N'])->BoxAt H' b w mays Ar->Good mt mp w mays Ar->Keep H H' p->Q (.ref b) H'
noncomputable abbrev nBox:Am:=["pot","most_things","most_pieces","wide","mays","left","far","pieces","k","size","things"]
def scBox:FnScope nBox ["pot","most_things","most_pieces"] (j8 sBox):= {}
abbrev XBox(P:Program)(w:World)(K:W.Frag)(mg:Ak)(Aq:Heap)(f:Addr)(mn:Value)(A:Around)(mj:List Env)(s:Shared)(H:Hp)(E:XK):Cx:=(cxOf CX0 P w K mg Aq nBox "_law_box" (j8 sBox) f mn A mj s H E).nox
def jFI:Stmt->List Stmt
 | .For _ _ b _ _=>b
 |_=>[]
def boxI(T:Txt mg)(CT:Can P w K mg Aq "_law_take" 1 fT fdT ["pot","wide"] yY)(CL:Can P w K mg Aq "_law_lot" 2 fL fdL ["pot","wide"] qN)(hr:Room 2 (XBox P w K mg Aq f mn A mj s H E).A): {t:TS // JSs (XBox P w K mg Aq f mn A mj s H E) ((jFI ((jE sBox).getD 7 (.Pass ⟨0,0,0,0⟩))).drop 4) t}:=
 have nd:=scBox.nd
 ⟨_,(jF (jBS (je_bm bQ PySem.F.slot_list_insert PySem.F.type_list_insert jNS (jv 7 rfl vL) (j4 (CT.je (hr.mono Ac) gD (j4 (jv 0 rfl vC) (j4 (kW yE (jH jA0 gD T.len Ab (j4 (jv 7 rfl vL) j9 j6) j6) (je_int)) j9 yO) j6) j6) (j4 (jKP (j4 (jv 10 rfl vL) (j4 (kW jD9 (CT.je (hr.mono Ac) gD (j4 (jv 0 rfl vC) (j4 (jv 6 rfl vL) j9 j6) j6) j6) (kW jKB (jv 6 rfl vL) (je_int))) j9 yO) j6)) j9 jDX) jG) jG) jW))⟩
def boxL(T:Txt mg)(CT:Can P w K mg Aq "_law_take" 1 fT fdT ["pot","wide"] yY)(CL:Can P w K mg Aq "_law_lot" 2 fL fdL ["pot","wide"] qN)(hr:Room 2 (XBox P w K mg Aq f mn A mj s H E).A): {t:TS // JSs (XBox P w K mg Aq f mn A mj s H E) (jFI ((jE sBox).getD 7 (.Pass ⟨0,0,0,0⟩))) t}:=
 have nd:=scBox.nd
 ⟨_,(jD (jS (i:=9) nd rfl lL (kW yE (je_int) (CT.je (hr.mono Ac) gD (j4 (jv 0 rfl vC) (j4 (je_int) j9 jN) j6) j6)) jF3)
   (jD (jS (i:=10) nd rfl lL (kN jV gD T.tuple Ab (j4 (jKQ jMU (jv 5 rfl vL) jOF (jOE (jv 9 rfl vL))) j9 kG) kG) jW)
   (jD (jS (i:=5) nd rfl lL (jKQ jMU (jv 5 rfl vL) (jOE (jv 9 rfl vL)) jOF) jMM)
   (jD (yT (jY (jVX hr.units0) (jv 10 rfl vL) (jKP j9) (jR _)) (jF (jS (i:=10) nd rfl lL (CL.je hr gD (j4 (jv 0 rfl vC) (j4 (jv 3 rfl vL) j9 j6) j6) j6) jW)) kQ)
   (boxI T CT CL hr).2))))⟩
def boxC(T:Txt mg)(CT:Can P w K mg Aq "_law_take" 1 fT fdT ["pot","wide"] yY)(CL:Can P w K mg Aq "_law_lot" 2 fL fdL ["pot","wide"] qN)(hr:Room 2 (XBox P w K mg Aq f mn A mj s H E).A): {t:TS // JSs (XBox P w K mg Aq f mn A mj s H E) ((jE sBox).drop 5) t}:=
 have nd:=scBox.nd
 ⟨_,(jD (jS (i:=6) nd rfl lL (kD jBT (jOK (j4 (je_int) (j4 (je_int) (j4 (jWU) j9 yO) jN) jN)) (CT.je (hr.mono Ac) gD (j4 (jv 0 rfl vC) (j4 (je_int) j9 jN) j6) j6) jT1) jMM)
   (jD (jS (i:=7) nd rfl lL (jOK j9) jD3)
   (jD (jEI dH rfl (jA6 gD T.range (j4 (kW jDA (CT.je (hr.mono Ac) gD (j4 (jv 0 rfl vC) (j4 (kW yE (jv 2 rfl vL) (je_int)) j9 yO) j6) j6) (kN jPH gD T.int Ab (j4 (yA op_gt (jv 3 rfl vL) (je_int) (jR _)) j9 jRZ) jRZ)) j9 yO) yO) (jO (i:=8) nd rfl lL) (boxL T CT CL hr).2 kR)
   (jF (jU (jKP (j4 (jv 3 rfl vL) (j4 (jv 4 rfl vL) (j4 (kN jV gD T.tuple Ab (j4 (jv 7 rfl vL) j9 j6) j6) j9 jG) j6) j6)))))))⟩
def boxB(T:Txt mg)(CT:Can P w K mg Aq "_law_take" 1 fT fdT ["pot","wide"] yY)(CL:Can P w K mg Aq "_law_lot" 2 fL fdL ["pot","wide"] qN)(hr:Room 2 (XBox P w K mg Aq f mn A mj s H E).A): {t:TS // JSs (XBox P w K mg Aq f mn A mj s H E) ((jE sBox).drop 3) t}:=
 have nd:=scBox.nd
 ⟨_,(jD (jS (i:=5) nd rfl lL (kN (jI5 rfl) gD T.list Ab (j4 (kN jEU gD T.range Ab (j4 (jv 3 rfl vL) j9 j6) j6) j9 jG) jG) jW)
   (jD (yT (jY qC (CT.je (hr.mono Ac) gD (j4 (jv 0 rfl vC) (j4 (je_int) j9 jN) j6) j6) (je_int) (jR _)) (jF (jS (i:=5) nd rfl lL (jOK j9) jD3)) kQ)
   (boxC T CT CL hr).2))⟩
def boxA(T:Txt mg)(CT:Can P w K mg Aq "_law_take" 1 fT fdT ["pot","wide"] yY)(CL:Can P w K mg Aq "_law_lot" 2 fL fdL ["pot","wide"] qN)(hr:Room 2 (XBox P w K mg Aq f mn A mj s H E).A): {t:TS // JSs (XBox P w K mg Aq f mn A mj s H E) (jE sBox) t}:=
 have nd:=scBox.nd
 ⟨_,(jD (jS (i:=3) nd rfl lL (CT.je (hr.mono Ac) gD (j4 (jv 0 rfl vC) (j4 (kW yE (jv 1 rfl vL) (je_int)) j9 yO) j6) j6) jW)
   (jD (jS (i:=4) nd rfl lL (jKP j9) jRV)
   (jD (yT (jY qC (CT.je (hr.mono Ac) gD (j4 (jv 0 rfl vC) (j4 (je_int) j9 jN) j6) j6) (je_int) (jR _)) (jF (jS (i:=4) nd rfl lL (kN jV gD T.tuple Ab (j4 (kO (m:=[none,some 0]) (Nc:=["t","pot"]) rfl (jA6 gD T.range (j4 (jv 3 rfl vL) j9 j6) j6) rfl Ab Ab (jK (psc:=j8 sBox)) (jI (N:=nBox) rfl rfl Ab) (λcl C fp s H=>jO (i:=0) (show (["t","pot"]:Am).Nodup by decide+kernel) rfl yK) (λcl C fp s H=>jB6 (jY qC (CT.je (hr.mono Ac) gl_b (j4 (jv 1 rfl kL) (j4 (je_int) j9 jN) j6) j6) (je_int) (jR _))) (λcl C fp s H=>(jv 0 rfl jQ)) kR) j9 jL) jL) jW)) kQ)
   (boxB T CT CL hr).2)))⟩
structure St0 (H H2:Hp)(p:Addr)(w:Int)(qm ql:Addr)(mays lf:Ag)(N:Int):Prop where
 hp:H2 p=some (.lst [.int N])
 hN:0<=N
 hm:H2 qm=some (.tup (mays.map V.int))
 rm:Ris w mays
 hl:H2 ql=some (.lst (lf.map V.int))
 rl:Ris w lf
 ne:ql≠p
 kp:Keep H H2 p
def St0.step{H H2 H3:Hp}{p:Addr}{w:Int}{qm ql:Addr}{mays lf:Ag}{N N':Int}(S:St0 H H2 p w qm ql mays lf N)(k:Keep H2 H3 p)(hp:H3 p=some (.lst [.int N']))(hN:0<=N'):St0 H H3 p w qm ql mays lf N':=
 ⟨hp,hN,k qm _ S.hm (ne_of S.hm S.hp (by intro z;cases z)),S.rm,k ql _ S.hl S.ne,S.rl,S.ne,S.kp.trans k⟩
def jP8{w:Int}(h:Ris w lf)(lo hi:Option Int):∃l',cutV (lf.map V.int) lo hi=l'.map V.int/\Ris w l':=by
 refine⟨(lf.drop (HT.sIx lf.length 0 lo)).take (HT.sIx lf.length lf.length hi-HT.sIx lf.length 0 lo),?_,(h.drop _).take _⟩;unfold cutV;rw[ag,lK,List.map_drop]
theorem jI6(T:Txt mg)(CT:Can P w K mg Aq "_law_take" 1 fT fdT ["pot","wide"] yY)(CL:Can P w K mg Aq "_law_lot" 2 fL fdL ["pot","wide"] qN)(hr:Room 2 (XBox P w K mg Aq f mn A mj s H0 E).A)
  {qt:Addr}{w far:Int}
  (S:St0 H H5 p w qm ql mays lf N) (hqp:H5 qp=some (.lst vs)) (hv:PcsAt H5 vs Ar) (hg:∀pc∈Ar,GoodPc w pc) (hqt:H5 qt=some (.tup (ts.map V.int))) (lt:Lot w ts) (hf:far=1\/far=10\/far=2000000000001) (hn:Ar.length<=100) (hH:H qp=none) (hne:ql≠qp) (hpp:p≠qp)
  (nx:∀H6 N' vs' Ar',St0 H H6 p w qm ql mays lf N'->H6 qp=some (.lst vs')->PcsAt H6 vs' Ar'->(∀pc∈Ar',GoodPc w pc)->Ar'.length=Ar.length+1->D.nx [some (.ref p),some (.int mt),some (.int mp),some (.int w),some (.ref qm),some (.ref ql),some (.int far),some (.ref qp),v8,v9,some (.ref qt)] H6):
  (boxI T CT CL hr).1 D [some (.ref p),some (.int mt),some (.int mp),some (.int w),some (.ref qm),some (.ref ql),some (.int far),some (.ref qp),v8,v9,some (.ref qt)] H5:=by
 have hlen:=hv.len;have h64:(0:Int)<far/\far<2^64:=by rcases hf with e|e|e<;>subst e<;>decide
 refine⟨_,rfl,.inl ⟨rfl,_,SqL.of hqp⟩,_,rfl,_,rfl,qp,vs,rfl,.inl (SqL.of hqp),_,_,rfl,rfl,p,N,_,rfl,S.hp,S.hN,Aa,Aa,λN1 i a1 a2 a3=>?_⟩;refine⟨_,rfl,_,rfl,_,rfl,p,N1,far,rfl,j7,a1,h64.1,h64.2,λN2 r b1 b2 b3=>?_⟩;rw[jCL];refine⟨_,rfl,_,_,rfl,rfl,⟨Ac,Ac⟩,_,_,rfl,rfl,(by show 2<=sizeLine;decide),λtq htq=>?_⟩;obtain⟨t1,t2⟩:=yG htq;have ht:tq≠qp:=λe=>by subst e;rw[hqp] at t2;cases t2
 refine⟨qp,vs,i,_,rfl,rfl,by rw[jA ht.symm,jA hpp.symm];exact hqp,a2,Aa,by rw[aJ];lia,?_⟩;have T1:Tups H5 (upd (upd H5 p (.lst [.int N2])) tq (.tup [.ref qt,.int (r-far/2)])):=(Tups.upd S.hp _).trans (Tups.new htq _);have k1:Keep H5 (upd (upd H5 p (.lst [.int N2])) tq (.tup [.ref qt,.int (r-far/2)])) p:=((Keep.refl _ _).upd _).new htq _;have S1:=S.step k1 (by rw[jA t1.symm];exact j7) b1;have hq1:(upd (upd H5 p (.lst [.int N2])) tq (.tup [.ref qt,.int (r-far/2)])) qp=some (.lst vs):=by rw[jA ht.symm,jA hpp.symm];exact hqp
 have T2:=T1.trans (Tups.upd hq1 (.lst (vs.take i.toNat++V.ref tq::vs.drop i.toNat)));have pc:PcAt (upd (upd H5 p (.lst [.int N2])) tq (.tup [.ref qt,.int (r-far/2)])) (.ref tq) (ts,r-far/2):=⟨tq,qt,rfl,j7,T1 _ _ hqt⟩;refine nx _ N2 _ (Ar.take i.toNat++(ts,r-far/2)::Ar.drop i.toNat) ⟨?_,b1,?_,S.rm,?_,S.rl,S.ne,S1.kp.updNew hH _⟩ j7 ?_ ?_ ?_
 .rw[jA hpp];exact S1.hp
 .exact(Tups.upd hq1 _) _ _ S1.hm
 .rw[jA hne];exact S1.hl
 .exact PcsAt.put (pc.mono (Tups.upd hq1 _)) _ (hv.mono T2)
 .intro c hc;rcases aP.mp hc with h|h
  .exact hg c (cQ h)
  .rcases aB.mp h with h|h
   .subst h;refine⟨lt,?_,?_⟩
    .show -1000000000000<=r-far/2;rcases hf with e|e|e<;>subst e<;>lia
    .show r-far/2<=1000000000000;rcases hf with e|e|e<;>subst e<;>lia
   .exact hg c (dj h)
 .rw[aI,aU,bO,gZ];lia
theorem jPI(T:Txt mg)(CT:Can P w K mg Aq "_law_take" 1 fT fdT ["pot","wide"] yY)(CL:Can P w K mg Aq "_law_lot" 2 fL fdL ["pot","wide"] qN)(hr:Room 2 (XBox P w K mg Aq f mn A mj s H0 E).A)
  {w far:Int}
  (S:St0 H H5 p w qm ql mays lf N) (hqp:H5 qp=some (.lst vs)) (hv:PcsAt H5 vs Ar) (hg:∀pc∈Ar,GoodPc w pc) (hf:far=1\/far=10\/far=2000000000001) (hn:Ar.length<=100) (hH:H qp=none) (hpp:p≠qp) (w1:1<=w) (w2:w<=16)
  (nx:∀H6 N' vs' Ar' ql' lf' v9' v10',St0 H H6 p w qm ql' mays lf' N'->ql'≠qp->H6 qp=some (.lst vs')->PcsAt H6 vs' Ar'->(∀pc∈Ar',GoodPc w pc)->Ar'.length=Ar.length+1->D.nx [some (.ref p),some (.int mt),some (.int mp),some (.int w),some (.ref qm),some (.ref ql'),some (.int far),some (.ref qp),v8,v9',v10'] H6):
  (boxL T CT CL hr).1 D [some (.ref p),some (.int mt),some (.int mp),some (.int w),some (.ref qm),some (.ref ql),some (.int far),some (.ref qp),v8,v9,v10] H5:=by
 refine⟨_,rfl,p,N,3,rfl,S.hp,S.hN,Ac,Ac,λN1 r1 a1 a2 a3=>⟨_,_,rfl,rfl,?_⟩⟩;have S1:=S.step ((Keep.refl _ _).upd (.lst [.int N1])) j7 a1;have hq1:(upd H5 p (.lst [.int N1])) qp=some (.lst vs):=by rw[jA hpp.symm];exact hqp
 have hv1:=hv.mono (Tups.upd S.hp (.lst [.int N1]));generalize upd H5 p (.lst [.int N1])=H6 at S1 hq1 hv1 ⊢;clear S hqp hv;obtain⟨l1,e1,g1⟩:=jP8 S1.rl none (some (1+r1));obtain⟨l2,e2,g2⟩:=jP8 S1.rl (some (1+r1)) none;refine⟨_,rfl,_,rfl,1+r1,rfl,ql,_,rfl,SqL.of S1.hl,λx hx=>⟨x,_,rfl,.inl ⟨SqL.of j7,λqt hqt=>?_⟩⟩⟩;rw[e1] at hqt ⊢;have k1:Keep H6 (upd (upd H6 x (.lst (l1.map V.int))) qt (.tup (l1.map V.int))) p:=((Keep.refl _ _).new hx _).new hqt _;obtain⟨t1,t2⟩:=yG hqt;have px:p≠x:=jC S1.hp hx;have pt:p≠qt:=jC S1.hp t2;have qx:qp≠x:=jC hq1 hx;have qq:qp≠qt:=jC hq1 t2;have S2:=S1.step k1 (by rw[jA pt,jA px];exact S1.hp) S1.hN;have hq2:(upd (upd H6 x (.lst (l1.map V.int))) qt (.tup (l1.map V.int))) qp=some (.lst vs):=by rw[jA qq,jA qx];exact hq1
 have hv2:=hv1.mono (k1.tups S1.hp);have ht2:(upd (upd H6 x (.lst (l1.map V.int))) qt (.tup (l1.map V.int))) qt=some (.tup (l1.map V.int)):=j7;generalize upd (upd H6 x (.lst (l1.map V.int))) qt (.tup (l1.map V.int))=H7 at S2 hq2 hv2 ht2 ⊢;clear k1 hqt t2 hx S1 hq1 hv1;refine⟨_,rfl,_,rfl,1+r1,rfl,ql,_,rfl,SqL.of S2.hl,λql' hql=>?_⟩;rw[e2];have pl:p≠ql':=jC S2.hp hql;have k2:Keep H7 (upd H7 ql' (.lst (l2.map V.int))) p:=(Keep.refl _ _).new hql _;have S3':=S2.step k2 (by rw[jA pl];exact S2.hp) S2.hN;have S3:St0 H (upd H7 ql' (.lst (l2.map V.int))) p w qm ql' mays l2 N1:=⟨S3'.hp,S3'.hN,S3'.hm,S3'.rm,j7,g2,pl.symm,S3'.kp⟩;have hne:qp≠ql':=jC hq2 hql;have hq3:(upd H7 ql' (.lst (l2.map V.int))) qp=some (.lst vs):=by rw[jA hne];exact hq2
 have hv3:=hv2.mono (k2.tups S2.hp);have ht3:=k2.tups S2.hp _ _ ht2;generalize upd H7 ql' (.lst (l2.map V.int))=H8 at S3 hq3 hv3 ht3 ⊢;clear k2 S3' S2 hq2 hv2 ht2 hql;refine⟨_,rfl,(by show 0<=sizeLine;exact br _),λz hz=>⟨qt,z,l1.map V.int,rfl,rfl,SqT.of ?_,SqT.of j7,_,rfl,?_⟩⟩
 .rw[jA (jC ht3 hz)];exact ht3
 have pz:p≠z:=jC S3.hp hz;have qz:qp≠z:=jC hq3 hz;have k3:Keep H8 (upd H8 z (.tup [])) p:=(Keep.refl _ _).new hz _;have S4:=S3.step k3 (by rw[jA pz];exact S3.hp) S3.hN;have hq4:(upd H8 z (.tup [])) qp=some (.lst vs):=by rw[jA qz];exact hq3
 have hv4:=hv3.mono (k3.tups S3.hp);have ht4:=k3.tups S3.hp _ _ ht3;generalize upd H8 z (.tup [])=H9 at S4 hq4 hv4 ht4 ⊢;clear k3 S3 hq3 hv3 ht3 hz pz qz;refine ite2 (λhy=>?_) (λhy=>?_)
 .refine⟨_,rfl,_,rfl,p,N1,w,rfl,S4.hp,S4.hN,w1,w2,λq N2 ts H' b1 lt b2 b3 b4=>?_⟩;exact jI6 T CT CL hr (S4.step b4 b3 b1) (b4 _ _ hq4 hpp.symm) (hv4.mono (b4.tups S4.hp)) hg b2 lt hf hn hH hne.symm hpp λH6 N' vs' Ar' z1 z2 z3 z4 z5=>nx H6 N' vs' Ar' ql' l2 _ _ z1 hne.symm z2 z3 z4 z5
 .have nl:l1≠[]:=λe=>hy (ao (by rw[e];rfl));exact jI6 T CT CL hr S4 hq4 hv4 hg ht4 ⟨g1.ris,g1.bnd,nl⟩ hf hn hH hne.symm hpp λH6 N' vs' Ar' z1 z2 z3 z4 z5=>nx H6 N' vs' Ar' ql' l2 _ _ z1 hne.symm z2 z3 z4 z5
def Told(H:Hp)(p:Addr)(mt mp:Int)(R:VK):Prop:=∀(b:Addr) (N' w:Int) (mays:Ag) (Ar:Ae) (H':Hp),0<=N'->H' p=some (.lst [.int N'])->BoxAt H' b w mays Ar->Good mt mp w mays Ar->Keep H H' p->R (.ref b) H'
theorem jI7(T:Txt mg)(CT:Can P w K mg Aq "_law_take" 1 fT fdT ["pot","wide"] yY)(CL:Can P w K mg Aq "_law_lot" 2 fL fdL ["pot","wide"] qN)(hr:Room 2 (XBox P w K mg Aq f mn A mj s H0 E).A)
  {w:Int}
  (S:St0 H H5 p w qm ql mays lf N) (hpH:∃o,H p=some o) (w0:0<=w) (w1:w<=mt) (w2:mt<=16) (n0:0<=mp) (n1:mp<=32) (q:Told H p mt mp D.rt):
  (boxC T CT CL hr).1 D [some (.ref p),some (.int mt),some (.int mp),some (.int w),some (.ref qm),some (.ref ql),v6,v7,v8,v9,v10] H5:=by
 refine⟨(by show 3<=sizeLine;decide),λl hl=>?_⟩;have pl:p≠l:=jC S.hp hl;refine⟨_,rfl,p,N,3,rfl,by rw[jA pl];exact S.hp,S.hN,Ac,Ac,λN1 r a1 a2 a3=>?_⟩;obtain⟨far,hfar,hf⟩:∃far:Int,atI [V.int 1,V.int 10,V.int 2000000000001] r=some (.int far)/\(far=1\/far=10\/far=2000000000001):=by
  rcases (show r=0\/r=1\/r=2 by lia) with e|e|e
  .subst e;exact⟨_,rfl,.inl rfl⟩
  .subst e;exact⟨_,rfl,.inr (.inl rfl)⟩
  .subst e;exact⟨_,rfl,.inr (.inr rfl)⟩
 refine⟨l,_,r,_,rfl,rfl,SqL.of (by rw[jA pl.symm];exact j7),hfar,?_⟩;have S1:=S.step ((((Keep.refl _ _).new hl (.lst [V.int 1,V.int 10,V.int 2000000000001])).upd (.lst [.int N1]))) j7 a1;generalize upd (upd H5 l (.lst [V.int 1,V.int 10,V.int 2000000000001])) p (.lst [.int N1])=H6 at S1 ⊢;clear hl S;refine⟨(by show 0<=sizeLine;exact br _),λqp hqp=>?_⟩;have pq:p≠qp:=jC S1.hp hqp;have hHq:H qp=none:=by
  cases e:H qp with
  |none=>rfl
  |some o=>
   have:=S1.kp _ _ e pq.symm;rw[hqp] at this;cases this
 have lq:ql≠qp:=jC S1.hl hqp;have S2:=S1.step ((Keep.refl _ _).new hqp (.lst [])) (by rw[jA pq];exact S1.hp) S1.hN;have hq2:(upd H6 qp (.lst [])) qp=some (.lst []):=j7;generalize upd H6 qp (.lst [])=H7 at S2 hq2 ⊢;clear hqp S1;refine⟨_,rfl,_,rfl,_,_,rfl,rfl,p,N1,_,rfl,S2.hp,S2.hN,Aa,Aa,λN2 n b1 b2 b3=>?_⟩;refine⟨_,rfl,_,_,rfl,rfl,.inr ⟨_,rfl,_,_,rfl,rfl,.inl ⟨Aa,Aa⟩,_,rfl,?_⟩⟩;have S3:=S2.step ((Keep.refl _ _).upd (.lst [.int N2])) j7 b1;have hq3:(upd H7 p (.lst [.int N2])) qp=some (.lst []):=by rw[jA pq.symm];exact hq2
 generalize upd H7 p (.lst [.int N2])=H8 at S3 hq3 ⊢;clear S2 hq2;obtain⟨m,em,hm,hw⟩:∃m:Int,n*(if decide (0<w)=true then 1 else 0)=m/\(0<=m/\m<=mp)/\(0<m->1<=w):=by
  by_cases h:0<w
  .exact⟨n,by simp[h],⟨b2,Aa⟩,λ_=>h⟩
  .exact⟨0,by simp[h],⟨Aa,n0⟩,λz=>by lia⟩
 show _/\_/\_;rw[show (n*(if decide (0<w)=true then 1 else 0))=m from em];refine⟨Aa,Aa,jEO (n:=m.toNat) (λi σ H5=>∃ql' lf' N' vs Ar v8 v9 v10,σ=[some (.ref p),some (.int mt),some (.int mp),some (.int w),some (.ref qm),some (.ref ql'),some (.int far),some (.ref qp),v8,v9,v10]/\St0 H H5 p w qm ql' mays lf' N'/\ql'≠qp/\H5 qp=some (.lst vs)/\PcsAt H5 vs Ar/\(∀pc∈Ar,GoodPc w pc)/\Ar.length=i) ?_ ?_ ?_⟩
 .exact⟨ql,lf,N2,[],[],_,_,_,rfl,S3,lq,hq3,trivial,(λ_ h=>by cases h),rfl⟩
 .rintro i σ H9 hi ⟨ql',lf',N',vs,Ar,x8,x9,x10,rfl,S4,l4,hq4,hv4,hg4,e4⟩;exact jPI T CT CL hr S4 hq4 hv4 hg4 hf Aa hHq pq (hw Aa) Aa λH6 N' vs' Ar' ql' lf' v9' v10' z1 z2 z3 z4 z5 z6=>⟨ql',lf',N',vs',Ar',_,_,_,rfl,z1,z2,z3,z4,z5,Aa⟩
 .rintro σ H9 ⟨ql',lf',N',vs,Ar,x8,x9,x10,rfl,S4,l4,hq4,hv4,hg4,e4⟩;refine⟨_,rfl,_,rfl,_,rfl,qp,vs,rfl,.inl ⟨SqL.of hq4,λtq htq=>⟨(by show 3<=sizeLine;decide),λb hb=>?_⟩⟩⟩;have k1:Keep H9 (upd H9 tq (.tup vs)) p:=(Keep.refl _ _).new htq _;have k2:Keep H9 (upd (upd H9 tq (.tup vs)) b (.tup [.int w,.ref qm,.ref tq])) p:=k1.new hb _;have tb:=jC j7 hb;have S5:=S4.step k2 (by rw[jA (yG hb |>.2 |> λh=>jC S4.hp h),jA (jC S4.hp htq)];exact S4.hp) S4.hN;exact q b N' w mays Ar _ S4.hN S5.hp ⟨qm,tq,vs,j7,S5.hm,by rw[jA tb];exact j7,hv4.mono (k2.tups S4.hp)⟩ ⟨w0,w1,S4.rm,Aa,hg4⟩ S5.kp
theorem jI8(T:Txt mg)(CT:Can P w K mg Aq "_law_take" 1 fT fdT ["pot","wide"] yY)(CL:Can P w K mg Aq "_law_lot" 2 fL fdL ["pot","wide"] qN)(hr:Room 2 (XBox P w K mg Aq f mn A mj s H0 E).A)
  {w:Int}{v5:Option V}
  (hp:H5 p=some (.lst [.int N])) (hN:0<=N) (hm:H5 qm=some (.tup (mays.map V.int))) (rm:Ris w mays) (kp:Keep H H5 p) (hpH:∃o,H p=some o) (w0:0<=w) (w1:w<=mt) (w2:mt<=16) (n0:0<=mp) (n1:mp<=32) (q:Told H p mt mp D.rt):
  (boxB T CT CL hr).1 D [some (.ref p),some (.int mt),some (.int mp),some (.int w),some (.ref qm),v5,v6,v7,v8,v9,v10] H5:=by
 refine⟨_,rfl,w,rfl,λx hx=>⟨x,w,rfl,j7,w0,Aa,λql hql=>?_⟩⟩;rw[jOS];have px:p≠x:=jC hp hx;have pl:p≠ql:=jC hp (yG hql).2;have k1:Keep H5 (upd (upd H5 x (.rng 0 w)) ql (.lst ((upto w.toNat).map V.int))) p:=((Keep.refl _ _).new hx _).new hql _;have e:((w.toNat:Nat):Int)=w:=Aa;have rl:Ris w (upto w.toNat):=by
  have:=kJ w.toNat;rw[e] at this;exact this
 have S:St0 H (upd (upd H5 x (.rng 0 w)) ql (.lst ((upto w.toNat).map V.int))) p w qm ql mays (upto w.toNat) N:=
  ⟨by rw[jA pl,jA px];exact hp,hN,k1 qm _ hm (ne_of hm hp (by intro z;cases z)),rm,j7,rl,pl.symm,kp.trans k1⟩
 generalize upd (upd H5 x (.rng 0 w)) ql (.lst ((upto w.toNat).map V.int))=H6 at S ⊢;clear k1 hql hx hp hm kp;refine⟨_,rfl,p,N,3,rfl,S.hp,S.hN,Ac,Ac,λN1 r a1 a2 a3=>⟨rfl,_,rfl,?_⟩⟩;have S1:=S.step ((Keep.refl _ _).upd (.lst [.int N1])) j7 a1;generalize upd H6 p (.lst [.int N1])=H7 at S1 ⊢;clear S;refine ite2 (λhy=>?_) (λhy=>?_)
 .refine⟨(by show 0<=sizeLine;exact br _),λl hl=>?_⟩;have pl2:p≠l:=jC S1.hp hl;have S2:=S1.step ((Keep.refl _ _).new hl (.lst [])) (by rw[jA pl2];exact S1.hp) S1.hN;have S3:St0 H (upd H7 l (.lst [])) p w qm l mays [] N1:=⟨S2.hp,S2.hN,S2.hm,S2.rm,j7,Ris.nil w,pl2.symm,S2.kp⟩;exact jI7 T CT CL hr S3 hpH w0 w1 w2 n0 n1 q
 .exact jI7 T CT CL hr S1 hpH w0 w1 w2 n0 n1 q
theorem jPJ(T:Txt mg)(CT:Can P w K mg Aq "_law_take" 1 fT fdT ["pot","wide"] yY)(CL:Can P w K mg Aq "_law_lot" 2 fL fdL ["pot","wide"] qN)(hr:Room 2 (XBox P w K mg Aq f mn A mj s H0 E).A)
  
  (hp:H p=some (.lst [.int N])) (hN:0<=N) (w0:0<=mt) (w2:mt<=16) (n0:0<=mp) (n1:mp<=32) (q:Told H p mt mp D.rt):
  (boxA T CT CL hr).1 D [some (.ref p),some (.int mt),some (.int mp),none,none,none,none,none,none,none,none] H:=by
 refine⟨_,rfl,_,rfl,_,_,rfl,rfl,p,N,_,rfl,hp,hN,Aa,Aa,λN1 w a1 a2 a3=>?_⟩;refine⟨(by show 0<=sizeLine;exact br _),λt ht=>?_⟩;have pt:p≠t:=(yG ht).1.symm;refine⟨_,rfl,p,N1,3,rfl,by rw[jA pt];exact j7,a1,Ac,Ac,λN2 r b1 b2 b3=>⟨rfl,_,rfl,?_⟩⟩;have k1:Keep H (upd (upd (upd H p (.lst [.int N1])) t (.tup [])) p (.lst [.int N2])) p:=(((Keep.refl _ _).upd _).new ht _).upd _;have hp1:(upd (upd (upd H p (.lst [.int N1])) t (.tup [])) p (.lst [.int N2])) p=some (.lst [.int N2]):=j7;have ht1:(upd (upd (upd H p (.lst [.int N1])) t (.tup [])) p (.lst [.int N2])) t=some (.tup []):=by rw[jA pt.symm];exact j7
 generalize upd (upd (upd H p (.lst [.int N1])) t (.tup [])) p (.lst [.int N2])=H1 at k1 hp1 ht1 ⊢;clear ht;refine ite2 (λhy=>?_) (λhy=>?_)
 .refine⟨_,rfl,w,rfl,Aa,Aa,jAI (n:=w.toNat) (by rw[aJ];lia) (λD i σ' H' ys=>(∃v,σ'=[v,some (.ref p)])/\(∃(ms:Ag) (N':Int),ys=ms.map V.int/\ms.length<=i/\Ris i ms/\0<=N'/\H' p=some (.lst [.int N']))/\Keep H1 H' p/\H' D=some (.lst ys)/\D≠p/\H1 D=none) ?_ ?_ ?_ ?_⟩
  .intro D hD;have:p≠D:=jC hp1 hD;exact⟨⟨_,rfl⟩,⟨[],N2,rfl,ar _,Ris.nil _,b1,by rw[jA this];exact hp1⟩,(Keep.refl _ _).new hD _,j7,this.symm,hD⟩
  .rintro D i σ' H' ys hD hi ⟨_,⟨ms,N',rfl,e,_⟩,_,e2,_⟩;exact⟨e2,by rw[ag];exact e⟩
  .rintro D i σ' H' ys hD hi ⟨⟨v,rfl⟩,⟨ms,N',rfl,e,rs,n',hp'⟩,kk,e2,dp,hn⟩;refine⟨_,rfl,p,N',3,rfl,hp',n',Ac,Ac,λN3 r3 c1 c2 c3=>⟨rfl,_,rfl,?_⟩⟩;have k2:Keep H1 (upd H' p (.lst [.int N3])) p:=kk.upd _;have e3:(upd H' p (.lst [.int N3])) D=some (.lst (ms.map V.int)):=by rw[jA dp];exact e2
   have hp3:(upd H' p (.lst [.int N3])) p=some (.lst [.int N3]):=j7;generalize upd H' p (.lst [.int N3])=H'' at k2 e3 hp3 ⊢;refine ite2 (λhz=>?_) (λhz=>?_)
   .refine⟨_,rfl,e3,⟨_,rfl⟩,⟨ms++[(i:Int)],N3,?_,?_,rs.snoc,c1,by rw[jA dp.symm];exact hp3⟩,k2.updNew hn _,j7,dp,hn⟩
    .rw[aW];show _++[V.int (0+(i:Int))]=_++[V.int (i:Int)];rw[fq]
    .rw[aI];show ms.length+1<=i+1;lia
   .exact⟨⟨_,rfl⟩,⟨ms,N3,rfl,Aa,rs.step,c1,hp3⟩,k2,e3,dp,hn⟩
  .rintro D σ' H' ys hD ⟨_,⟨ms,N',rfl,e,rs,n',hp'⟩,kk,e2,dp,hn⟩;refine⟨D,_,rfl,.inl ⟨SqL.of e2,λqm hqm=>?_⟩⟩;have pm:p≠qm:=jC hp' hqm;have e':((w.toNat:Nat):Int)=w:=Aa;rw[e'] at rs;exact jI8 T CT CL hr (by rw[jA pm];exact hp') n' j7 rs ((k1.trans kk).new hqm _) ⟨_,hp⟩ a2 Aa w2 n0 n1 q
 .exact jI8 T CT CL hr hp1 b1 (mays:=[]) ht1 (Ris.nil w) k1 ⟨_,hp⟩ a2 Aa w2 n0 n1 q
def jW7(F:Fun K "_law_box" "_law_box" sBox f fd)(T:Txt mg)(CT:Can P w K mg Aq "_law_take" 1 fT fdT ["pot","wide"] yY)(CL:Can P w K mg Aq "_law_lot" 2 fL fdL ["pot","wide"] qN):
  FnOk P w K mg Aq CX0 3 f fd ["pot","most_things","most_pieces"] spBox:=by
 refine F.ok scBox (λvs H Q E h=>?_) (λmn A mj s H vs Q E hr h=>?_)
 .obtain⟨_,_,_,_,rfl,_⟩:=h;rfl
 .obtain⟨p,N,mt,mp,rfl,hp,hN,m0,m1,n0,n1,q⟩:=h;exact⟨_,(boxA T CT CL hr).2.h,jPJ T CT CL hr hp hN m0 m1 n0 n1 q⟩
inductive Ob where
 |int (i:Int)
 |oth
 |tup (os:List Ob)
def OthAt(H:Hp)(v:V):Prop:=v=.non\/(∃b,v=.bl b)\/(∃x,v=.str x)\/∃a,v=.ref a/\((∃xs,H a=some (.lst xs))\/∃kvs,H a=some (.dK kvs))
mutual
def At(H:Hp):Ob->V->Prop
 | .int i,v=>v=.int i
 | .oth,v=>OthAt H v
 | .tup os,v=>∃a vs,v=.ref a/\H a=some (.tup vs)/\vs.length<=100/\Ats H os vs
def Ats(H:Hp):List Ob->List V->Prop
 |[],vs=>vs=[]
 |o::os,vs=>∃v r,vs=v::r/\At H o v/\Ats H os r
end
structure Kp (H H':Hp):Prop where
 t:Tups H H'
 l:∀a xs,H a=some (.lst xs)->∃ys,H' a=some (.lst ys)
 d:∀a xs,H a=some (.dK xs)->∃ys,H' a=some (.dK ys)
def Kp.of{H H':Hp}(e:Ext H H'):Kp H H':=⟨λb xs h=>e b _ h,λa xs h=>⟨xs,e a _ h⟩,λa xs h=>⟨xs,e a _ h⟩⟩
def OthAt.mono(k:Kp H H')(h:OthAt H v):OthAt H' v:=by
 rcases h with h|h|h|⟨a,rfl,⟨xs,h⟩|⟨xs,h⟩⟩
 .exact .inl h
 .exact .inr (.inl h)
 .exact .inr (.inr (.inl h))
 .exact .inr (.inr (.inr ⟨a,rfl,.inl (k.l _ _ h)⟩))
 .exact .inr (.inr (.inr ⟨a,rfl,.inr (k.d _ _ h)⟩))
mutual
def At.mono{H H':Hp}(k:Kp H H'):∀(o:Ob) (v:V),At H o v->At H' o v
 | .int _,_,h=>h
 | .oth,_,h=>OthAt.mono k h
 | .tup os,_,⟨a,vs,e,h,n,r⟩=>⟨a,vs,e,k.t _ _ h,n,Ats.mono k os vs r⟩
def Ats.mono{H H':Hp}(k:Kp H H'):∀(os:List Ob) (vs:List V),Ats H os vs->Ats H' os vs
 |[],_,h=>h
 |o::os,_,⟨v,r,e,h,t⟩=>⟨v,r,e,At.mono k o v h,Ats.mono k os r t⟩
end
variable {o:Ob}
def At.ext(e:Ext H H')(h:At H o v):At H' o v:=At.mono (.of e) o v h
def Ats.len:∀{os:List Ob}{vs:List V},Ats H os vs->vs.length=os.length
 |[],_,h=>by cases (show _=[] from h);rfl
 |o::os,_,⟨v,r,e,h,t⟩=>by rw[e,aU,aU,Ats.len t]
def Ats.get{H:Hp}:∀{os:List Ob}{vs:List V},Ats H os vs->∀{i:Nat}{v:V},vs[i]?=some v->∃o,os[i]?=some o/\At H o v
 |[],_,h,i,v,e=>by cases (show _=[] from h);cases e
 |o::os,_,⟨v,r,e,h,t⟩,0,v',e'=>by subst e;cases e';exact⟨o,rfl,h⟩
 |o::os,_,⟨v,r,e,h,t⟩,i+1,v',e'=>by subst e;exact Ats.get t (i:=i) e'
def Ats.ints:∀(l:Ag),Ats H (l.map Ob.int) (l.map V.int)
 |[]=>rfl
 |i::r=>⟨.int i,_,rfl,rfl,Ats.ints r⟩
def isInt:Ob->Bool
 | .int _=>true
 |_=>false
def isTup:Ob->Bool
 | .tup _=>true
 |_=>false
def upB(lo hi:Int):Ob->Bool
 | .int i=>decide (lo<=i)&&decide (i<=hi)
 |_=>false
def val:Ob->Int
 | .int i=>i
 |_=>0
def adj(is:Ag):List Bool:=(List.range (is.length-1)).map λk=>decide (is.getD k 0<is.getD (k+1) 0)
noncomputable def risB:Ob->Bool
 | .tup os=>os.all isInt&&(adj (os.map val)).all id
 |_=>false
noncomputable def lotB(w:Int):Ob->Bool
 | .tup os=>os.all (upB 0 (w-1))&&(adj (os.map val)).all id
 |_=>false
noncomputable def lotB'(w:Int)(o:Ob):Bool:=risB o&&match o with
 | .tup os=>decide (os=[]) || (decide (0<=(os.map val).getD 0 0)&&decide ((os.map val).getLastD 0<w))
 |_=>false
theorem jUX{is:Ag}(h:(adj is).all id=true){k:Nat}(hk:k+1<is.length):is.getD k 0<is.getD (k+1) 0:=by
 rw[ck] at h;exact aL (h _ (aZ.mpr ⟨k,bI.mpr Aa,rfl⟩))
theorem jPQ{is:Ag}(h:(adj is).all id=true):∀(j k:Nat),j<=k->k<is.length->is.getD j 0<=is.getD k 0
 |j,0,h1,_=>by
  have:j=0:=by lia
  subst this;exact dR _
 |j,k+1,h1,h2=>by
  rcases fo k j with q|q
  .have:j=k+1:=by lia
   subst this;exact dR _
  .have a:=jPQ h j k q Aa;have b:=jUX h h2;lia
theorem jWF(w:Int)(o:Ob):lotB' w o=lotB w o:=by
 cases o with
 |int i=>rfl
 |oth=>rfl
 |tup os=>
  rw[cj];unfold lotB' risB lotB;simp only[bJ,ir,jc];constructor
  .rintro ⟨⟨a,b⟩,c⟩;refine⟨?_,b⟩;rw[ck] at a ⊢;intro x hx;obtain⟨j,hj,rfl⟩:=eU hx;have hi:=a _ hx;have e:os≠[]:=λe=>by subst e;cases hx
   obtain⟨c1,c2⟩:=c.resolve_left e;have hl:(os.map val).length=os.length:=ag _;have g:(os.map val).getD j 0=val os[j]:=by
    rw[aG,aX];simp[hj]
   have l1:=jPQ b 0 j Aa Aa;have l2:=jPQ b j (os.length-1) Aa Aa;have l3:(os.map val).getLastD 0=(os.map val).getD (os.length-1) 0:=by
    rw[gh,gj,aG,hl]
   rw[g] at l1 l2;rw[l3] at c2;cases e2:os[j] with
   |int i=>
    rw[e2] at l1 l2;simp only[val] at l1 l2;simp only[upB,bJ,jc];lia
   |oth=>rw[e2] at hi;cases hi
   |tup r=>rw[e2] at hi;cases hi
  .rintro ⟨a,b⟩;rw[ck] at a;refine⟨⟨?_,b⟩,?_⟩
   .rw[ck];intro x hx;have:=a x hx;cases x with
    |int i=>rfl
    |oth=>cases this
    |tup r=>cases this
   .by_cases e:os=[]
    .exact .inl e
    .refine .inr ?_;have key:∀j,j<os.length->0<=(os.map val).getD j 0/\(os.map val).getD j 0<w:=λj hj=>by
      have g:(os.map val).getD j 0=val os[j]:=by
       rw[aG,aX];simp[hj]
      have:=a os[j] (dq hj);rw[g];cases e2:os[j] with
      |int i=>
       rw[e2] at this;simp only[upB,bJ,jc] at this;simp only[val];lia
      |oth=>rw[e2] at this;cases this
      |tup r=>rw[e2] at this;cases this
     have hpos:0<os.length:=by
      cases os with
      |nil=>exact absurd rfl e
      |cons _ _=>simp
     have l3:(os.map val).getLastD 0=(os.map val).getD (os.length-1) 0:=by
      rw[gh,gj,aG,ag]
     rw[l3];exact⟨(key 0 hpos).1,(key (os.length-1) Aa).2⟩
def Ats.allInt:∀{os:List Ob}{vs:List V},Ats H os vs->os.all isInt=true->vs=(os.map val).map V.int
 |[],_,h,_=>by cases (show _=[] from h);rfl
 |o::os,_,⟨v,r,e,h,t⟩,ha=>by
  rw[jh,bJ] at ha;subst e;rw[bg,bg,<- Ats.allInt t ha.2];cases o with
  |int i=>cases (show v=.int i from h);rfl
  |oth=>cases ha.1
  |tup _=>cases ha.1
def jX6(l:List Ob)(F:Ob->Bool):(l.map F).all id=l.all F:=by
 rw[jz];rfl
def jUW(is:Ag):(adj is).length=is.length-1:=by
 unfold adj;rw[ag,b7]
theorem jX7{is:Ag}{k:Nat}(h:k<is.length-1):(adj is)[k]?=some (decide (is.getD k 0<is.getD (k+1) 0)):=by
 unfold adj;rw[aX,dD h];rfl
theorem jRK{is:Ag}{k:Nat}(h:k<is.length-1):(adj is).take (k+1)=(adj is).take k++[decide (is.getD k 0<is.getD (k+1) 0)]:=by
 rw[bv,jX7 h];rfl
def getI{is:Ag}{k:Nat}(h:k<is.length):(is.map V.int)[k]?=some (.int (is.getD k 0)):=by
 rw[aX,aG];simp[h]
def At.ty(K:W.Frag)(h:At H o v):∃t,TyOf K H v t/\kitOne K t (.type "tuple")=some (isTup o)/\∃b1 b2,kitOne K t (.type "int")=some b1/\kitOne K t (.type "bool")=some b2/\(b1&&!b2)=isInt o:=by
 cases o with
 |int i=>
  cases (show v=.int i from h);exact⟨_,.int i,rfl,true,false,rfl,rfl,rfl⟩
 |oth=>
  rcases (show OthAt H v from h) with rfl|⟨b,rfl⟩|⟨x,rfl⟩|⟨a,rfl,⟨xs,e⟩|⟨xs,e⟩⟩
  .exact⟨_,.non,rfl,false,false,rfl,rfl,rfl⟩
  .exact⟨_,.bl b,rfl,true,true,rfl,rfl,rfl⟩
  .exact⟨_,.str x,rfl,false,false,rfl,rfl,rfl⟩
  .exact⟨_,.lst e,rfl,false,false,rfl,rfl,rfl⟩
  .exact⟨_,.dK e,rfl,false,false,rfl,rfl,rfl⟩
 |tup os=>
  obtain⟨a,vs,rfl,e,_⟩:=h;exact⟨_,.tup e,rfl,false,false,rfl,rfl,rfl⟩
def At.tupOf(h:At H o v)(t:isTup o=true):∃os a vs,o=.tup os/\v=.ref a/\H a=some (.tup vs)/\vs.length<=100/\Ats H os vs:=by
 cases o with
 |int i=>cases t
 |oth=>cases t
 |tup os=>
  obtain⟨a,vs,e1,e2,e4,e3⟩:=h;exact⟨os,a,vs,rfl,e1,e2,e4,e3⟩
theorem jP9{K:W.Frag}{m:List (Option Nat)}{g:TG}{tt:TT}{te:TE}{σ:St}{H1:Hp}{Q:VK}{a:Addr}{xs:List V}{os:List Ob}{F:Ob->Bool}(ha:H1 a=some (.tup xs))(hx:Ats H1 os xs)(hn:xs.length<sizeLine)(σP:St->Prop)(h0:σP (blkσ m σ))
  (step:∀(σ':St) (H':Hp) (v:V) (o:Ob) (R:St->V->Hp->Prop) (S:St->Hp->Prop),σP σ'->Ext H1 H'->At H' o v->(∀σ2 H'',σP σ2->Ext H' H''->R σ2 (.bl (F o)) H'')->g v σ' H' λσ2 H2=>tt σ2 H2 λb H3=>if b=true then te σ2 H3 (R σ2) else S σ2 H3)
  (hd:∀D H',Ext H1 H'->H' D=some (.lst ((os.map F).map V.bl))->Q (.ref D) H'):qK m g tt te σ Q (Itt K a) H1:=by
 have hl:=hx.len;refine jBK (xs:=xs) hn (λD i σ' H' zs=>σP σ'/\Ext H1 H'/\H' D=some (.lst zs)/\H1 D=none/\zs=((os.take i).map F).map V.bl) ?_ ?_ ?_ ?_
 .intro D hD;exact⟨h0,(Ext.refl _).new hD _,j7,hD,rfl⟩
 .rintro D i σ' H' zs hD ⟨_,e,h2,_,rfl⟩;refine⟨e _ _ ha,h2,?_⟩;rw[ag,ag,bO];lia
 .rintro D i σ' H' zs x hD hi ⟨p,e,h2,hn,rfl⟩;obtain⟨o,ho,hAt⟩:=hx.get hi;refine step σ' H' x o _ _ p e (hAt.ext e) λσ2 H'' p2 e2=>⟨e2 _ _ h2,p2,(e.trans e2).updNew hn _,j7,hn,?_⟩;have:os.take (i+1)=os.take i++[o]:=by
   rw[bv,ho];rfl
  rw[this,aW,aW];rfl
 .rintro D σ' H' zs hD ⟨_,e,h2,_,rfl⟩;rw[hl,bK] at h2;exact hd D H' e h2
noncomputable abbrev XOf(N:Am)(q:Str)(st:Stmt)(P:Program)(w:World)(K:W.Frag)(mg:Ak)(Aq:Heap)(f:Addr)(mn:Value)(A:Around)(mj:List Env)(s:Shared)(H:Hp)(E:XK):Cx:=(cxOf CX0 P w K mg Aq N q (j8 st) f mn A mj s H E).nox
abbrev jNP:Am:=["thing"]
def scWhole0:FnScope jNP ["thing"] (j8 jBN):= {}
def spWh:Sp:=λvs H Q _=>∃v o,vs=[v]/\At H o v/\Q (.bl (isInt o)) H
def jSS(T:Txt mg): {t:TS // JSs (XOf jNP "is_whole" jBN P w K mg Aq f mn A mj s H0 E) (jE jBN) t}:=
 have nd:=scWhole0.nd
 ⟨_,(jF (jU ((jKW (jH jAH gD T.isinstance Ab (j4 (jv 0 rfl vL) (j4 (jCU (v:=.ty "int") gD T.int Ab rfl) j9 j6) j6) j6) (jKR (jSH (jH jAH gD T.isinstance Ab (j4 (jv 0 rfl vL) (j4 (jCU (v:=.ty "bool") gD T.bool Ab rfl) j9 j6) j6) j6)))))))⟩
def jNC(F:Fun K "is_whole" "is_whole" jBN f fd)(T:Txt mg):FnOk P w K mg Aq CX0 1 f fd ["thing"] spWh:=by
 refine F.ok scWhole0 (λvs H Q E h=>?_) (λmn A mj s H vs Q E hr h=>?_)
 .obtain⟨_,_,rfl,_⟩:=h;rfl
 .obtain⟨v,o,rfl,hA,q⟩:=h;obtain⟨t,ty,_,b1,b2,k1,k2,e⟩:=hA.ty K;refine⟨_,(jSS T).2.h,?_⟩;refine⟨_,rfl,_,_,_,b1,rfl,ty,k1,b1,rfl,?_⟩;rw[<- e] at q;cases b1 with
  |true=>exact iteT ⟨_,rfl,_,_,_,b2,rfl,ty,k2,b2,rfl,q⟩
  |false=>exact iteF q
abbrev jE7:Am:=["thing"]
def scRising:FnScope jE7 ["thing"] (j8 jAK):= {}
def spB(F:Ob->Bool):Sp:=λvs H Q _=>∃v o,vs=[v]/\At H o v/\∀H',Ext H H'->Q (.bl (F o)) H'
def jSY(T:Txt mg)(CW:Can P w K mg Aq "is_whole" 1 fW fdW ["thing"] spWh)(hr:Room 1 (XOf jE7 "is_rising" jAK P w K mg Aq f mn A mj s H0 E).A): {t:TS // JSs (XOf jE7 "is_rising" jAK P w K mg Aq f mn A mj s H0 E) (jE jAK) t}:=
 have nd:=scRising.nd
 ⟨_,(jD (yT (jEH (jC9 (jH jAH gD T.isinstance Ab (j4 (jv 0 rfl vC) (j4 (jCU (v:=.ty "tuple") gD T.tuple Ab rfl) j9 j6) j6) j6) jAS)) (jF (jU (je_bl))) kQ)
   (jD (yT (jEH (jC9 (jH (jCF rfl) gD T.all Ab (j4 (kO (m:=[none]) (Nc:=["number"]) rfl (jDD (jv 0 rfl vC)) rfl Ab Ab (jK (psc:=j8 jAK)) (jI (N:=jE7) rfl rfl Ab) (λcl C fp s H=>jO (i:=0) (show (["number"]:Am).Nodup by decide+kernel) rfl yK) (λcl C fp s H=>y4) (λcl C fp s H=>(CW.je hr gl_b (j4 (jv 0 rfl jQ) j9 j6) j6)) qB) j9 jL) jL) jAS)) (jF (jU (je_bl))) kQ)
   (jF (jU (jH (jCF rfl) gD T.all Ab (j4 (kO (m:=[none,some 0]) (Nc:=["k","thing"]) rfl (jOI gD T.range (j4 (je_int) (j4 (jH jA0 gD T.len Ab (j4 (jv 0 rfl vC) j9 j6) j6) j9 jG) jN) jN jG) rfl Ab Ab (jK (psc:=j8 jAK)) (jI (N:=jE7) rfl rfl Ab) (λcl C fp s H=>jO (i:=0) (show (["k","thing"]:Am).Nodup by decide+kernel) rfl yK) (λcl C fp s H=>y4) (λcl C fp s H=>(yA op_lt (kD yI (jv 1 rfl kL) (kW jD9 (jv 0 rfl jQ) (je_int)) jS1) (kD yI (jv 1 rfl kL) (jv 0 rfl jQ) jCQ) (jR _))) kR) j9 jL) jL)))))⟩
theorem jND(F:Fun K "is_rising" "is_rising" jAK f fd)(T:Txt mg)(CW:Can P w K mg Aq "is_whole" 1 fW fdW ["thing"] spWh):FnOk P w K mg Aq CX0 2 f fd ["thing"] (spB risB):=by
 refine F.ok scRising (λvs H Q E h=>?_) (λmn A mj s H vs Q E hr h=>?_)
 .obtain⟨_,_,rfl,_⟩:=h;rfl
 .obtain⟨v,o,rfl,hA,q⟩:=h;obtain⟨t,ty,kt,_⟩:=hA.ty K;refine⟨_,(jSY T CW hr).2.h,?_⟩;refine⟨_,rfl,_,_,_,_,rfl,ty,kt,_,rfl,?_⟩;cases ht:isTup o with
  |false=>
   refine iteT ?_;have:risB o=false:=by cases o<;>first|rfl|cases ht
   rw[<- this];exact q H (Ext.refl H)
  |true=>
   refine iteF ?_;obtain⟨os,a,vs,rfl,rfl,ha,h100,hx⟩:=hA.tupOf ht;have hl:=hx.len;have hn:vs.length<sizeLine:=by rw[aJ];lia
   .refine⟨_,rfl,a,rfl,⟨_,SqT.of ha⟩,jP9 (F:=isInt) ha hx hn (λσ'=>∃v,σ'=[v]) ⟨_,rfl⟩ ?_ ?_⟩
    .rintro σ' H' v o R S ⟨u,rfl⟩ e hA k;dsimp only[kX,yR];rw[aA rfl];exact⟨_,rfl,v,o,rfl,hA,k _ H' ⟨_,rfl⟩ (Ext.refl _)⟩
    .intro D H1 e1 hD;refine⟨D,_,rfl,SqL.of hD,_,rfl,?_⟩;rw[jX6];cases hi:os.all isInt with
     |false=>
      refine iteT ?_;have:risB (.tup os)=false:=by
       show (os.all isInt&&_)=false;rw[hi];rfl
      rw[<- this];exact q H1 e1
     |true=>
      refine iteF ?_;have hv:=hx.allInt hi;have hN:(os.map val).length=os.length:=ag _;refine⟨_,rfl,a,_,rfl,.inr (SqT.of (e1 _ _ ha)),1,_,rfl,⟨Ac,Ac,Aa,by rw[aJ] at hn;lia⟩,jAI (n:=((vs.length:Int)-1).toNat) Aa (λD i σ' H' zs=>(∃v,σ'=[v,some (.ref a)])/\zs=((adj (os.map val)).take i).map V.bl/\H'=upd H1 D (.lst zs)) ?_ ?_ ?_ ?_⟩
      .intro D hD;exact⟨⟨_,rfl⟩,rfl,rfl⟩
      .rintro D i σ' H' zs hD hi2 ⟨_,rfl,rfl⟩;refine⟨j7,?_⟩;rw[ag,bO];lia
      .rintro D i σ' H' zs hD hi2 ⟨⟨v,rfl⟩,rfl,rfl⟩;have hi3:i<(os.map val).length-1:=Aa;have ha':(upd H1 D (.lst (((adj (os.map val)).take i).map V.bl))) a=some (.tup ((os.map val).map V.int)):=by
        rw[jA (jC (e1 _ _ ha) hD),e1 _ _ ha,hv]
       dsimp only[kX,yR];rw[aA rfl];have e0:(1+(i:Int))-1=(i:Int):=Aa;have e2:(1+(i:Int))=((i+1:Nat):Int):=Aa;refine⟨_,rfl,_,rfl,_,_,rfl,rfl,a,_,_,_,rfl,rfl,SqT.of ha',by rw[e0];exact jAN (getI Aa),_,rfl,_,rfl,a,_,_,_,rfl,rfl,SqT.of ha',by rw[e2];exact jAN (getI Aa),_,_,rfl,rfl,j7,⟨_,rfl⟩,?_,jCL⟩;rw[jRK hi3,aW];rfl
      .rintro D2 σ' H' zs hD2 ⟨_,rfl,rfl⟩;have hlen:((vs.length:Int)-1).toNat=(adj (os.map val)).length:=by rw[jUW];lia
       rw[hlen,bK];refine⟨D2,_,rfl,SqL.of j7,?_⟩;have:(adj (os.map val)).all id=risB (.tup os):=by
        show _=(os.all isInt&&(adj (os.map val)).all id);rw[hi,jl]
       rw[this];exact q _ (e1.new hD2 _)
end Eo
namespace L2
open PySem
def px_un{op:UnaryOp}{a:Expr}{pos:Pos}:jB1 (.UnaryOp op a pos):=λ_ _=>rfl
theorem jUT{α:Type}{xs:List α}{v:α}(h:xs[xs.length-1]?=some v):atI xs (-1)=some v:=by
 have hj:xs.length-1<xs.length:=(am.mp h).1;have e:ixN xs.length (-1)=some (xs.length-1):=by
  unfold ixN;rw[az Aa,aA Aa];congr 1;lia
 unfold atI;rw[e];exact h
def qb{Q:VK}{H:Hp}{a b:Bool}(q:Q (.bl a) H)(e:a=b):Q (.bl b) H:=e ▸ q
end L2
namespace Eo
open PySem L2
section
variable {fI fPs:Addr}{fdI fdPs:FuncData}
abbrev jNR:Am:=["thing","many"]
def scIsLot:FnScope jNR ["thing","many"] (j8 jD6):= {}
def spB2(F:Int->Ob->Bool):Sp:=λvs H Q _=>∃v o w,vs=[v,.int w]/\At H o v/\∀H',Ext H H'->Q (.bl (F w o)) H'
def jWV(T:Txt mg)(CR:Can P w K mg Aq "is_rising" 2 fR fdR ["thing"] (spB risB))(hr:Room 2 (XOf jNR "is_lot" jD6 P w K mg Aq f mn A mj s H0 E).A): {t:TS // JSs (XOf jNR "is_lot" jD6 P w K mg Aq f mn A mj s H0 E) (jE jD6) t}:=
 have nd:=scIsLot.nd
 ⟨_,(jD (yT (jEH (jC9 (CR.je hr gD (j4 (jv 0 rfl vL) j9 j6) j6) jAS)) (jF (jU (je_bl))) kQ)
   (jF (jU ((je_or (yA qC (jH jA0 gD T.len Ab (j4 (jv 0 rfl vL) j9 j6) j6) (je_int) (jR _)) (jKR ((jKW (yA op_ge (kD kP (jv 0 rfl vL) (je_int) jJ) (je_int) (jR _)) (jKR (yA op_lt (kD kP (jv 0 rfl vL) (je_un jRO (je_int)) px_un) (jv 1 rfl vL) (jR _)))))))))))⟩
theorem jQK{fd:FuncData}(F:Fun K "is_lot" "is_lot" jD6 f fd)(T:Txt mg)(CR:Can P w K mg Aq "is_rising" 2 fR fdR ["thing"] (spB risB)):FnOk P w K mg Aq CX0 3 f fd ["thing","many"] (spB2 lotB):=by
 refine F.ok scIsLot (λvs H Q E h=>?_) (λmn A mj s H vs Q E hr h=>?_)
 .obtain⟨_,_,_,rfl,_⟩:=h;rfl
 .obtain⟨v,o,w,rfl,hA,q⟩:=h;refine⟨_,(jWV T CR hr).2.h,?_⟩;refine⟨_,rfl,v,o,rfl,hA,λH1 e1=>⟨_,rfl,?_⟩⟩;have eq:=jWF w o;cases hR:risB o with
  |false=>
   refine iteT (qb (q H1 e1) ?_);rw[<- eq];unfold lotB';rw[hR];rfl
  |true=>
   refine iteF ?_;have ht:isTup o=true:=by cases o<;>first|rfl|cases hR
   obtain⟨os,a,vs,rfl,rfl,ha,h100,hx⟩:=hA.tupOf ht;have hl:=hx.len;have hi:os.all isInt=true:=by
    have:(os.all isInt&&(adj (os.map val)).all id)=true:=hR;rw[bJ] at this;exact this.1
   have hv:=hx.allInt hi;have ha1:=e1 _ _ ha;refine⟨_,rfl,a,_,rfl,.inr (SqT.of ha1),rfl,_,rfl,ite2 (λhy=>?_) (λhy=>?_)⟩
   .have h0:=V.int.inj (aL hy);have e0:os=[]:=gG.mp Aa;refine qb (q H1 e1) ?_;rw[<- eq];unfold lotB';rw[hR];simp[e0]
   .have h0:0<vs.length:=Nat.pos_of_ne_zero λh=>hy (ao (by rw[h];rfl));have hml:(os.map val).length=vs.length:=by rw[ag,hl]
    refine⟨_,rfl,a,_,0,.int ((os.map val).getD 0 0),rfl,rfl,SqT.of ha1,?_,_,_,rfl,rfl,_,rfl,ite2 (λhz=>?_) (λhz=>?_)⟩
    .rw[hv];exact jAN (j:=0) (getI Aa)
    .refine⟨_,rfl,_,rfl,a,_,_,.int ((os.map val).getLastD 0),rfl,rfl,SqT.of ha1,?_,_,rfl,_,_,rfl,rfl,qb (q H1 e1) ?_⟩
     .show atI vs (-1)=_;refine jUT ?_;rw[hv,ag,getI Aa,gh,gj,aG]
     .rw[<- eq];unfold lotB';rw[hR];have e0:¬os=[]:=λe=>by rw[e] at hl;have:vs.length=0:=hl;lia
      have hz:=aL hz;simp[e0];intro hh;simpa using hz
    .refine qb (q H1 e1) ?_;rw[<- eq];unfold lotB';rw[hR];have e0:¬os=[]:=λe=>by rw[e] at hl;have:vs.length=0:=hl;lia
     have hz:¬(0<=(os.map val).getD 0 0):=λh=>hz (ao h);simp only[e0,decide_false,jk,jl,aK hz,gI]
end
end Eo
namespace L2
open PySem
section
variable {P:Program}{w:World}{K:W.Frag}{mg:Ak}{Aq:Heap}{N:Am}{qual:Str}{sc:Scope}{f:Addr}{mn:Value}{A:Around}{mj:List Env}{s:Shared}{H:Hp}{E:XK}{x y z:Str}{p1 p2 p3 pos:Pos}{k i j l:Nat}
def jGJ(hN:N.Nodup)(hi:N[i]?=some x)(hj:N[j]?=some y)(hx:sc.names.lookup x=some .local)(hy:sc.names.lookup y=some .local):
  JG (cxOf CX0 P w K mg Aq N qual sc f mn A mj s H E).nox (.Tuple [.Name x p1,.Name y p2] k pos) (gTup K 2 (gCons (kX i) (gCons (kX j) gNil))):=
 jSG (X:=(cxOf CX0 P w K mg Aq N qual sc f mn A mj s H E).nox) rfl (jBI (jO hN hi (loc_l hx)) (jBI (jO hN hj (loc_l hy)) jJ9 jD2) jD2)
end
section
variable {K:W.Frag}{m:List (Option Nat)}{g:TG}{tt:TT}{te:TE}{σ:St}{H1:Hp}{Q:VK}
end
end L2
namespace Eo
open PySem L2
variable {ts lot:Ag}{i n:Nat}{H:Hp}{p:Int->Bool}{fd:FuncData}{vs:List V}{α:Type}{t:Int}
def jJD{l:List α}{d:α}(h:i<l.length):l.getD i d=l[i]:=by
 rw[aG,aF h];rfl
def jAG(l:Ag):(l.map V.int).all flatV=true:=by
 rw[ck];intro x hx;obtain⟨i,_,rfl⟩:=aZ.mp hx;rfl
theorem jB0(i:Int)(l:Ag):inV (.int i) (l.map V.int)=decide (i∈l):=by
 unfold inV;rw[cj,dJ,bz];constructor
 .rintro ⟨x,hx,e⟩;obtain⟨j,hj,rfl⟩:=aZ.mp hx;have:j=i:=eq_of_beq e;rw[<- this];exact hj
 .intro h;exact⟨.int i,aZ.mpr ⟨i,h,rfl⟩,by simp[eqV]⟩
theorem jB5:∀(ts:Ag) (lo w:Int),ts.Pairwise (· < ·)->(∀z∈ts,lo<=z/\z<w)->(ts.length:Int)<=max (w-lo) 0
 |[],lo,w,_,_=>by show (0:Int)<=_;lia
 |a::r,lo,w,hp,hb=>by
  have h1:=hb a ai;have hp':=dh.mp hp;have:=jB5 r (a+1) w hp'.2 λz hz=>⟨by have:=hp'.1 z hz;lia,(hb z (ah _ hz)).2⟩;rw[aU];lia
def jB(Ar:Ae)(k:Int):Ag:=(Ar.getD k.toNat ([],0)).1
def PcsAt.get{H:Hp}:∀{vs:List V}{ps:Ae},PcsAt H vs ps->∀{k:Nat},k<ps.length->∃v,vs[k]?=some v/\PcAt H v (ps.getD k ([],0))
 |v::vs,p::ps,h,0,_=>⟨v,rfl,h.1⟩
 |v::vs,p::ps,h,k+1,hk=>PcsAt.get h.2 (k:=k) (by simpa using hk)
 |[],[],_,k,hk=>absurd hk (eD _)
 |[],_::_,h,_,_=>h.elim
 |_::_,[],h,_,_=>h.elim
def Good.at{mt mp w:Int}{ms:Ag}{Ar:Ae}(g:Good mt mp w ms Ar){k:Nat}(hk:k<Ar.length):GoodPc w (Ar.getD k ([],0)):=by
 have e:Ar.getD k ([],0)=Ar[k]:=by simp[List.getD,hk]
 rw[e];exact g.pg _ (dq hk)
theorem jBW(h:i<n):(upto n).take (i+1)=(upto n).take i++[(i:Int)]:=by
 unfold upto;rw[<- lK,<- lK,List.take_range,List.take_range,show min (i+1) n=i+1 by lia,show min i n=i by lia,gw,aW];rfl
def jA8(n:Nat):(upto n).length=n:=by
 unfold upto;rw[ag,b7]
def jFV{n i:Nat}(h:i<n):(upto n)[i]?=some (i:Int):=by
 unfold upto;rw[aX,dD h];rfl
def jX3{os:List Ob}(h:H a=some (.tup vs))(n:vs.length<=100)(r:Ats H os vs):At H (.tup os) (.ref a):=⟨a,vs,rfl,h,n,r⟩
def _root_.L2.Ext.tups{H':Hp}(e:Ext H H'):Tups H H':=λb xs h=>e b _ h
def PcsAt.at{H:Hp}:∀{vs:List V}{ps:Ae},PcsAt H vs ps->∀{i:Nat}{v:V},vs[i]?=some v->∃pc,ps[i]?=some pc/\PcAt H v pc
 |[],[],_,i,v,e=>by cases e
 |x::vs,p::ps,h,0,v,e=>by cases e;exact⟨p,rfl,h.1⟩
 |x::vs,p::ps,h,i+1,v,e=>PcsAt.at h.2 (i:=i) e
 |[],_::_,h,_,_,_=>h.elim
 |_::_,[],h,_,_,_=>h.elim
def PcsAt.snoc{H:Hp}{v:V}{p:List Int×Int}(hv:PcAt H v p):∀{vs:List V}{ps:Ae},PcsAt H vs ps->PcsAt H (vs++[v]) (ps++[p])
 |[],[],_=>⟨hv,trivial⟩
 |x::vs,q::ps,h=>⟨h.1,PcsAt.snoc hv h.2⟩
 |[],_::_,h=>h.elim
 |_::_,[],h=>h.elim
def Good.wide{mt mp w mt' mp':Int}(g:Good mt mp w ms Ar)(h1:mt<=mt')(h2:mp<=mp'):Good mt' mp' w ms Ar:=⟨g.w0,dB g.w1 h1,g.mr,dB g.pl h2,g.pg⟩
theorem jNL(n:Nat):∀(ds:Ag),ds.Nodup->(∀t∈ds,0<=t/\t<(n:Int))->ds.length<=n:=by
 intro ds h1 h2;have h3:(ds.map Int.toNat).Nodup:=by
  rw[List.Nodup,bH];refine jm (R:=(· ≠·)) (λ{a b} ha hb hne e=>hne ?_) h1;have:=h2 a ha;have:=h2 b hb;lia
 have h4:(ds.map Int.toNat).length<=(List.range n).length:=h3.length_le_of_subset λx hx=>by
  obtain⟨t,ht,rfl⟩:=aZ.mp hx;have:=h2 t ht;exact bI.mpr Aa
 rw[ag,b7] at h4;exact h4
def jSI:∀l:Ag,TsAt H (l.map Tr.int) (l.map V.int)
 |[]=>rfl
 |i::r=>⟨.int i,_,rfl,rfl,jSI r⟩
def jHW:∀l:Ag,deps (l.map Tr.int)=0
 |[]=>by simp[deps]
 |i::r=>by simp[deps,dep,jHW r]
def iteN{A B:Prop}{c:Bool}(hc:c=false)(h:B):if c=true then A else B:=by
 rw[hc];exact iteF h
abbrev leI:Int->Int->Bool:=λa b=>decide (a<=b)
def srt(l:Ag):Ag:=l.mergeSort leI
def jDI(l:Ag):(srt l).Perm l:=lG _ _
def jRW(l:Ag):(srt l).Pairwise (· <= ·):=by
 have:=ju (le:=leI) (λa b c h1 h2=>ao (dB (aL h1) (aL h2))) (λa b=>by
  rw[ir];rcases Int.le_total a b with h|h
  .exact .inl (ao h)
  .exact .inr (ao h)) l
 exact this.imp λh=>aL h
def jH3{l m:Ag}(h1:m.Pairwise (· <= ·))(h2:m.Perm l):m=srt l:=
 List.Perm.eq_of_pairwise (λa b _ _ h1 h2=>Int.le_antisymm h1 h2) h1 (jRW l) (h2.trans (jDI l).symm)
def jRX{l:Ag}(h:l.Pairwise (· <= ·)):srt l=l:=(jH3 h (.refl _)).symm
theorem jMY{a b:Ag}(ra:a.Pairwise (· < ·))(rb:b.Pairwise (· < ·))(h:∀x,x∈a↔x∈b):a=b:=by
 have na:a.Nodup:=ra.imp λ{a b} h=>by lia
 have nb:b.Nodup:=rb.imp λ{a b} h=>by lia
 have pm:a.Perm b:=(gc na nb).mpr h;rw[jH3 (ra.imp λ{a b} h=>by lia) pm,jRX (rb.imp λ{a b} h=>by lia)]
def plcs(ts lot:Ag):Ag:=(lot.filter λt=>decide (t∈ts)).map λt=>((ts.idxOf t:Nat):Int)
def nmd(ts lot:Ag):Ag:=srt (plcs ts lot)
def jK9(ts lot:Ag):(plcs ts lot).length<=lot.length:=by
 unfold plcs;rw[ag];exact bN _ _
def pick(ts:Ag)(Ar:Ae)(ks:Ag):Ae:=ks.map λk=>(nmd ts (jB Ar k),(Ar.getD k.toNat ([],0)).2)
def plKv(ts:Ag):List (Key×V):=(List.range ts.length).map λi=>(Sum.inl (ts.getD i 0),V.int (i:Int))
def jQ7(ts:Ag):(plKv ts).length=ts.length:=by
 unfold plKv;rw[ag,b7]
def jE2(ts:Ag):(plKv ts).map (·.1)=ts.map Sum.inl:=by
 unfold plKv;rw[bX];refine jt Ad λi h1 h2=>?_;have:i<ts.length:=by simpa using h1
 simp[List.getD,this]
theorem jQ8{k:Key}{v:V}(h:(plKv ts)[i]?=some (k,v)):∃t,ts[i]?=some t/\k=Sum.inl t/\v=V.int (i:Int):=by
 unfold plKv at h;rw[aX] at h;by_cases hi:i<ts.length
 .rw[dD hi] at h;simp only[map_some,gN,Prod.mk.injEq] at h;refine⟨ts[i],by simp[hi],?_,h.2.symm⟩;rw[<- h.1];simp[List.getD,hi]
 .rw[da (by simp;lia)] at h;cases h
def jPV{κ:Type} [DecidableEq κ]{kvs:List (κ×V)}{k:κ}(h:k∉kvs.map (·.1)):valV kvs k=none:=by
 unfold valV;rw[List.find?_eq_none.mpr λx hx=>?_]
 .rfl
 .intro e;exact h (aZ.mpr ⟨x,hx,aL e⟩)
def jRN{κ:Type} [DecidableEq κ]:∀{kvs:List (κ×V)}{i:Nat}{k:κ}{v:V},(kvs.map (·.1)).Nodup->kvs[i]?=some (k,v)->valV kvs k=some v
 |[],_,_,_,_,h=>by simp at h
 |p::r,0,k,v,_,h=>by
  simp at h;subst h;exact jBA rfl
 |p::r,i+1,k,v,nd,h=>by
  rw[bg,bS] at nd;have h:r[i]?=some (k,v):=by simpa using h
  have hm:k∈r.map (·.1):=aZ.mpr ⟨_,aQ h,rfl⟩;have ne:¬p.1=k:=λe=>nd.1 (by rw[e];exact hm);have:=jRN (i:=i) nd.2 h;unfold valV at this ⊢;rw[eE,aK ne];exact this
def jHL(h:ts.Nodup):(ts.map (Sum.inl:Int->Key)).Nodup:=by
 rw[List.Nodup,bH];exact h.imp λhne e=>hne (hG e)
def jQ6(nd:ts.Nodup)(t:Int):valV (plKv ts) (Sum.inl t)=if t∈ts then some (.int ((ts.idxOf t:Nat):Int)) else none:=by
 by_cases h:t∈ts
 .rw[aA h];have hi:=cw.mpr h;refine jRN (i:=ts.idxOf t) (by rw[jE2];exact jHL nd) ?_;unfold plKv;rw[aX,dD hi];show some (Sum.inl (ts.getD (ts.idxOf t) 0),_)=_;rw[show ts.getD (ts.idxOf t) 0=t by simp[List.getD,hi,gE]]
 .rw[az h];refine jPV ?_;rw[jE2];intro z;obtain⟨x,hx,e⟩:=aZ.mp z;exact h (hG e ▸ hx)
section
variable {cd:Value}
abbrev qA:Stmt:=(jE y9).getD 1 (.Pass ⟨0,0,0,0⟩)
abbrev jKH:Am:=["lot","places"]
theorem scNamed:NScope jKH ["lot"] ["places"] (j8 qA):=⟨rfl,rfl,rfl,Ab,rfl,Ab,Ab,λx h=>by
 have:=bG h;revert this;have hl:∀y∈(j8 qA).names,y.2=.free->y.1= "places" :=Ab;intro m;have:=hl _ m rfl;exact this ▸ ai,Ab⟩
def jMQ:List V->Sp:=λfv vs H Q _=>∃(d a:Addr) (ts lot:Ag),fv=[.ref d]/\vs=[.ref a]/\ts.Nodup/\H d=some (.dK (plKv ts))/\H a=some (.tup (lot.map V.int))/\lot.length<64/\∀r H',H' r=some (.tup ((nmd ts lot).map V.int))->Ext H H'->Q (.ref r) H'
def jWA(T:Txt mg)(hr:Room 0 (cxN P w K mg Aq jKH "picked.<locals>.named" (j8 qA) f cd cl A mj s H0).A): {t:TS // JSs (cxN P w K mg Aq jKH "picked.<locals>.named" (j8 qA) f cd cl A mj s H0) (jE qA) t}:=
 have nd:=scNamed.nd
 ⟨_,(jF (jU (kN jV gl_n T.tuple Ab (j4 (jH jI3 gl_n T.sorted Ab (j4 (kO (m:=[none,some 1]) (Nc:=["thing","places"]) rfl (jDD (jv 0 rfl vis_n)) rfl Ab Ab (jK (psc:=j8 qA)) (jI (N:=jKH) rfl rfl Ab) (λcl C fp s H=>jO (i:=0) (show (["thing","places"]:Am).Nodup by decide+kernel) rfl yK) (λcl C fp s H=>jB6 (jWT (hu_of hr) (jv 0 rfl jQ) (jv 1 rfl kL) rfl)) (λcl C fp s H=>(jJA (hu_of hr) (jv 1 rfl kL) (jv 0 rfl jQ) jCQ)) qB) j9 jL) jL) j9 jG) jG)))⟩
theorem jQG(T:Txt mg):FnN P w K mg Aq 1 "named" "picked.<locals>.named" (yC qA) (jE qA) (j8 qA) ["lot"] ["places"] jMQ:=by
 refine jX0 scNamed (λfv vs H Q E h=>?_) (λcl doc pm c ctv us hl=>?_) (λA mj s H a c cl vs fv Q E hr h=>?_)
 .obtain⟨_,_,_,_,_,rfl,_⟩:=h;rfl
 .match us,hl with
  |[u],_=>rfl
 .obtain⟨d,a,ts,lot,rfl,rfl,nd,hd,ha,hl,q⟩:=h;refine⟨_,(jWA T hr).2.h,?_⟩;refine⟨_,rfl,a,rfl,⟨_,SqT.of ha⟩,jBK (xs:=lot.map V.int) (by rw[ag,aJ];lia) (λD j σ' H' zs=>(∃v,σ'=[v,some (.ref d)])/\Ext H H'/\H' D=some (.lst zs)/\H D=none/\zs=(plcs ts (lot.take j)).map V.int) ?_ ?_ ?_ ?_⟩
  .intro D hD;exact⟨⟨_,rfl⟩,(Ext.refl _).new hD _,j7,hD,rfl⟩
  .rintro D j σ' H' zs hD ⟨_,e,h2,_,rfl⟩;refine⟨e _ _ ha,h2,?_⟩;rw[ag];have:=jK9 ts (lot.take j);have:=bC j lot;lia
  .rintro D j σ' H' zs x hD hx ⟨⟨v,rfl⟩,e,h2,hn,rfl⟩;obtain⟨z,hz,rfl⟩:∃z:Int,lot[j]?=some z/\V.int z=x:=by
    rw[aX] at hx;cases hq:lot[j]? with
    |none=>rw[hq] at hx;cases hx
    |some z=>rw[hq] at hx;cases hx;exact⟨z,rfl,rfl⟩
   have ht:plcs ts (lot.take (j+1))=plcs ts (lot.take j)++(if z∈ts then [((ts.idxOf z:Nat):Int)] else []):=by
    unfold plcs;rw[bv,hz,bU,aW];congr 1;by_cases hzz:z∈ts<;>simp[hzz]
   have hD':H' d=some (.dK (plKv ts)):=e _ _ hd;have gv:=jQ6 nd z;refine⟨_,rfl,_,rfl,d,_,rfl,DGet.k (k:=Sum.inl z) hD',_,rfl,?_⟩;rw[gv];by_cases hzz:z∈ts
   .rw[aA hzz] at gv ht ⊢;refine⟨_,rfl,_,rfl,d,_,rfl,by rw[<- gv];exact DGet.k (k:=Sum.inl z) hD',h2,⟨_,rfl⟩,e.updNew hn _,j7,hn,?_⟩;rw[ht,aW];rfl
   .rw[az hzz] at gv ht ⊢;refine⟨⟨_,rfl⟩,e,h2,hn,?_⟩;rw[ht,aV]
  .rintro D σ' H' zs hD ⟨_,e,h2,hn,rfl⟩;rw[ag,bK] at h2;refine⟨D,_,rfl,SqL.of h2,?_,λl ns hl hs hp=>?_⟩
   .have:=jK9 ts lot;lia
   refine⟨l,_,rfl,.inl ⟨SqL.of j7,λr hr=>?_⟩⟩;refine q r _ ?_ ((e.new hl _).new hr _);rw[j7,jH3 hs hp];rfl
end
theorem jN5(h:PcsAt H vs Ar){k:Int}(h0:0<=k)(h1:k<Ar.length):∃a q,atI vs k=some (.ref a)/\H a=some (.tup [.ref q,.int (Ar.getD k.toNat ([],0)).2])/\H q=some (.tup ((jB Ar k).map V.int)):=by
 obtain⟨v,hv,a,q,rfl,b1,b2⟩:=h.get (k:=k.toNat) Aa;refine⟨a,q,?_,b1,b2⟩;have e:((k.toNat:Nat):Int)=k:=Aa;have:=jAN hv;rw[e] at this;exact this
abbrev jCR:Am:=["box","things","pieces","places","named"]
def scPicked:FnScope jCR ["box","things","pieces"] (j8 y9):= {}
abbrev jS6:Pos:=match qA with
 | .FunctionDef _ _ _ _ _ _ _ _ _ p=>p
 |_=>⟨0,0,0,0⟩
abbrev TabP(H:Hp)(tb:Addr):Prop:=TabOk H tb jS6 "picked.<locals>.named"
theorem jKZ:∀x∈(["places"]:Am),(j8 qA).names.lookup x=some .free:=by decide+kernel
theorem jEN:FsAt (XOf jCR "picked" y9 P w K mg Aq f (.ref c0) A mj s H0 E) ["places"] [3]:=⟨rfl,λk x h=>by
 cases k with
 |zero=>cases h;exact⟨3,rfl,rfl,.inl (show (j8 y9).names.lookup ("places":Str)=some NameKind.cell by decide+kernel)⟩
 |succ k=>cases h⟩
def jDJ(tb:Addr):Sp:=λvs H Q _=>∃(b a c:Addr) (tp tq:Bool) (w:Int) (ms:Ag) (Ar:Ae) (ts ks:Ag),vs=[.ref b,.ref a,.ref c]/\BoxAt H b w ms Ar/\AtS tp H a (ts.map V.int)/\AtS tq H c (ks.map V.int)/\ts.Nodup/\ts.length<=100/\ms.length<64/\(∀p∈Ar,p.1.length<64)/\(∀k∈ks,0<=k/\k<Ar.length)/\ks.length<=1000/\TabP H tb/\
 ∀r H',BoxAt H' r ts.length (nmd ts ms) (pick ts Ar ks)->ExtT tb H H'->TabP H' tb->Q (.ref r) H'
def jTB(T:Txt mg)(CH:PySem.W.CodeHd Aq c0 tb)(BM:qO Aq mg)(FN:FnN P w K mg Aq 1 "named" "picked.<locals>.named" (yC qA) (jE qA) (j8 qA) ["lot"] ["places"] jMQ)(hr:Room 1 (XOf jCR "picked" y9 P w K mg Aq f (.ref c0) A mj s H0 E).A): {t:TS // JSs (XOf jCR "picked" y9 P w K mg Aq f (.ref c0) A mj s H0 E) (jE y9) t}:=
 have nd:=scPicked.nd
 ⟨_,(jD (jS (i:=3) nd rfl qS (kN (jM6 rfl) gD T.dict Ab (j4 (kO (m:=[none,none]) (Nc:=["place","thing"]) rfl (jJ8 gD T.enumerate (j4 (jv 1 rfl vL) j9 j6) j6) rfl Ab Ab (jK (psc:=j8 y9)) (jI (N:=jCR) rfl rfl Ab) (λcl C fp s H=>jCA (i:=0) (j:=1) rfl (show (["place","thing"]:Am).Nodup by decide+kernel) rfl rfl Ab Ab) (λcl C fp s H=>y4) (λcl C fp s H=>(yL (j4 (jv 1 rfl jQ) (j4 (jv 0 rfl jQ) j9 j6) j6))) kR) j9 jL) jL) jW)
   (jD (jWO (j:=4) nd rfl qS rfl CH BM (jK (psc:=j8 y9)) rfl rfl)
   (jF (jU (yL (j4 (jH jA0 gD T.len Ab (j4 (jv 1 rfl vL) j9 j6) j6) (j4 (jU9 (j:=4) FN hr rfl vC (jK (psc:=j8 y9)) jKZ jEN (j4 (kD kP (jv 0 rfl vC) (je_int) jJ) j9 kG) kG) (j4 (kN jV gD T.tuple Ab (j4 (jR1 (m:=[none,some 4,some 0]) (Nc:=["piece","named","box"]) rfl (jWQ (jv 2 rfl vL)) rfl Ab Ab (jK (psc:=j8 y9)) (jI (N:=jCR) rfl rfl Ab) (λcl C fp s H=>jO (i:=0) (show (["piece","named","box"]:Am).Nodup by decide+kernel) rfl yK) (λcl C fp s H=>y4) (λcl C fp s H ma σ I0 hfp=>(yL (j4 (jQX (j:=1) I0 hfp FN hr rfl kL (jK (psc:=j8 y9)) jKZ jEN (j4 (kD yI (kD yI (kD yI (jv 2 rfl kL) (je_int) jJ) (jv 0 rfl jQ) jCQ) (je_int) jJ) j9 kG) kG) (j4 (kD yI (kD yI (kD yI (jv 2 rfl kL) (je_int) jJ) (jv 0 rfl jQ) jCQ) (je_int) jJ) j9 kG) jG))) qB) j9 jL) jL) j9 jG) jG) jG))))))⟩
theorem jNE(F:FunC K "picked" "picked" y9 f fd c0)(T:Txt mg)(CH:PySem.W.CodeHd Aq c0 tb)(BM:qO Aq mg):FnOk P w K mg Aq CX0 2 f fd ["box","things","pieces"] (jDJ tb):=by
 refine F.ok scPicked (λvs H Q E h=>?_) (λA mj s H vs Q E hr h=>?_)
 .obtain⟨_,_,_,_,_,_,_,_,_,_,rfl,_⟩:=h;rfl
 .obtain⟨b,a,c,tp,tq,w,ms,Ar,ts,ks,rfl,hB,ha,hc,nd,lts,lms,lpc,hks,lks,tab,q⟩:=h;refine⟨_,(jTB T CH BM (jQG T) hr).2.h,?_⟩;obtain⟨qm,qp,ps,b1,b2,b3,b4⟩:=id hB.ex;have pl:=b4.len;refine⟨_,rfl,tp,a,rfl,⟨_,ha.sq⟩,jHZ (xs:=ts.map V.int) (by rw[ag,aJ];lia) (λD j σ' H' zs=>(∃v v',σ'=[v,v'])/\Ext H H'/\H' D=some (.lst zs)/\H D=none/\zs.length=j/\∀i,i<j->∃r:Addr,zs[i]?=some (V.ref r)/\H' r=some (.tup [.int (ts.getD i 0),.int (i:Int)])) ?_ ?_ ?_ ?_⟩
  .intro D hD;exact⟨⟨_,_,rfl⟩,(Ext.refl _).new hD _,j7,hD,rfl,λi hi=>absurd hi (eD _)⟩
  .rintro D j σ' H' zs hD ⟨_,e,h2,_,hl,_⟩;exact⟨(ha.ext e).sq,h2,Aa⟩
  .rintro D j σ' H' zs x X hD hx hX ⟨⟨v,v',rfl⟩,e,h2,hn,hl,hz⟩;obtain⟨z,hz1,rfl⟩:∃z:Int,ts[j]?=some z/\V.int z=x:=by
    rw[aX] at hx;cases hq:ts[j]? with
    |none=>rw[hq] at hx;cases hx
    |some z=>rw[hq] at hx;cases hx;exact⟨z,rfl,rfl⟩
   have hgd:ts.getD j 0=z:=by rw[aG,hz1];rfl
   refine⟨X,_,rfl,SqT.of j7,rfl,_,_,rfl,_,_,rfl,rfl,?_⟩;dsimp only[kX,yR];rw[aA rfl];refine⟨_,rfl,_,rfl,by show (2:Nat)<=_;decide,λr H2 d2 e2=>?_⟩;have e1:Ext H' (L2.upd H' X (.tup [.int (j:Int),.int z])):=(Ext.refl _).new hX _;have hD2:H2 D=some (.lst zs):=e2 _ _ (e1 _ _ h2);have rD:r≠D:=λz=>by rw[z,hD2] at d2;cases d2
   refine⟨hD2,⟨_,_,rfl⟩,((e.trans e1).trans e2).updNew hn _,j7,hn,by rw[aI,hl];rfl,λi hi=>?_⟩;by_cases hij:i=j
   .subst hij;refine⟨r,?_,?_⟩
    .rw[bw Aa,hl,gP];rfl
    .rw[jA rD,d2,hgd]
   .obtain⟨r',z1,z2⟩:=hz i Aa;have z3:=e2 _ _ (e1 _ _ z2);refine⟨r',?_,?_⟩
    .rw[cf Aa];exact z1
    .rw[jA (λy=>by rw[y,hD2] at z3;cases z3)];exact z3
  .rintro D σ' H1 zs hD ⟨_,e1,h2,hn,hl,hz⟩;rw[ag] at hl hz;refine⟨D,zs,plKv ts,rfl,h2,by rw[jQ7];exact hl,λi k v hk=>?_,by rw[jE2];exact jHL nd,λd hd=>?_⟩
   .obtain⟨t,z1,rfl,rfl⟩:=jQ8 hk;obtain⟨r,z2,z3⟩:=hz i (am.mp z1).1;refine⟨r,z2,?_⟩;rw[z3];show _=some (HO.tup [V.int t,V.int (i:Int)]);rw[aG,z1];rfl
   have e2:Ext H (L2.upd H1 d (.dK (plKv ts))):=e1.new hd _;have d2:(L2.upd H1 d (.dK (plKv ts))) d=some (.dK (plKv ts)):=j7;generalize L2.upd H1 d (.dK (plKv ts))=H2 at e2 d2;refine⟨tab.ext e2,λfa fc H3 k1 k2 k3 k4 k5=>?_⟩;have tab3:TabP H3 tb:=.inr ⟨fc,k3,k2⟩;have E3:ExtT tb H H3:=(ExtT.of e2).trans k4;have B1:=E3.at tab b1;have B2:=E3.at tab b2;have B3:=E3.at tab b3;have dd:=k4.at (tab.ext e2) d2;have aa:=E3.seq tab ha;have cc:=E3.seq tab hc;refine⟨_,rfl,a,_,rfl,aa.or,?_⟩;refine⟨fa,rfl,_,rfl,b,_,1,_,rfl,rfl,SqT.of B1,rfl,fc,[.ref d],k1,k2,rfl,d,qm,ts,ms,rfl,rfl,nd,dd,B2,lms,λr1 H4 d4 e4=>?_⟩;refine jRA (tp:=tq) (xs:=ks.map V.int) (cc.ext e4) (λQ h=>⟨_,rfl,h⟩) (by rw[ag,aJ];lia) (λD j σ' H' zs=>(∃v,σ'=[v,some (.ref fa),some (.ref b)])/\Ext H4 H'/\H' D=some (.lst zs)/\H4 D=none/\PcsAt H' zs (pick ts Ar (ks.take j))) ?_ ?_ ?_ ?_
   .intro D hD;exact⟨⟨_,rfl⟩,(Ext.refl _).new hD _,j7,hD,trivial⟩
   .rintro D j σ' H' zs hD ⟨_,e,h2,_,pz⟩;refine⟨cc.ext (e4.trans e),h2,?_⟩;rw[pz.len];unfold pick;rw[ag];exact bC _ _
   .rintro D j σ' H' zs x hD hx ⟨⟨v,rfl⟩,e,h2,hn,pz⟩;obtain⟨k,hk,rfl⟩:∃z:Int,ks[j]?=some z/\V.int z=x:=by
     rw[aX] at hx;cases hq:ks[j]? with
     |none=>rw[hq] at hx;cases hx
     |some z=>rw[hq] at hx;cases hx;exact⟨z,rfl,rfl⟩
    have hkb:=hks k (aQ hk);have e34:=e4.trans e;obtain⟨pa,pq,g1,g2,g3⟩:=jN5 b4 hkb.1 hkb.2;have g2':=e34 _ _ (E3.at tab g2);have g3':=e34 _ _ (E3.at tab g3);have hlen:(jB Ar k).length<64:=by
     unfold jB;rw[jJD Aa];exact lpc _ (dq _)
    dsimp only[kX,yR];rw[aA rfl];refine⟨fa,rfl,_,rfl,b,_,2,_,rfl,rfl,SqT.of (e34 _ _ B1),rfl,_,rfl,qp,_,k,_,rfl,rfl,SqT.of (e34 _ _ B3),g1,pa,_,0,_,rfl,rfl,SqT.of g2',rfl,fc,[.ref d],e34 _ _ k1,e34 _ _ k2,rfl,d,pq,ts,jB Ar k,rfl,rfl,nd,e34 _ _ dd,g3',hlen,λr2 H5 d5 e5=>?_⟩;have e35:=e34.trans e5;refine⟨_,rfl,b,_,2,_,rfl,rfl,SqT.of (e35 _ _ B1),rfl,_,rfl,qp,_,k,_,rfl,rfl,SqT.of (e35 _ _ B3),g1,pa,_,1,_,rfl,rfl,SqT.of (e5 _ _ g2'),rfl,by show (2:Nat)<=_;decide,λr3 H6 d6 e6=>?_⟩;have hD6:H6 D=some (.lst zs):=e6 _ _ (e5 _ _ h2);refine⟨hD6,⟨_,rfl⟩,((e.trans e5).trans e6).updNew hn _,j7,hn,?_⟩;have ez:pick ts Ar (ks.take (j+1))=pick ts Ar (ks.take j)++[(nmd ts (jB Ar k),(Ar.getD k.toNat ([],0)).2)]:=by
     unfold pick;rw[bv,hk,aW];rfl
    rw[ez];exact PcsAt.mono (Tups.upd hD6 _) (PcsAt.snoc (p:=(nmd ts (jB Ar k),(Ar.getD k.toNat ([],0)).2)) ⟨r3,r2,rfl,d6,e6 _ _ d5⟩ (pz.mono (e5.trans e6).tups))
   .rintro D σ' H5 zs hD ⟨_,e5,h5,hn5,pz⟩;rw[ag,bK] at pz;refine⟨D,_,rfl,.inl ⟨SqL.of h5,λl hl=>?_⟩⟩;have e6:Ext H5 (L2.upd H5 l (.tup zs)):=(Ext.refl _).new hl _;have d6:(L2.upd H5 l (.tup zs)) l=some (.tup zs):=j7;generalize L2.upd H5 l (.tup zs)=H6 at e6 d6;refine⟨by show (3:Nat)<=_;decide,λr H7 d7 e7=>?_⟩;have e47:=(e5.trans e6).trans e7;refine q r H7 ⟨r1,l,zs,?_,e47 _ _ d4,e7 _ _ d6,pz.mono (e6.trans e7).tups⟩ (E3.trans (ExtT.of (e4.trans e47))) (tab3.ext (e4.trans e47));rw[d7,ag]
theorem jJ3{n:Int}{ks:Ag}(h:ks.Pairwise (· < ·))(hb:∀k∈ks,0<=k/\k<n):lotB n (.tup (ks.map Ob.int))=true:=by
 have hv:(ks.map Ob.int).map val=ks:=by rw[bX];exact jd _
 show ((ks.map Ob.int).all (upB 0 (n-1))&&(adj ((ks.map Ob.int).map val)).all id)=true;rw[hv,bJ,ck,ck];refine⟨λx hx=>?_,λx hx=>?_⟩
 .obtain⟨k,hk,rfl⟩:=aZ.mp hx;have:=hb k hk;show (decide (0<=k)&&decide (k<=n-1))=true;rw[ao Aa,ao Aa];rfl
 .unfold adj at hx;obtain⟨i,hi,rfl⟩:=aZ.mp hx;have hi:=bI.mp hi;refine ao ?_;rw[jJD Aa,jJD Aa];exact bV.mp h i (i+1) Aa Aa Aa
def jAQ{p:α->Bool}{l:List α}{x:α}(h:l[i]?=some x):(l.take (i+1)).filter p=(l.take i).filter p++(if p x=true then [x] else []):=by
 rw[bv,h,bU];congr 1;rw[Option.toList,cW];split<;>rfl
theorem jLA(n:Nat):(upto n).Nodup:=(kJ n).ris.imp λh=>by lia
theorem jCS{w:Int}(h:ts.Pairwise (· < ·))(b:∀z∈ts,0<=z/\z<w)(hw:w<=16):ts.length<=16:=by
 have:=jB5 ts 0 w h b;lia
theorem jF2{w:Int}(g:Good 16 32 w ms Ar){k:Int}(h0:0<=k)(h1:k<Ar.length):(jB Ar k).length<=16:=by
 have:=g.at (k:=k.toNat) Aa;exact jCS this.lot.ris this.lot.bnd g.w1
theorem jOT{K:W.Frag}{m:List (Option Nat)}{σ:St}{H:Hp}{Q:VK}{q t:Addr}{tp:Bool}{lot ts:Ag}(hq:H q=some (.tup (lot.map V.int)))(ht:AtS tp H t (ts.map V.int))(hl:lot.length<=1000)(h0:blkσ m σ=[none,some (.ref t)])
  (k:∀D H',H' D=some (.lst ((lot.map λx=>decide (x∈ts)).map V.bl))->Ext H H'->H D=none->Q (.ref D) H'):qK m (kX 0) yR (tOp (rIn K false) (tVar 0) (tVar 1)) σ Q (Itt K q) H:=by
 refine jBK (xs:=lot.map V.int) (by rw[ag,aJ];lia) (λD j σ' H' zs=>(∃v,σ'=[v,some (.ref t)])/\Ext H H'/\H' D=some (.lst zs)/\H D=none/\zs=((lot.take j).map λx=>decide (x∈ts)).map V.bl) ?_ ?_ ?_ ?_
 .intro D hD;exact⟨⟨_,h0⟩,(Ext.refl _).new hD _,j7,hD,rfl⟩
 .rintro D j σ' H' zs hD ⟨_,e,h2,_,rfl⟩;refine⟨e _ _ hq,h2,?_⟩;rw[ag,ag];exact bC _ _
 .rintro D j σ' H' zs x hD hx ⟨⟨v,rfl⟩,e,h2,hn,rfl⟩;obtain⟨z,hz,rfl⟩:∃z:Int,lot[j]?=some z/\V.int z=x:=by
   rw[aX] at hx;cases hq:lot[j]? with
   |none=>rw[hq] at hx;cases hx
   |some z=>rw[hq] at hx;cases hx;exact⟨z,rfl,rfl⟩
  dsimp only[kX,yR];rw[aA rfl];refine⟨_,rfl,_,rfl,t,_,rfl,(ht.ext e).or,rfl,jAG _,h2,⟨_,rfl⟩,e.updNew hn _,j7,hn,?_⟩;have:lot.take (j+1)=lot.take j++[z]:=by
   rw[bv,hz];rfl
  rw[this,aW,aW];show _++[V.bl (inV (.int z) (ts.map V.int))]=_;rw[jB0];rfl
 .rintro D σ' H' zs hD ⟨_,e,h2,hn,rfl⟩;rw[ag,bK] at h2;exact k D H' h2 e hn
def jX5:(lot.map p).all id=lot.all p:=by rw[jz];rfl
def jX4:(lot.map p).any id=lot.any p:=by rw[lZ];rfl
theorem pc_lt{w:Int}(g:Good 16 32 w ms Ar):∀p∈Ar,p.1.length<64:=λp hp=>by
 have:=g.pg p hp;have:=jCS this.lot.ris this.lot.bnd g.w1;lia
theorem jWW(h:ts.Pairwise (· < ·)){a b:Int}(ha:a∈ts)(hb:b∈ts)(hab:a<b):ts.idxOf a<ts.idxOf b:=by
 have ia:=cw.mpr ha;have ib:=cw.mpr hb;have ea:=gE ia;have eb:=gE ib;rcases gM (ts.idxOf a) (ts.idxOf b) with q|q|q
 .exact q
 .exfalso;have e2:ts[ts.idxOf a]=ts[ts.idxOf b]:=by congr 1
  lia
 .exfalso;have:=bV.mp h _ _ ib ia q;lia
theorem jK8(h:ts.Pairwise (· < ·))(hl:lot.Pairwise (· < ·)):(plcs ts lot).Pairwise (· < ·):=by
 unfold plcs;rw[bH];refine jm (R:=λa b=>a<b) (λ{a b} ha hb hab=>?_) (hl.sublist dE);have:=jWW h (aL (be.mp ha).2) (aL (be.mp hb).2) hab;lia
theorem jIY{ts lot:Ag}(h:ts.Pairwise (· < ·))(hl:lot.Pairwise (· < ·)):nmd ts lot=plcs ts lot:=jRX ((jK8 h hl).imp λh=>by lia)
def jQ5(h:∀t∈lot,t∈ts):plcs ts lot=lot.map λt=>((ts.idxOf t:Nat):Int):=by
 unfold plcs;rw[iy.mpr λt ht=>ao (h t ht)]
theorem mem_upto:t∈upto n↔0<=t/\t<n:=by
 constructor
 .exact λh=>(kJ n).bnd t h
 .intro h;unfold upto;exact aZ.mpr ⟨t.toNat,bI.mpr Aa,Aa⟩
theorem jCC(h:t∈ts):ts[ts.idxOf t]?=some t/\∀m,m<ts.idxOf t->ts[m]?≠some t:=by
 have hi:=cw.mpr h;refine⟨by rw[aF hi,gE],λm hm e=>?_⟩;have hm':m<ts.length:=Aa;rw[aF hm'] at e;have:=List.not_of_lt_findIdx (p:=(· ==t)) (xs:=ts) (i:=m) (by unfold List.idxOf at hm;exact hm);rw[bA e] at this;simp at this
noncomputable abbrev nMask:Am:=["lot"]
def scMask:FnScope nMask ["lot"] (j8 sMask):= {}
def jH5:Sp:=λvs H Q _=>∃(q:Addr) (ts:Ag),vs=[.ref q]/\H q=some (.tup (ts.map V.int))/\(∀t∈ts,0<=t/\t<64)/\ts.length<=64/\∀H',Ext H H'->Q (.int ((maskN ts:Nat):Int)) H'
def maskA(T:Txt mg): {t:TS // JSs (XOf nMask "mask_of" sMask P w K mg Aq f mn A mj s H0 E) (jE sMask) t}:=
 have nd:=scMask.nd
 ⟨_,(jF (jU (jH (jI1 rfl) gD T.sum Ab (j4 (kO (m:=[none]) (Nc:=["thing"]) rfl (jDD (jv 0 rfl vL)) rfl Ab Ab (jK (psc:=j8 sMask)) (jI (N:=nMask) rfl rfl Ab) (λcl C fp s H=>jO (i:=0) (show (["thing"]:Am).Nodup by decide+kernel) rfl yK) (λcl C fp s H=>y4) (λcl C fp s H=>(kW jHH (je_int) (jv 0 rfl jQ))) qB) j9 jL) jL)))⟩
theorem jLS(ts:Ag)(h:∀t∈ts,0<=t):(ts.map λt=>(1:Int)*2^t.toNat).sum=((maskN ts:Nat):Int):=by
 induction ts with
 |nil=>rfl
 |cons t r ih=>
  have e:maskN (t::r)=2^t.toNat+maskN r:=by simp[maskN]
  rw[bg,lM,ih λx hx=>h x (ah _ hx),e];push_cast;lia
theorem jTU(F:Fun K "mask_of" "mask_of" sMask f fd)(T:Txt mg):FnOk P w K mg Aq CX0 1 f fd ["lot"] jH5:=by
 refine F.ok scMask (λvs H Q E h=>?_) (λmn A mj s H vs Q E hr h=>?_)
 .obtain⟨_,_,rfl,_⟩:=h;rfl
 .obtain⟨q,ts,rfl,hq,hb,hl,k⟩:=h;refine⟨_,(maskA T).2.h,?_⟩;refine⟨_,rfl,q,rfl,⟨_,SqT.of hq⟩,jBK (xs:=ts.map V.int) (by rw[ag,aJ];lia) (λD i σ' H' zs=>(∃v,σ'=[v])/\Ext H H'/\H' D=some (.lst zs)/\H D=none/\zs=((ts.take i).map λt=>(1:Int)*2^t.toNat).map V.int) ?_ ?_ ?_ ?_⟩
  .intro D hD;exact⟨⟨_,rfl⟩,(Ext.refl _).new hD _,j7,hD,rfl⟩
  .rintro D i σ' H' zs hD ⟨_,e,h2,_,rfl⟩;refine⟨e _ _ hq,h2,?_⟩;rw[ag,ag,bO];lia
  .rintro D i σ' H' zs x hD hx ⟨⟨v,rfl⟩,e,h2,hn,rfl⟩;obtain⟨z,hz,rfl⟩:∃z:Int,ts[i]?=some z/\V.int z=x:=by
    rw[aX] at hx;cases hq:ts[i]? with
    |none=>rw[hq] at hx;cases hx
    |some z=>rw[hq] at hx;cases hx;exact⟨z,rfl,rfl⟩
   have hzb:=hb z (aQ hz);dsimp only[kX,yR];rw[aA rfl];refine⟨_,rfl,_,_,rfl,rfl,⟨?_,?_,?_⟩,h2,⟨_,rfl⟩,e.updNew hn _,j7,hn,?_⟩
   .first|lia|decide
   .first|lia|decide
   .first|lia|decide
   .have:ts.take (i+1)=ts.take i++[z]:=by
     rw[bv,hz];rfl
    rw[this,aW,aW];rfl
  .rintro D σ' H' zs hD ⟨_,e,h2,hn,rfl⟩;refine⟨D,_,rfl,SqL.of h2,?_⟩;rw[ag,bK,jLS ts λt ht=>(hb t ht).1];exact k H' e
end Eo
namespace L2
open PySem
def jWS{X:Cx}{a b c:Expr}{pos:Pos}{ta tb:TE}{tc:TT}(hc:JT X c tc)(ha:JE X a ta)(hb:JE X b tb):JE X (.IfExp c a b pos) (tIf tc ta tb):=⟨jQC hc.h ha.h hb.h⟩
end L2
namespace Eo
open PySem L2
variable {fd:FuncData}{H H':Hp}{L:Addr}{n t:Nat}{ch:Ch}
def PrAt(H:Hp)(v:V)(c:Int×Nat):Prop:=∃q,v=.ref q/\H q=some (.tup [.int c.1,.int ((c.2:Nat):Int)])
def PrAt.mono(t:Tups H H'){v:V}{c:Int×Nat}(h:PrAt H v c):PrAt H' v c:=let ⟨q,e,z⟩:=h;⟨q,e,t _ _ z⟩
def RowAt(H:Hp)(l:Addr)(cs:List (Int×Nat)):Prop:=∃vs,H l=some (.lst vs)/\All2 (PrAt H) vs cs
structure ChAt (H:Hp)(L:Addr)(ch:Ch):Prop where
 ex:∃ls:List Addr,H L=some (.lst (ls.map V.ref))/\ls.Nodup/\All2 (RowAt H) ls ch
def RowAt.keep{l:Addr}{cs:List (Int×Nat)}(h:RowAt H l cs)(k:∀xs,H l=some (.lst xs)->H' l=some (.lst xs))(t:Tups H H'):RowAt H' l cs:=let ⟨vs,a,b⟩:=h;⟨vs,k _ a,b.imp λ_ _=>PrAt.mono t⟩
def ChAt.keep(h:ChAt H L ch)(k:∀b xs,H b=some (.lst xs)->H' b=some (.lst xs))(t:Tups H H'):ChAt H' L ch:=by
 obtain⟨ls,a,b,c⟩:=h.ex;exact⟨ls,k _ _ a,b,c.imp λl cs r=>r.keep (k l) t⟩
def ChAt.ext(h:ChAt H L ch)(e:Ext H H'):ChAt H' L ch:=h.keep (λb xs z=>e _ _ z) e.tups
def ChAt.len(h:ChAt H L ch):∃ls:List Addr,H L=some (.lst (ls.map V.ref))/\ls.length=ch.length:=by
 obtain⟨ls,a,b,c⟩:=h.ex;exact⟨ls,a,c.len⟩
noncomputable def yP(ms:Ag)(Ar:Ae)(n t:Nat):List (Int×Nat):=
 (if (t:Int)∈ms then [(-1,2^t)] else [])++(((upto Ar.length).take n).filter λk=>decide ((jB Ar k).headD 0=(t:Int))).map λk=>(k,maskN (jB Ar k))
def chsN(w:Nat)(ms:Ag)(Ar:Ae)(n:Nat):Ch:=(List.range w).map (yP ms Ar n)
def chs(w:Nat)(ms:Ag)(Ar:Ae):Ch:=chsN w ms Ar Ar.length
def yB(w:Nat)(ms:Ag)(Ar:Ae)(n:Nat):(chsN w ms Ar n).length=w:=by
 unfold chsN;rw[ag,b7]
def jA9{w:Nat}(h:t<w):(chsN w ms Ar n)[t]?=some (yP ms Ar n t):=by
 unfold chsN;rw[aX,dD h];rfl
def jHN{ts:Ag}(hp:ts.Pairwise (· < ·))(h0:∀x∈ts,0<=x)(h:(t:Int)∈ts):(maskN ts).testBit t=true:=by
 rw[jAA ts t hp h0,ao h]
theorem jE9{ts:Ag}{w:Nat}(hp:ts.Pairwise (· < ·))(h0:∀x∈ts,0<=x/\x<(w:Int)):maskN ts<2^w:=by
 refine Nat.lt_pow_two_of_testBit _ λi hi=>?_;rw[jAA ts i hp λx hx=>(h0 x hx).1,aK];intro z;have:=(h0 _ z).2;lia
def jDR{l:Ag}(h:l≠[]):l.headD 0∈l:=by
 cases l with
 |nil=>exact absurd rfl h
 |cons a r=>exact ai ..
theorem jDE{w:Int}(g:Good 16 32 w ms Ar):ChOk (chsN w.toNat ms Ar n):=by
 have w0:=g.w0;have w1:=g.w1;have gpl:=g.pl;refine⟨by rw[yB];lia,λt cs h=>?_,λt cs h c hc=>?_⟩
 .have ht:t<w.toNat:=by
   have:=(am.mp h).1
   rwa [yB] at this
  rw[jA9 ht] at h;cases h;unfold yP;rw[aI,ag];have:=bN (λk=>decide ((jB Ar k).headD 0=(t:Int))) ((upto Ar.length).take n);have:=bC n (upto Ar.length);have:=jA8 Ar.length;have:((upto Ar.length).take n).length<=(upto Ar.length).length:=by rw[bO];lia
  split<;>simp only[aU,cz]<;>lia
 .have ht:t<w.toNat:=by
   have:=(am.mp h).1
   rwa [yB] at this
  rw[jA9 ht] at h;cases h;unfold yP at hc;rw[yB];rcases aP.mp hc with hc|hc
  .split at hc
   .rw[ak] at hc;subst hc;exact⟨by simp[cX],ie Ac ht,by show (-1:Int)<= -1;decide,by show (-1:Int)<32;decide⟩
   .cases hc
  .obtain⟨k,hk,rfl⟩:=aZ.mp hc;obtain⟨hk1,hk2⟩:=be.mp hk;have kb:=(kJ Ar.length).bnd k (cQ hk1);have gp:=g.at (k:=k.toNat) Aa;have hk2:=aL hk2;have hne:jB Ar k≠[]:=gp.lot.ne;have hm:(t:Int)∈jB Ar k:=by
    rw[<- hk2];exact jDR hne
   exact⟨jHN gp.lot.ris (λx hx=>(gp.lot.bnd x hx).1) hm,jE9 gp.lot.ris λx hx=>⟨(gp.lot.bnd x hx).1,by have:=(gp.lot.bnd x hx).2;lia⟩,Aa,Aa⟩
abbrev jBF:Am:=["box","choices","number","piece"]
def scChoices:FnScope jBF ["box"] (j8 yH):= {}
def jBZ:Sp:=λvs H Q _=>∃(b:Addr) (w:Int) (ms:Ag) (Ar:Ae),vs=[.ref b]/\BoxAt H b w ms Ar/\Good 16 32 w ms Ar/\∀r H',ChAt H' r (chs w.toNat ms Ar)->Ext H H'->Q (.ref r) H'
def jUO(T:Txt mg)(CM:Can P w K mg Aq "mask_of" 1 fM fdM ["lot"] jH5)(hr:Room 1 (XOf jBF "choices_of" yH P w K mg Aq f mn A mj s H0 E).A): {t:TS // JSs (XOf jBF "choices_of" yH P w K mg Aq f mn A mj s H0 E) (jFI ((jE yH).getD 1 (.Pass ⟨0,0,0,0⟩))) t}:=
 have nd:=scChoices.nd
 ⟨_,(jF (jBS (je_bm bQ cI cJ jA4 (kD jBT (jv 1 rfl vL) (kD kP (kD kP (jv 3 rfl vL) (je_int) jJ) (je_int) jJ) jVE) (j4 (yL (j4 (jv 2 rfl vL) (j4 (CM.je hr gD (j4 (kD kP (jv 3 rfl vL) (je_int) jJ) j9 kG) kG) j9 jG) j6)) j9 jDX) jDX) jW))⟩
def jRD(T:Txt mg)(CM:Can P w K mg Aq "mask_of" 1 fM fdM ["lot"] jH5)(hr:Room 1 (XOf jBF "choices_of" yH P w K mg Aq f mn A mj s H0 E).A): {t:TS // JSs (XOf jBF "choices_of" yH P w K mg Aq f mn A mj s H0 E) (jE yH) t}:=
 have nd:=scChoices.nd
 ⟨_,(jD (jJ6 (i:=1) nd rfl lL ⟨by rfl⟩ (m:=[none,some 0]) (Nc:=["thing","box"]) rfl (jA6 gD T.range (j4 (kD kP (jv 0 rfl vC) (je_int) jJ) j9 kG) kG) rfl Ab Ab (jK (psc:=j8 yH)) (jI (N:=jBF) rfl rfl Ab) (λcl C fp s H=>jO (i:=0) (show (["thing","box"]:Am).Nodup by decide+kernel) rfl yK) (λcl C fp s H=>y4) (λcl C fp s H=>(jWS (jY jG5 (jv 0 rfl jQ) (kD yI (jv 1 rfl kL) (je_int) jJ) jNN) (yF (j4 (yL (j4 (je_un jRO (je_int)) (j4 (kW jHH (je_int) (jv 0 rfl jQ)) j9 yO) se_un)) j9 jDX)) (yF j9))) kR) (jD (jEI dH rfl (jJ8 gD T.enumerate (j4 (kD kP (jv 0 rfl vC) (je_int) jJ) j9 kG) kG) (jGJ (i:=2) (j:=3) nd rfl rfl Ab Ab) (jUO T CM hr).2 kR) (jF (jU (jv 1 rfl vL)))))⟩
noncomputable abbrev nFull:Am:=["choices"]
def scFull:FnScope nFull ["choices"] (j8 sFull):= {}
def jF7:Sp:=λvs H Q _=>∃(L:Addr) (ch:Ch),vs=[.ref L]/\ChAt H L ch/\ch.length<=16/\Q (.int ((fullN ch:Nat):Int)) H
def fullA(T:Txt mg): {t:TS // JSs (XOf nFull "full_mask" sFull P w K mg Aq f mn A mj s H0 E) (jE sFull) t}:=
 have nd:=scFull.nd
 ⟨_,(jF (jU (kW jD9 (kW jHH (je_int) (jH jA0 gD T.len Ab (j4 (jv 0 rfl vL) j9 j6) j6)) (je_int))))⟩
noncomputable abbrev nAt:Am:=["choices","mask","least_lacked"]
def scAt:FnScope nAt ["choices","mask"] (j8 sAt):= {}
def spAt:Sp:=λvs H Q _=>∃(L:Addr) (ch:Ch) (m:Nat),vs=[.ref L,.int (m:Int)]/\ChAt H L ch/\ChOk ch/\m<2^ch.length/\m≠fullN ch/\∀r H',RowAt H' r (chAt ch m)->Ext H H'->H r=none->Q (.ref r) H'
def atA(T:Txt mg): {t:TS // JSs (XOf nAt "choices_at" sAt P w K mg Aq f mn A mj s H0 E) (jE sAt) t}:=
 have nd:=scAt.nd
 ⟨_,(jD (jS (i:=2) nd rfl lL (kW jD9 (jOM ke iG iH jNT (kW jKC (je_un jV0 (jv 1 rfl vC)) (kW yE (jv 1 rfl vC) (je_int)))) (je_int)) jF3)
   (jF (jU (kO (m:=[none,some 1]) (Nc:=["choice","mask"]) rfl (yW (kD jBT (jv 0 rfl vL) (jv 2 rfl vL) jCQ)) rfl Ab Ab (jK (psc:=j8 sAt)) (jI (N:=nAt) rfl rfl Ab) (λcl C fp s H=>jO (i:=0) (show (["choice","mask"]:Am).Nodup by decide+kernel) rfl yK) (λcl C fp s H=>jB6 (jY qC (kW jKC (kD yI (jv 0 rfl jQ) (je_int) jJ) (jv 1 rfl kL)) (je_int) (jR _))) (λcl C fp s H=>(jv 0 rfl jQ)) jSJ))))⟩
def jD1(ms:Ag)(Ar:Ae)(t:Nat):yP ms Ar 0 t=if (t:Int)∈ms then [(-1,2^t)] else []:=by
 unfold yP;rw[iW];simp
theorem jPC{w:Nat}(hn:n<Ar.length)(t:Nat)(ht:(jB Ar (n:Int)).headD 0=(t:Int)):chsN w ms Ar (n+1)=(chsN w ms Ar n).set t (yP ms Ar n t++[((n:Int),maskN (jB Ar n))]):=by
 have key:∀u,yP ms Ar (n+1) u=yP ms Ar n u++if u=t then [((n:Int),maskN (jB Ar n))] else []:=λu=>by
  unfold yP;rw[jBW hn,bU,aW,aY];congr 2;rw[cW,ht];by_cases hu:u=t
  .subst hu;rw[aA (ao rfl),aA rfl];rfl
  .rw[az (by rw[bz];lia),az hu];rfl
 refine List.ext_getElem? λi=>?_;rw[List.getElem?_set,yB];by_cases hi:i<w
 .rw[jA9 hi,jA9 hi,key];by_cases h:t=i
  .subst h;rw[aA rfl,aA rfl,aA hi]
  .rw[az h,az (λz=>h z.symm),aV]
 .rw[da (by rw[yB];lia),da (by rw[yB];lia)];split
  .rw[az Aa]
  .rfl
def ChAt.app{H:Hp}{L:Addr}{ch:Ch}{t:Nat}{l:Addr}{ls:List Addr}{vs:List V}{cs:List (Int×Nat)}{v:V}{c:Int×Nat}(hL:H L=some (.lst (ls.map V.ref)))(nd:ls.Nodup)(al:All2 (RowAt H) ls ch)(hl:ls[t]?=some l)(hc:ch[t]?=some cs)(hv:H l=some (.lst vs))(av:All2 (PrAt H) vs cs)(pv:PrAt H v c)(ne:l≠L):
  (L2.upd H l (.lst (vs++[v]))) L=some (.lst (ls.map V.ref))/\All2 (RowAt (L2.upd H l (.lst (vs++[v])))) ls (ch.set t (cs++[c])):=by
 have tu:Tups H (L2.upd H l (.lst (vs++[v]))):=Tups.upd hv _;refine⟨by rw[jA ne.symm];exact hL,?_⟩;refine All2.of_get (by rw[im];exact al.len) λi a b h1 h2=>?_;rw[List.getElem?_set] at h2;by_cases hi:t=i
 .subst hi;rw[aA rfl,aA (am.mp hc).1] at h2;cases h2;rw[hl] at h1;cases h1;exact⟨_,j7,(av.imp λ_ _=>PrAt.mono tu).snoc (pv.mono tu)⟩
 .rw[az hi] at h2;obtain⟨b',hb',r⟩:=al.get' h1;rw[h2] at hb';cases hb';refine r.keep (λxs hx=>?_) tu;rw[jA λz=>hi ?_]
  .exact hx
  .exact(eM (am.mp hl).1 nd).mp (by rw[hl,h1,z])
theorem jLP(F:Fun K "choices_of" "choices_of" yH f fd)(T:Txt mg)(CM:Can P w K mg Aq "mask_of" 1 fM fdM ["lot"] jH5):FnOk P w K mg Aq CX0 2 f fd ["box"] jBZ:=by
 refine F.ok scChoices (λvs H Q E h=>?_) (λmn A mj s H vs Q E hr h=>?_)
 .obtain⟨_,_,_,_,rfl,_⟩:=h;rfl
 .obtain⟨b,w,ms,Ar,rfl,hB,g,q⟩:=h;refine⟨_,(jRD T CM hr).2.h,?_⟩;obtain⟨qm,qp,ps,b1,b2,b3,b4⟩:=id hB.ex;have pl:=b4.len;have w0:=g.w0;have w1:=g.w1;have gpl:=g.pl;refine⟨_,rfl,b,_,0,_,rfl,rfl,SqT.of b1,rfl,w,rfl,Aa,Aa,jAI (n:=w.toNat) (by rw[aJ];lia) (λD i σ' H' zs=>(∃v,σ'=[v,some (.ref b)])/\Ext H H'/\H' D=some (.lst zs)/\H D=none/\∃ls:List Addr,zs=ls.map V.ref/\ls.Nodup/\D∉ls/\(∀a∈ls,H a=none)/\All2 (RowAt H') ls ((List.range i).map (yP ms Ar 0))) ?_ ?_ ?_ ?_⟩
  .intro D hD;exact⟨⟨_,rfl⟩,(Ext.refl _).new hD _,j7,hD,[],rfl,lj,Ad,Ad,trivial⟩
  .rintro D i σ' H' zs hD hi ⟨_,e,h2,_,ls,rfl,_,_,_,al⟩;refine⟨h2,?_⟩;rw[ag,al.len,ag,b7];lia
  .rintro D i σ' H' zs hD hi ⟨⟨v,rfl⟩,e,h2,hn,ls,rfl,nd,hDl,nol,al⟩;dsimp only[kX,yR];rw[aA rfl];have e0:(0+(i:Int))=(i:Int):=Aa;have key:∀(l:Addr) (H2:Hp),Ext H' H2->H' l=none->RowAt H2 l (yP ms Ar 0 i)->H2 D=some (.lst (ls.map V.ref))/\((∃v,[some (V.int (i:Int)),some (.ref b)]=[v,some (.ref b)])/\Ext H (L2.upd H2 D (.lst (ls.map V.ref++[.ref l])))/\(L2.upd H2 D (.lst (ls.map V.ref++[.ref l]))) D=some (.lst (ls.map V.ref++[.ref l]))/\H D=none/\∃ls':List Addr,ls.map V.ref++[.ref l]=ls'.map V.ref/\ls'.Nodup/\D∉ls'/\(∀a∈ls',H a=none)/\All2 (RowAt (L2.upd H2 D (.lst (ls.map V.ref++[.ref l])))) ls' ((List.range (i+1)).map (yP ms Ar 0))):=λl H2 e2 nl rl=>by
    have hD2:=e2 _ _ h2;have lD:l≠D:=λz=>by rw[z,h2] at nl;cases nl
    have tu:Tups H2 (L2.upd H2 D (.lst (ls.map V.ref++[.ref l]))):=Tups.upd hD2 _;have kp:∀a xs,a≠D->H2 a=some (.lst xs)->(L2.upd H2 D (.lst (ls.map V.ref++[.ref l]))) a=some (.lst xs):=λa xs ha h=>by rw[jA ha];exact h
    refine⟨hD2,⟨_,rfl⟩,(e.trans e2).updNew hn _,j7,hn,ls++[l],by rw[aW];rfl,?_,?_,?_,?_⟩
    .rw[fE];refine⟨nd,Ad,λa ha b hb z=>?_⟩;rw[ak] at hb;subst hb z;obtain⟨j,hj⟩:=bL ha;obtain⟨cs,_,vs,r,_⟩:=al.get' hj;rw[nl] at r;cases r
    .rw[aP,ak];rintro (z|z)
     .exact hDl z
     .exact lD z.symm
    .intro a ha;rcases aP.mp ha with z|z
     .exact nol a z
     .rw[ak] at z;subst z;cases y:H a with
      |none=>rfl
      |some o=>rw[e _ _ y] at nl;cases nl
    .rw[gw,aW];refine(All2.of_get al.len λj a c h1 h2'=>?_).snoc (rl.keep (λxs=>kp l xs lD) tu);obtain⟨c',hc',r⟩:=al.get' h1;rw[h2'] at hc';cases hc';have aD:a≠D:=λz=>hDl (z ▸ aQ h1);exact r.keep (λxs hx=>kp a xs aD (e2 _ _ hx)) (e2.tups.trans tu)
   refine⟨_,rfl,_,rfl,b,_,1,_,rfl,rfl,SqT.of (e _ _ b1),rfl,qm,_,rfl,.inr (SqT.of (e _ _ b2)),rfl,jAG ms,_,rfl,?_⟩;rw[e0,jB0];refine ite2 (λhz=>?_) (λhz=>?_)
   .have hz:=aL hz;refine⟨_,rfl,_,rfl,_,_,rfl,rfl,⟨Aa,Aa,Ac⟩,by show (2:Nat)<=_;decide,λr H2 d2 e2=>⟨by show (1:Nat)<=_;decide,λl H3 d3 e3 n3=>?_⟩⟩;have nl:H' l=none:=by
     cases z:H' l with
     |none=>rfl
     |some o=>rw[e2 _ _ z] at n3;cases n3
    refine key l H3 (e2.trans e3) nl ⟨_,d3,?_⟩;rw[jD1,aA hz];refine⟨⟨r,rfl,?_⟩,trivial⟩;have:(1:Int)*2^(i:Int).toNat=((2^i:Nat):Int):=by
     rw[bo];push_cast;lia
    rw[e3 _ _ d2];show some (HO.tup [V.int (-1),V.int ((1:Int)*2^(i:Int).toNat)])=_;rw[this]
   .refine⟨by show (0:Nat)<=_;decide,λl H3 d3 e3 n3=>?_⟩;refine key l H3 e3 n3 ⟨_,d3,?_⟩;rw[jD1,az (λz=>hz (ao z))];trivial
  .rintro D σ' H1 zs hD ⟨_,e1,h2,hn,ls,rfl,nd,hDl,nol,al⟩;refine⟨_,rfl,b,_,2,_,rfl,rfl,SqT.of (e1 _ _ b1),rfl,true,qp,rfl,⟨_,SqT.of (e1 _ _ b3)⟩,jR5 (tp:=true) (xs:=ps) (λi σ H'=>(∃v2 v3,σ=[some (.ref b),some (.ref D),v2,v3])/\Ext H H'/\H' D=some (.lst (ls.map V.ref))/\All2 (RowAt H') ls (chsN w.toNat ms Ar i)) ⟨⟨_,_,rfl⟩,e1,h2,al⟩ (λi σ H' ⟨_,e,_⟩=>SqT.of (e _ _ b3)) ?_ ?_⟩
   .rintro i x t σ H' hx ht ⟨⟨v2,v3,rfl⟩,e,h3,al3⟩;obtain⟨pc,hpc,hPc⟩:=b4.at hx;obtain⟨pa,pq,rfl,c1,c2⟩:=id hPc;have hi:i<Ar.length:=(am.mp hpc).1;have gp:=g.pg pc (aQ hpc);have et:jB Ar (i:Int)=pc.1:=by
     unfold jB;rw[bo,aG,hpc];rfl
    have lt:=jB5 _ 0 w gp.lot.ris gp.lot.bnd;have e':=e.new ht (.tup [.int (i:Int),.ref pa]);have k':Ext H' (L2.upd H' t (.tup [.int (i:Int),.ref pa])):=(Ext.refl _).new ht _;refine⟨t,_,rfl,SqT.of j7,rfl,_,_,rfl,_,_,rfl,rfl,?_⟩;have h5:=k' _ _ h3;have al5:=al3.imp λl cs r=>r.keep (λxs z=>k' _ _ z) k'.tups;generalize L2.upd H' t (.tup [.int (i:Int),.ref pa])=H5 at e' h5 al5 ⊢;obtain⟨hd,tl,hp1⟩:∃hd tl,pc.1=hd::tl:=by
     cases z:pc.1 with
     |nil=>exact absurd z gp.lot.ne
     |cons a r=>exact⟨a,r,rfl⟩
    have hb:=gp.lot.bnd hd (by rw[hp1];exact ai ..);have hdl:(jB Ar (i:Int)).headD 0=((hd.toNat:Nat):Int):=by
     rw[et,hp1];show hd=_;lia
    have hw:hd.toNat<w.toNat:=Aa;obtain⟨l,hl,vs,hv,av⟩:=al5.get (jA9 hw);have lne:l≠D:=λz=>hDl (z ▸ aQ hl);have iD:atI (ls.map V.ref) hd=some (.ref l):=by
     have:=jAN (xs:=ls.map V.ref) (j:=hd.toNat) (v:=.ref l) (by rw[aX,hl];rfl)
     rwa [show ((hd.toNat:Nat):Int)=hd by lia] at this
    have c2':H5 pq=some (.tup (pc.1.map V.int)):=e' _ _ c2;refine⟨_,rfl,_,rfl,pa,_,0,_,rfl,rfl,SqT.of (e' _ _ c1),rfl,pq,_,0,.int hd,rfl,rfl,SqT.of c2',by rw[hp1];exact jAN (j:=0) rfl,D,_,_,_,rfl,rfl,SqL.of h5,iD,.inl ⟨rfl,_,SqL.of hv⟩,_,rfl,_,rfl,pa,_,0,_,rfl,rfl,SqT.of (e' _ _ c1),rfl,pq,pc.1,rfl,c2',λx hx=>?_,Aa,λH6 e6=>?_⟩
    .have:=gp.lot.bnd x hx;lia
    refine⟨by show (2:Nat)<=_;decide,λr H7 d7 e7=>?_⟩;have E7:=e6.trans e7;have hv7:=E7 _ _ hv;have vl:vs.length<=33:=by
     rw[av.len];exact(jDE g).len _ _ (jA9 hw)
    have ap:=ChAt.app (v:=.ref r) (c:=((i:Int),maskN (jB Ar (i:Int)))) (E7 _ _ h5) nd (al5.imp λl cs r=>r.keep (λxs z=>E7 _ _ z) E7.tups) hl (jA9 hw) hv7 (av.imp λ_ _=>PrAt.mono E7.tups) ⟨r,rfl,by rw[et];exact d7⟩ lne;have nH:H l=none:=by
     cases z:H l with
     |none=>rfl
     |some o=>
      exfalso;rw[nol l (aQ hl)] at z;cases z
    refine⟨l,_,_,rfl,rfl,hv7,by rw[aJ];lia,⟨_,_,rfl⟩,?_,ap.1,?_⟩
    .exact(e'.trans E7).updNew nH _
    .rw[jPC hi hd.toNat hdl];exact ap.2
   .rintro σ H' ⟨⟨v2,v3,rfl⟩,e,h3,al3⟩;refine⟨_,rfl,q D H' ⟨ls,h3,nd,?_⟩ e⟩;rw[pl] at al3;exact al3
theorem jTX(F:Fun K "full_mask" "full_mask" sFull f fd)(T:Txt mg):FnOk P w K mg Aq CX0 1 f fd ["choices"] jF7:=by
 refine F.ok scFull (λvs H Q E h=>?_) (λmn A mj s H vs Q E hr h=>?_)
 .obtain⟨_,_,rfl,_⟩:=h;rfl
 .obtain⟨L,ch,rfl,hL,hw,q⟩:=h;refine⟨_,(fullA T).2.h,?_⟩;obtain⟨ls,h1,h2⟩:=hL.len;refine⟨_,rfl,L,_,rfl,.inl (SqL.of h1),_,_,rfl,rfl,⟨?_,?_,?_⟩,_,_,rfl,rfl,?_⟩
  .first|lia|decide
  .rw[ag];lia
  .first|lia|decide
  .have e:(1:Int)*2^(((ls.map V.ref).length:Nat):Int).toNat-1=((fullN ch:Nat):Int):=by
    rw[ag,h2,bo];unfold fullN;have:=eG ch.length;have e2:((2^ch.length:Nat):Int)=(2:Int)^ch.length:=by push_cast;rfl
    lia
   show Q (V.int ((1:Int)*2^(((ls.map V.ref).length:Nat):Int).toNat-1)) H;rw[e];exact q
theorem ok_at(F:Fun K "choices_at" "choices_at" sAt f fd)(T:Txt mg):FnOk P w K mg Aq CX0 1 f fd ["choices","mask"] spAt:=by
 refine F.ok scAt (λvs H Q E h=>?_) (λmn A mj s H vs Q E hr h=>?_)
 .obtain⟨_,_,_,rfl,_⟩:=h;rfl
 .obtain⟨L,ch,m,rfl,hL,ok,hm,hf,q⟩:=h;refine⟨_,(atA T).2.h,?_⟩;obtain⟨ls,h1,nd,al⟩:=hL.ex;have hlow:=jEC hm hf;have w16:=ok.w;refine⟨_,rfl,_,rfl,_,rfl,_,_,rfl,rfl,_,_,rfl,rfl,rfl,_,rfl,rfl,_,_,rfl,rfl,?_⟩;have el:(Builtin.Int.intBits (Builtin.bitAnd (Builtin.bitNot (m:Int)) ((m:Int)+1)):Int)-1=((lowN m:Nat):Int):=by
   rw[jQQ];lia
  show kX 2 (V.int ((Builtin.Int.intBits (Builtin.bitAnd (Builtin.bitNot (m:Int)) ((m:Int)+1)):Int)-1)) _ _ _;rw[el];obtain⟨l,hl,vs,hv,av⟩:=al.get (aF hlow);have vl:vs.length<=33:=by
   rw[av.len];exact ok.len _ _ (aF hlow)
  have er:ch.getD (lowN m) []=ch[lowN m]:=by
   rw[aG,aF hlow];rfl
  refine⟨_,rfl,_,rfl,L,_,_,_,rfl,rfl,SqL.of h1,jAN (by rw[aX,hl];rfl),l,rfl,⟨_,SqL.of hv⟩,jAJ (xs:=vs) (λσ=>∃v,σ=[v,some (.int (m:Int))]) (λH' zs j=>All2 (PrAt H') zs (((ch[lowN m]).take j).filter λc=>c.2&&&m==0)) ⟨λH=>trivial,λH H' zs j t h=>h.imp λ_ _=>PrAt.mono t,λH zs j h=>?_⟩ hv (by rw[aJ];lia) ⟨_,rfl⟩ ?_ ?_⟩
  .rw[h.len];exact bh (bN _ _) (bC _ _)
  .rintro j x σ' H' zs hx ⟨v,rfl⟩ e hz R S yes no;obtain⟨c,hc,qa,rfl,hq⟩:=av.get' hx;have hq':=e _ _ hq;have et:(ch[lowN m]).take (j+1)=(ch[lowN m]).take j++[c]:=by
    rw[bv,hc];rfl
   refine⟨_,rfl,qa,_,1,_,rfl,rfl,SqT.of hq',rfl,_,rfl,_,_,rfl,rfl,rfl,_,rfl,?_⟩;have ez:decide (V.int (Builtin.bitAnd ((c.2:Nat):Int) (m:Int))=V.int 0)=(c.2&&&m==0):=by
    rw[jFQ,cj,bz,gA];exact⟨λh=>by have:=V.int.inj h;lia,λh=>by rw[h];rfl⟩
   show if decide (V.int (Builtin.bitAnd ((c.2:Nat):Int) (m:Int))=V.int 0)=true then _ else _
   rw[ez];refine ite2 (λh=>?_) (λh=>?_)
   .refine⟨_,rfl,yes _ _ _ ⟨_,rfl⟩ (Ext.refl _) ?_⟩;show All2 _ _ (((ch[lowN m]).take (j+1)).filter _);rw[et,bU,cW,aA h];exact hz.snoc ⟨qa,rfl,hq'⟩
   .refine no _ _ ⟨_,rfl⟩ (Ext.refl _) ?_;show All2 _ _ (((ch[lowN m]).take (j+1)).filter _);rw[et,bU,cW,az h,kz,aV];exact hz
  .rintro D H' zs hD e hn hz;rw[av.len,bK] at hz;refine q D H' ⟨zs,hD,?_⟩ e hn;unfold chAt;rw[er];exact hz
end Eo
namespace L2
open PySem
def jMN{ks:List (Option Expr)}{vs:List Expr}{pos:Pos}{o:Option Expr}:SwOk (.Dict ks vs pos) o:=⟨λ_ _=>rfl⟩
end L2
namespace Eo
open PySem L2
variable {M:Addr}{m:Nat}{H:Hp}
abbrev natV(n:Nat):V:=.int (n:Int)
structure MetOk (ch:Ch)(ns:List Nat):Prop where
 zero:0∈ns
 bnd:∀m∈ns,m<2^ch.length
 up:∀m∈ns,m≠fullN ch->∀c∈chAt ch m,(m|||c.2)∈ns
def trK(ks:List Nat):List (Key×V):=ks.map λ(k:Nat)=>(Sum.inl (k:Int),V.bl true)
def jST:Stmt->List Stmt
 | .While _ b _ _=>b
 |_=>[]
theorem jIM(n:Nat):∀ks:List Nat,valV (trK ks) (.inl (n:Int))=if n∈ks then some (.bl true) else none
 |[]=>rfl
 |k::ks=>by
  show valV ((Sum.inl (k:Int),V.bl true)::trK ks) _=_;by_cases h:k=n
  .subst h;rw[jBA rfl,aA (ai ..)]
  .rw[jBB (by intro z;have:=hG z;lia),jIM n ks];by_cases h2:n∈ks
   .rw[aA h2,aA (ah _ h2)]
   .rw[az h2,az];intro z;rcases aB.mp z with z|z
    .exact h z.symm
    .exact h2 z
def jUL{ks:List Nat}{c:Nat}(h:H M=some (.dK (trK ks))):DGet H M (.int (Builtin.bitOr (m:Int) (c:Int))) (if (m|||c)∈ks then some (.bl true) else none):=by
 rw[jCG,<- jIM];exact DGet.k (k:=Sum.inl (((m|||c:Nat):Nat):Int)) h
def jUK{ks:List Nat}{c:Nat}(h:H M=some (.dK (trK ks)))(hn:¬(m|||c)∈ks)(hl:(trK ks).length<sizeLine):DPut H M (.int (Builtin.bitOr (m:Int) (c:Int))) (.bl true) (L2.upd H M (.dK (trK (ks++[m|||c])))):=by
 rw[jCG];have:=DPut.k (k:=Sum.inl (((m|||c:Nat):Nat):Int)) (v:=.bl true) h hl;rw[jK6 _ (by rw[jIM,az hn])] at this;unfold trK;rw[aW];exact this
theorem jAZ{n:Nat}{ks:List Nat}(nd:ks.Nodup)(hb:∀k∈ks,k<n):ks.length<=n:=by
 have:(ks.map λk:Nat=>(k:Int)).length<=n:=jNL n _ (bH.mpr (nd.imp λh=>by lia)) λt ht=>by
  obtain⟨k,hk,rfl⟩:=aZ.mp ht;have:=hb k hk;lia
 rwa [ag] at this
noncomputable abbrev nMet:Am:=["choices","full","met","waiting","mask","number","more"]
def scMet:FnScope nMet ["choices"] (j8 sMet):= {}
def spMet:Sp:=λvs H Q _=>∃(L:Addr) (ch:Ch),vs=[.ref L]/\ChAt H L ch/\ChOk ch/\∀(r:Addr) (ns:List Nat) (H':Hp),H' r=some (.lst (ns.map natV))->ns.Pairwise (· > ·)->MetOk ch ns->Ext H H'->H r=none->Q (.ref r) H'
def jKJ(T:Txt mg)(CA:Can P w K mg Aq "choices_at" 1 fA fdA ["choices","mask"] spAt)(hr:Room 1 (XOf nMet "masks_met" sMet P w K mg Aq f mn A mj s H0 E).A): {t:TS // JSs (XOf nMet "masks_met" sMet P w K mg Aq f mn A mj s H0 E) (jST ((jE sMet).getD 3 (.Pass ⟨0,0,0,0⟩))) t}:=
 have nd:=scMet.nd
 ⟨_,(jD (jS (i:=4) nd rfl lL (jOM bQ PySem.F.slot_list_pop PySem.F.type_list_pop jWB (jv 3 rfl vL)) jW)
   (jF (yT (jY op_ne (jv 4 rfl vL) (jv 1 rfl vL) (jR _)) (jF (jEI dH rfl (yW (CA.je hr gD (j4 (jv 0 rfl vL) (j4 (jv 4 rfl vL) j9 j6) j6) j6)) (jGJ (i:=5) (j:=6) nd rfl rfl Ab Ab) (jF (yT (jOL (hu_of hr) (kW op_or (jv 4 rfl vL) (jv 6 rfl vL)) (jv 2 rfl vL) rfl) (jD (jJ7 (hu_of hr) (jv 2 rfl vL) (kW op_or (jv 4 rfl vL) (jv 6 rfl vL)) (je_bl) jPY)
   (jF (jBS (je_bm bQ cI cJ jA4 (jv 3 rfl vL) (j4 (kW op_or (jv 4 rfl vL) (jv 6 rfl vL)) j9 yO) yO) jW))) kQ)) kR)) kQ)))⟩
def metA(T:Txt mg)(CF:Can P w K mg Aq "full_mask" 1 fF fdF ["choices"] jF7)(CA:Can P w K mg Aq "choices_at" 1 fA fdA ["choices","mask"] spAt)(hr:Room 1 (XOf nMet "masks_met" sMet P w K mg Aq f mn A mj s H0 E).A): {t:TS // JSs (XOf nMet "masks_met" sMet P w K mg Aq f mn A mj s H0 E) (jE sMet) t}:=
 have nd:=scMet.nd
 ⟨_,(jD (jS (i:=1) nd rfl lL (CF.je (hr.mono Ac) gD (j4 (jv 0 rfl vL) j9 j6) j6) jW) (jD (jS (i:=2) nd rfl lL (jQY) jMN) (jD (jS (i:=3) nd rfl lL (yF (j4 (je_int) j9 jN)) jD3) (jD (jQW dH (jY op_gt (jH jA0 gD T.len Ab (j4 (jv 3 rfl vL) j9 j6) j6) (je_int) (jR _)) (jKJ T CA hr).2) (jF (jU (jHS (jGU rfl) gD T.sorted Ab (j4 (jv 2 rfl vL) j9 j6) (jOG je_bl jSF) j6)))))))⟩
theorem jQM(T:Txt mg)(CA:Can P w K mg Aq "choices_at" 1 fA fdA ["choices","mask"] spAt)(hr:Room 1 (XOf nMet "masks_met" sMet P w K mg Aq f mn A mj s H0 E).A)
  {D:Ends}{L W:Addr}{ch:Ch}{ks ws:List Nat}{v4 v5 v6:Option V}(hL:ChAt H L ch) (ok:ChOk ch) (hM:H M=some (.dK (trK ks))) (hW:H W=some (.lst ((ws++[m]).map natV))) (nd:ks.Nodup) (hb:∀k∈ks,k<2^ch.length) (hm:m∈ks) (wln:ws.length<=ks.length)
  (nx:∀(H':Hp) (new:List Nat) (v4 v5 v6:Option V),(∀b o,H b=some o->b≠M->b≠W->H' b=some o)->H' M=some (.dK (trK (ks++new)))->H' W=some (.lst ((ws++new).map natV))->(ks++new).Nodup->(∀k∈ks++new,k<2^ch.length)->(m≠fullN ch->∀c∈chAt ch m,(m|||c.2)∈ks++new)->D.nx [some (.ref L),some (natV (fullN ch)),some (.ref M),some (.ref W),v4,v5,v6] H'):
  (jKJ T CA hr).1 D [some (.ref L),some (natV (fullN ch)),some (.ref M),some (.ref W),v4,v5,v6] H:=by
 have MW:M≠W:=λz=>by rw[z,hW] at hM;cases hM
 have LW:∀ls:List Addr,H L=some (.lst (ls.map V.ref))->L≠W:=λls h z=>by
  rw[z,hW] at h;have h:=HO.lst.inj (bA h);have h2:natV m∈ls.map V.ref:=by rw[<- h];simp
  obtain⟨a,_,ha⟩:=aZ.mp h2;cases ha
 have rw':∀l cs,RowAt H l cs->l≠W:=λl cs ⟨vs,h1,h2⟩ z=>by
  rw[z,hW] at h1;have h1:=HO.lst.inj (bA h1);have h3:vs[ws.length]?=some (natV m):=by rw[<- h1];simp
  obtain⟨_,_,q,e,_⟩:=h2.get' h3;cases e
 have w16:=ok.w;have hm2:=hb m hm;have wl:((ws++[m]).map natV)[((ws++[m]).map natV).length-1]?=some (natV m):=by
  rw[ag,aI,aX,bw Ad];simp
 have dl:((ws++[m]).map natV).dropLast=ws.map natV:=by
  rw[aW];simp
 refine⟨_,rfl,.inl ⟨rfl,_,SqL.of hW⟩,W,_,_,rfl,rfl,hW,wl,?_⟩;rw[dl];have hM1:(L2.upd H W (.lst (ws.map natV))) M=some (.dK (trK ks)):=by rw[jA MW];exact hM
 have hW1:(L2.upd H W (.lst (ws.map natV))) W=some (.lst (ws.map natV)):=j7;have k1:∀b o,H b=some o->b≠W->(L2.upd H W (.lst (ws.map natV))) b=some o:=λb o h n=>by rw[jA n];exact h
 have hL1:ChAt (L2.upd H W (.lst (ws.map natV))) L ch:=by
  obtain⟨ls,a1,a2,a3⟩:=hL.ex;exact⟨ls,k1 _ _ a1 (LW _ a1),a2,a3.imp λl cs r=>r.keep (λxs z=>k1 _ _ z (rw' _ _ r)) (Tups.upd hW _)⟩
 generalize L2.upd H W (.lst (ws.map natV))=H1 at hM1 hW1 k1 hL1;refine⟨_,rfl,_,rfl,rfl,_,rfl,?_⟩;have nf:(!decide (natV m=natV (fullN ch)))=true↔m≠fullN ch:=by
  rw[cq,dv];refine not_congr ⟨λh=>?_,λh=>by rw[h]⟩;have:=V.int.inj h;lia
 refine ite2 (λh=>?_) (λh=>?_)
 .have h:=nf.mp h;refine⟨_,rfl,_,rfl,L,ch,m,rfl,hL1,ok,hm2,h,λr H2 ⟨vs,hr2,av⟩ e2 nr=>?_⟩;have hM2:=e2 _ _ hM1;have hW2:=e2 _ _ hW1;have rW:r≠W:=λz=>by rw[z,hW1] at nr;cases nr
  have rM:r≠M:=λz=>by rw[z,hM1] at nr;cases nr
  refine⟨r,rfl,⟨_,SqL.of hr2⟩,jGM (xs:=vs) (λi σ H'=>(∃v5 v6,σ=[some (.ref L),some (natV (fullN ch)),some (.ref M),some (.ref W),some (natV m),v5,v6])/\(∀b o,H2 b=some o->b≠M->b≠W->H' b=some o)/\∃new:List Nat,H' M=some (.dK (trK (ks++new)))/\H' W=some (.lst ((ws++new).map natV))/\(ks++new).Nodup/\(∀k∈ks++new,k<2^ch.length)/\∀c∈(chAt ch m).take i,(m|||c.2)∈ks++new) ⟨⟨_,_,rfl⟩,λb o h _ _=>h,[],by rw[aV];exact hM2,by rw[aV];exact hW2,by rw[aV];exact nd,by rw[aV];exact hb,λc hc=>by cases hc⟩ (λi σ H' _ ⟨_,k,_⟩=>SqL.of (k _ _ hr2 rM rW)) ?_ ?_⟩
  .rintro i x σ H' hx ⟨⟨v5,v6,rfl⟩,k,new,hM',hW',nd',hb',cl⟩;obtain⟨c,hc,q,rfl,hq⟩:=av.get' hx;have qM:q≠M:=λz=>by rw[z,hM2] at hq;cases hq
   have qW:q≠W:=λz=>by rw[z,hW2] at hq;cases hq
   have hcm:=aQ hc;obtain⟨u1,u2⟩:=ok.up hm2 h hcm;have tk:(chAt ch m).take (i+1)=(chAt ch m).take i++[c]:=by rw[bv,hc];rfl
   refine⟨q,_,rfl,SqT.of (k _ _ hq qM qW),rfl,_,_,rfl,_,_,rfl,rfl,?_⟩;refine⟨_,rfl,_,rfl,_,_,rfl,rfl,_,rfl,M,_,rfl,jUL hM',_,rfl,?_⟩;by_cases hin:(m|||c.2)∈ks++new
   .rw[aA hin];refine iteF ⟨⟨_,_,rfl⟩,k,new,hM',hW',nd',hb',λc' hc'=>?_⟩;rw[tk] at hc';rcases aP.mp hc' with z|z
    .exact cl c' z
    .rw[ak] at z;rw[z];exact hin
   .rw[az hin];have ndn:(ks++(new++[m|||c.2])).Nodup:=by
     rw[<- aY,fE];refine⟨nd',Ad,λa ha b hb z=>?_⟩;rw[ak] at hb;exact hin (hb ▸ z ▸ ha)
    have bdn:∀k∈ks++(new++[m|||c.2]),k<2^ch.length:=λk hk=>by
     rw[<- aY] at hk;rcases aP.mp hk with z|z
     .exact hb' k z
     .rw[ak] at z;rw[z];exact u2
    have sz:(ks++(new++[m|||c.2])).length<=2^16:=bh (jAZ ndn bdn) (cr Ac w16);rw[aI,aI] at sz;have kl:(trK (ks++new)).length<sizeLine:=by
     unfold trK;rw[ag,aI,aJ];simp at sz;lia
    refine iteT ⟨_,rfl,_,rfl,_,rfl,_,_,rfl,rfl,M,_,rfl,jUK hM' hin kl,?_⟩;have hW3:(L2.upd H' M (.dK (trK (ks++new++[m|||c.2])))) W=some (.lst ((ws++new).map natV)):=by rw[jA MW.symm];exact hW'
    have hM3:(L2.upd H' M (.dK (trK (ks++new++[m|||c.2])))) M=some (.dK (trK (ks++(new++[m|||c.2])))):=by rw[j7,aY]
    have k3:∀b o,H2 b=some o->b≠M->b≠W->(L2.upd H' M (.dK (trK (ks++new++[m|||c.2])))) b=some o:=λb o hbo n1 n2=>by rw[jA n1];exact k b o hbo n1 n2
    generalize L2.upd H' M (.dK (trK (ks++new++[m|||c.2])))=H3 at hW3 hM3 k3;refine⟨_,rfl,.inl ⟨rfl,_,SqL.of hW3⟩,_,rfl,_,rfl,_,_,rfl,rfl,W,_,_,rfl,rfl,hW3,?_,⟨_,_,rfl⟩,λb o hbo n1 n2=>by rw[jA n2];exact k3 b o hbo n1 n2,new++[m|||c.2],by rw[jA MW];exact hM3,?_,ndn,bdn,λc' hc'=>?_⟩
    .skip
     rw[ag,aI,aJ];simp at sz;lia
    .rw[j7];show some (HO.lst ((ws++new).map natV++[V.int (Builtin.bitOr (m:Int) (c.2:Int))]))=_;rw[jCG,<- aY];exact ce (λz=>some (HO.lst z)) (aW (f:=natV) (l₁:=ws++new) (l₂:=[m|||c.2])).symm
    .rw[<- aY,aP];rw[tk] at hc';rcases aP.mp hc' with z|z
     .exact .inl (cl c' z)
     .rw[ak] at z;rw[z];exact .inr (ak.mpr rfl)
  .rintro σ H' ⟨⟨v5,v6,rfl⟩,k,new,hM',hW',nd',hb',cl⟩;have:(chAt ch m).take vs.length=chAt ch m:=by rw[av.len,bK]
   rw[this] at cl;exact nx H' new _ _ _ (λb o hbo n1 n2=>k _ _ (e2 _ _ (k1 _ _ hbo n2)) n1 n2) hM' hW' nd' hb' λ_=>cl
 .have h:m=fullN ch:=cg λz=>h (nf.mpr z);exact nx H1 [] _ _ _ (λb o hbo n1 n2=>k1 _ _ hbo n2) (by rw[aV];exact hM1) (by rw[aV];exact hW1) (by rw[aV];exact nd) (by rw[aV];exact hb) λz=>absurd h z
theorem jW0{fd:FuncData}(F:Fun K "masks_met" "masks_met" sMet f fd)(T:Txt mg)(CF:Can P w K mg Aq "full_mask" 1 fF fdF ["choices"] jF7)(CA:Can P w K mg Aq "choices_at" 1 fA fdA ["choices","mask"] spAt):FnOk P w K mg Aq CX0 2 f fd ["choices"] spMet:=by
 refine F.ok scMet (λvs H Q E h=>?_) (λmn A mj s H vs Q E hr h=>?_)
 .obtain⟨_,_,rfl,_⟩:=h;rfl
 .obtain⟨L,ch,rfl,hL,ok,q⟩:=h;refine⟨_,(metA T CF CA hr).2.h,?_⟩;have w16:=ok.w;refine⟨_,rfl,L,ch,rfl,hL,w16,?_⟩;refine λM H1 hM1 e1 nM=>?_;refine⟨by show (1:Nat)<=_;decide,λW H2 hW2 e2 nW=>?_⟩;have hM2:=e2 _ _ hM1;have nW0:H W=none:=by
   cases z:H W with
   |none=>rfl
   |some o=>rw[e1 _ _ z] at nW;cases nW
  have E2:=e1.trans e2;have pz:(0:Nat)<2^ch.length:=eG _;refine⟨λn σ H'=>(∃v4 v5 v6,σ=[some (.ref L),some (natV (fullN ch)),some (.ref M),some (.ref W),v4,v5,v6])/\Ext H H'/\∃ks ws:List Nat,n=2*(2^ch.length-ks.length)+ws.length/\H' M=some (.dK (trK ks))/\H' W=some (.lst (ws.map natV))/\ks.Nodup/\(∀k∈ks,k<2^ch.length)/\(∀k∈ws,k∈ks)/\ws.length<=ks.length/\0∈ks/\∀k∈ks,k∉ws->k≠fullN ch->∀c∈chAt ch k,(k|||c.2)∈ks,⟨_,⟨_,_,_,rfl⟩,E2,[0],[0],rfl,hM2,hW2,Ad,λk hk=>by rw[ak] at hk;lia,λk hk=>hk,ar _,Ad,λk h1 h2=>absurd h1 h2⟩,?_⟩;rintro n σ H' ⟨⟨v4,v5,v6,rfl⟩,e,ks,ws,rfl,hM',hW',nd,hb,sub,wl,z0,cl⟩;refine⟨_,rfl,W,_,rfl,.inl (SqL.of hW'),_,_,rfl,rfl,_,rfl,?_⟩;rcases List.eq_nil_or_concat ws with hws|⟨ws',m,hws⟩
  .subst hws;refine iteF ?_;have ksl:=jAZ nd hb;have p16:2^ch.length<=2^16:=cr Ac w16;refine⟨_,rfl,M,trK ks,ks.map λk:Nat=>(k:Int),true,rfl,rfl,hM',by unfold trK;rw[bX,bX];rfl,by rw[ag,aJ];lia,λl ns hl ord pm=>?_⟩;obtain⟨js,rfl⟩:∃js:List Nat,ns=js.map λk:Nat=>(k:Int):=by
    refine⟨ns.map Int.toNat,?_⟩;rw[bX];refine(jd ns).symm.trans (cK λx hx=>?_);obtain⟨k,_,rfl⟩:=aZ.mp (pm.mem_iff.mp hx);show ((k:Nat):Int)=(((k:Nat):Int).toNat:Int);lia
   have pm':js.Perm ks:=by
    have:=pm.map Int.toNat;rw[bX,bX] at this;have e:∀l:List Nat,l.map (Int.toNat ∘ λk:Nat=>(k:Int))=l:=λl=>(cK λx _=>by show ((x:Nat):Int).toNat=x;lia).trans (jd l)
    rwa [e,e] at this
   refine q l js _ ?_ ?_ ⟨pm'.mem_iff.mpr z0,λm hm=>hb m (pm'.mem_iff.mp hm),λm hm hf c hc=>pm'.mem_iff.mpr (cl m (pm'.mem_iff.mp hm) Ad hf c hc)⟩ ((Ext.refl _).trans (e.new hl _)) ?_
   .rw[j7,bX];rfl
   .have nj:js.Nodup:=pm'.nodup_iff.mpr nd;have:js.Pairwise (λ(a b:Nat)=>(b:Int)<=(a:Int)):=bH.mp ord;exact(this.and nj).imp λ{a b} h=>by lia
   .cases z:H l with
    |none=>rfl
    |some o=>rw[e _ _ z] at hl;cases hl
  .have hws:ws=ws'++[m]:=by rw[hws,List.concat_eq_append]
   subst hws;have lp:decide ((0:Int)<(((ws'++[m]).map natV).length:Int))=true:=by
    rw[bz,ag,aI];show (0:Int)<((ws'.length+1:Nat):Int);lia
   show if decide ((0:Int)<(((ws'++[m]).map natV).length:Int))=true then _ else _
   rw[aA lp];rw[aI] at wl;refine⟨λσ' H''=>(∃v4 v5 v6,σ'=[some (.ref L),some (natV (fullN ch)),some (.ref M),some (.ref W),v4,v5,v6])/\Ext H H''/\∃new:List Nat,H'' M=some (.dK (trK (ks++new)))/\H'' W=some (.lst ((ws'++new).map natV))/\(ks++new).Nodup/\(∀k∈ks++new,k<2^ch.length)/\(m≠fullN ch->∀c∈chAt ch m,(m|||c.2)∈ks++new),?_,jQM T CA hr (ks:=ks) (ws:=ws') (m:=m) (hL.ext e) ok hM' hW' nd hb (sub m Ad) Aa ?_⟩
   .rintro σ' H'' ⟨hσ,e',new,a1,a2,a3,a4,a5⟩;have sl:=jAZ a3 a4;rw[aI] at sl;refine⟨_,?_,hσ,e',ks++new,ws'++new,rfl,a1,a2,a3,a4,λk hk=>?_,?_,ba _ z0,λk hk hkw hf c hc=>?_⟩
    .rw[aI,aI,aI];simp only[aU,cz];lia
    .rcases aP.mp hk with z|z
     .exact ba _ (sub k (ba _ z))
     .exact aE _ z
    .rw[aI,aI];lia
    .by_cases hkm:k=m
     .subst hkm;exact a5 hf c hc
     .rcases aP.mp hk with z|z
      .refine ba _ (cl k z (λy=>?_) hf c hc);rcases aP.mp y with y|y
       .exact hkw (ba _ y)
       .exact hkm (ak.mp y)
      .exact absurd (aE _ z) hkw
   .intro H'' new v4 v5 v6 kp a1 a2 a3 a4 a5;refine⟨⟨_,_,_,rfl⟩,λb o hbo=>?_,new,a1,a2,a3,a4,a5⟩;refine kp b o (e b o hbo) (λz=>?_) λz=>?_
    .rw[z,nM] at hbo;cases hbo
    .rw[z,nW0] at hbo;cases hbo
end Eo
namespace L2
open PySem
def jSU{x:Str}{pos:Pos}{o:Option Expr}:SwOk (.Name x pos) o:=⟨λ_ _=>rfl⟩
end L2
namespace Eo
open PySem L2
structure HpOk (φ:Hp->Prop):Prop where
 keep:∀(H H':Hp) (D:Addr) (kvs:List (Key×V)),H D=some (.dK kvs)->(∀b o,H b=some o->b≠D->H' b=some o)->φ H->φ H'
 ext:∀H H',Ext H H'->φ H->φ H'
abbrev RepT:=Nat->Hp->V->Prop
def RepOk(R:RepT):Prop:=∀m v,HpOk λH=>R m H v
def ItAt(R:RepT)(m:Nat)(H:Hp)(v:V)(c:Int×Nat):Prop:=∃q u,v=.ref q/\H q=some (.tup [.int c.1,u])/\R (m|||c.2) H u
def jK1(ch:Ch)(R:RepT):Sp:=λvs H Q _=>∃(l:Addr) (us:List V) (m:Nat),vs=[.ref l]/\H l=some (.lst us)/\m<2^ch.length/\m≠fullN ch/\All2 (ItAt R m H) us (chAt ch m)/\∀r H',R m H' r->Ext H H'->Q r H'
def gvs(ns:List Nat)(us:List V):List (Key×V):=(ns.zip us).map λp:Nat×V=>(Sum.inl (p.1:Int),p.2)
structure GotAt (H:Hp)(r:Addr)(ch:Ch)(R:RepT)(ns:List Nat):Prop where
 ex:∃us,H r=some (.dK (gvs ns us))/\All2 (λn u=>R n H u) ns us
theorem jFT{R:Nat->V->Prop}:∀{ns:List Nat}{us:List V}{n:Nat},All2 R ns us->ns.Nodup->n∈ns->∃u,valV (gvs ns us) (.inl (n:Int))=some u/\R n u
 |[],_,_,_,_,h=>by cases h
 |k::ns,[],_,h,_,_=>h.elim
 |k::ns,u::us,n,h,nd,hm=>by
  show ∃x,valV ((Sum.inl (k:Int),u)::gvs ns us) _=_/\_;by_cases hk:k=n
  .subst hk;exact⟨u,jBA rfl,h.1⟩
  .rw[jBB (by intro z;have:=hG z;lia)];rcases aB.mp hm with z|z
   .exact absurd z.symm hk
   .exact jFT h.2 (bS.mp nd).2 z
theorem jBV:∀{ns:List Nat}{us:List V}{n:Nat},n∉ns->valV (gvs ns us) (.inl (n:Int))=none
 |[],_,_,_=>by
  unfold gvs;rw[List.zip_nil_left];rfl
 |k::ns,[],_,_=>rfl
 |k::ns,u::us,n,h=>by
  show valV ((Sum.inl (k:Int),u)::gvs ns us) _=_;rw[jBB (by intro z;have:=hG z;exact h (by rw[show n=k by lia];exact ai ..))];exact jBV λz=>h (ah _ z)
def jR4{ns:List Nat}{us:List V}{n:Nat}{u:V}(h:ns.length=us.length):gvs (ns++[n]) (us++[u])=gvs ns us++[(Sum.inl (n:Int),u)]:=by
 unfold gvs;rw[List.zip_append h,aW];rfl
section
variable {ch:Ch}{R:RepT}
noncomputable abbrev nGath:Am:=["choices","at_end","join","full","values","mask"]
def scGath:FnScope nGath ["choices","at_end","join"] (j8 qQ):= {}
def jRY(j:Addr)(zh:Hp->Prop)(ch:Ch)(R:RepT):Sp:=λvs H Q _=>∃(L:Addr) (ve:V),vs=[.ref L,ve,.ref j]/\ChAt H L ch/\R (fullN ch) H ve/\zh H/\∀(r:Addr) (ns:List Nat) (H':Hp),GotAt H' r ch R ns->ns.Pairwise (· > ·)->MetOk ch ns->Ext H H'->H r=none->Q (.ref r) H'
def jOV(T:Txt mg)(CA:Can P w K mg Aq "choices_at" 1 fA fdA ["choices","mask"] spAt)(CJ:Callee P w K mg Aq Z zh 3 j (jK1 ch R))(zs:ZSt Z)(hz:Z s H0)(hr:Room 3 (XOf nGath "gathered" qQ P w K mg Aq f mn A mj s H0 E).A): {t:TS // JSs (XOf nGath "gathered" qQ P w K mg Aq f mn A mj s H0 E) (jFI ((jE qQ).getD 2 (.Pass ⟨0,0,0,0⟩))) t}:=
 have nd:=scGath.nd
 ⟨_,(jF (yT (jY qC (jv 5 rfl vC) (jv 3 rfl vL) (jR _)) (jF (jJ7 (hu_of hr) (jv 4 rfl vC) (jv 5 rfl vC) (jv 1 rfl vL) jSU)) (jF (jJ7 (hu_of hr) (jv 4 rfl vC) (jv 5 rfl vC) (jKU (j:=2) CJ (hr.mono Ac) zs hz rfl rfl vL (j4 (kO (m:=[none,none,some 4,some 5]) (Nc:=["number","more","values","mask"]) rfl (yW (CA.je (hr.mono Ac) gD (j4 (jv 0 rfl vL) (j4 (jv 5 rfl vC) j9 j6) j6) j6)) rfl Ab Ab (jK (psc:=j8 qQ)) (jI (N:=nGath) rfl rfl Ab) (λcl C fp s H=>jCA (i:=0) (j:=1) rfl (show (["number","more","values","mask"]:Am).Nodup by decide+kernel) rfl rfl Ab Ab) (λcl C fp s H=>y4) (λcl C fp s H=>(yL (j4 (jv 0 rfl jQ) (j4 (jJA (hu_of hr) (jv 2 rfl kL) (kW op_or (jv 3 rfl kL) (jv 1 rfl jQ)) jS1) j9 kG) j6))) kR) j9 jL) jL) jW))))⟩
def gathA(T:Txt mg)(CF:Can P w K mg Aq "full_mask" 1 fF fdF ["choices"] jF7)(CM:Can P w K mg Aq "masks_met" 2 fM fdM ["choices"] spMet)(CA:Can P w K mg Aq "choices_at" 1 fA fdA ["choices","mask"] spAt)(CJ:Callee P w K mg Aq Z zh 3 j (jK1 ch R))(zs:ZSt Z)(hz:Z s H0)(hr:Room 3 (XOf nGath "gathered" qQ P w K mg Aq f mn A mj s H0 E).A): {t:TS // JSs (XOf nGath "gathered" qQ P w K mg Aq f mn A mj s H0 E) (jE qQ) t}:=
 have nd:=scGath.nd
 ⟨_,(jD (jS (i:=3) nd rfl lL (CF.je (hr.mono Ac) gD (j4 (jv 0 rfl vL) j9 j6) j6) jW) (jD (jS (i:=4) nd rfl qS (jQZ) jMN) (jD (jEI dH rfl (yW (CM.je (hr.mono Ac) gD (j4 (jv 0 rfl vL) j9 j6) j6)) (jO (i:=5) nd rfl qS) (jOV T CA CJ zs hz hr).2 kR) (jF (jU (jv 4 rfl vC))))))⟩
theorem jTW{fd:FuncData}(F:Fun K "gathered" "gathered" qQ f fd)(T:Txt mg)(CF:Can P w K mg Aq "full_mask" 1 fF fdF ["choices"] jF7)(CM:Can P w K mg Aq "masks_met" 2 fM fdM ["choices"] spMet)(CA:Can P w K mg Aq "choices_at" 1 fA fdA ["choices","mask"] spAt)(CJ:Callee P w K mg Aq Z zh 3 j (jK1 ch R))(zs:ZSt Z)(zo:HpOk zh)(ro:RepOk R)(ok:ChOk ch):FnZ P w K mg Aq CX0 Z 4 f fd ["choices","at_end","join"] (jRY j zh ch R):=by
 refine F.okZ scGath (λvs H Q E h=>?_) (λmn A mj s H vs Q E hr hz h=>?_)
 .obtain⟨_,_,rfl,_⟩:=h;rfl
 .obtain⟨L,ve,rfl,hL,he,hzh,q⟩:=h;refine⟨_,(gathA T CF CM CA CJ zs hz hr).2.h,?_⟩;have w16:=ok.w;have p16:2^ch.length<=2^16:=cr Ac w16;refine⟨_,rfl,L,ch,rfl,hL,w16,?_⟩;refine λD nD=>?_;have e1:Ext H (L2.upd H D (.dK [])):=(Ext.refl _).new nD _;have hD1:(L2.upd H D (.dK [])) D=some (.dK []):=j7;generalize L2.upd H D (.dK [])=H1 at e1 hD1;refine⟨_,rfl,L,ch,rfl,hL.ext e1,ok,λr ns H2 hr2 srt mt e2 nr=>?_⟩;have hD2:=e2 _ _ hD1;have rD:r≠D:=λz=>by rw[z,hD1] at nr;cases nr
  have E2:=e1.trans e2;have nsn:ns.Nodup:=srt.imp λ{a b} h=>by lia
  have nsl:=jAZ nsn mt.bnd;refine⟨r,rfl,⟨_,SqL.of hr2⟩,jGM (xs:=ns.map natV) (λi σ H'=>(∃v5,σ=[some (.ref L),some ve,some (.ref j),some (natV (fullN ch)),some (.ref D),v5])/\(∀b o,H2 b=some o->b≠D->H' b=some o)/\GotAt H' D ch R (ns.take i)) ⟨⟨_,rfl⟩,λb o h _=>h,[],hD2,trivial⟩ (λi σ H' _ ⟨_,k,_⟩=>SqL.of (k _ _ hr2 rD)) ?_ ?_⟩
  .rintro i x σ H' hx ⟨⟨v5,rfl⟩,k,us,hD',au⟩;obtain⟨m,hm,rfl⟩:∃m,ns[i]?=some m/\natV m=x:=by
    rw[aX] at hx;cases hq:ns[i]? with
    |none=>rw[hq] at hx;cases hx
    |some z=>rw[hq] at hx;cases hx;exact⟨z,rfl,rfl⟩
   have hmn:=aQ hm;have hm2:=mt.bnd m hmn;have il:i<ns.length:=(am.mp hm).1;have tk:ns.take (i+1)=ns.take i++[m]:=by rw[bv,hm];rfl
   have kl:(gvs (ns.take i) us).length<sizeLine:=by
    unfold gvs;rw[ag,kx,bO,aJ];lia
   have kH:∀b o,H b=some o->H' b=some o:=λb o h=>k _ _ (E2 _ _ h) λz=>by rw[z,nD] at h;cases h
   have mi:m∉ns.take i:=λz=>by
    obtain⟨a,ha⟩:=bL z;have al:a<i:=by have:=(am.mp ha).1;rw[bO] at this;lia
    rw[cG al] at ha;have:=(eM Aa nsn).mp (ha.trans hm.symm);lia
   have fin:∀(u:V) (H3:Hp),(∀b o,H' b=some o->H3 b=some o)->R m H3 u->DPut H3 D (natV m) u (L2.upd H3 D (.dK (gvs (ns.take (i+1)) (us++[u]))))/\((∃v5,[some (V.ref L),some ve,some (.ref j),some (natV (fullN ch)),some (.ref D),some (natV m)]=[some (V.ref L),some ve,some (.ref j),some (natV (fullN ch)),some (.ref D),v5])/\(∀b o,H2 b=some o->b≠D->(L2.upd H3 D (.dK (gvs (ns.take (i+1)) (us++[u])))) b=some o)/\GotAt (L2.upd H3 D (.dK (gvs (ns.take (i+1)) (us++[u])))) D ch R (ns.take (i+1))):=λu H3 e3 ru=>by
    have hD3:=e3 _ _ hD';have up:∀b o,H3 b=some o->b≠D->(L2.upd H3 D (.dK (gvs (ns.take (i+1)) (us++[u])))) b=some o:=λb o h n=>by rw[jA n];exact h
    refine⟨?_,⟨_,rfl⟩,λb o h n=>up b o (e3 _ _ (k b o h n)) n,us++[u],j7,?_⟩
    .have:=DPut.k (k:=Sum.inl ((m:Nat):Int)) (v:=u) hD3 kl;rw[jK6 _ (jBV mi),<- jR4 au.len,<- tk] at this;exact this
    .rw[tk];refine All2.snoc ?_ ((ro m u).keep _ _ D _ hD3 (by rw[<- tk];exact up) ru);rw[<- tk];exact au.imp λn u h=>(ro n u).keep _ _ D _ hD3 up ((ro n u).ext _ _ e3 h)
   refine⟨_,rfl,_,rfl,rfl,_,rfl,?_⟩;have ef:decide (natV m=natV (fullN ch))=true↔m=fullN ch:=by
    rw[bz];exact⟨λh=>by have:=V.int.inj h;lia,λh=>by rw[h]⟩
   refine ite2 (λh=>?_) (λh=>?_)
   .have h:=ef.mp h;obtain⟨f1,f2⟩:=fin ve H' (λb o h=>h) (by rw[h];exact(ro _ _).ext _ _ kH he);exact⟨_,rfl,_,rfl,_,rfl,D,_,rfl,f1,f2⟩
   .have h:m≠fullN ch:=λz=>h (ef.mpr z);refine⟨rfl,_,rfl,_,rfl,L,ch,m,rfl,hL.ext kH,ok,hm2,h,λr4 H4 ⟨vs4,hr4,av4⟩ e4 n4=>?_⟩;have hD4:=e4 _ _ hD';have vl4:vs4.length<=33:=by
     rw[av4.len];have hlow:=jEC hm2 h;refine bh (bN _ _) ?_;rw[aG,aF hlow];exact ok.len _ _ (aF hlow)
    refine⟨r4,rfl,⟨_,SqL.of hr4⟩,jAJ (xs:=vs4) (λσ=>∃v1 v2,σ=[v1,v2,some (.ref D),some (natV m)]) (λH' zs t=>All2 (λv c=>∃q u,v=.ref q/\H' q=some (.tup [.int c.1,u])/\R (m|||c.2) H4 u) zs ((chAt ch m).take t)) ⟨λH=>trivial,λH H' zs t tu hz=>hz.imp λv c ⟨q,u,a1,a2,a3⟩=>⟨q,u,a1,tu _ _ a2,a3⟩,λH zs t hz=>?_⟩ hr4 (by rw[aJ];lia) ⟨_,_,rfl⟩ ?_ ?_⟩
    .rw[hz.len];exact bC _ _
    .rintro t x σ' H5 zs hx ⟨v1,v2,rfl⟩ e5 hz5 S1 S2 yes no;obtain⟨c,hc,qa,rfl,hq⟩:=av4.get' hx;have hcm:=aQ hc;obtain⟨u1,u2⟩:=ok.up hm2 h hcm;have ut:=mt.up m hmn h c hcm;have up:(m|||c.2)∈ns.take i:=by
      obtain⟨a,ha⟩:=bL ut;have al:a<i:=by
       refine cg λz=>?_;have a1:=(am.mp ha);have m1:=(am.mp hm);rcases fo i a with y|y
       .have:=bV.mp srt i a il a1.1 y;rw[a1.2,m1.2] at this;lia
       .have:a=i:=by lia
        subst this;rw[hm] at ha;have:=bA ha;lia
      exact aQ (i:=a) (by rw[cG al];exact ha)
     obtain⟨u,hu,ru⟩:=jFT au (nsn.sublist (eJ _ _)) up;have et:(chAt ch m).take (t+1)=(chAt ch m).take t++[c]:=by rw[bv,hc];rfl
     have dg:DGet H5 D (.int (Builtin.bitOr (m:Int) (c.2:Int))) (some u):=by
      rw[jCG,<- hu];exact DGet.k (k:=Sum.inl (((m|||c.2:Nat):Nat):Int)) (e5 _ _ hD4)
     refine⟨qa,_,rfl,SqT.of (e5 _ _ hq),rfl,_,_,rfl,_,_,rfl,rfl,?_⟩;dsimp only[yR];rw[aA rfl];refine⟨_,rfl,_,rfl,_,rfl,_,rfl,_,_,rfl,rfl,D,u,rfl,dg,by show (2:Nat)<=_;decide,λr6 H6 d6 e6=>yes _ _ _ ⟨_,_,rfl⟩ e6 ?_⟩;show All2 _ _ ((chAt ch m).take (t+1));rw[et];exact(hz5.imp λv c ⟨q,u,a1,a2,a3⟩=>⟨q,u,a1,e6 _ _ a2,a3⟩).snoc ⟨r6,u,rfl,d6,(ro _ _).ext _ _ e4 ru⟩
    .rintro D7 H7 zs hD7 e7 n7 hz7;rw[av4.len,bK] at hz7;refine⟨zo.ext _ _ (λb o h=>e7 _ _ (e4 _ _ (kH b o h))) hzh,D7,zs,m,rfl,hD7,hm2,h,hz7.imp λv c ⟨q,u,a1,a2,a3⟩=>⟨q,u,a1,a2,(ro _ _).ext _ _ e7 a3⟩,λrr H8 r8 e8=>?_⟩;obtain⟨f1,f2⟩:=fin rr H8 (λb o h=>e8 _ _ (e7 _ _ (e4 _ _ h))) r8;exact⟨_,rfl,_,rfl,D,_,rfl,f1,f2⟩
  .rintro σ H' ⟨⟨v5,rfl⟩,k,got⟩;rw[ag,bK] at got;exact⟨_,rfl,q D ns H' got srt mt (λb o h=>k _ _ (E2 _ _ h) λz=>by rw[z,nD] at h;cases h) nD⟩
end
end Eo
namespace L2
open PySem
variable {α:Type}
def spEx(p:α->Prop)(sp:α->Sp):Sp:=λvs H Q E=>∃a,p a/\sp a vs H Q E
def FnOk.ex{p:α->Prop}{sp:α->Sp}{CX:CXT}{k:Nat}{fd:FuncData}{ps:Am}(h:∀a,p a->FnOk P w K mg Aq CX k f fd ps (sp a)):FnOk P w K mg Aq CX k f fd ps (spEx p sp):=
 ⟨λvs H Q E ⟨a,pa,q⟩=>(h a pa).len vs H Q E q,λA mj s H args us vs Q E hr he hb hv ⟨a,pa,q⟩=>(h a pa).run A mj s H args us vs Q E hr he hb hv q⟩
def Callee.mono{i k:Nat}{sp:Sp}(C:Callee P w K mg Aq Z zh i a sp)(h:i<=k):Callee P w K mg Aq Z zh k a sp:=
 ⟨C.fn,λA mj s H us vs Q E hr=>C.run A mj s H us vs Q E (hr.mono h)⟩
def Callee.imp{Z':Shared->Hp->Prop}{k:Nat}{sp:Sp}(C:Callee P w K mg Aq Z zh k a sp)(h:∀s H,Z' s H->Z s H):Callee P w K mg Aq Z' zh k a sp:=
 ⟨C.fn,λA mj s H us vs Q E hr he hz=>C.run A mj s H us vs Q E hr he (h _ _ hz)⟩
def FnOk.never{P:Program}{w:World}{K:W.Frag}{mg:Ak}{Aq:Heap}{CX:CXT}{k:Nat}{f:Addr}{fd:FuncData}{ps:Am}:FnOk P w K mg Aq CX k f fd ps (λ_ _ _ _=>False):=
 ⟨λ_ _ _ _ h=>h.elim,λ_ _ _ _ _ _ _ _ _ _ _ _ _ h=>h.elim⟩
def jMW{a:Arguments}{b:Expr}{sc:Scope}{pos:Pos}{es:List Expr}{env:Env}:starEach (.Lambda a b sc pos::es) env=(false,eval (.Lambda a b sc pos) env)::starEach es env:=rfl
end L2
namespace Eo
open PySem L2
theorem got0{H:Hp}{r:Addr}{ch:Ch}{R:RepT}{ns:List Nat}(g:GotAt H r ch R ns)(nd:ns.Pairwise (· > ·))(m:MetOk ch ns):∃u,DGet H r (.int 0) (some u)/\R 0 H u:=by
 obtain⟨us,h1,h2⟩:=g.ex;obtain⟨u,hu,ru⟩:=jFT h2 (nd.imp λ{a b} h=>by lia) m.zero;refine⟨u,?_,ru⟩;have:=DGet.k (k:=Sum.inl (0:Int)) h1;rw[show valV (gvs ns us) (Sum.inl (0:Int))=some u from hu] at this;exact this
end Eo
namespace L2
open PySem PySem.Spec PyProof.Rows
end L2
namespace Eo
open PySem L2
variable {fd:FuncData}{m t n d i:Nat}{H H':Hp}{hs ts x:Ag}{α:Type}{ch:Ch}{us zs:List V}{ws:Af}{sp:Sp}{b T:Addr}
def yV(pc:List Int×Int):Int:=pc.1.getD 0 0
def cntF(Ar:Ae)(t:Int):Nat:=Ar.countP λpc=>decide (t<=yV pc)
def lead(Ar:Ae)(t:Int)(i:Nat):Nat:=(Ar.take i).countP λpc=>decide (yV pc=t)
theorem jI0(t:Int):∀Ar:Ae,cntF Ar t=cntF Ar (t+1)+Ar.countP λpc=>decide (yV pc=t)
 |[]=>rfl
 |p::r=>by
  have ih:=jI0 t r;unfold cntF at ih ⊢;rw[dL,dL,dL,ih];by_cases h1:yV p=t
  .have h2:t<=yV p:=Aa;have h3:¬t+1<=yV p:=Aa;have h4:¬t+1<=t:=Aa;simp[h1,h4]
   try lia
  .by_cases h2:t<=yV p
   .have h3:t+1<=yV p:=Aa;simp[h1,h2,h3];lia
   .have h3:¬t+1<=yV p:=Aa;simp[h1,h2,h3]
def jX2(Ar:Ae)(t:Int):cntF Ar t<=Ar.length:=List.countP_le_length
theorem jQS(Ar:Ae)(t:Int):2^cntF Ar (t+1)*(1+lead Ar t Ar.length)<=2^cntF Ar t:=by
 unfold lead;rw[bK,jI0 t Ar,Nat.pow_add];refine iA _ ?_;have:=Nat.lt_two_pow_self (n:=Ar.countP λpc=>decide (yV pc=t));lia
def jO6{t:Int}{pc:List Int×Int}(h:Ar[i]?=some pc):lead Ar t (i+1)=lead Ar t i+if yV pc=t then 1 else 0:=by
 unfold lead;rw[bv,h];show ((Ar.take i)++[pc]).countP _=_;rw[List.countP_append,dL,List.countP_nil];simp
theorem jIT{t:Int}(h:Ar.length<=16):2^cntF Ar t<=65536:=by
 have:=jX2 Ar t;exact bh (cr Ac (bh this h)) Ac
def wJ(l:List (Int×Af)):Af:=l.flatMap λp=>p.2.map λx=>if p.1<0 then x else p.1::x
def wk(ch:Ch)(m:Nat):Af:=gv ch [[]] wJ m
def jMB(a b:List (Int×Af)):wJ (a++b)=wJ a++wJ b:=lH
def jCK(ch:Ch):wk ch (fullN ch)=[[]]:=jUC
def jCJ(o:ChOk ch)(h:m<2^ch.length)(hn:m≠fullN ch):wk ch m=wJ ((chAt ch m).map λc=>(c.1,wk ch (m|||c.2))):=jUB o h hn
theorem jKL(w:Nat):lowN (2^w-1)=w:=by
 refine jSA ?_ λj hj=>?_
 .rw[dy,aK Aa]
 .rw[dy,ao hj]
theorem jS9{c:Nat}(h:c.testBit (lowN m)=true):lowN m<lowN (m|||c):=by
 refine cg λz=>?_;have n1:=jEB (m|||c);rw[cm] at n1;rcases fo (lowN (m|||c)) (lowN m) with y|y
 .rw[jGD m _ y] at n1;cases n1
 .rw[show lowN (m|||c)=lowN m by lia,h,fj] at n1;cases n1
theorem jDH(o:ChOk ch){P:Nat->Prop}(h0:P (fullN ch))(hs:∀m,m<2^ch.length->m≠fullN ch->(∀c∈chAt ch m,P (m|||c.2))->P m):∀m,m<2^ch.length->P m:=by
 intro m hm;generalize hk:fullN ch-m=k
 induction k using strongRecOn generalizing m with
 |_ k ih=>
  by_cases hf:m=fullN ch
  .rw[hf];exact h0
  .have hlt:m<fullN ch:=by
    unfold fullN at hf ⊢;lia
   refine hs m hm hf λc hc=>?_;obtain⟨u1,u2⟩:=o.up hm hf hc;exact ih (fullN ch-(m|||c.2)) Aa _ u2 rfl
def mem_wJ{l:List (Int×Af)}:x∈wJ l↔∃p∈l,∃y∈p.2,x=if p.1<0 then y else p.1::y:=by
 unfold wJ;rw[jw];refine exists_congr λp=>la λ_=>?_;rw[aZ];exact exists_congr λy=>la λ_=>eq_comm
theorem jRL(o:ChOk ch):∀m,m<2^ch.length->∀x∈wk ch m,(∀k∈x,0<=k/\k<32)/\x.length+lowN m<=ch.length:=by
 refine jDH o ?_ ?_
 .intro x hx;rw[jCK,ak] at hx;subst hx;refine⟨λk hk=>(by cases hk),?_⟩;unfold fullN;rw[jKL];simp
 .intro m hm hf ih x hx;rw[jCJ o hm hf] at hx;obtain⟨p,hp,y,hy,rfl⟩:=mem_wJ.mp hx;obtain⟨c,hc,rfl⟩:=aZ.mp hp;obtain⟨i1,i2⟩:=ih c hc y hy;obtain⟨m1,m2,m3,m4,m5⟩:=o.mem hm hf hc;have lo:=jS9 m1;dsimp only;split
  .exact⟨i1,Aa⟩
  .refine⟨λk hk=>?_,by rw[aU];lia⟩;rcases aB.mp hk with z|z
   .subst z;lia
   .exact i1 k z
def jM1(l:Ag):l.getD 0 0=l.headD 0:=by cases l<;>rfl
theorem jLV(Ar:Ae)(t:Nat)(i:Nat)(hi:i<=Ar.length):(((upto Ar.length).take i).filter λk=>decide ((jB Ar k).headD 0=(t:Int))).length=lead Ar t i:=by
 induction i with
 |zero=>rfl
 |succ i ih=>
  have hil:i<Ar.length:=Aa;rw[jBW hil,bU,aI,ih Aa,jO6 (aF hil)];congr 1;rw[cW,kz];have e:jB Ar (i:Int)=Ar[i].1:=by
   unfold jB;rw[bo,aG,aF hil];rfl
  unfold yV;rw[e,jM1];by_cases h:Ar[i].1.headD 0=(t:Int)
  .rw[aA (ao h),aA h];rfl
  .rw[az (λz=>h (aL z)),az h];rfl
theorem jRC(Ar:Ae){s t:Int}(h:s<=t):cntF Ar t<=cntF Ar s:=by
 unfold cntF;refine List.countP_mono_left λx _ hx=>?_;have:=aL hx;exact ao Aa
theorem jHV{β:Type}(f:α->List β)(B:Nat):∀(l:List α),(∀a∈l,(f a).length<=B)->(l.flatMap f).length<=l.length*B
 |[],_=>by simp
 |a::l,h=>by
  rw[List.flatMap_cons,aI,aU,Nat.succ_mul];have h1:=h a (ai ..);have h2:=jHV f B l λx hx=>h x (ah _ hx);lia
theorem jM9{w:Int}(g:Good 16 32 w ms Ar):∀m,m<2^(chs w.toNat ms Ar).length->(wk (chs w.toNat ms Ar) m).length<=2^cntF Ar (lowN m:Nat):=by
 have o:ChOk (chs w.toNat ms Ar):=jDE g;refine jDH o ?_ ?_
 .rw[jCK];exact Nat.one_le_two_pow
 .intro m hm hf ih;have hl:lowN m<w.toNat:=by
   have:=jEC hm hf;unfold chs at this
   rwa [yB] at this
  rw[jCJ o hm hf];unfold wJ;refine bh (jHV _ (2^cntF Ar ((lowN m:Nat)+1:Int)) _ λp hp=>?_) ?_
  .obtain⟨c,hc,rfl⟩:=aZ.mp hp;rw[ag];have lo:=jS9 (o.mem hm hf hc).1;exact bh (ih c hc) (cr Ac (jRC Ar Aa))
  .rw[ag,Nat.mul_comm];refine bh (iA _ ?_) (jQS Ar (lowN m:Nat));unfold chAt;refine bh (bN _ _) ?_;unfold chs;rw[aG,jA9 hl];show (yP ms Ar Ar.length (lowN m)).length<=_;unfold yP;rw[aI,ag,jLV Ar _ _ (ar _)];split<;>simp only[aU,cz]<;>lia
theorem jET(a b:Int):decide (V.int a=V.int b)=decide (a=b):=by
 rw[cj,bz,bz];exact⟨λh=>V.int.inj h,λh=>by rw[h]⟩
def LsAt(H:Hp)(us:List V)(ws:Af):Prop:=All2 (λv x=>∃a,v=V.ref a/\H a=some (.tup (x.map V.int))) us ws
def LsAt.mono(t:Tups H H')(h:LsAt H us ws):LsAt H' us ws:=All2.imp (λv x ⟨a,e,q⟩=>⟨a,e,t _ _ q⟩) h
def cvs(w:Int)(ms:Ag)(Ar:Ae):Af:=(wk (chs w.toNat ms Ar) 0).map srt
structure MkOk (w:Nat)(t:Nat)(hs:Ag)(m:Nat):Prop where
 lt:m<2^w
 lo:∀j,j<t->m.testBit j=true
 hi:∀j,t<=j->j<w->(m.testBit j=true↔(j:Int)∈hs)
def MkOk.full{w:Nat}(h:MkOk w w hs m):m=2^w-1:=jOW h.lt h.lo
theorem MkOk.held{w:Nat}(h:MkOk w t hs m)(ht:t<w)(hm:(t:Int)∈hs):MkOk w (t+1) hs m:=by
 refine⟨h.lt,λj hj=>?_,λj h1 h2=>h.hi j Aa h2⟩;rcases fo j t with y|y
 .exact h.lo j y
 .rw[show j=t by lia];exact(h.hi t (ar _) ht).mpr hm
def MkOk.low{w:Nat}(h:MkOk w t hs m)(ht:t<w)(hm:¬(t:Int)∈hs):lowN m=t:=
 jSA (b9.mpr λz=>hm ((h.hi t (ar _) ht).mp z)) h.lo
theorem MkOk.ne{w:Nat}(h:MkOk w t hs m)(ht:t<w)(hm:¬(t:Int)∈hs):m≠2^w-1:=λz=>by
 have:=h.low ht hm;rw[z,jKL] at this;lia
theorem MkOk.may{w:Nat}(h:MkOk w t hs m)(ht:t<w):MkOk w (t+1) hs (m|||2^t):=by
 refine⟨ja h.lt (ie Ac ht),λj hj=>?_,λj h1 h2=>?_⟩
 .rw[cm,cX];rcases fo j t with y|y
  .rw[h.lo j y];rfl
  .rw[show j=t by lia,ao rfl,fj]
 .rw[cm,cX,aK Aa,Bool.or_false];exact h.hi j Aa h2
theorem MkOk.piece{w:Nat}{own:Ag}(h:MkOk w t hs m)(ht:t<w)(l:Lot (w:Int) own)(hd:(t:Int)∈own):MkOk w (t+1) (hs++own) (m|||maskN own):=by
 have b0:∀x∈own,0<=x:=λx hx=>(l.bnd x hx).1;refine⟨ja h.lt (jE9 l.ris l.bnd),λj hj=>?_,λj h1 h2=>?_⟩
 .rw[cm,jAA own j l.ris b0];rcases fo j t with y|y
  .rw[h.lo j y];rfl
  .rw[show j=t by lia,ao hd,fj]
 .rw[cm,jAA own j l.ris b0,ir,bz,aP];exact or_congr (h.hi j Aa h2) Iff.rfl
theorem MkOk.fits{w t:Nat}{hs:Ag}{m:Nat}{own:Ag}(h:MkOk w t hs m)(l:Lot (w:Int) own)(hd:own.headD 0=(t:Int)):(maskN own&&&m==0)=!(own.any λx=>decide (x∈hs)):=by
 have b0:∀x∈own,0<=x:=λx hx=>(l.bnd x hx).1;have ge:∀x∈own,(t:Int)<=x:=λx hx=>by
  cases ho:own with
  |nil=>rw[ho] at hx;cases hx
  |cons a r=>
   rw[ho] at hd hx;have hd:a=t:=hd;have lr:=l.ris;rw[ho] at lr;rcases aB.mp hx with z|z
   .lia
   .have:=(dh.mp lr).1 x z;lia
 rw[cj,gA,cq,List.any_eq_false];constructor
 .intro z x hx hh;have hh:=aL hh;have bx:=l.bnd x hx;have t1:=(h.hi x.toNat (by have:=ge x hx;lia) Aa).mpr (by rw[show ((x.toNat:Nat):Int)=x by lia];exact hh);have t2:(maskN own).testBit x.toNat=true:=by
   rw[jAA own _ l.ris b0,bz,show ((x.toNat:Nat):Int)=x by lia];exact hx
  have t3:=ce (λy=>y.testBit x.toNat) z;simp only[eF,t1,t2,dM] at t3;cases t3
 .intro z;apply eO;intro i;rw[eF,dM,jAA own i l.ris b0];by_cases hi:(i:Int)∈own
  .have bx:=l.bnd _ hi;have gi:=ge _ hi;rw[ao hi,jl];refine b9.mpr λy=>?_;exact z _ hi (ao ((h.hi i Aa Aa).mp y))
  .rw[aK hi];rfl
def wkI(ch:Ch)(ms:Ag)(Ar:Ae)(m t i:Nat):Af:=wJ (((yP ms Ar i t).filter λc=>c.2&&&m==0).map λc=>(c.1,wk ch (m|||c.2)))
def jM4(hn:n<Ar.length)(u:Nat):yP ms Ar (n+1) u=yP ms Ar n u++if (jB Ar (n:Int)).headD 0=(u:Int) then [((n:Int),maskN (jB Ar n))] else []:=by
 unfold yP;rw[jBW hn,bU,aW,aY];congr 2;rw[cW];by_cases hu:(jB Ar (n:Int)).headD 0=(u:Int)
 .rw[aA (ao hu),aA hu];rfl
 .rw[az (λz=>hu (aL z)),az hu];rfl
theorem jPT{ch:Ch}{ms:Ag}{Ar:Ae}{m t:Nat}(hb:m.testBit t=false):wkI ch ms Ar m t 0=if (t:Int)∈ms then wk ch (m|||2^t) else []:=by
 unfold wkI;rw[jD1];by_cases h:(t:Int)∈ms
 .have e:(2^t&&&m==0)=true:=by
   rw[gA];apply eO;intro i;rw[eF,dM,cX];by_cases hi:t=i
   .subst hi;rw[hb,db]
   .rw[aK hi];rfl
  rw[aA h,aA h,cW,aA e];show wJ [(-1,wk ch (m|||2^t))]=_;unfold wJ;rw[kf];exact(cK λx _=>aA (show (-1:Int)<0 by decide)).trans (jd _)
 .rw[az h,az h];rfl
theorem jJU{ch:Ch}{ms:Ag}{Ar:Ae}{m t i:Nat}(hi:i<Ar.length):wkI ch ms Ar m t (i+1)=wkI ch ms Ar m t i++if (jB Ar (i:Int)).headD 0=(t:Int)/\(maskN (jB Ar (i:Int))&&&m==0)=true then (wk ch (m|||maskN (jB Ar (i:Int)))).map ((i:Int):: ·) else []:=by
 unfold wkI;rw[jM4 hi,bU,aW,jMB];congr 1;by_cases h1:(jB Ar (i:Int)).headD 0=(t:Int)
 .rw[aA h1,cW];by_cases h2:(maskN (jB Ar (i:Int))&&&m==0)=true
  .rw[aA h2,aA ⟨h1,h2⟩];show wJ [((i:Int),wk ch (m|||maskN (jB Ar (i:Int))))]=_;unfold wJ;rw[kf];exact cK λx _=>az Aa
  .rw[az h2,az (λz=>h2 z.2)];rfl
 .rw[az h1,az (λz=>h1 z.1)];rfl
def jSQ{w:Int}{ms:Ag}{Ar:Ae}{m t:Nat}(g:Good 16 32 w ms Ar)(hm:m<2^w.toNat)(hf:m≠2^w.toNat-1)(hl:lowN m=t)(ht:t<w.toNat):wkI (chs w.toNat ms Ar) ms Ar m t Ar.length=wk (chs w.toNat ms Ar) m:=by
 have o:ChOk (chs w.toNat ms Ar):=jDE g;have el:(chs w.toNat ms Ar).length=w.toNat:=yB _ _ _ _;rw[jCJ o (by rw[el];exact hm) (by unfold fullN;rw[el];exact hf)];unfold wkI chAt;have:(chs w.toNat ms Ar).getD (lowN m) []=yP ms Ar Ar.length t:=by
  rw[hl,aG];unfold chs;rw[jA9 ht];rfl
 rw[this]
theorem jPU(hi:i<=Ar.length):(wkI ch ms Ar m t i).length<=(wkI ch ms Ar m t Ar.length).length:=by
 have key:∀d i,i+d=Ar.length->(wkI ch ms Ar m t i).length<=(wkI ch ms Ar m t Ar.length).length:=by
  intro d
  induction d with
  |zero=>intro i h;rw[show i=Ar.length by lia];exact ar _
  |succ d ih=>
   intro i h;refine bh ?_ (ih (i+1) Aa);rw[jJU Aa,aI];lia
 exact key (Ar.length-i) i Aa
def jF8(d:Nat):Sp:=λvs H Q _=>∃(b h:Addr) (w:Int) (t:Nat) (ms:Ag) (Ar:Ae) (hs:Ag) (m:Nat),vs=[.ref b,.int (t:Int),.ref h]/\BoxAt H b w ms Ar/\Good 16 16 w ms Ar/\(t:Int)<=w/\w-t<=d/\H h=some (.tup (hs.map V.int))/\hs.length<=16*t/\MkOk w.toNat t hs m/\
 ∀l us H',H' l=some (.lst us)->LsAt H' us (wk (chs w.toNat ms Ar) m)->Ext H H'->Q (.ref l) H'
def spNo:Sp:=λ_ _ _ _=>False
def jFY:Nat->Sp
 | 0=>spNo
 |d+1=>jF8 d
def ok_no{k:Nat}{ps:Am}:FnOk P w K mg Aq CX0 k f fd ps spNo:=⟨λ_ _ _ _ h=>h.elim,λ_ _ _ _ _ _ _ _ _ _ _ _ _ h=>h.elim⟩
noncomputable abbrev nFrom:Am:=["box","thing","held","found","k","own"]
def scFrom:FnScope nFrom ["box","thing","held"] (j8 qR):= {}
abbrev XFrom(P:Program)(w:World)(K:W.Frag)(mg:Ak)(Aq:Heap)(f:Addr)(mn:Value)(A:Around)(mj:List Env)(s:Shared)(H:Hp)(E:XK):Cx:=XOf nFrom "_law_from" qR P w K mg Aq f mn A mj s H E
def fromL(T:Txt mg)(CF:Can P w K mg Aq "_law_from" (d+1) fF fdF ["box","thing","held"] sp)(hr:Room (d+1) (XFrom P w K mg Aq f mn A mj s H0 E).A): {t:TS // JSs (XFrom P w K mg Aq f mn A mj s H0 E) (jFI ((jE qR).getD 4 (.Pass ⟨0,0,0,0⟩))) t}:=
 have nd:=scFrom.nd
 ⟨_,(jD (jS (i:=5) nd rfl lL (kD kP (kD kP (kD kP (jv 0 rfl vL) (je_int) jJ) (jv 4 rfl vC) jCQ) (je_int) jJ) jMM)
   (jF (yT (jt_w (jOC (jY qC (kD kP (jv 5 rfl vL) (je_int) jJ) (jv 1 rfl vL) (jR _)) (jJ5 (jEH (jC9 (jH (jEV rfl) gD T.any Ab (j4 (kO (m:=[none,some 2]) (Nc:=["t","held"]) rfl (jDD (jv 5 rfl vL)) rfl Ab Ab (jK (psc:=j8 qR)) (jI (N:=nFrom) rfl rfl Ab) (λcl C fp s H=>jO (i:=0) (show (["t","held"]:Am).Nodup by decide+kernel) rfl yK) (λcl C fp s H=>y4) (λcl C fp s H=>(yA jG5 (jv 0 rfl jQ) (jv 1 rfl kL) jE6)) qB) j9 jL) jL) jAS))))) (jF (jS (i:=3) nd rfl lL (kW jG6 (jv 3 rfl vL) (kO (m:=[none,some 4]) (Nc:=["rest","k"]) rfl (yW (CF.je hr gD (j4 (jv 0 rfl vL) (j4 (kW yE (jv 1 rfl vL) (je_int)) (j4 (kW jNA (jv 2 rfl vC) (jv 5 rfl vL)) j9 yO) yO) j6) j6)) rfl Ab Ab (jK (psc:=j8 qR)) (jI (N:=nFrom) rfl rfl Ab) (λcl C fp s H=>jO (i:=0) (show (["rest","k"]:Am).Nodup by decide+kernel) rfl yK) (λcl C fp s H=>y4) (λcl C fp s H=>(kW jNA (yL (j4 (jv 1 rfl kL) j9 j6)) (jv 0 rfl jQ))) kR)) jF3)) kQ)))⟩
def fromB(T:Txt mg)(CF:Can P w K mg Aq "_law_from" (d+1) fF fdF ["box","thing","held"] sp)(hr:Room (d+1) (XFrom P w K mg Aq f mn A mj s H0 E).A): {t:TS // JSs (XFrom P w K mg Aq f mn A mj s H0 E) ((jE qR).drop 4) t}:=
 have nd:=scFrom.nd
 ⟨_,(jD (jEI dH rfl (jA6 gD T.range (j4 (jH jA0 gD T.len Ab (j4 (kD kP (jv 0 rfl vL) (je_int) jJ) j9 kG) kG) j9 jG) jG) (jO (i:=4) nd rfl qS) (fromL T CF hr).2 kR) (jF (jU (jv 3 rfl vL))))⟩
def fromA(T:Txt mg)(CF:Can P w K mg Aq "_law_from" (d+1) fF fdF ["box","thing","held"] sp)(hr:Room (d+1) (XFrom P w K mg Aq f mn A mj s H0 E).A): {t:TS // JSs (XFrom P w K mg Aq f mn A mj s H0 E) (jE qR) t}:=
 have nd:=scFrom.nd
 ⟨_,(jD (yT (jY qC (jv 1 rfl vL) (kD kP (jv 0 rfl vL) (je_int) jJ) (jR _)) (jF (jU (yF (j4 (yL j9) j9 jDX)))) kQ) (jD (yT (jY jE4 (jv 1 rfl vL) (jv 2 rfl vC) jE6) (jF (jU (CF.je hr gD (j4 (jv 0 rfl vL) (j4 (kW yE (jv 1 rfl vL) (je_int)) (j4 (jv 2 rfl vC) j9 j6) yO) j6) j6))) kQ) (jD (jS (i:=3) nd rfl lL (yF j9) jD3) (jD (yT (jY jE4 (jv 1 rfl vL) (kD kP (jv 0 rfl vL) (je_int) jJ) jNN) (jF (jS (i:=3) nd rfl lL (CF.je hr gD (j4 (jv 0 rfl vL) (j4 (kW yE (jv 1 rfl vL) (je_int)) (j4 (jv 2 rfl vC) j9 j6) yO) j6) j6) jW)) kQ) (fromB T CF hr).2))))⟩
theorem jFM(T:Txt mg)(CF:Can P w K mg Aq "_law_from" (d+1) fF fdF ["box","thing","held"] (jFY d))(hr:Room (d+1) (XFrom P w K mg Aq f mn A mj s H0 E).A)
  {H1:Hp}{h l:Addr}{wi:Int}{v4 v5:Option V}{D:Ends}(hB:BoxAt H b wi ms Ar) (g:Good 16 16 wi ms Ar) (t1:(t:Int)<wi) (hd:wi-t<=d) (hh:H h=some (.tup (hs.map V.int))) (hl:hs.length<=16*t) (mk:MkOk wi.toNat t hs m) (hnt:¬(t:Int)∈hs)
  (e1:Ext H H1) (hf:H1 l=some (.lst us)) (fc:LsAt H1 us (wkI (chs wi.toNat ms Ar) ms Ar m t 0))
  (q:∀l us H',H' l=some (.lst us)->LsAt H' us (wk (chs wi.toNat ms Ar) m)->Ext H H'->D.rt (.ref l) H'):
  (fromB T CF hr).1 D [some (.ref b),some (.int (t:Int)),some (.ref h),some (.ref l),v4,v5] H1:=by
 obtain⟨qm,qp,ps,b1,b2,b3,b4⟩:=hB.ex;have pl:=b4.len;have gl:=g.pl;have w0:=g.w0;have w1:=g.w1;have g32:Good 16 32 wi ms Ar:=g.wide Aa Aa;have tw:t<wi.toNat:=Aa;have o:ChOk (chs wi.toNat ms Ar):=jDE g32;have el:(chs wi.toNat ms Ar).length=wi.toNat:=yB _ _ _ _;have all:=jSQ (Ar:=Ar) (ms:=ms) g32 mk.lt (mk.ne tw hnt) (mk.low tw hnt) tw;have wlen:(wk (chs wi.toNat ms Ar) m).length<=65536:=bh (jM9 g32 m (by rw[el];exact mk.lt)) (jIT Aa);refine⟨_,rfl,b,_,2,_,rfl,rfl,SqT.of (e1 _ _ b1),rfl,qp,_,rfl,.inr (SqT.of (e1 _ _ b3)),_,rfl,Aa,Aa,jEO (λi σ H'=>(∃l us v4 v5,σ=[some (.ref b),some (.int (t:Int)),some (.ref h),some (.ref l),v4,v5]/\H' l=some (.lst us)/\LsAt H' us (wkI (chs wi.toNat ms Ar) ms Ar m t i))/\Ext H H') ⟨⟨_,_,_,_,rfl,hf,fc⟩,e1⟩ ?_ ?_⟩
 .rintro i σ H2 hi ⟨⟨l2,us2,v4,v5,rfl,g1,g3⟩,e2⟩;have hil:i<ps.length:=Aa;have hip:i<Ar.length:=Aa;have hy1:ps[i]?=some ps[i]:=aF hil;obtain⟨pc,hpc,pa,pq,hpe,c1,c2⟩:=b4.at hy1;have hlot:=(g.pg pc (aQ hpc)).lot;have et:jB Ar (i:Int)=pc.1:=by
   unfold jB;rw[bo,aG,hpc];rfl
  have lt2:pc.1.length<=16:=by
   have:=jB5 _ 0 wi hlot.ris hlot.bnd;lia
  have lt0:atI (pc.1.map V.int) 0=some (.int (pc.1.headD 0)):=by
   cases z:pc.1 with
   |nil=>exact absurd z hlot.ne
   |cons a r=>exact jAN (j:=0) rfl
  have at1:atI ps (0+(i:Int))=some (.ref pa):=by rw[fq];exact jAN (by rw[hy1,hpe])
  have hsu:=jJU (ch:=chs wi.toNat ms Ar) (ms:=ms) (m:=m) (t:=t) hip;rw[et] at hsu;have ul:us2.length<=65536:=by
   rw[g3.len];exact bh (jPU Aa) (by rw[all];exact wlen)
  have keep:∀(v4 v5:Option V) (H3:Hp),Ext H2 H3->wkI (chs wi.toNat ms Ar) ms Ar m t (i+1)=wkI (chs wi.toNat ms Ar) ms Ar m t i->(∃l us v4' v5',([some (.ref b),some (.int (t:Int)),some (.ref h),some (.ref l2),v4,v5]:St)=[some (.ref b),some (.int (t:Int)),some (.ref h),some (.ref l),v4',v5']/\H3 l=some (.lst us)/\LsAt H3 us (wkI (chs wi.toNat ms Ar) ms Ar m t (i+1)))/\Ext H H3:=λv4 v5 H3 e3 ez=>⟨⟨l2,us2,v4,v5,rfl,e3 _ _ g1,by rw[ez];exact g3.mono e3.tups⟩,e2.trans e3⟩;refine⟨_,rfl,b,_,2,_,rfl,rfl,SqT.of (e2 _ _ b1),rfl,_,rfl,qp,_,_,_,rfl,rfl,SqT.of (e2 _ _ b3),at1,pa,_,0,_,rfl,rfl,SqT.of (e2 _ _ c1),rfl,?_⟩;refine⟨_,rfl,pq,_,0,_,rfl,rfl,SqT.of (e2 _ _ c2),lt0,_,rfl,rfl,_,rfl,?_⟩;rw[jET];refine ite2 (λh1=>?_) (λh1=>?_)
  .have h1:pc.1.headD 0=(t:Int):=aL h1;have fi:=mk.fits (own:=pc.1) (by rw[show ((wi.toNat:Nat):Int)=wi by lia];exact hlot) h1;refine⟨_,rfl,pq,rfl,⟨_,SqT.of (e2 _ _ c2)⟩,jRB (xs:=pc.1.map V.int) (λσ=>∃v,σ=[v,some (.ref h)]) (mapZ pc.1 λx=>V.bl (decide (x∈hs))) (mapZ.ok _ _) (e2 _ _ c2) (by rw[ag,aJ];lia) ⟨_,rfl⟩ ?_ ?_⟩
   .rintro j x σ' H' zs hx ⟨v,rfl⟩ e hz S1 S2 yes no;obtain⟨z,hz',rfl⟩:=int_at hx;dsimp only[kX,yR];rw[aA rfl];refine⟨_,rfl,_,rfl,h,_,rfl,.inr (SqT.of (e _ _ (e2 _ _ hh))),rfl,jAG _,?_⟩;rw[jB0];exact yes _ _ _ ⟨_,rfl⟩ (Ext.refl _) (hz.yes hz')
   .rintro D' H3 zs h2 e3 hn hz;have hz:=hz.all (by rw[ag];exact ar _);have hz2:zs=(pc.1.map λx=>decide (x∈hs)).map V.bl:=by rw[hz,bX];rfl
    rw[hz2] at h2;refine⟨D',_,rfl,SqL.of h2,_,rfl,?_⟩;have ea:((pc.1.map λx=>decide (x∈hs)).any id)=pc.1.any λx=>decide (x∈hs):=by rw[lZ];rfl
    rw[ea];have E3:=e2.trans e3;refine ite2 (λh3=>?_) (λh3=>keep _ _ H3 e3 ?_)
    .have h3:(maskN pc.1&&&m==0)=true:=by rw[fi];exact h3
     rw[aA ⟨h1,h3⟩] at hsu;cases d with
     |zero=>lia
     |succ d=>
     have htm:(t:Int)∈pc.1:=by rw[<- h1];exact jDR hlot.ne
     refine⟨_,rfl,_,rfl,_,rfl,_,_,rfl,rfl,_,rfl,_,rfl,h,pq,_,_,rfl,rfl,E3 _ _ hh,E3 _ _ c2,by rw[ag,ag,aJ];lia,λr H4 hr4 e4=>?_⟩;have E4:=E3.trans e4;refine⟨b,r,wi,t+1,ms,Ar,hs++pc.1,m|||maskN pc.1,rfl,hB.mono E4.tups,g,Aa,Aa,by rw[aW];exact hr4,by rw[aI];lia,mk.piece tw (by rw[show ((wi.toNat:Nat):Int)=wi by lia];exact hlot) htm,λl5 us5 H5 hl5 hc5 e5=>?_⟩;have E5:=E4.trans e5;have mlt:m|||maskN pc.1<2^(chs wi.toNat ms Ar).length:=by
      rw[el];exact(mk.piece tw (by rw[show ((wi.toNat:Nat):Int)=wi by lia];exact hlot) htm).lt
     have u5:us5.length<=65536:=by
      rw[hc5.len];exact bh (jM9 g32 _ mlt) (jIT Aa)
     refine⟨l5,rfl,⟨_,SqL.of hl5⟩,jAJ (xs:=us5) (λσ=>∃v,σ=[v,some (.int (0+(i:Int)))]) (λH' zs j=>LsAt H' zs (((wk (chs wi.toNat ms Ar) (m|||maskN pc.1)).take j).map ((i:Int):: ·))) ⟨λH=>trivial,λH H' zs j tt h=>h.mono tt,λH zs j h=>?_⟩ hl5 (by rw[aJ];lia) ⟨_,rfl⟩ ?_ ?_⟩
     .rw[h.len,ag];exact bC _ _
     .rintro j x σ' H' zs hx ⟨v,rfl⟩ e hz S1 S2 yes no;obtain⟨ks,hks,a,rfl,ha⟩:=hc5.get' hx;have kl:=(jRL o _ mlt ks (aQ hks)).2;dsimp only[kX,yR];rw[aA rfl];refine⟨_,rfl,by rw[aJ];show 1<=_;lia,λr6 H6 hr6 e6=>⟨_,rfl,r6,a,_,_,rfl,rfl,hr6,e6 _ _ (e _ _ ha),by rw[ag,aJ];show 1+_<=_;lia,λr7 H7 hr7 e7=>?_⟩⟩;have e67:=e6.trans e7;refine yes _ _ _ ⟨_,rfl⟩ e67 ?_;show LsAt H7 _ (((wk (chs wi.toNat ms Ar) (m|||maskN pc.1)).take (j+1)).map ((i:Int):: ·));rw[bv,hks,aW];refine All2.snoc (LsAt.mono e67.tups hz) ⟨r7,rfl,?_⟩;rw[hr7,fq];rfl
     .rintro D6 H6 zs h26 e6 hn6 hz6;rw[hc5.len,bK] at hz6;have zl:zs.length<=65536:=by
       rw[hz6.len,ag,<- hc5.len];exact u5
      refine⟨l2,D6,_,_,rfl,rfl,e6 _ _ (e5 _ _ (e4 _ _ (e3 _ _ g1))),h26,by rw[aJ];lia,λr7 H7 hr7 e7 hn7=>?_⟩;have E37:=((e3.trans e4).trans e5).trans (e6.trans e7);refine⟨⟨r7,_,_,_,rfl,hr7,?_⟩,e2.trans E37⟩;rw[hsu];exact All2.append (LsAt.mono E37.tups g3) (LsAt.mono e7.tups hz6)
    .rw[hsu,az,aV];rintro ⟨_,z⟩;rw[fi] at z;exact h3 z
  .refine iteF (keep _ _ H2 (Ext.refl _) ?_);rw[hsu,az,aV];rintro ⟨z,_⟩;exact h1 (ao z)
 .rintro σ H2 ⟨⟨l2,us2,v4,v5,rfl,g1,g3⟩,e2⟩;have em:((ps.length:Int)).toNat=Ar.length:=Aa;rw[em,all] at g3;exact⟨_,rfl,q l2 us2 H2 g1 g3 e2⟩
theorem jHU(d:Nat)(F:Fun K "_law_from" "_law_from" qR f fd)(T:Txt mg)(CF:Can P w K mg Aq "_law_from" (d+1) f fd ["box","thing","held"] (jFY d)):
  FnOk P w K mg Aq CX0 (d+2) f fd ["box","thing","held"] (jF8 d):=by
 refine F.ok scFrom (λvs H Q E h=>?_) (λmn A mj s H vs Q E hr h=>?_)
 .obtain⟨_,_,_,_,_,_,_,_,rfl,_⟩:=h;rfl
 .obtain⟨b,h,wi,t,ms,Ar,hs,m,rfl,hB,g,t1,hd,hh,hl,mk,q⟩:=h;obtain⟨qm,qp,ps,b1,b2,b3,b4⟩:=hB.ex;have gl:=g.pl;have w0:=g.w0;have w1:=g.w1;have el:(chs wi.toNat ms Ar).length=wi.toNat:=yB _ _ _ _;refine⟨_,(fromA T CF hr).2.h,?_⟩;refine⟨_,rfl,_,rfl,b,_,0,_,rfl,rfl,SqT.of b1,rfl,rfl,_,rfl,?_⟩;rw[jET];refine ite2 (λh1=>?_) (λh1=>?_)
  .have h1:(t:Int)=wi:=aL h1;have tw:t=wi.toNat:=Aa;subst tw;have mf:m=fullN (chs wi.toNat ms Ar):=by
    unfold fullN;rw[el];exact mk.full
   rw[mf,jCK] at q;refine⟨by rw[aJ];show 0<=_;lia,λr1 H1 hr1 e1=>⟨by rw[aJ];show 1<=_;lia,λr2 H2 hr2 e2 _=>?_⟩⟩;exact q r2 _ H2 hr2 ⟨⟨r1,rfl,e2 _ _ hr1⟩,trivial⟩ (e1.trans e2)
  .have h1:¬(t:Int)=wi:=λh=>h1 (ao h);have tw:t<wi.toNat:=Aa;refine⟨_,rfl,_,rfl,h,_,rfl,.inr (SqT.of hh),rfl,jAG _,_,rfl,?_⟩;have hd1:∃d',d=d'+1:=⟨d-1,Aa⟩;obtain⟨d',rfl⟩:=hd1;have call:∀(m':Nat) (H1:Hp) (Q':VK),MkOk wi.toNat (t+1) hs m'->Ext H H1->(∀l us H',H' l=some (.lst us)->LsAt H' us (wk (chs wi.toNat ms Ar) m')->Ext H H'->Q' (.ref l) H')->jFY (d'+1) [.ref b,.int ((t:Int)+1),.ref h] H1 Q' E0:=λm' H1 Q' mk' e1 k=>by
    exact⟨b,h,wi,t+1,ms,Ar,hs,m',rfl,hB.mono e1.tups,g,Aa,Aa,e1 _ _ hh,Aa,mk',λl us H' a1 a2 a3=>k l us H' a1 a2 (e1.trans a3)⟩
   rw[jB0];refine ite2 (λh2=>?_) (λh2=>?_)
   .have h2:(t:Int)∈hs:=aL h2;refine⟨_,rfl,_,rfl,_,_,rfl,rfl,_,rfl,call m H _ (mk.held tw h2) (Ext.refl _) λl us H' a1 a2 a3=>?_⟩;exact q l us H' a1 a2 a3
   .have h2:¬(t:Int)∈hs:=λz=>h2 (ao z);have hb:m.testBit t=false:=b9.mpr λz=>h2 ((mk.hi t (ar _) tw).mp z);refine⟨by rw[aJ];show 0<=_;lia,λl1 H1 hl1 e1 _=>?_⟩;refine⟨_,rfl,_,rfl,b,_,1,_,rfl,rfl,SqT.of (e1 _ _ b1),rfl,qm,_,rfl,.inr (SqT.of (e1 _ _ b2)),rfl,jAG _,_,rfl,?_⟩;rw[jB0];have hz:=jPT (ch:=chs wi.toNat ms Ar) (ms:=ms) (Ar:=Ar) hb;refine ite2 (λh3=>?_) (λh3=>?_)
    .rw[aA (aL h3)] at hz;refine⟨_,rfl,_,rfl,_,_,rfl,rfl,_,rfl,(show jFY (d'+1) [.ref b,.int ((t:Int)+1),.ref h] H1 (λx H2=>(fromB T CF hr).1 {nx:=λx H'=>Q V.non H',rt:=Q} [some (.ref b),some (.int (t:Int)),some (.ref h),some x,none,none] H2) E0 from call (m|||2^t) H1 _ (mk.may tw) e1 λl us H' a1 a2 a3=>?_)⟩;exact jFM T CF hr hB g Aa hd hh hl mk h2 a3 a1 (by rw[hz];exact a2) q
    .rw[az (λz=>h3 (ao z))] at hz;exact jFM T CF hr hB g Aa hd hh hl mk h2 e1 hl1 (by rw[hz];trivial) q
def jNH(F:Fun K "_law_from" "_law_from" qR f fd)(T:Txt mg)(hm:mg "_law_from" =some (.ref f))(kp:keepIn K (.ref f)=true)(hb:Binds K fd ["box","thing","held"] []):
  ∀d:Nat,FnOk P w K mg Aq CX0 (d+2) f fd ["box","thing","held"] (jF8 d)
 | 0=>jHU 0 F T ⟨ok_no,hm,kp,hb⟩
 |d+1=>jHU (d+1) F T ⟨jNH F T hm kp hb d,hm,kp,hb⟩
def jMS:Sp:=λvs H Q _=>∃(b:Addr) (w:Int) (ms:Ag) (Ar:Ae),vs=[.ref b]/\BoxAt H b w ms Ar/\Good 16 16 w ms Ar/\
 ∀l us H',H' l=some (.lst us)->LsAt H' us (cvs w ms Ar)->us.length<=65536->Ext H H'->Q (.ref l) H'
noncomputable abbrev nCovs:Am:=["box"]
def scCovs:FnScope nCovs ["box"] (j8 sCovs):= {}
def covsA(T:Txt mg)(CF:Can P w K mg Aq "_law_from" 18 fF fdF ["box","thing","held"] (jF8 16))(hr:Room 18 (XOf nCovs "_law_coverings" sCovs P w K mg Aq f mn A mj s H0 E).A): {t:TS // JSs (XOf nCovs "_law_coverings" sCovs P w K mg Aq f mn A mj s H0 E) (jE sCovs) t}:=
 have nd:=scCovs.nd
 ⟨_,(jF (jU (kO (m:=[none]) (Nc:=["some"]) rfl (yW (CF.je hr gD (j4 (jv 0 rfl vL) (j4 (je_int) (j4 (yL j9) j9 jDX) jN) j6) j6)) rfl Ab Ab (jK (psc:=j8 sCovs)) (jI (N:=nCovs) rfl rfl Ab) (λcl C fp s H=>jO (i:=0) (show (["some"]:Am).Nodup by decide+kernel) rfl yK) (λcl C fp s H=>y4) (λcl C fp s H=>(kN jJR gl_b T.tuple Ab (j4 (jH jI2 gl_b T.sorted Ab (j4 (jv 0 rfl jQ) j9 j6) j6) j9 jG) jG)) kR)))⟩
theorem jU4(w:Nat):MkOk w 0 [] 0:=⟨eG _,λj hj=>by lia,λj _ _=>by simp⟩
theorem jTY(F:Fun K "_law_coverings" "_law_coverings" sCovs f fd)(T:Txt mg)(CF:Can P w K mg Aq "_law_from" 18 fF fdF ["box","thing","held"] (jF8 16)):FnOk P w K mg Aq CX0 19 f fd ["box"] jMS:=by
 refine F.ok scCovs (λvs H Q E h=>?_) (λmn A mj s H vs Q E hr h=>?_)
 .obtain⟨_,_,_,_,rfl,_⟩:=h;rfl
 .obtain⟨b,wi,ms,Ar,rfl,hB,g,q⟩:=h;have gl:=g.pl;have w0:=g.w0;have w1:=g.w1;have g32:Good 16 32 wi ms Ar:=g.wide Aa Aa;have o:ChOk (chs wi.toNat ms Ar):=jDE g32;have el:(chs wi.toNat ms Ar).length=wi.toNat:=yB _ _ _ _;have z0:0<2^(chs wi.toNat ms Ar).length:=eG _;refine⟨_,(covsA T CF hr).2.h,?_⟩;refine⟨_,rfl,by rw[aJ];show 0<=_;lia,λr1 H1 hr1 e1=>⟨b,r1,wi,0,ms,Ar,[],0,rfl,hB.mono e1.tups,g,Aa,Aa,hr1,by show 0<=_;lia,jU4 _,λl us H2 a1 a3 a4=>?_⟩⟩;have ul:us.length<=65536:=by
   rw[a3.len];exact bh (jM9 g32 _ z0) (jIT Aa)
  refine⟨l,rfl,⟨_,SqL.of a1⟩,jAJ (xs:=us) (λσ=>∃v,σ=[v]) (λH' zs j=>LsAt H' zs (((wk (chs wi.toNat ms Ar) 0).take j).map srt)) ⟨λH=>trivial,λH H' zs j tt h=>h.mono tt,λH zs j h=>?_⟩ a1 (by rw[aJ];lia) ⟨_,rfl⟩ ?_ ?_⟩
  .rw[h.len,ag];exact bC _ _
  .rintro j x σ' H' zs hx ⟨v,rfl⟩ e hz S1 S2 yes no;obtain⟨ks,hks,a,rfl,ha⟩:=a3.get' hx;have kl:=(jRL o _ z0 ks (aQ hks)).2;dsimp only[kX,yR];rw[aA rfl];refine⟨_,rfl,a,ks,rfl,e _ _ ha,Aa,λl6 ns hl6 sr pm=>⟨l6,_,rfl,.inl ⟨SqL.of j7,λl7 hl7=>?_⟩⟩⟩;have e6:Ext H' (L2.upd H' l6 (.lst (ns.map V.int))):=(Ext.refl _).new hl6 _;have e7:Ext H' (L2.upd (L2.upd H' l6 (.lst (ns.map V.int))) l7 (.tup (ns.map V.int))):=e6.new hl7 _;refine yes _ _ _ ⟨_,rfl⟩ e7 ?_;show LsAt _ _ (((wk (chs wi.toNat ms Ar) 0).take (j+1)).map srt);rw[bv,hks,aW];refine All2.snoc (LsAt.mono e7.tups hz) ⟨l7,rfl,?_⟩;rw[j7,jH3 sr pm]
  .rintro D6 H6 zs h26 e6 hn6 hz6;rw[a3.len,bK] at hz6;exact q D6 zs H6 h26 hz6 (by rw[hz6.len,ag,<- a3.len];exact ul) ((e1.trans a4).trans e6)
theorem jGC{w:Int}{c:Int×Nat}(hl:lowN m<w.toNat):c∈chAt (chs w.toNat ms Ar) m↔c.2&&&m=0/\((c=(-1,2^lowN m)/\(lowN m:Int)∈ms)\/∃k:Int,c=(k,maskN (jB Ar k))/\0<=k/\k<Ar.length/\(jB Ar k).headD 0=(lowN m:Int)):=by
 unfold chAt;rw[be,gA,and_comm];refine la λ_=>?_;unfold chs;rw[aG,jA9 hl];show c∈yP ms Ar Ar.length (lowN m)↔_;unfold yP;rw[aP];refine or_congr ?_ ?_
 .by_cases h:(lowN m:Int)∈ms
  .rw[aA h,ak];exact⟨λz=>⟨z,h⟩,λz=>z.1⟩
  .rw[az h];exact⟨λz=>(by cases z),λz=>absurd z.2 h⟩
 .rw[bE (by rw[jA8];exact ar _),aZ];constructor
  .rintro ⟨k,hk,rfl⟩;obtain⟨h1,h2⟩:=be.mp hk;have b:=(kJ Ar.length).bnd k h1;exact⟨k,rfl,b.1,b.2,aL h2⟩
  .rintro ⟨k,rfl,h1,h2,h3⟩;refine⟨k,be.mpr ⟨?_,ao h3⟩,rfl⟩;unfold upto;exact aZ.mpr ⟨k.toNat,bI.mpr Aa,Aa⟩
structure CovM (w:Int)(ms:Ag)(Ar:Ae)(m:Nat)(x:Ag):Prop where
 nd:x.Nodup
 bnd:∀k∈x,0<=k/\k<Ar.length
 off:∀k∈x,∀t∈jB Ar k,m.testBit t.toNat=false
 dis:∀k∈x,∀k'∈x,k≠k'->∀t∈jB Ar k,t∉jB Ar k'
 cov:∀t:Nat,t<w.toNat->m.testBit t=false->(t:Int)∉ms->∃k∈x,(t:Int)∈jB Ar k
section
variable {w:Int}(g:Good 16 32 w ms Ar)
include g
theorem jAY{k:Int}(h0:0<=k)(h1:k<Ar.length):Lot w (jB Ar k):=(g.at (k:=k.toNat) Aa).lot
theorem jFB{k:Int}(h0:0<=k)(h1:k<Ar.length)(t:Nat):(maskN (jB Ar k)).testBit t=decide ((t:Int)∈jB Ar k):=jAA _ t (jAY g h0 h1).ris λx hx=>((jAY g h0 h1).bnd x hx).1
theorem jS5{k:Int}(h0:0<=k)(h1:k<Ar.length) :maskN (jB Ar k)&&&m=0↔∀t∈jB Ar k,m.testBit t.toNat=false:=by
 have l:=jAY g h0 h1;constructor
 .intro h t ht;have bt:=l.bnd t ht;have q:=ce (λz=>z.testBit t.toNat) h;simp only[eF,dM,jFB g h0 h1] at q;rw[show ((t.toNat:Nat):Int)=t by lia,ao ht,jl] at q;exact q
 .intro h;apply eO;intro i;rw[eF,dM,jFB g h0 h1];by_cases hi:(i:Int)∈jB Ar k
  .have:=h _ hi;rw[bo] at this;rw[this,db]
  .rw[aK hi];rfl
theorem jCV{k:Int}(h0:0<=k)(h1:k<Ar.length):(jB Ar k).headD 0∈jB Ar k/\∀t∈jB Ar k,(jB Ar k).headD 0<=t:=by
 have l:=jAY g h0 h1;refine⟨jDR l.ne,λt ht=>?_⟩;have r:=l.ris;cases z:jB Ar k with
 |nil=>rw[z] at ht;cases ht
 |cons a q=>
  rw[z] at ht r;show a<=t;rcases aB.mp ht with y|y
  .lia
  .have:=(dh.mp r).1 t y;lia
theorem jJT:∀m,m<2^(chs w.toNat ms Ar).length->∀x∈wk (chs w.toNat ms Ar) m,CovM w ms Ar m x:=by
 have o:ChOk (chs w.toNat ms Ar):=jDE g;have el:(chs w.toNat ms Ar).length=w.toNat:=yB _ _ _ _;refine jDH o ?_ ?_
 .intro x hx;rw[jCK,ak] at hx;subst hx;refine⟨lj,λk hk=>(by cases hk),λk hk=>(by cases hk),λk hk=>(by cases hk),λt ht hb _=>?_⟩;unfold fullN at hb;rw[el,dy,ao ht] at hb;cases hb
 .intro m hm hf ih x hx;have hl:lowN m<w.toNat:=by have:=jEC hm hf;rwa [el] at this
  rw[jCJ o hm hf] at hx;obtain⟨p,hp,y,hy,rfl⟩:=mem_wJ.mp hx;obtain⟨c,hc,rfl⟩:=aZ.mp hp;have I:=ih c hc y hy;have offm:∀k∈y,∀t∈jB Ar k,m.testBit t.toNat=false:=λk hk t ht=>by
   have:=I.off k hk t ht;rw[cm,ik] at this;exact this.1
  obtain⟨hz,hcase⟩:=(jGC hl).mp hc;rcases hcase with ⟨rfl,hms⟩|⟨k,rfl,k0,k1,hd⟩
  .dsimp only;rw[aA (show (-1:Int)<0 by decide)];refine⟨I.nd,I.bnd,offm,I.dis,λt ht hb hn=>?_⟩;refine I.cov t ht ?_ hn;rw[cm,hb,jk,cX,aK];intro z;subst z;exact hn hms
  .dsimp only at I hz ⊢;rw[az Aa];have ky:∀t∈jB Ar k,∀k'∈y,t∉jB Ar k':=λt ht k' hk' ht'=>by
    have:=I.off k' hk' t ht';have bt:=(jAY g k0 k1).bnd t ht;rw[cm,jFB g k0 k1,show ((t.toNat:Nat):Int)=t by lia,ao ht,fj] at this;cases this
   have hhd:=(jCV g k0 k1).1;refine⟨bS.mpr ⟨λz=>ky _ hhd k z hhd,I.nd⟩,λk' hk'=>?_,λk' hk' t ht=>?_,λk1' h1' k2' h2' ne t ht=>?_,λt ht hb hn=>?_⟩
   .rcases aB.mp hk' with z|z
    .rw[z];exact⟨k0,k1⟩
    .exact I.bnd k' z
   .rcases aB.mp hk' with z|z
    .rw[z] at ht;exact(jS5 g k0 k1).mp hz t ht
    .exact offm k' z t ht
   .rcases aB.mp h1' with z|z<;>rcases aB.mp h2' with u|u
    .exact absurd (z.trans u.symm) ne
    .rw[z] at ht;exact ky t ht _ u
    .rw[u];intro q;exact ky t q _ z ht
    .exact I.dis _ z _ u ne t ht
   .by_cases hk:(t:Int)∈jB Ar k
    .exact⟨k,ai .., hk⟩
    .obtain⟨k',h1,h2⟩:=I.cov t ht (by rw[cm,hb,jFB g k0 k1,aK hk];rfl) hn;exact⟨k',ah _ h1,h2⟩
theorem jIL:∀m,m<2^(chs w.toNat ms Ar).length->∀x,CovM w ms Ar m x->∃y∈wk (chs w.toNat ms Ar) m,∀k,k∈y↔k∈x:=by
 have o:ChOk (chs w.toNat ms Ar):=jDE g;have el:(chs w.toNat ms Ar).length=w.toNat:=yB _ _ _ _;have w0:=g.w0;refine jDH o ?_ ?_
 .intro x C;refine⟨[],by rw[jCK];exact ak.mpr rfl,λk=>⟨λz=>(by cases z),λhk=>?_⟩⟩;exfalso;have b:=C.bnd k hk;have hh:=(jCV g b.1 b.2).1;have hb:=(jAY g b.1 b.2).bnd _ hh;have:=C.off k hk _ hh;unfold fullN at this;rw[el,dy,ao Aa] at this;cases this
 .intro m hm hf ih x C;have hl:lowN m<w.toNat:=by have:=jEC hm hf;rwa [el] at this
  have hstep:=jCJ o hm hf;by_cases hx:∃k∈x,(lowN m:Int)∈jB Ar k
  .obtain⟨k,hk,ht⟩:=hx;have b:=C.bnd k hk;have hd:(jB Ar k).headD 0=(lowN m:Int):=by
    obtain⟨h1,h2⟩:=jCV g b.1 b.2;have h3:=h2 _ ht;have hb:=(jAY g b.1 b.2).bnd _ h1;have h4:=C.off k hk _ h1;rcases Int.lt_or_eq_of_le h3 with z|z
    .have:=jGD m ((jB Ar k).headD 0).toNat Aa;rw[this] at h4;cases h4
    .exact z
   have fit:maskN (jB Ar k)&&&m=0:=(jS5 g b.1 b.2).mpr (C.off k hk);have hc:((k,maskN (jB Ar k)):Int×Nat)∈chAt (chs w.toNat ms Ar) m:=(jGC hl).mpr ⟨fit,.inr ⟨k,rfl,b.1,b.2,hd⟩⟩;have memE:∀j,j∈x.erase k↔j≠k/\j∈x:=λj=>C.nd.mem_erase_iff;obtain⟨y,hy,hye⟩:=ih _ hc (x.erase k) ⟨C.nd.erase k,λj hj=>C.bnd j ((memE j).mp hj).2,λj hj t ht'=>by
     obtain⟨n1,n2⟩:=(memE j).mp hj;have bj:=C.bnd j n2;have bt:=(jAY g bj.1 bj.2).bnd t ht';have:=C.dis j n2 k hk n1 t ht';rw[cm,C.off j n2 t ht',jFB g b.1 b.2,show ((t.toNat:Nat):Int)=t by lia,aK this];rfl,λj1 h1 j2 h2=>C.dis j1 ((memE j1).mp h1).2 j2 ((memE j2).mp h2).2,λt ht' hb hn=>by
     rw[cm,ik,jFB g b.1 b.2,dv] at hb;obtain⟨j,hj,hjt⟩:=C.cov t ht' hb.1 hn;exact⟨j,(memE j).mpr ⟨λz=>hb.2 (z ▸ hjt),hj⟩,hjt⟩⟩
   refine⟨k::y,?_,λj=>?_⟩
   .rw[hstep,mem_wJ];exact⟨_,cY hc,y,hy,by dsimp only;rw[az Aa]⟩
   .rw[aB,hye,memE];constructor
    .rintro (z|z)
     .rw[z];exact hk
     .exact z.2
    .intro z;by_cases hj:j=k
     .exact .inl hj
     .exact .inr ⟨hj,z⟩
  .have hms:(lowN m:Int)∈ms:=cg λz=>hx (C.cov (lowN m) hl (jEB m) z);have fit:2^lowN m&&&m=0:=by
    apply eO;intro i;rw[eF,dM,cX];by_cases hi:lowN m=i
    .rw[<- hi,jEB,db]
    .rw[aK hi];rfl
   have hc:((-1,2^lowN m):Int×Nat)∈chAt (chs w.toNat ms Ar) m:=(jGC hl).mpr ⟨fit,.inl ⟨rfl,hms⟩⟩;obtain⟨y,hy,hye⟩:=ih _ hc x ⟨C.nd,C.bnd,λj hj t ht'=>by
     have bj:=C.bnd j hj;have bt:=(jAY g bj.1 bj.2).bnd t ht';rw[cm,C.off j hj t ht',jk,cX,aK];intro z;refine hx ⟨j,hj,?_⟩;rw[z,show ((t.toNat:Nat):Int)=t by lia];exact ht',C.dis,λt ht' hb hn=>by
     rw[cm,ik] at hb;exact C.cov t ht' hb.1 hn⟩
   refine⟨y,?_,hye⟩;rw[hstep,mem_wJ];exact⟨_,cY hc,y,hy,by dsimp only;rw[aA Ac]⟩
end
structure IsCov (w:Int)(ms:Ag)(Ar:Ae)(c:Ag):Prop where
 ris:Ris Ar.length c
 dis:∀k∈c,∀k'∈c,k≠k'->∀t∈jB Ar k,t∉jB Ar k'
 cov:∀t:Int,0<=t->t<w->t∉ms->∃k∈c,t∈jB Ar k
section
variable {w:Int}(g:Good 16 32 w ms Ar)
include g
theorem jNX{c:Ag}:c∈cvs w ms Ar↔IsCov w ms Ar c:=by
 have z0:0<2^(chs w.toNat ms Ar).length:=eG _;have w0:=g.w0;unfold cvs;rw[aZ];constructor
 .rintro ⟨x,hx,rfl⟩;have C:=jJT g 0 z0 x hx;have me:∀k,k∈srt x↔k∈x:=λk=>(jDI x).mem_iff;refine⟨⟨?_,λk hk=>C.bnd k ((me k).mp hk)⟩,λk hk k' hk'=>C.dis k ((me k).mp hk) k' ((me k').mp hk'),λt t0 t1 hn=>?_⟩
  .exact(List.Pairwise.and (jRW x) ((jDI x).nodup_iff.mpr C.nd)).imp λ{a b} h=>by lia
  .obtain⟨k,hk,hkt⟩:=C.cov t.toNat Aa (dM _) (by rw[show ((t.toNat:Nat):Int)=t by lia];exact hn);exact⟨k,(me k).mpr hk,by rwa [show ((t.toNat:Nat):Int)=t by lia] at hkt⟩
 .intro C;obtain⟨y,hy,hye⟩:=jIL g 0 z0 c ⟨C.ris.ris.imp λ{a b} h=>by lia,C.ris.bnd,λk hk t ht=>dM _,C.dis,λt ht _ hn=>C.cov t Aa Aa hn⟩;refine⟨y,hy,?_⟩;have ny:=(jJT g 0 z0 y hy).nd;have nc:c.Nodup:=C.ris.ris.imp λ{a b} h=>by lia
  have pm:c.Perm y:=(gc nc ny).mpr λk=>(hye k).symm;exact(jH3 (C.ris.ris.imp λ{a b} h=>by lia) pm).symm
end
theorem jGH{α β:Type} [DecidableEq β](f:α->β):∀{l:List α}{m:List β},l.Nodup->(∀a∈l,f a∈m)->(∀a∈l,∀b∈l,f a=f b->a=b)->l.length<=m.length
 |[],m,_,_,_=>br _
 |a::l,m,nd,h,inj=>by
  have ha:=h a (ai ..);obtain⟨n1,n2⟩:=bS.mp nd;have:=jGH f (m:=m.erase (f a)) n2 (λb hb=>(List.mem_erase_of_ne λe=>n1 (inj _ (ah _ hb) _ (ai ..) e ▸ hb)).mpr (h b (ah _ hb))) λb hb c hc=>inj b (ah _ hb) c (ah _ hc);rw[List.length_erase_of_mem ha] at this;have:=List.length_pos_of_mem ha;rw[aU];lia
noncomputable def lamOf(s:Stmt):Arguments×Expr×Scope×Pos:=match jE s with
 |[.Return (some (.Call _ [_,_,.Lambda a b sc p] _ _)) _]=>(a,b,sc,p)
 |_=>(yC s,.Constant .none 0 ⟨0,0,0,0⟩,j8 s,⟨0,0,0,0⟩)
abbrev lamA:Arguments:=(lamOf qP).1
abbrev lamB:Expr:=(lamOf qP).2.1
abbrev lamS:Scope:=(lamOf qP).2.2.1
abbrev lamP:Pos:=(lamOf qP).2.2.2
noncomputable abbrev nLam:Am:=["behind"]
theorem scLam:NScope nLam ["behind"] [] lamS:=⟨rfl,rfl,rfl,Ab,rfl,Ab,Ab,λx h=>by
  have hl:∀y∈lamS.names,y.2≠.free:=Ab;exact absurd rfl (hl _ (bG h)),Ab⟩
def RWay(ch:Ch):RepT:=λm _ v=>v=natV (wk ch m).length
def RWay.ok(ch:Ch):RepOk (RWay ch):=λ_ _=>⟨λ_ _ _ _ _ _ h=>h,λ_ _ _ h=>h⟩
def jUY(l:List (Int×Af)):(wJ l).length=(l.map λp=>p.2.length).sum:=by
 unfold wJ;rw[List.length_flatMap];congr 1;refine cK λp _=>?_;rw[ag]
abbrev qLam:Str:= "ways_of.<locals>.<lambda>"
def jQT(T:Txt mg): {t:TE // JE (cxN P w K mg Aq nLam qLam lamS a (.ref c) cl A mj s H0) lamB t}:=⟨_,(jH (jI1 rfl) gl_n T.sum Ab (j4 (kO (m:=[none,none]) (Nc:=["number","ways"]) rfl (yW (jv 0 rfl vis_n)) rfl Ab Ab (λy hy hf=>absurd hf (by revert y;decide+kernel)) (jI (N:=nLam) rfl rfl Ab) (λcl C fp s H=>jCA (i:=0) (j:=1) rfl (show (["number","ways"]:Am).Nodup by decide+kernel) rfl rfl Ab Ab) (λcl C fp s H=>y4) (λcl C fp s H=>(jv 1 rfl jQ)) qB) j9 jL) jL)⟩
def zhW(a c:Addr):Hp->Prop:=λH=>H a=some (.ext (nlP qLam lamA lamB lamS [] a c))/\H c=some (.ext (ncP qLam c))
def zhW.ok(a c:Addr):HpOk (zhW a c):=⟨λH H' D kvs hD k h=>⟨k _ _ h.1 λz=>(by rw[<- z,h.1] at hD;cases hD),k _ _ h.2 λz=>(by rw[<- z,h.2] at hD;cases hD)⟩,λH H' e h=>⟨e _ _ h.1,e _ _ h.2⟩⟩
theorem jW5(o:ChOk ch)(T:Txt mg):Callee P w K mg Aq ZT (zhW a c) 1 a (jK1 ch (RWay ch)):=by
 refine Callee.imp (jOZ (fv:=[]) scLam (λvs H Q E h=>?_) (λpm ctv us hl=>?_) λA mj s H vs Q E hr h=>?_) λs H _=>⟨⟨λx y c h=>(by cases h),λx c h=>(by cases h)⟩,rfl,λi x v h=>(by cases h)⟩
 .obtain⟨_,_,_,rfl,_⟩:=h;rfl
 .match us,hl with
  |[_],_=>rfl
 .obtain⟨l,us,m,rfl,hl,hm,hf,av,q⟩:=h;refine⟨_,(jQT T).2.h,?_⟩;have vl:us.length<=33:=by
   rw[av.len];have hlow:=jEC hm hf;refine bh (bN _ _) ?_;rw[aG,aF hlow];exact o.len _ _ (aF hlow)
  refine⟨_,rfl,l,rfl,⟨_,SqL.of hl⟩,jAJ (xs:=us) (λσ=>∃v1 v2,σ=[v1,v2]) (mapZ (chAt ch m) λc=>natV (wk ch (m|||c.2)).length) (mapZ.ok _ _) hl (by rw[aJ];lia) ⟨_,_,rfl⟩ ?_ ?_⟩
  .rintro j x σ' H' zs hx ⟨v1,v2,rfl⟩ e hz S1 S2 yes no;obtain⟨c,hc,p,u,rfl,hp,hR⟩:=av.get' hx;have hR:u=natV (wk ch (m|||c.2)).length:=hR;subst hR;refine⟨p,_,rfl,SqT.of (e _ _ hp),rfl,_,_,rfl,_,_,rfl,rfl,?_⟩;dsimp only[yR];rw[aA rfl];exact⟨_,rfl,yes _ _ _ ⟨_,_,rfl⟩ (Ext.refl _) (hz.yes hc)⟩
  .rintro D H' zs hD e nD hz;have hz:=hz.all (by rw[av.len];exact ar _);have hz2:zs=((chAt ch m).map λc=>((wk ch (m|||c.2)).length:Int)).map V.int:=by rw[hz,bX];rfl
   rw[hz2] at hD;refine⟨D,_,rfl,SqL.of hD,q _ _ ?_ e⟩;show V.int _=natV _;rw[jCJ o hm hf,jUY,bX];congr 1;generalize chAt ch m=cs
   induction cs with
   |nil=>rfl
   |cons a r ih=>
    rw[bg,lM,bg,lM,ih];push_cast;rfl
noncomputable abbrev nWays:Am:=["choices"]
def scWays:FnScope nWays ["choices"] (j8 qP):= {}
abbrev TabW(H:Hp)(tb:Addr):Prop:=TabOk H tb lamP qLam
def jIQ:Sp:=spEx (λx:Addr×Addr×Ch=>ChOk x.2.2) λx=>jRY x.1 (zhW x.1 x.2.1) x.2.2 (RWay x.2.2)
def jJX(tb:Addr):Sp:=λvs H Q _=>∃(L:Addr) (ch:Ch),vs=[.ref L]/\ChAt H L ch/\ChOk ch/\TabW H tb/\∀(r:Addr) (ns:List Nat) (H':Hp),GotAt H' r ch (RWay ch) ns->ns.Pairwise (· > ·)->MetOk ch ns->ExtT tb H H'->TabW H' tb->H r=none->Q (.ref r) H'
def waysA(T:Txt mg)(CH:PySem.W.CodeHd Aq c0 tb)(BM:qO Aq mg)(CG:Can P w K mg Aq "gathered" 4 fG fdG ["choices","at_end","join"] jIQ)(hr:Room 4 (XOf nWays "ways_of" qP P w K mg Aq f (.ref c0) A mj s H0 E).A): {t:TS // JSs (XOf nWays "ways_of" qP P w K mg Aq f (.ref c0) A mj s H0 E) (jE qP) t}:=
 have nd:=scWays.nd
 ⟨_,(jF (jU (CG.je hr gD (j4 (jv 0 rfl vL) (j4 je_int (j4 (jKS rfl CH BM (λy hy hf=>absurd hf (by revert y;decide+kernel)) rfl) j9 jMW) jN) j6) j6)))⟩
def jTR(F:FunC K "ways_of" "ways_of" qP f fd c0)(T:Txt mg)(CH:PySem.W.CodeHd Aq c0 tb)(BM:qO Aq mg)(CG:Can P w K mg Aq "gathered" 4 fG fdG ["choices","at_end","join"] jIQ):FnOk P w K mg Aq CX0 5 f fd ["choices"] (jJX tb):=by
 refine F.ok scWays (λvs H Q E h=>?_) (λA mj s H vs Q E hr h=>?_)
 .obtain⟨_,_,rfl,_⟩:=h;rfl
 .obtain⟨L,ch,rfl,hL,o,tab,q⟩:=h;refine⟨_,(waysA T CH BM CG hr).2.h,?_⟩;refine⟨_,rfl,tab,λa c H1 k1 k2 k3 e1 na=>?_⟩;have hL1:ChAt H1 L ch:=hL.keep (λb xs h=>e1.at tab h) λb xs h=>e1.at tab h;refine⟨(a,c,ch),o,L,_,rfl,hL1,?_,⟨k1,k2⟩,λr ns H2 got srt mt e2 n2=>?_⟩
  .show V.int 1=natV _;rw[jCK];rfl
  .refine q r ns H2 got srt mt (λb o hb hn=>e2 _ _ (e1 b o hb hn)) (.inr ⟨c,e2 _ _ k3,e2 _ _ k2⟩) ?_;cases z:H r with
   |none=>rfl
   |some o=>
    by_cases hr:r=tb
    .rw[hr,k3] at n2;cases n2
    .rw[e1 _ _ z hr] at n2;cases n2
noncomputable abbrev nMany:Am:=["box"]
def scMany:FnScope nMany ["box"] (j8 sMany):= {}
def jJY(tb:Addr):Sp:=λvs H Q _=>∃(b:Addr) (w:Int) (ms:Ag) (Ar:Ae),vs=[.ref b]/\BoxAt H b w ms Ar/\Good 16 32 w ms Ar/\TabW H tb/\∀H',ExtT tb H H'->TabW H' tb->Q (natV (wk (chs w.toNat ms Ar) 0).length) H'
def manyA(T:Txt mg)(CC:Can P w K mg Aq "choices_of" 2 fC fdC ["box"] jBZ)(CW:Can P w K mg Aq "ways_of" 5 fW fdW ["choices"] (jJX tb))(hr:Room 5 (XOf nMany "many" sMany P w K mg Aq f mn A mj s H0 E).A): {t:TS // JSs (XOf nMany "many" sMany P w K mg Aq f mn A mj s H0 E) (jE sMany) t}:=
 have nd:=scMany.nd
 ⟨_,(jF (jU (jJA (hu_of hr) (CW.je hr gD (j4 (CC.je (hr.mono Ac) gD (j4 (jv 0 rfl vL) j9 j6) j6) j9 jG) jG) je_int jJ)))⟩
def jTV(F:Fun K "many" "many" sMany f fd)(T:Txt mg)(CC:Can P w K mg Aq "choices_of" 2 fC fdC ["box"] jBZ)(CW:Can P w K mg Aq "ways_of" 5 fW fdW ["choices"] (jJX tb)):FnOk P w K mg Aq CX0 6 f fd ["box"] (jJY tb):=by
 refine F.ok scMany (λvs H Q E h=>?_) (λmn A mj s H vs Q E hr h=>?_)
 .obtain⟨_,_,_,_,rfl,_⟩:=h;rfl
 .obtain⟨b,wi,ms,Ar,rfl,hB,g,tab,q⟩:=h;refine⟨_,(manyA T CC CW hr).2.h,?_⟩;refine⟨_,rfl,b,wi,ms,Ar,rfl,hB,g,λL H1 hL1 e1=>?_⟩;refine⟨L,_,rfl,hL1,jDE g,tab.ext e1,λr ns H2 got srt mt e2 t2 n2=>?_⟩;obtain⟨u,dg,ru⟩:=got0 got srt mt;have ru:u=natV _:=ru;subst ru;exact⟨r,_,rfl,dg,q H2 ((ExtT.of e1).trans e2) t2⟩
def mem_nmd{lot:Ag}{p:Int}:p∈nmd ts lot↔∃t∈lot,t∈ts/\p=((ts.idxOf t:Nat):Int):=by
 unfold nmd;rw[(jDI _).mem_iff];unfold plcs;rw[aZ];constructor
 .rintro ⟨t,ht,rfl⟩;obtain⟨h1,h2⟩:=be.mp ht;exact⟨t,h1,aL h2,rfl⟩
 .rintro ⟨t,h1,h2,rfl⟩;exact⟨t,be.mpr ⟨h1,ao h2⟩,rfl⟩
theorem jA7{ks:Ag}{j:Int}(h0:0<=j)(h1:j<ks.length):jB (pick ts Ar ks) j=nmd ts (jB Ar (ks.getD j.toNat 0)):=by
 have hj:j.toNat<ks.length:=Aa;unfold pick;show ((ks.map _).getD j.toNat ([],0)).1=_;rw[aG,aX,aG,aF hj];rfl
theorem jJB{a b:Int}(ha:a∈ts)(hb:b∈ts)(h:((ts.idxOf a:Nat):Int)=((ts.idxOf b:Nat):Int)):a=b:=by
 have e:ts.idxOf a=ts.idxOf b:=Aa;have h1:=(jCC ha).1;rw[e,(jCC hb).1] at h1;exact(bA h1).symm
theorem jNM{lot:Ag}(h:ts.Pairwise (· < ·))(hl:lot.Pairwise (· < ·)):Ris ts.length (nmd ts lot):=by
 rw[jIY h hl];refine⟨jK8 h hl,λz hz=>?_⟩;unfold plcs at hz;obtain⟨t,ht,rfl⟩:=aZ.mp hz;have:=cw.mpr (aL (be.mp ht).2);lia
section
variable {fK:Addr}{fdK:FuncData}
abbrev jJ0:Am:=["one","other"]
def scCommon:FnScope jJ0 ["one","other"] (j8 jB4):= {}
def jBD:Sp:=λvs H Q _=>∃(q t:Addr) (lot ts:Ag),vs=[.ref q,.ref t]/\H q=some (.tup (lot.map V.int))/\H t=some (.tup (ts.map V.int))/\lot.length<=1000/\∀H',Ext H H'->Q (.bl (lot.any λx=>decide (x∈ts))) H'
def jUN(T:Txt mg): {t:TS // JSs (XOf jJ0 "have_common" jB4 P w K mg Aq f mn A mj s H0 E) (jE jB4) t}:=
 have nd:=scCommon.nd
 ⟨_,(jF (jU (jH (jEV rfl) gD T.any Ab (j4 (kO (m:=[none,some 1]) (Nc:=["thing","other"]) rfl (jDD (jv 0 rfl vL)) rfl Ab Ab (jK (psc:=j8 jB4)) (jI (N:=jJ0) rfl rfl Ab) (λcl C fp s H=>jO (i:=0) (show (["thing","other"]:Am).Nodup by decide+kernel) rfl yK) (λcl C fp s H=>y4) (λcl C fp s H=>(yA jG5 (jv 0 rfl jQ) (jv 1 rfl kL) jE6)) qB) j9 jL) jL)))⟩
def jNI(F:Fun K "have_common" "have_common" jB4 f fd)(T:Txt mg):FnOk P w K mg Aq CX0 1 f fd ["one","other"] jBD:=by
 refine F.ok scCommon (λvs H Q E h=>?_) (λmn A mj s H vs Q E hr h=>?_)
 .obtain⟨_,_,_,_,rfl,_⟩:=h;rfl
 .obtain⟨q,t,lot,ts,rfl,hq,ht,hl,k⟩:=h;refine⟨_,(jUN T).2.h,?_⟩;refine⟨_,rfl,q,rfl,⟨_,SqT.of hq⟩,jOT (tp:=true) hq ht hl rfl λD H1 k1 e1 n1=>?_⟩;refine⟨D,_,rfl,SqL.of k1,?_⟩;rw[jX4];exact k H1 e1
abbrev jG9:Am:=["box","lot"]
def scNarrow:FnScope jG9 ["box","lot"] (j8 jAW):= {}
def lkP(Ar:Ae)(ts:Ag):Ag:=(upto Ar.length).filter λk=>(jB Ar k).any λt=>decide (t∈ts)
def jDL(tb:Addr):Sp:=λvs H Q _=>∃(b a:Addr) (w:Int) (ms:Ag) (Ar:Ae) (ts:Ag),vs=[.ref b,.ref a]/\BoxAt H b w ms Ar/\Good 16 32 w ms Ar/\H a=some (.tup (ts.map V.int))/\Ris w ts/\TabP H tb/\
 ∀r H',BoxAt H' r ts.length (nmd ts ms) (pick ts Ar (lkP Ar ts))->ExtT tb H H'->TabP H' tb->Q (.ref r) H'
def jU3(T:Txt mg)(CL:Can P w K mg Aq "is_lot" 3 fL fdL ["thing","many"] (spB2 lotB))(CK:Can P w K mg Aq "picked" 2 fK fdK ["box","things","pieces"] (jDJ tb))(CH:Can P w K mg Aq "have_common" 1 fH fdH ["one","other"] jBD)(hr:Room 3 (XOf jG9 "narrowed" jAW P w K mg Aq f mn A mj s H0 E).A): {t:TS // JSs (XOf jG9 "narrowed" jAW P w K mg Aq f mn A mj s H0 E) (jE jAW) t}:=
 have nd:=scNarrow.nd
 ⟨_,(jD (yT (jEH (jC9 (CL.je (hr.mono Ac) gD (j4 (jv 1 rfl vC) (j4 (kD kP (jv 0 rfl vL) (je_int) jJ) j9 kG) j6) j6) jAS)) (jF (jKO)) kQ)
   (jF (jU (CK.je (hr.mono Ac) gD (j4 (jv 0 rfl vL) (j4 (jv 1 rfl vC) (j4 (kO (m:=[none,none,some 1]) (Nc:=["number","piece","lot"]) rfl (jJ8 gD T.enumerate (j4 (kD kP (jv 0 rfl vL) (je_int) jJ) j9 kG) kG) rfl Ab Ab (jK (psc:=j8 jAW)) (jI (N:=jG9) rfl rfl Ab) (λcl C fp s H=>jCA (i:=0) (j:=1) rfl (show (["number","piece","lot"]:Am).Nodup by decide+kernel) rfl rfl Ab Ab) (λcl C fp s H=>jB6 (jC9 (CH.je (hr.mono Ac) gl_b (j4 (kD yI (jv 1 rfl jQ) (je_int) jJ) (j4 (jv 2 rfl kL) j9 j6) kG) kG) jAS)) (λcl C fp s H=>(jv 0 rfl jQ)) kR) j9 jL) j6) j6) j6))))⟩
def jJ4:∀k∈lkP Ar ts,0<=k/\k<Ar.length:=λk hk=>(kJ Ar.length).bnd k (be.mp hk).1
theorem jO3(Ar:Ae)(ts:Ag):(lkP Ar ts).length<=Ar.length:=by
 have:=bN (λk=>(jB Ar k).any λt=>decide (t∈ts)) (upto Ar.length);rw[jA8] at this;exact this
theorem jNG(F:Fun K "narrowed" "narrowed" jAW f fd)(T:Txt mg)(CL:Can P w K mg Aq "is_lot" 3 fL fdL ["thing","many"] (spB2 lotB))(CK:Can P w K mg Aq "picked" 2 fK fdK ["box","things","pieces"] (jDJ tb))(CH:Can P w K mg Aq "have_common" 1 fH fdH ["one","other"] jBD):FnOk P w K mg Aq CX0 4 f fd ["box","lot"] (jDL tb):=by
 refine F.ok scNarrow (λvs H Q E h=>?_) (λmn A mj s H vs Q E hr h=>?_)
 .obtain⟨_,_,_,_,_,_,rfl,_⟩:=h;rfl
 .obtain⟨b,a,w,ms,Ar,ts,rfl,hB,g,ha,rk,tab,q⟩:=h;refine⟨_,(jU3 T CL CK CH hr).2.h,?_⟩;obtain⟨qm,qp,ps,b1,b2,b3,b4⟩:=id hB.ex;have pl:=b4.len;have w0:=g.w0;have w1:=g.w1;have gpl:=g.pl;have kris:=rk.ris;have kbnd:=rk.bnd;have tl16:=jCS rk.ris rk.bnd w1;refine⟨_,rfl,_,rfl,b,_,0,_,rfl,rfl,SqT.of b1,rfl,.ref a,_,_,rfl,jX3 ha (by rw[ag];lia) (Ats.ints ts),λH1 e1=>⟨_,rfl,?_⟩⟩;rw[jJ3 rk.ris rk.bnd];refine iteF ?_;have ha1:=e1 _ _ ha;refine⟨_,rfl,_,rfl,_,rfl,b,_,2,_,rfl,rfl,SqT.of (e1 _ _ b1),rfl,true,qp,rfl,⟨_,SqT.of (e1 _ _ b3)⟩,jHZ (xs:=ps) (by rw[pl,aJ];lia) (λD j σ' H' zs=>(∃v v',σ'=[v,v',some (.ref a)])/\Ext H1 H'/\H' D=some (.lst zs)/\H1 D=none/\zs=(((upto Ar.length).take j).filter λk=>(jB Ar k).any λx=>decide (x∈ts)).map V.int) ?_ ?_ ?_ ?_⟩
  .intro D hD;exact⟨⟨_,_,rfl⟩,(Ext.refl _).new hD _,j7,hD,rfl⟩
  .rintro D j σ' H' zs hD ⟨_,e,h2,_,rfl⟩;refine⟨SqT.of (e _ _ (e1 _ _ b3)),h2,?_⟩;rw[ag];exact bh (bN _ _) (bC _ _)
  .rintro D j σ' H' zs x X hD hx hX ⟨⟨v,v',rfl⟩,e,h2,hn,rfl⟩;have hj:j<Ar.length:=by
    rw[<- pl];exact(am.mp hx).1
   obtain⟨x',hx',pa,pq,rfl,c1,c2⟩:=b4.get hj;rw[hx] at hx';cases hx';have e7:Ext H' (L2.upd H' X (.tup [.int (j:Int),.ref pa])):=(Ext.refl _).new hX _;have E7:=(e1.trans e).trans e7;refine⟨X,_,rfl,SqT.of j7,rfl,_,_,rfl,_,_,rfl,rfl,?_⟩;dsimp only[kX];have ll:(Ar.getD j ([],0)).1.length<=16:=by
    have:=jF2 g (k:=j) Aa Aa;unfold jB at this;rw[bo] at this;exact this
   refine⟨_,rfl,pa,_,0,_,rfl,rfl,SqT.of (E7 _ _ c1),rfl,_,rfl,pq,a,_,ts,rfl,E7 _ _ c2,e7 _ _ (e _ _ ha1),Aa,λH8 e8=>⟨_,rfl,?_⟩⟩;have h8:=e8 _ _ (e7 _ _ h2);have et:jB Ar (j:Int)=(Ar.getD j ([],0)).1:=by unfold jB;rw[bo]
   have E8:=(e.trans e7).trans e8;rw[<- et,jAQ (jFV hj)];refine ite2 (λhz=>?_) (λhz=>?_)
   .refine⟨_,rfl,h8,⟨_,_,rfl⟩,E8.updNew hn _,j7,hn,?_⟩;rw[aA hz,aW];rfl
   .refine⟨⟨_,_,rfl⟩,E8,h8,hn,?_⟩;rw[az hz,aV]
  .rintro D σ' H7 zs hD ⟨_,e7,h7,n7,rfl⟩;have hap:((upto Ar.length).take ps.length).filter (λk=>(jB Ar k).any λx=>decide (x∈ts))=lkP Ar ts:=by
    rw[pl,bE (by rw[jA8];exact ar _)];rfl
   rw[hap] at h7;have E7:=e1.trans e7;have tln:=jCS kris kbnd w1;have aln:=jO3 Ar ts;refine⟨b,a,D,true,false,w,ms,Ar,ts,lkP Ar ts,rfl,hB.mono E7.tups,E7 _ _ ha,h7,kris.imp λh=>by lia,Aa,?_,pc_lt g,jJ4,Aa,tab.ext E7,λr1 H8 B8 e8 t8=>?_⟩
   .have:=jCS g.mr.ris g.mr.bnd w1;lia
   exact q r1 H8 B8 ((ExtT.of E7).trans e8) t8
theorem jEM{w mp:Int}(g:Good 16 mp w ms Ar)(rk:Ris w ts):Good 16 mp ts.length (nmd ts ms) (pick ts Ar (lkP Ar ts)):=by
 have tl16:=jCS rk.ris rk.bnd g.w1;have gpl:=g.pl;have ll:=jO3 Ar ts;refine⟨Aa,Aa,jNM rk.ris g.mr.ris,?_,λpc hpc=>?_⟩
 .unfold pick;rw[ag];lia
 .unfold pick at hpc;obtain⟨k,hk,rfl⟩:=aZ.mp hpc;have kb:=jJ4 k hk;have gp:=g.at (k:=k.toNat) Aa;have r:=jNM rk.ris (lot:=jB Ar k) gp.lot.ris;refine⟨⟨r.ris,r.bnd,λz=>?_⟩,gp.lo,gp.hi⟩;have hany:=(be.mp hk).2;obtain⟨x,hx,hx2⟩:=dJ.mp hany;have:(plcs ts (jB Ar k)).length=0:=by
   rw[<- jIY (lot:=jB Ar k) rk.ris gp.lot.ris];exact ce List.length z
  unfold plcs at this;rw[ag] at this;have mem:x∈(jB Ar k).filter λt=>decide (t∈ts):=be.mpr ⟨hx,hx2⟩;rw[dU this] at mem;cases mem
end
structure Tb2 (H:Hp)(tb1 tb2:Addr):Prop where
 p:TabP H tb1
 w:TabW H tb2
 ne:tb1≠tb2
def Ex2(tb1 tb2:Addr)(H H':Hp):Prop:=∀b o,H b=some o->b≠tb1->b≠tb2->H' b=some o
def TabOk.extO{U:Addr}{pos:Pos}{q:Str}(t:TabOk H T pos q)(ne:T≠U)(u:∀c,H c=some (.ext (ncP q c))->c≠U)(e:ExtT U H H'):TabOk H' T pos q:=by
 rcases t with h|⟨c,h,h2⟩
 .exact .inl (e _ _ h ne)
 .exact .inr ⟨c,e _ _ h ne,e _ _ h2 (u c h2)⟩
def Tb2.ext(t:Tb2 H tb1 tb2)(e:Ext H H'):Tb2 H' tb1 tb2:=⟨t.p.ext e,t.w.ext e,t.ne⟩
def Tb2.extP(t:Tb2 H tb1 tb2)(e:ExtT tb1 H H')(p:TabP H' tb1):Tb2 H' tb1 tb2:=⟨p,TabOk.extO t.w t.ne.symm (λc h=>t.p.ne h (by intro _ z;cases z)) e,t.ne⟩
def Tb2.extW(t:Tb2 H tb1 tb2)(e:ExtT tb2 H H')(p:TabW H' tb2):Tb2 H' tb1 tb2:=⟨TabOk.extO t.p t.ne (λc h=>t.w.ne h (by intro _ z;cases z)) e,p,t.ne⟩
def Ex2.ofP(e:ExtT tb1 H H'):Ex2 tb1 tb2 H H':=λb o h n _=>e b o h n
def Ex2.ofW(e:ExtT tb2 H H'):Ex2 tb1 tb2 H H':=λb o h _ n=>e b o h n
def Ex2.trans{H1 H2:Hp}(a:Ex2 tb1 tb2 H H1)(b:Ex2 tb1 tb2 H1 H2):Ex2 tb1 tb2 H H2:=λc o h n m=>b c o (a c o h n m) n m
def Ex2.at{H H':Hp}{tb1 tb2:Addr}(e:Ex2 tb1 tb2 H H')(t:Tb2 H tb1 tb2){b:Addr}{o:HO}(h:H b=some o)(ho:∀ps,o≠.tbl ps:=by intro _ z;cases z):H' b=some o:=e b o h (t.p.ne h ho) (t.w.ne h ho)
def Ex2.tups(e:Ex2 tb1 tb2 H H')(t:Tb2 H tb1 tb2):Tups H H':=λb xs h=>e.at t h
noncomputable abbrev nBar:Am:=["box","lot"]
def scBar:FnScope nBar ["box","lot"] (j8 sBar):= {}
def wkN(ms:Ag)(Ar:Ae)(ts:Ag):Af:=wk (chs ts.length (nmd ts ms) (pick ts Ar (lkP Ar ts))) 0
def spBar(tb1 tb2:Addr):Sp:=λvs H Q _=>∃(b a:Addr) (w:Int) (ms:Ag) (Ar:Ae) (ts:Ag),vs=[.ref b,.ref a]/\BoxAt H b w ms Ar/\Good 16 32 w ms Ar/\H a=some (.tup (ts.map V.int))/\Ris w ts/\Tb2 H tb1 tb2/\
 ∀H',Ex2 tb1 tb2 H H'->Tb2 H' tb1 tb2->Q (.bl (decide (wkN ms Ar ts=[]))) H'
def barA(CN:Can P w K mg Aq "narrowed" 4 fN fdN ["box","lot"] (jDL tb1))(CM:Can P w K mg Aq "many" 6 fM fdM ["box"] (jJY tb2))(hr:Room 6 (XOf nBar "is_bar" sBar P w K mg Aq f mn A mj s H0 E).A): {t:TS // JSs (XOf nBar "is_bar" sBar P w K mg Aq f mn A mj s H0 E) (jE sBar) t}:=
 have nd:=scBar.nd
 ⟨_,(jF (jU (yA qC (CM.je hr gD (j4 (CN.je (hr.mono Ac) gD (j4 (jv 0 rfl vL) (j4 (jv 1 rfl vL) j9 j6) j6) j6) j9 jG) jG) (je_int) (jR _))))⟩
theorem jW8(F:Fun K "is_bar" "is_bar" sBar f fd)(CN:Can P w K mg Aq "narrowed" 4 fN fdN ["box","lot"] (jDL tb1))(CM:Can P w K mg Aq "many" 6 fM fdM ["box"] (jJY tb2)):FnOk P w K mg Aq CX0 7 f fd ["box","lot"] (spBar tb1 tb2):=by
 refine F.ok scBar (λvs H Q E h=>?_) (λmn A mj s H vs Q E hr h=>?_)
 .obtain⟨_,_,_,_,_,_,rfl,_⟩:=h;rfl
 .obtain⟨b,a,w,ms,Ar,ts,rfl,hB,g,ha,rk,tab,q⟩:=h;refine⟨_,(barA CN CM hr).2.h,?_⟩;refine⟨_,rfl,_,rfl,b,a,w,ms,Ar,ts,rfl,hB,g,ha,rk,tab.p,λr H1 B1 e1 t1=>?_⟩;have T1:=tab.extP e1 t1;refine⟨r,_,_,_,rfl,B1,jEM g rk,T1.w,λH2 e2 t2=>?_⟩;refine⟨rfl,?_⟩;have ed:decide (natV (wk (chs ((ts.length:Int)).toNat (nmd ts ms) (pick ts Ar (lkP Ar ts))) 0).length=V.int 0)=decide (wkN ms Ar ts=[]):=by
   rw[bo];refine g6.mpr ⟨λz=>?_,λz=>?_⟩
   .have:((wkN ms Ar ts).length:Int)=0:=V.int.inj z;exact dU Aa
   .show natV (wkN ms Ar ts).length=_;rw[z];rfl
  rw[ed];exact q H2 ((Ex2.ofP e1).trans (Ex2.ofW e2)) (T1.extW e2 t2)
def btsN(n m:Nat):Ag:=((List.range n).filter λt=>m.testBit t).map λ(t:Nat)=>(t:Int)
theorem jCX(p:Nat->Bool):∀(d b:Nat),(∀t,b<=t->p t=false)->(List.range (b+d)).filter p=(List.range b).filter p
 | 0,_,_=>rfl
 |d+1,b,h=>by
  rw[show b+(d+1)=(b+d)+1 by lia,gw,bU,jCX p d b h,cW,az (by rw[h _ Aa];exact aC),kz,aV]
theorem jRF{m a b:Nat}(ha:m<2^a)(hb:m<2^b):btsN a m=btsN b m:=by
 have f:∀c,m<2^c->∀t,c<=t->m.testBit t=false:=λc hc t ht=>gQ (aS hc (cr Ac ht));unfold btsN;congr 1;rcases Nat.le_total a b with h|h
 .obtain⟨d,rfl⟩:∃d,b=a+d:=⟨b-a,Aa⟩;exact(jCX _ d a (f a ha)).symm
 .obtain⟨d,rfl⟩:∃d,a=b+d:=⟨a-b,Aa⟩;exact jCX _ d b (f b hb)
theorem jUP(m:Nat):m<2^Builtin.Int.intBits (m:Int):=by
 unfold Builtin.Int.intBits;by_cases h:m=0
 .subst h;decide
 .have:(((m:Nat):Int)==0)=false:=bW.mpr Aa;rw[this,lV];exact Nat.lt_log2_self
theorem jUQ(h:m<2^n):Builtin.Int.intBits (m:Int)<=n:=by
 unfold Builtin.Int.intBits;by_cases h0:m=0
 .subst h0;exact br _
 .have:(((m:Nat):Int)==0)=false:=bW.mpr Aa;rw[this,lV];exact(Nat.log2_lt h0).mpr h
theorem jRH(m t:Nat):decide (V.int (Builtin.bitAnd ((m:Int)/2^((t:Nat):Int).toNat) 1)=V.int 1)=m.testBit t:=by
 have e:(m:Int)/2^((t:Nat):Int).toNat=((m/2^t:Nat):Int):=by
  rw[bo];push_cast;rfl
 rw[e,show Builtin.bitAnd ((m/2^t:Nat):Int) 1=((m/2^t&&&1:Nat):Int) from jFQ _ 1,lU,gS,cj,bz,bz];constructor
 .intro h;have:=V.int.inj h;lia
 .intro h;rw[h];rfl
theorem jL5(n m:Nat):Ris (n:Int) (btsN n m):=by
 unfold btsN;refine⟨bH.mpr ((gR.filter _).imp λh=>by lia),λz hz=>?_⟩;obtain⟨t,ht,rfl⟩:=aZ.mp hz;have:=bI.mp (be.mp ht).1;lia
abbrev jNQ:Am:=["mask"]
def scLotOf:FnScope jNQ ["mask"] (j8 jD5):= {}
def jFX:Sp:=λvs H Q _=>∃(m n:Nat),vs=[natV m]/\m<2^n/\n<=64/\∀r H',H' r=some (.tup ((btsN n m).map V.int))->Ext H H'->Q (.ref r) H'
def jWG(T:Txt mg): {t:TS // JSs (XOf jNQ "lot_of" jD5 P w K mg Aq f mn A mj s H0 E) (jE jD5) t}:=
 have nd:=scLotOf.nd
 ⟨_,(jF (jU (kN jV gD T.tuple Ab (j4 (kO (m:=[none,some 0]) (Nc:=["thing","mask"]) rfl (jA6 gD T.range (j4 (jOM ke iG iH jNT (jv 0 rfl vC)) j9 jG) jG) rfl Ab Ab (jK (psc:=j8 jD5)) (jI (N:=jNQ) rfl rfl Ab) (λcl C fp s H=>jO (i:=0) (show (["thing","mask"]:Am).Nodup by decide+kernel) rfl yK) (λcl C fp s H=>jB6 (jY qC (kW jKC (kW jS7 (jv 1 rfl kL) (jv 0 rfl jQ)) (je_int)) (je_int) (jR _))) (λcl C fp s H=>(jv 0 rfl jQ)) kR) j9 jL) jL)))⟩
theorem jQJ(F:Fun K "lot_of" "lot_of" jD5 f fd)(T:Txt mg):FnOk P w K mg Aq CX0 1 f fd ["mask"] jFX:=by
 refine F.ok scLotOf (λvs H Q E h=>?_) (λmn A mj s H vs Q E hr h=>?_)
 .obtain⟨_,_,rfl,_⟩:=h;rfl
 .obtain⟨m,n,rfl,hm,hn,q⟩:=h;refine⟨_,(jWG T).2.h,?_⟩;have bl:=jUQ hm;refine⟨_,rfl,rfl,_,rfl,rfl,_,rfl,Aa,Aa,jGR (n:=(Builtin.Int.intBits (m:Int):Int).toNat) (λσ=>∃v,σ=[v,some (natV m)]) (outZ (List.range (Builtin.Int.intBits (m:Int):Int).toNat) (λt=>m.testBit t) natV) (outZ.ok _ _ _) (by rw[aJ];lia) ⟨_,rfl⟩ ?_ ?_⟩
  .rintro j σ' H' zs hj ⟨v,rfl⟩ e hz S1 S2 yes no;have e0:(0+(j:Int))=(j:Int):=Aa;have hg:(List.range (Builtin.Int.intBits (m:Int):Int).toNat)[j]?=some j:=dD hj;refine⟨_,rfl,_,rfl,_,_,rfl,rfl,Aa,_,_,rfl,rfl,rfl,_,rfl,?_⟩;show if decide (V.int (Builtin.bitAnd ((m:Int)/2^(0+(j:Int)).toNat) 1)=V.int 1)=true then _ else _
   rw[e0,jRH];refine ite2 (λh=>?_) (λh=>?_)
   .refine⟨_,rfl,yes _ _ _ ⟨_,rfl⟩ (Ext.refl _) (hz.yes hg h)⟩
   .exact no _ _ ⟨_,rfl⟩ (Ext.refl _) (hz.no hg (b9.mpr h))
  .rintro D H' zs hD e nD hz;have hz:=hz.all (by rw[b7];exact ar _);refine⟨D,_,rfl,.inl ⟨SqL.of hD,λr hr'=>q r _ ?_ ((e.trans ((Ext.refl _).new hr' _)))⟩⟩;rw[j7,hz];have:=jRF (a:=n) hm (jUP m);rw[this];unfold btsN;rw[bX];rfl
def jBP:∀{us:List V}{ws:Af},LsAt H us ws->TsAt H (ws.map λx=>Tr.tup (x.map Tr.int)) us
 |[],[],_=>rfl
 |v::us,x::ws,⟨⟨a,e,h⟩,r⟩=>⟨v,us,rfl,⟨a,_,e,h,jSI x⟩,jBP r⟩
theorem jEA:∀(ws:Af),deps (ws.map λx=>Tr.tup (x.map Tr.int))<=100
 |[]=>by show (0:Nat)<=100;decide
 |x::ws=>by
  refine Nat.max_le.mpr ⟨?_,jEA ws⟩;show deps (x.map Tr.int)+1<=100;rw[jHW];decide
theorem jWE(ws:Af):eqTs (ws.map λx=>Tr.tup (x.map Tr.int)) []=decide (ws=[]):=by
 cases ws<;>rfl
def lsZ(l:List α)(p:α->Bool)(f:α->Ag):Hp->List V->Nat->Prop:=λH zs j=>LsAt H zs (((l.take j).filter p).map f)
def LsAt.len(h:LsAt H us ws):us.length=ws.length:=All2.len h
def lsZ.ok(l:List α)(p:α->Bool)(f:α->Ag):ZOk (lsZ l p f):=⟨λ_=>trivial,λ_ _ _ _ t h=>LsAt.mono t h,λ_ zs j h=>by
 rw[LsAt.len h,ag];exact bh (bN _ _) (bC _ _)⟩
def LsAt.snoc{H:Hp}{us:List V}{ws:Af}{a:Addr}{x:Ag}(h:LsAt H us ws)(ha:H a=some (.tup (x.map V.int))):LsAt H (us++[.ref a]) (ws++[x]):=All2.snoc h ⟨a,rfl,ha⟩
def lsZ.yes{l:List α}{p:α->Bool}{f:α->Ag}{j:Nat}{x:α}(h:lsZ l p f H zs j)(t:Tups H H')(hx:l[j]?=some x)(hp:p x=true)(ha:H' a=some (.tup ((f x).map V.int))):lsZ l p f H' (zs++[.ref a]) (j+1):=by
 unfold lsZ;rw[bv,hx,bU,aW];have e:((some x).toList.filter p).map f=[f x]:=by simp[hp]
 rw[e];exact LsAt.snoc (LsAt.mono t h) ha
def lsZ.all{l:List α}{p:α->Bool}{f:α->Ag}(h:lsZ l p f H zs n)(hn:l.length<=n):LsAt H zs ((l.filter p).map f):=by
 unfold lsZ at h;rw[bE hn] at h;exact h
structure TT where
 a:Addr
 p:Pos
 q:Str
def ads(L:List TT):List Addr:=L.map TT.a
structure TbS (L:List TT)(H:Hp):Prop where
 nd:(ads L).Nodup
 ok:∀t∈L,TabOk H t.a t.p t.q
def ExS(S:List Addr)(H H':Hp):Prop:=∀b o,H b=some o->b∉S->H' b=some o
section
variable {S':List Addr}{L:List TT}{H H' H'':Hp}
def ExS.of(e:Ext H H'):ExS S H H':=λb o h _=>e b o h
def ExS.trans(a:ExS S H H')(b:ExS S H' H''):ExS S H H'':=λc o h n=>b c o (a c o h n) n
def ExS.mono(h:∀x∈S,x∈S')(e:ExS S H H'):ExS S' H H':=λb o z n=>e b o z λy=>n (h b y)
def ExS.ofT(e:ExtT T H H')(h:T∈S):ExS S H H':=λb o z n=>e b o z λy=>n (y ▸ h)
def TbS.ext(t:TbS L H)(e:Ext H H'):TbS L H':=⟨t.nd,λx hx=>(t.ok x hx).ext e⟩
def TbS.off(t:TbS L H){o:HO}(h:H b=some o)(ho:∀ps,o≠.tbl ps:=by intro _ z;cases z):b∉ads L:=λz=>by
 obtain⟨x,hx,e⟩:=aZ.mp z;exact(t.ok x hx).ne h ho e.symm
def TbS.at(t:TbS L H)(e:ExS (ads L) H H'){b:Addr}{o:HO}(h:H b=some o)(ho:∀ps,o≠.tbl ps:=by intro _ z;cases z):H' b=some o:=e b o h (t.off h ho)
def TbS.tups(t:TbS L H)(e:ExS (ads L) H H'):Tups H H':=λb xs h=>t.at e h
def TbS.set(t:TbS L H)(hs:∀s∈S,s∈ads L)(e:ExS S H H')(k:∀x∈L,x.a∈S->TabOk H' x.a x.p x.q):TbS L H':=⟨t.nd,λx hx=>by
 by_cases z:x.a∈S
 .exact k x hx z
 .rcases t.ok x hx with h|⟨c,h,h2⟩
  .exact .inl (e _ _ h z)
  .exact .inr ⟨c,e _ _ h z,e _ _ h2 λy=>t.off h2 (by intro _ z;cases z) (hs c y)⟩⟩
def TbS.setT(t:TbS L H){x:TT}(hx:x∈L)(e:ExtT x.a H H')(k:TabOk H' x.a x.p x.q):TbS L H':=t.set (S:=[x.a]) (λs hs=>by rw[ak.mp hs];exact cY hx) (ExS.ofT e (ak.mpr rfl)) λy hy hm=>by
 have e1:=ak.mp hm;have:y=x:=by
  have nd:=t.nd;obtain⟨i,hi⟩:=bL hy;obtain⟨j,hj⟩:=bL hx;have hi':(ads L)[i]?=some x.a:=by unfold ads;rw[aX,hi,<- e1];rfl
  have hj':(ads L)[j]?=some x.a:=by unfold ads;rw[aX,hj];rfl
  have li:i<(ads L).length:=(am.mp hi').1;have ij:=(eM li nd).mp (hi'.trans hj'.symm);rw[ij,hj] at hi;exact(bA hi).symm
 rw[this];exact k
def TbS.lst(t:TbS L H){p:Addr}{xs:List V}{o:HO}(hp:H p=some (.lst xs)):TbS L (L2.upd H p o):=by
 have ne:∀c o,H c=some o->(∀xs,o≠.lst xs)->c≠p:=λc o h n z=>by
  rw[z,hp] at h;cases h;exact n _ rfl
 refine⟨t.nd,λx hx=>?_⟩;rcases t.ok x hx with h|⟨c,h,h2⟩
 .exact .inl (by rw[jA (ne _ _ h (by intro _ z;cases z))];exact h)
 .exact .inr ⟨c,by rw[jA (ne _ _ h (by intro _ z;cases z))];exact h,by rw[jA (ne _ _ h2 (by intro _ z;cases z))];exact h2⟩
end
def keyL(x:Ag):Ag:=(x.length:Int)::x
def jB8(n:Nat):Af:=(List.range (2^n)).map (btsN n)
def leK(a b:Ag):Bool:=!HT.lexLt (keyL b) (keyL a)
def y6(n:Nat):Af:=(jB8 n).mergeSort leK
def jBE(n:Nat):(y6 n).Perm (jB8 n):=lG _ _
def jDY(n:Nat):(y6 n).Pairwise λa b=>HT.lexLt (keyL b) (keyL a)=false:=by
 refine(ju (le:=leK) (λa b c h1 h2=>?_) (λa b=>?_) (jB8 n)).imp λ{a b} h=>by
  unfold leK at h;exact cq _ |>.mp h
 .unfold leK at h1 h2 ⊢;rw[cq] at h1 h2 ⊢;by_cases z:HT.lexLt (keyL c) (keyL a)=true
  .by_cases y:HT.lexLt (keyL a) (keyL b)=true
   .rw[TM.lex_tr z y] at h2;cases h2
   .have:=TM.lex_tot (b9.mpr y) h1;rw[this,h2] at z;cases z
  .exact b9.mpr z
 .unfold leK;rw[ir,cq,cq];by_cases z:HT.lexLt (keyL b) (keyL a)=true
  .right;by_cases y:HT.lexLt (keyL a) (keyL b)=true
   .have:=TM.lex_tr z y;rw[TM.lex_irr] at this;cases this
   .exact b9.mpr y
  .exact .inl (b9.mpr z)
def jC8(l:Af):(l.map keyL).map List.tail=l:=by
 rw[bX];exact List.map_id'' (λ_=>rfl) l
def jLJ(p:ws.Perm (jB8 n))(s:(ws.map keyL).Pairwise λa b=>HT.lexLt b a=false):ws=y6 n:=by
 have:=jGF ((p.trans (jBE n).symm).map keyL) s (bH.mpr (jDY n));rw[<- jC8 ws,this,jC8]
def jQR(h:x∈jB8 n):Ris (n:Int) x:=by
 obtain⟨m,_,rfl⟩:=aZ.mp h;exact jL5 n m
def jC2(h:x∈y6 n):Ris (n:Int) x:=jQR ((jBE n).mem_iff.mp h)
def jHB(n:Nat):(y6 n).length=2^n:=by
 rw[(jBE n).length_eq];unfold jB8;rw[ag,b7]
def inB(y x:Ag):Bool:=y.all λt=>decide (t∈x)
def yM(pr:Ag->Bool)(acc:Af)(x:Ag):Af:=if (!acc.any λy=>inB y x)&&pr x then acc++[x] else acc
def yD(pr:Ag->Bool)(ws:Af):Af:=ws.foldl (yM pr) []
def jEF{pr:Ag->Bool}(h:ws[i]?=some x):yD pr (ws.take (i+1))=yM pr (yD pr (ws.take i)) x:=by
 unfold yD;rw[bv,h,List.foldl_append];rfl
theorem jMO(pr:Ag->Bool)(acc:Af)(x:Ag):(yM pr acc x).length<=acc.length+1:=by
 unfold yM;split
 .rw[aI];exact ar _
 .lia
def jBH(pr:Ag->Bool):∀(ws:Af) (i:Nat),(yD pr (ws.take i)).length<=i
 |ws,0=>by rw[iW];exact ar _
 |ws,i+1=>by
  cases h:ws[i]? with
  |none=>
   have:ws.take (i+1)=ws.take i:=by rw[bv,h];simp
   rw[this];exact Nat.le_succ_of_le (jBH pr ws i)
  |some x=>
   rw[jEF h];exact bh (jMO _ _ _) (Nat.succ_le_succ (jBH pr ws i))
def jBG{pr:Ag->Bool}:∀{ws acc:Af}{x:Ag},x∈ws.foldl (yM pr) acc->x∈acc\/x∈ws
 |[],_,_,h=> .inl h
 |y::ws,acc,x,h=>by
  rcases jBG (ws:=ws) h with z|z
  .unfold yM at z;split at z
   .rcases aP.mp z with z|z
    .exact .inl z
    .exact .inr (ak.mp z ▸ ai ..)
   .exact .inl z
  .exact .inr (ah _ z)
abbrev jIZ:Am:=["lot","other"]
def scWithin:FnScope jIZ ["lot","other"] (j8 jB3):= {}
def jBC:Sp:=λvs H Q _=>∃(a b:Addr) (xs ys:Ag),vs=[.ref a,.ref b]/\H a=some (.tup (xs.map V.int))/\H b=some (.tup (ys.map V.int))/\xs.length<=1000/\∀H',Ext H H'->Q (.bl (inB xs ys)) H'
def jSR(T:Txt mg): {t:TS // JSs (XOf jIZ "is_within" jB3 P w K mg Aq f mn A mj s H0 E) (jE jB3) t}:=
 have nd:=scWithin.nd
 ⟨_,(jF (jU (jH (jCF rfl) gD T.all Ab (j4 (kO (m:=[none,some 1]) (Nc:=["thing","other"]) rfl (jDD (jv 0 rfl vL)) rfl Ab Ab (jK (psc:=j8 jB3)) (jI (N:=jIZ) rfl rfl Ab) (λcl C fp s H=>jO (i:=0) (show (["thing","other"]:Am).Nodup by decide+kernel) rfl yK) (λcl C fp s H=>y4) (λcl C fp s H=>(yA jG5 (jv 0 rfl jQ) (jv 1 rfl kL) jE6)) qB) j9 jL) jL)))⟩
def jNB(F:Fun K "is_within" "is_within" jB3 f fd)(T:Txt mg):FnOk P w K mg Aq CX0 1 f fd ["lot","other"] jBC:=by
 refine F.ok scWithin (λvs H Q E h=>?_) (λmn A mj s H vs Q E hr h=>?_)
 .obtain⟨_,_,_,_,rfl,_⟩:=h;rfl
 .obtain⟨a,b,xs,ys,rfl,ha,hb,hl,q⟩:=h;refine⟨_,(jSR T).2.h,?_⟩;refine⟨_,rfl,a,rfl,⟨_,SqT.of ha⟩,jOT (tp:=true) ha hb hl rfl λD H3 h3 e3 n3=>?_⟩;refine⟨D,_,rfl,SqL.of h3,?_⟩;rw[jX5];exact q H3 e3
end Eo
namespace L2
open PySem PySem.Spec PyProof.Rows
def FunC.okZ{P:PySem.Program}{w:PySem.World}{mg:PySem.Str->Option PySem.Value}{Aq:PySem.Heap}{Z:PySem.Shared->Hp->Prop}{x qual:PySem.Str}{st:PySem.Stmt}{f c0:PySem.Addr}{fd:PySem.FuncData}{N ps:List PySem.Str}{k:Nat}{sp:Sp}(F:FunC K x qual st f fd c0)(S:FnScope N ps (j8 st))(len:∀vs H Q E,sp vs H Q E->vs.length=ps.length)
  (hbody:∀(A:PySem.Around) (mj:List PySem.Env) (s:PySem.Shared) (H:Hp) (vs:List V) (Q:VK) (E:XK),Room k (A.deeper (envOfC qual (j8 st) s.heap.objs.size f (.ref c0)))->Z s H->sp vs H Q E->
   ∃t,PSs (cxOf CX0 P w K mg Aq N qual (j8 st) f (.ref c0) A mj s H E).nox (jE st) t/\t {nx:=λ_ H'=>Q .non H',rt:=Q} (kT N vs) H):FnZ P w K mg Aq CX0 Z (k+1) f fd ps sp:=by
 obtain⟨oc,od,kV,doc,pm,an,ct,osl,rfl,lk,hcd⟩:=F.ex;refine jSK lk hcd S len λA mj s H vs Q E hr hz hsp=>?_;obtain⟨t,ht,hq⟩:=hbody A mj s H vs Q E hr hz hsp;exact⟨t,ht.nox,hq⟩
end L2
namespace Eo
open PySem L2
variable {fd:FuncData}{x ts:Ag}{H:Hp}{n:Nat}{pr:Ag->Bool}
noncomputable def lamK(s:Stmt):Arguments×Expr×Scope×Pos:=match (jE s).getD 1 (.Pass ⟨0,0,0,0⟩) with
 | .For _ (.Call _ _ [⟨_,.Lambda a b sc p,_⟩] _) _ _ _=>(a,b,sc,p)
 |_=>(yC s,.Constant .none 0 ⟨0,0,0,0⟩,j8 s,⟨0,0,0,0⟩)
abbrev keyA:Arguments:=(lamK yZ).1
abbrev keyB:Expr:=(lamK yZ).2.1
abbrev keySc:Scope:=(lamK yZ).2.2.1
abbrev keyPo:Pos:=(lamK yZ).2.2.2
noncomputable abbrev nKey:Am:=["one"]
theorem scKey:NScope nKey ["one"] [] keySc:=⟨rfl,rfl,rfl,Ab,rfl,Ab,Ab,λx h=>by
  have hl:∀y∈keySc.names,y.2≠.free:=Ab;exact absurd rfl (hl _ (bG h)),Ab⟩
abbrev qKey:Str:= "least_lots.<locals>.<lambda>"
def spKey:Sp:=λvs H Q _=>∃(a:Addr) (lot:Ag),vs=[.ref a]/\H a=some (.tup (lot.map V.int))/\∀r H',H' r=some (.tup [.int (lot.length:Int),.ref a])->Ext H H'->Q (.ref r) H'
def zhK(a c:Addr):Hp->Prop:=λH=>H a=some (.ext (nlP qKey keyA keyB keySc [] a c))/\H c=some (.ext (ncP qKey c))
def zhK.ext(a c:Addr)(H H':Hp)(e:Ext H H')(h:zhK a c H):zhK a c H':=⟨e _ _ h.1,e _ _ h.2⟩
section
variable {HI:Hp->Prop}{n:Nat}{pr:Ag->Bool}
def jQV(T:Txt mg): {t:TE // JE (cxN P w K mg Aq nKey qKey keySc a (.ref c) cl A mj s H0) keyB t}:=⟨_,(yL (j4 (jH jA0 gl_n T.len Ab (j4 (jv 0 rfl vis_n) j9 j6) j6) (j4 (jv 0 rfl vis_n) j9 j6) jG))⟩
theorem jW6(T:Txt mg):Callee P w K mg Aq ZT (zhK a c) 1 a spKey:=by
 refine Callee.imp (jOZ (fv:=[]) scKey (λvs H Q E h=>?_) (λpm ctv us hl=>?_) λA mj s H vs Q E hr h=>?_) λs H _=>⟨⟨λx y c h=>(by cases h),λx c h=>(by cases h)⟩,rfl,λi x v h=>(by cases h)⟩
 .obtain⟨_,_,rfl,_⟩:=h;rfl
 .match us,hl with
  |[_],_=>rfl
 .obtain⟨a,lot,rfl,ha,q⟩:=h;refine⟨_,(jQV T).2.h,?_⟩;refine⟨_,rfl,a,_,rfl,.inr (SqT.of ha),_,rfl,by show (2:Nat)<=_;decide,λr H' d e=>?_⟩;rw[ag] at d;exact q r H' d e
abbrev TabK(H:Hp)(tb:Addr):Prop:=TabOk H tb keyPo qKey
def jF6(S:List Addr)(HI:Hp->Prop)(n:Nat)(pr:Ag->Bool):Sp:=λvs H Q _=>∃(a:Addr) (lot:Ag),vs=[.ref a]/\H a=some (.tup (lot.map V.int))/\Ris (n:Int) lot/\HI H/\∀H',ExS S H H'->HI H'->Q (.bl (pr lot)) H'
structure HIOk (S:List Addr)(HI:Hp->Prop):Prop where
 ext:∀{H H'},Ext H H'->HI H->HI H'
 off:∀{H b o},HI H->H b=some o->(∀ps,o≠.tbl ps)->b∉S
 lst:∀{H' H p xs ys},HI H'->H' p=none->HI H->H p=some (.lst xs)->HI (L2.upd H p (.lst ys))
def jIP(j tb:Addr)(S:List Addr)(HI:Hp->Prop)(n:Nat)(pr:Ag->Bool):Sp:=λvs H Q _=>vs=[.int (n:Int),.ref j]/\n<=16/\TabK H tb/\(∀H',ExtT tb H H'->TabK H' tb->HI H')/\tb∉S/\
 ∀l us H',H' l=some (.lst us)->LsAt H' us (yD pr (y6 n))->ExS (tb::S) H H'->HI H'->TabK H' tb->H l=none->Q (.ref l) H'
abbrev jKI:Am:=["things","holds","least","lot"]
def scLeast:FnScope jKI ["things","holds"] (j8 yZ):= {}
abbrev jIH(P:Program)(w:World)(K:W.Frag)(mg:Ak)(Aq:Heap)(f c0:Addr)(A:Around)(mj:List Env)(s:Shared)(H:Hp)(E:XK):Cx:=XOf jKI "least_lots" yZ P w K mg Aq f (.ref c0) A mj s H E
def jFJ(T:Txt mg)(CW:Can P w K mg Aq "is_within" 1 fW fdW ["lot","other"] jBC)(CJ:Callee P w K mg Aq Z zh 8 j (jF6 S HI n pr))(zs:ZSt Z)(hz:Z s H0)(hr:Room 8 (jIH P w K mg Aq f c0 A mj s H0 E).A): {t:TS // JSs (jIH P w K mg Aq f c0 A mj s H0 E) (jFI ((jE yZ).getD 1 (.Pass ⟨0,0,0,0⟩))) t}:=
 have nd:=scLeast.nd
 ⟨_,(jF (yT (jt_w (jOC (jEH (jC9 (jH (jEV rfl) gD T.any Ab (j4 (kO (m:=[none,some 3]) (Nc:=["shorter","lot"]) rfl (yW (jv 2 rfl vL)) rfl Ab Ab (jK (psc:=j8 yZ)) (jI (N:=jKI) rfl rfl Ab) (λcl C fp s H=>jO (i:=0) (show (["shorter","lot"]:Am).Nodup by decide+kernel) rfl yK) (λcl C fp s H=>y4) (λcl C fp s H=>(CW.je (hr.mono Ac) gl_b (j4 (jv 0 rfl jQ) (j4 (jv 1 rfl kL) j9 j6) j6) j6)) qB) j9 jL) jL) jAS)) (jJ5 (jC9 (jKU (j:=1) CJ hr zs hz rfl rfl vL (j4 (jv 3 rfl vC) j9 j6) j6) jAS)))) (jF (jBS (je_bm bQ cI cJ jA4 (jv 2 rfl vL) (j4 (jv 3 rfl vC) j9 j6) j6) jW)) kQ))⟩
def jWH(T:Txt mg)(CH:PySem.W.CodeHd Aq c0 tb)(BM:qO Aq mg)(CO:Can P w K mg Aq "lot_of" 1 fO fdO ["mask"] jFX)(CW:Can P w K mg Aq "is_within" 1 fW fdW ["lot","other"] jBC)(CJ:Callee P w K mg Aq Z zh 8 j (jF6 S HI n pr))(zs:ZSt Z)(hz:Z s H0)(hr:Room 8 (jIH P w K mg Aq f c0 A mj s H0 E).A): {t:TS // JSs (jIH P w K mg Aq f c0 A mj s H0 E) (jE yZ) t}:=
 have nd:=scLeast.nd
 ⟨_,(jD (jS (i:=2) nd rfl lL (yF j9) jD3) (jD (jEI dH rfl (yW (jHS (jI4 jU8 (λq c=>jW6 T) zhK.ext (hr.mono Ac)) gD T.sorted Ab (j4 (kO (m:=[none]) (Nc:=["mask"]) rfl (jA6 gD T.range (j4 (kW jHH (je_int) (jv 0 rfl vL)) j9 yO) yO) rfl Ab Ab (jK (psc:=j8 yZ)) (jI (N:=jKI) rfl rfl Ab) (λcl C fp s H=>jO (i:=0) (show (["mask"]:Am).Nodup by decide+kernel) rfl yK) (λcl C fp s H=>y4) (λcl C fp s H=>(CO.je (hr.mono Ac) gl_b (j4 (jv 0 rfl jQ) j9 j6) j6)) kR) j9 jL) (jOG (jKS rfl CH BM (λy hy hf=>absurd hf (by revert y;decide+kernel)) rfl) jSF) jL)) (jO (i:=3) nd rfl qS) (jFJ T CW CJ zs hz hr).2 kR) (jF (jU (jv 2 rfl vL)))))⟩
noncomputable def lotV(H:Hp):V->Ag
 | .ref a=>match H a with
  |some (.tup xs)=>xs.map λv=>match v with
   | .int i=>i
   |_=>0
  |_=>[]
 |_=>[]
def jO1(h:H a=some (.tup (x.map V.int))):lotV H (.ref a)=x:=by
 dsimp only[lotV];rw[h];show (x.map V.int).map _=x;rw[bX];exact List.map_id'' (λ_=>rfl) x
def jO0:∀{us:List V}{ws:Af},LsAt H us ws->us.map (lotV H)=ws/\∀v∈us,∃a,v=.ref a/\H a=some (.tup ((lotV H v).map V.int))
 |[],[],_=>⟨rfl,λv h=>by cases h⟩
 |v::us,x::ws,⟨⟨a,e,h⟩,r⟩=>by
  obtain⟨i1,i2⟩:=jO0 r;subst e;refine⟨by rw[bg,jO1 h,i1],λv hv=>?_⟩;rcases aB.mp hv with z|z
  .rw[z,jO1 h];exact⟨a,rfl,h⟩
  .exact i2 v z
def jNZ{H':Hp}:∀{us:List V},(∀v∈us,∃a,v=.ref a/\H' a=some (.tup ((lotV H v).map V.int)))->LsAt H' us (us.map (lotV H))
 |[],_=>trivial
 |v::us,h=>⟨h v (ai ..),jNZ λw hw=>h w (ah _ hw)⟩
theorem jLU(T:Txt mg)(CW:Can P w K mg Aq "is_within" 1 fW fdW ["lot","other"] jBC)(CJ:Callee P w K mg Aq Z zh 8 j (jF6 S HI n pr))(zs:ZSt Z)(hz:Z s H0)(hr:Room 8 (jIH P w K mg Aq f c0 A mj s H0 E).A)(hi:HIOk S HI)(hzh:∀H,HI H->zh H)
  {D:Ends}{H Hs:Hp}{l q:Addr}{us:List V}{acc:Af}(Is:HI Hs) (Ns:Hs l=none) (hI:HI H) (hl:H l=some (.lst us)) (hu:LsAt H us acc) (ul:acc.length<=65536) (hq:H q=some (.tup (x.map V.int))) (rx:Ris (n:Int) x) (ra:∀y∈acc,y.length<=1000)
  (nx:∀H' us',HI H'->(∀b o,H b=some o->b∉S->b≠l->H' b=some o)->H' l=some (.lst us')->LsAt H' us' (yM pr acc x)->D.nx [some (.int (n:Int)),some (.ref j),some (.ref l),some (.ref q)] H'):
  (jFJ T CW CJ zs hz hr).1 D [some (.int (n:Int)),some (.ref j),some (.ref l),some (.ref q)] H:=by
 have ulen:=LsAt.len hu;refine⟨_,rfl,l,rfl,⟨_,SqL.of hl⟩,jAJ (xs:=us) (λσ=>∃v1,σ=[v1,some (.ref q)]) (mapZ acc λy=>V.bl (inB y x)) (mapZ.ok _ _) hl (by rw[aJ];lia) ⟨_,rfl⟩ ?_ ?_⟩
 .rintro i v σ' H' zs hv ⟨v1,rfl⟩ e hz' S1 S2 yes no;obtain⟨y,hy,a,rfl,ha⟩:=All2.get' hu hv;dsimp only[kX,yR];rw[aA rfl];exact⟨_,rfl,_,rfl,a,q,y,x,rfl,e _ _ ha,e _ _ hq,ra y (aQ hy),λH'' e'=>yes _ _ _ ⟨_,rfl⟩ e' (hz'.yes hy)⟩
 .rintro D' H1 zs h1 e1 n1 hz';have hz':=hz'.all (by rw[ulen];exact ar _);have hz2:zs=(acc.map λy=>inB y x).map V.bl:=by rw[hz',bX];rfl
  rw[hz2] at h1;refine⟨D',_,rfl,SqL.of h1,_,rfl,?_⟩;have ea:(acc.map λy=>inB y x).any id=acc.any λy=>inB y x:=by rw[lZ];rfl
  rw[ea];have I1:=hi.ext e1 hI;refine ite2 (λc1=>?_) (λc1=>?_)
  .refine⟨rfl,_,rfl,hzh _ I1,q,x,rfl,e1 _ _ hq,rx,I1,λH2 e2 I2=>⟨_,rfl,?_⟩⟩;have k2:∀b o,H1 b=some o->(∀ps,o≠.tbl ps)->H2 b=some o:=λb o h t=>e2 b o h (hi.off I1 h t);have tu:Tups H H2:=λb xs h=>k2 _ _ (e1 _ _ h) (by intro _ z;cases z);have hl2:=k2 _ _ (e1 _ _ hl) (by intro _ z;cases z);have kk:∀b o,H b=some o->b∉S->b≠l->H2 b=some o:=λb o h ns _=>e2 _ _ (e1 _ _ h) ns;refine ite2 (λc2=>?_) (λc2=>?_)
   .have hs:yM pr acc x=acc++[x]:=by
     unfold yM;rw[aA (by rw[c1,c2];rfl)]
    refine⟨_,rfl,.inl ⟨rfl,_,SqL.of hl2⟩,_,rfl,l,us,_,rfl,rfl,hl2,by rw[aJ];lia,?_⟩;have t2:=Tups.upd hl2 (.lst (us++[.ref q]));refine nx _ _ (hi.lst Is Ns I2 hl2) (λb o h ns nl=>by rw[jA nl];exact kk b o h ns nl) j7 ?_;rw[hs];exact LsAt.snoc (LsAt.mono t2 (LsAt.mono tu hu)) (t2 _ _ (tu _ _ hq))
   .have hs:yM pr acc x=acc:=by
     unfold yM;rw[az (by rw[bJ];exact λz=>c2 z.2)]
    exact nx H2 us I2 kk hl2 (by rw[hs];exact LsAt.mono tu hu)
  .have hs:yM pr acc x=acc:=by
    unfold yM;rw[az (by rw[bJ];exact λz=>c1 z.1)]
   exact iteF (nx H1 us I1 (λb o h _ _=>e1 _ _ h) (e1 _ _ hl) (by rw[hs];exact LsAt.mono e1.tups hu))
theorem jG7(F:FunC K "least_lots" "least_lots" yZ f fd c0)(T:Txt mg)(CH:PySem.W.CodeHd Aq c0 tb)(BM:qO Aq mg)(CO:Can P w K mg Aq "lot_of" 1 fO fdO ["mask"] jFX)(CW:Can P w K mg Aq "is_within" 1 fW fdW ["lot","other"] jBC)(CJ:Callee P w K mg Aq Z zh 8 j (jF6 S HI n pr))(zs:ZSt Z)(hi:HIOk S HI)(hzh:∀H,HI H->zh H):FnZ P w K mg Aq CX0 Z 9 f fd ["things","holds"] (jIP j tb S HI n pr):=by
 refine F.okZ scLeast (λvs H Q E h=>?_) (λA mj s H vs Q E hr hz h=>?_)
 .obtain⟨rfl,_⟩:=h;rfl
 .obtain⟨rfl,n16,tab,hI0,ntb,q⟩:=h;refine⟨_,(jWH T CH BM CO CW CJ zs hz hr).2.h,?_⟩;have p16:2^n<=2^16:=cr Ac n16;have p16':(2^16:Nat)=65536:=Ac;refine⟨by show (0:Nat)<=_;decide,λl H1 d1 e1 n1=>?_⟩;have e2n:(1:Int)*2^((n:Nat):Int).toNat=((2^n:Nat):Int):=by rw[Int.one_mul,bo];push_cast;rfl
  refine⟨_,rfl,_,_,rfl,rfl,⟨Aa,Aa,Aa⟩,?_⟩;have p0:=eG n;generalize hN:2^n=N at p16 p0 e2n;refine⟨((N:Nat):Int),by rw[<- e2n],Aa,Aa,?_⟩;subst hN;refine jGR (n:=((2^n:Nat):Int).toNat) (λσ=>∃v,σ=[v]) (lsZ (List.range (2^n)) (λ_=>true) (btsN n)) (lsZ.ok _ _ _) (by rw[aJ,bo];lia) ⟨_,rfl⟩ ?_ ?_
  .rintro i σ' H' zs' hi' ⟨v,rfl⟩ e hz' S1 S2 yes no;rw[bo] at hi';dsimp only[kX,yR];rw[aA rfl];have e0:(0+(i:Int))=(i:Int):=Aa;refine⟨_,rfl,i,n,by rw[e0];rfl,hi',Aa,λr H'' d e'=>?_⟩;exact yes _ _ _ ⟨_,rfl⟩ e' (hz'.yes e'.tups (dD hi') rfl d)
  .rintro D H2 us h2 e2 n2 hz';have hu:LsAt H2 us (jB8 n):=by
    have:=hz'.all (by rw[b7,bo];exact ar _);rw[iy.mpr (λ_ _=>rfl)] at this;exact this
   have E2:=e1.trans e2;refine⟨tab.ext E2,λa c H3 k1 k2 k3 e3 na=>?_⟩;have T2:TabK H2 tb:=tab.ext E2;have T3:TabK H3 tb:=.inr ⟨c,k3,k2⟩;have tu3:Tups H2 H3:=λb xs h=>e3.at T2 h;have u3:=LsAt.mono tu3 hu;obtain⟨m1,m2⟩:=jO0 u3;refine⟨D,us,a,c,λv=>keyL (lotV H3 v),rfl,rfl,SqL.of (e3.at T2 h2),⟨k1,k2⟩,λv hv=>let ⟨x,e,_⟩:=m2 v hv;⟨x,e⟩,λv hv H4 Q4 e4 k4=>?_,λl2 us' H4 nl pm pw e4 h4=>?_⟩
   .obtain⟨x,rfl,hx⟩:=m2 v hv;exact⟨x,_,rfl,e4 _ _ hx,λr H5 d e=>k4 _ _ ⟨r,x,_,_,rfl,d,e _ _ (e4 _ _ hx),rfl⟩ e⟩
   .have m3:∀v∈us',∃a,v=.ref a/\H4 a=some (.tup ((lotV H3 v).map V.int)):=λv hv=>by
     obtain⟨x,e,hx⟩:=m2 v (pm.mem_iff.mp hv);exact⟨x,e,e4 _ _ hx⟩
    have w4:LsAt H4 us' (y6 n):=by
     have p1:(us'.map (lotV H3)).Perm (jB8 n):=by rw[<- m1];exact pm.map _
     have p2:((us'.map (lotV H3)).map keyL).Pairwise λa b=>HT.lexLt b a=false:=by
      rw[bH,bH];exact pw
     rw[<- jLJ p1 p2];exact jNZ m3
    have d4:H4 l=some (.lst []):=e4 _ _ (e3.at T2 (e2 _ _ d1));have ne:l2≠l:=λz=>by rw[z,e3.at T2 (e2 _ _ d1)] at nl;cases nl
    have I3:HI H3:=hI0 H3 (λb o h ns=>e3 b o (E2 _ _ h) ns) T3;have I4:=hi.ext e4 I3;refine⟨l2,rfl,⟨_,SqL.of h4⟩,jGM (xs:=us') (λi σ H'=>(∃v3,σ=[some (.int (n:Int)),some (.ref j),some (.ref l),v3])/\HI H'/\(∀b o,H4 b=some o->b∉S->b≠l->H' b=some o)/\∃zs,H' l=some (.lst zs)/\LsAt H' zs (yD pr ((y6 n).take i))) ⟨⟨_,rfl⟩,I4,λb o h _ _=>h,[],d4,trivial⟩ (λi σ H' _ ⟨_,_,k,_⟩=>SqL.of (k _ _ h4 (hi.off I4 h4 (by intro _ z;cases z)) ne)) ?_ ?_⟩
    .rintro i v σ H' hv ⟨⟨v3,rfl⟩,I',k',zs',z1,z2⟩;obtain⟨x,hx,qa,rfl,hqa⟩:=All2.get' w4 hv;have xs:=aQ hx;have hq':H' qa=some (.tup (x.map V.int)):=k' _ _ hqa (hi.off I4 hqa (by intro _ z;cases z)) λz=>by rw[z,d4] at hqa;cases hqa
     have il:i<us'.length:=(am.mp hv).1;have sl:=jHB n;have wl:=LsAt.len w4;have al:=jBH pr (y6 n) i;refine jLU T CW CJ zs hz hr hi hzh (hI0 H (λb o h _=>h) tab) n1 I' z1 z2 Aa hq' (jC2 xs) (λy hy=>?_) λH'' us'' I'' k'' z3 z4=>⟨⟨_,rfl⟩,I'',λb o h ns nl=>k'' b o (k' b o h ns nl) ns nl,us'',z3,?_⟩
     .rcases jBG hy with z|z
      .cases z
      .have r:=jC2 (cQ z);have:=jB5 y 0 n r.ris r.bnd;lia
     .rw[jEF hx];exact z4
    .rintro σ H' ⟨⟨v3,rfl⟩,I',k',zs',z1,z2⟩;have wl:=LsAt.len w4;rw[wl,bK] at z2;refine⟨_,rfl,q l zs' H' z1 z2 (λb o h ns=>?_) I' ?_ n1⟩
     .have ns2:b∉S:=λz=>ns (ah _ z);have nt:b≠tb:=λz=>ns (z ▸ ai ..);exact k' b o (e4 _ _ (e3 b o (E2 _ _ h) nt)) ns2 λz=>by rw[z,n1] at h;cases h
     .have t4:H4 tb=some (.tbl (onePs keyPo c)):=e4 _ _ k3;refine .inr ⟨c,k' _ _ t4 ntb λz=>(by rw[z,d4] at t4;cases t4),k' _ _ (e4 _ _ k2) (hi.off I4 (e4 _ _ k2) (by intro _ z;cases z)) λz=>?_⟩;have:=e4 _ _ k2;rw[z,d4] at this;cases this
end
noncomputable def jDC(s:Stmt):Arguments×Expr×Scope×Pos:=match (jE s).getD 1 (.Pass ⟨0,0,0,0⟩) with
 | .Return (some (.Call _ [_,.Lambda a b sc p] _ _)) _=>(a,b,sc,p)
 |_=>(yC s,.Constant .none 0 ⟨0,0,0,0⟩,j8 s,⟨0,0,0,0⟩)
abbrev barA':Arguments:=(jDC y8).1
abbrev barB':Expr:=(jDC y8).2.1
abbrev barSc:Scope:=(jDC y8).2.2.1
abbrev barPo:Pos:=(jDC y8).2.2.2
noncomputable abbrev nBarL:Am:=["lot","box"]
theorem jVC:NScope nBarL ["lot"] ["box"] barSc:=⟨rfl,rfl,rfl,Ab,rfl,Ab,Ab,λx h=>by
  have hl:∀y∈barSc.names,y.2=.free->y.1= "box" :=Ab;rw[show x=_ from hl _ (bG h) rfl];exact ai .., by decide+kernel⟩
abbrev qBarL:Str:= "least_bars.<locals>.<lambda>"
structure BI where
 a:Addr
 c:Addr
 b:Addr
 w:Int
 ms:Ag
 Ar:Ae
 g:Good 16 32 w ms Ar
abbrev barP(ms:Ag)(Ar:Ae)(x:Ag):Bool:=decide (wkN ms Ar x=[])
def zhB(cl:Aj)(i:BI):Hp->Prop:=λH=>H i.a=some (.ext (nlP qBarL barA' barB' barSc cl i.a i.c))/\H i.c=some (.ext (ncP qBarL i.c))
def HIb(tb1 tb2:Addr)(cl:Aj)(i:BI):Hp->Prop:=λH=>zhB cl i H/\BoxAt H i.b i.w i.ms i.Ar/\Tb2 H tb1 tb2
def TabOk.lst{H:Hp}{T p:Addr}{pos:Pos}{q:Str}{xs:List V}{o:HO}(t:TabOk H T pos q)(hp:H p=some (.lst xs)):TabOk (L2.upd H p o) T pos q:=by
 have ne:∀c o,H c=some o->(∀xs,o≠.lst xs)->c≠p:=λc o h n z=>by
  rw[z,hp] at h;cases h;exact n _ rfl
 rcases t with h|⟨c,h,h2⟩
 .exact .inl (by rw[jA (ne _ _ h (by intro _ z;cases z))];exact h)
 .exact .inr ⟨c,by rw[jA (ne _ _ h (by intro _ z;cases z))];exact h,by rw[jA (ne _ _ h2 (by intro _ z;cases z))];exact h2⟩
def HIb.ok(tb1 tb2:Addr)(cl:Aj)(i:BI):HIOk [tb1,tb2] (HIb tb1 tb2 cl i) where
 ext e h:=⟨⟨e _ _ h.1.1,e _ _ h.1.2⟩,h.2.1.mono e.tups,h.2.2.ext e⟩
 off h e t z:=by
  rcases aB.mp z with z|z
  .exact h.2.2.p.ne e t z
  .exact h.2.2.w.ne e t (ak.mp z)
 lst _ _ h hp:=⟨⟨by rw[jA (λz=>by have:=h.1.1;rw[z,hp] at this;cases this)];exact h.1.1,by rw[jA (λz=>by have:=h.1.2;rw[z,hp] at this;cases this)];exact h.1.2⟩,h.2.1.mono (Tups.upd hp _),⟨TabOk.lst h.2.2.p hp,TabOk.lst h.2.2.w hp,h.2.2.ne⟩⟩
def jRJ(CB:Can P w K mg Aq "is_bar" 7 fB fdB ["box","lot"] (spBar tb1 tb2))(hr:Room 7 (cxN P w K mg Aq nBarL qBarL barSc a (.ref c) cl A mj s H0).A): {t:TE // JE (cxN P w K mg Aq nBarL qBarL barSc a (.ref c) cl A mj s H0) barB' t}:=⟨_,(CB.je hr gl_n (j4 (jv 1 rfl (jRM Ab)) (j4 (jv 0 rfl vis_n) j9 j6) j6) j6)⟩
theorem jNJ(CB:Can P w K mg Aq "is_bar" 7 fB fdB ["box","lot"] (spBar tb1 tb2))(cl:Aj)(i:BI):Callee P w K mg Aq (ZC cl ["box"] [.ref i.b]) (zhB cl i) 8 i.a (jF6 [tb1,tb2] (HIb tb1 tb2 cl i) i.w.toNat (barP i.ms i.Ar)):=by
 refine jOZ (fv:=[.ref i.b]) jVC (λvs H Q E h=>?_) (λpm ctv us hl=>?_) λA mj s H vs Q E hr h=>?_
 .obtain⟨_,_,rfl,_⟩:=h;rfl
 .match us,hl with
  |[_],_=>rfl
 .obtain⟨x,lot,rfl,hx,rk,hI,q⟩:=h;refine⟨_,(jRJ CB hr).2.h,?_⟩;have w0:=i.g.w0;have rw':Ris i.w lot:=⟨rk.ris,λz hz=>by have:=rk.bnd z hz;lia⟩;refine⟨_,rfl,_,rfl,i.b,x,i.w,i.ms,i.Ar,lot,rfl,hI.2.1,i.g,hx,rw',hI.2.2,λH' e t=>?_⟩;refine q H' (λb o h n=>e b o h (λz=>n (z ▸ ai ..)) λz=>n (z ▸ ah _ (ai ..))) ⟨⟨e.at hI.2.2 hI.1.1,e.at hI.2.2 hI.1.2⟩,hI.2.1.mono (e.tups hI.2.2),t⟩
abbrev jFG:Am:=["box"]
def scLBars:FnScope jFG ["box"] (j8 y8):= {}
theorem fsBL:∀x∈(["box"]:Am),barSc.names.lookup x=some .free:=by decide+kernel
theorem jWY:FsAt (XOf jFG "least_bars" y8 P w K mg Aq f (.ref c0) A mj s H0 E) ["box"] [0]:=⟨rfl,λk x h=>by
 match k,h with
 | 0,h=>
  cases h;exact⟨0,rfl,rfl,.inl (show (j8 y8).names.lookup (("box":String):Str)=some .cell by decide+kernel)⟩
 |k+1,h=>cases h⟩
abbrev tP(tb:Addr):TT:=⟨tb,jS6,"picked.<locals>.named"⟩
abbrev tW(tb:Addr):TT:=⟨tb,lamP,qLam⟩
abbrev tK(tb:Addr):TT:=⟨tb,keyPo,qKey⟩
abbrev tB(tb:Addr):TT:=⟨tb,barPo,qBarL⟩
abbrev L4(tb1 tb2 tb3 tb4:Addr):List TT:=[tP tb1,tW tb2,tK tb3,tB tb4]
def yS(w:Int)(ms:Ag)(Ar:Ae):Af:=yD (barP ms Ar) (y6 w.toNat)
def jCN(tb1 tb2 tb3 tb4:Addr):Sp:=λvs H Q _=>∃(b:Addr) (w:Int) (ms:Ag) (Ar:Ae),vs=[.ref b]/\BoxAt H b w ms Ar/\Good 16 32 w ms Ar/\w<=9/\TbS (L4 tb1 tb2 tb3 tb4) H/\
 ∀l us H',H' l=some (.lst us)->LsAt H' us (yS w ms Ar)->ExS (ads (L4 tb1 tb2 tb3 tb4)) H H'->TbS (L4 tb1 tb2 tb3 tb4) H'->H l=none->Q (.ref l) H'
abbrev jK0(tb1 tb2 tb3:Addr)(cl:Aj)(i:BI):Sp:=jIP i.a tb3 [tb1,tb2] (HIb tb1 tb2 cl i) i.w.toNat (barP i.ms i.Ar)
def jWI(T:Txt mg)(CH:PySem.W.CodeHd Aq c0 tb4)(BM:qO Aq mg){u9:Tok}(MN:mg "MOST_THINGS_WITH_BARS" =some (.int 9 u9))(FG:∀cl i,FnZ P w K mg Aq CX0 (ZC cl ["box"] [.ref i.b]) 9 fG fdG ["things","holds"] (jK0 tb1 tb2 tb3 cl i))(MG:mg "least_lots" =some (.ref fG))(KG:keepIn K (.ref fG)=true)(BG:Binds K fdG ["things","holds"] [])(hr:Room 9 (XOf jFG "least_bars" y8 P w K mg Aq f (.ref c0) A mj s H0 E).A): {t:TS // JSs (XOf jFG "least_bars" y8 P w K mg Aq f (.ref c0) A mj s H0 E) (jE y8) t}:=
 have nd:=scLBars.nd
 ⟨_,(jD (yT (jY op_gt (kD kP (jv 0 rfl vC) (je_int) jJ) (yX (v:=.int 9) gD MN ⟨_,rfl⟩) (jR _)) (jF (jKO)) kQ) (jF (jU (jKT (G:=λ(i:BI) σ=>jDM σ [0] [.ref i.b]) (FG _) hr gD MG KG BG (λi ma s σ H I q=>⟨I.clOk (jK (psc:=j8 y8)),I.fvOk (jK (psc:=j8 y8)) fsBL jWY q⟩) (j4 (kD kP (jv 0 rfl vC) (je_int) jJ) (j4 (jKS rfl CH BM (jK (psc:=j8 y8)) rfl) j9 jMW) kG) kG))))⟩
theorem jKD(F:FunC K "least_bars" "least_bars" y8 f fd c0)(T:Txt mg)(CH:PySem.W.CodeHd Aq c0 tb4)(BM:qO Aq mg){u9:Tok}(MN:mg "MOST_THINGS_WITH_BARS" =some (.int 9 u9))(FG:∀cl i,FnZ P w K mg Aq CX0 (ZC cl ["box"] [.ref i.b]) 9 fG fdG ["things","holds"] (jK0 tb1 tb2 tb3 cl i))(MG:mg "least_lots" =some (.ref fG))(KG:keepIn K (.ref fG)=true)(BG:Binds K fdG ["things","holds"] []):FnOk P w K mg Aq CX0 10 f fd ["box"] (jCN tb1 tb2 tb3 tb4):=by
 refine F.ok scLBars (λvs H Q E h=>?_) (λA mj s H vs Q E hr h=>?_)
 .obtain⟨_,_,_,_,rfl,_⟩:=h;rfl
 .obtain⟨b,wi,ms,Ar,rfl,hB,g,w9,tab,q⟩:=h;refine⟨_,(jWI T CH BM MN FG MG KG BG hr).2.h,?_⟩;obtain⟨qm,qp,ps,b1,b2,b3,b4⟩:=id hB.ex;have w0:=g.w0;have nd:=tab.nd;unfold ads L4 at nd;simp only[bg,dZ,bS,aB,bq,cL,io] at nd;obtain⟨⟨n12,n13,n14⟩,⟨n23,n24⟩,n34,_⟩:=nd;have o1:=tab.ok (tP tb1) (ai ..);have o2:=tab.ok (tW tb2) (ah _ (ai ..));have o3:=tab.ok (tK tb3) (ah _ (ah _ (ai ..)));have o4:=tab.ok (tB tb4) (ah _ (ah _ (ah _ (ai ..))));refine⟨_,rfl,b,_,0,_,rfl,rfl,SqT.of b1,rfl,_,_,rfl,rfl,_,rfl,?_⟩;refine iteN (aK Aa) ?_;refine⟨_,rfl,b,_,0,_,rfl,rfl,SqT.of b1,rfl,o4,λa c H1 k1 k2 k3 e1 na=>?_⟩;have x1:ExS (ads (L4 tb1 tb2 tb3 tb4)) H H1:=ExS.ofT e1 (by show tb4∈[tb1,tb2,tb3,tb4];simp);have T1:TbS (L4 tb1 tb2 tb3 tb4) H1:=tab.setT (x:=tB tb4) (ah _ (ah _ (ah _ (ai ..)))) e1 (.inr ⟨c,k3,k2⟩);have tu1:=tab.tups x1;have p1:=T1.ok (tP tb1) (ai ..);have p2:=T1.ok (tW tb2) (ah _ (ai ..));have p3:=T1.ok (tK tb3) (ah _ (ah _ (ai ..)));have t12:Tb2 H1 tb1 tb2:=⟨p1,p2,n12⟩;refine⟨⟨a,c,b,wi,ms,Ar,g⟩,rfl,by show [V.int wi,V.ref a]=[V.int ((wi.toNat:Nat):Int),V.ref a];rw[dF w0],by show wi.toNat<=16;lia,p3,λH' e' t'=>?_,?_,λl us H2 h2 hu e2 I2 k2' n2=>?_⟩
  .have at1:∀{b:Addr}{o:HO},H1 b=some o->(∀ps,o≠.tbl ps)->H' b=some o:=λ{b o} h t=>e' b o h (p3.ne h t);refine⟨⟨at1 k1 (by intro _ z;cases z),at1 k2 (by intro _ z;cases z)⟩,(hB.mono tu1).mono λb xs h=>at1 h (by intro _ z;cases z),?_⟩;exact⟨TabOk.extO t12.p n13 (λc h=>p3.ne h (by intro _ z;cases z)) e',TabOk.extO t12.w n23 (λc h=>p3.ne h (by intro _ z;cases z)) e',n12⟩
  .show tb3∉ [tb1,tb2];simp only[aB,bq,cL,io];exact⟨λz=>n13 z.symm,λz=>n23 z.symm⟩
  .have e3:ExS (ads (L4 tb1 tb2 tb3 tb4)) H1 H2:=ExS.mono (λx hx=>by
    show x∈[tb1,tb2,tb3,tb4];simp only[aB,bq,cL] at hx ⊢;rcases hx with z|z|z
    .exact .inr (.inr (.inl z))
    .exact .inl z
    .exact .inr (.inl z)) e2
   have T2:TbS (L4 tb1 tb2 tb3 tb4) H2:=T1.set (S:=[tb3,tb1,tb2]) (λx hx=>by
    show x∈[tb1,tb2,tb3,tb4];simp only[aB,bq,cL] at hx ⊢;rcases hx with z|z|z
    .exact .inr (.inr (.inl z))
    .exact .inl z
    .exact .inr (.inl z)) e2 λx hx hm=>by
     simp only[aB,bq,cL] at hx;rcases hx with rfl|rfl|rfl|rfl
     .exact I2.2.2.p
     .exact I2.2.2.w
     .exact k2'
     .exfalso;simp only[aB,bq,cL] at hm;rcases hm with z|z|z
      .exact n34 z.symm
      .exact n14 z.symm
      .exact n24 z.symm
   refine q l us H2 h2 hu (x1.trans e3) T2 ?_;cases z:H l with
   |none=>rfl
   |some o=>
    by_cases y:l=tb4
    .rw[y,k3] at n2;cases n2
    .rw[e1 _ _ z y] at n2;cases n2
abbrev mendA:Arguments:=(jDC kY).1
abbrev mendB:Expr:=(jDC kY).2.1
abbrev mendSc:Scope:=(jDC kY).2.2.1
abbrev jS8:Pos:=(jDC kY).2.2.2
noncomputable abbrev nMend:Am:=["lot","bars"]
theorem jVA:NScopeC nMend "lot" ["bars"] mendSc:=⟨rfl,rfl,rfl,Ab,rfl,Ab,Ab,λx h=>by
  have hl:∀y∈mendSc.names,y.2=.free->y.1= "bars" :=Ab;rw[show x=_ from hl _ (bG h) rfl];exact ai .., by decide+kernel⟩
abbrev qMend:Str:= "least_mends.<locals>.<lambda>"
structure MI where
 a:Addr
 c:Addr
 l:Addr
 n:Nat
 us:List V
 ws:Af
 hn:n<=16
 hw:ws.length<=65536
abbrev mendP(ws:Af)(x:Ag):Bool:=ws.all λb=>x.any λt=>decide (t∈b)
def zhM(cl:Aj)(i:MI):Hp->Prop:=λH=>H i.a=some (.ext (nlP qMend mendA mendB mendSc cl i.a i.c))/\H i.c=some (.ext (ncP qMend i.c))
def HIm(cl:Aj)(i:MI):Hp->Prop:=λH=>zhM cl i H/\H i.l=some (.lst i.us)/\LsAt H i.us i.ws
def HIm.ok(cl:Aj)(i:MI):HIOk [] (HIm cl i) where
 ext e h:=⟨⟨e _ _ h.1.1,e _ _ h.1.2⟩,e _ _ h.2.1,LsAt.mono e.tups h.2.2⟩
 off _ _ _ z:=by cases z
 lst h0 n0 h hp:=⟨⟨by rw[jA (λz=>by have:=h.1.1;rw[z,hp] at this;cases this)];exact h.1.1,by rw[jA (λz=>by have:=h.1.2;rw[z,hp] at this;cases this)];exact h.1.2⟩,by rw[jA (λz=>by have:=h0.2.1;rw[z,n0] at this;cases this)];exact h.2.1,LsAt.mono (Tups.upd hp _) h.2.2⟩
def TbS.sub{L L':List TT}(t:TbS L H)(s:L'.Sublist L):TbS L' H:=⟨t.nd.sublist (s.map _),λx hx=>t.ok x (s.subset hx)⟩
def jNW(T:Txt mg)(CH:Can P w K mg Aq "have_common" 1 fH fdH ["one","other"] jBD)(hr:Room 7 (cxN P w K mg Aq nMend qMend mendSc a (.ref c) cl A mj s H0).A): {t:TE // JE (cxN P w K mg Aq nMend qMend mendSc a (.ref c) cl A mj s H0) mendB t}:=⟨_,(jH (jCF rfl) gl_n T.all Ab (j4 (kO (m:=[none,some 0]) (Nc:=["bar","lot"]) rfl (yW (jv 1 rfl (jRM Ab))) rfl Ab Ab (jK (psc:=mendSc)) (jI (N:=nMend) rfl rfl Ab) (λcl C fp s H=>jO (i:=0) (show (["bar","lot"]:Am).Nodup by decide+kernel) rfl yK) (λcl C fp s H=>y4) (λcl C fp s H=>(CH.je (hr.mono Ac) gl_b (j4 (jv 1 rfl kL) (j4 (jv 0 rfl jQ) j9 j6) j6) j6)) qB) j9 jL) jL)⟩
theorem jQI(T:Txt mg)(CH:Can P w K mg Aq "have_common" 1 fH fdH ["one","other"] jBD)(cl:Aj)(i:MI):Callee P w K mg Aq (ZC cl ["bars"] [.ref i.l]) (zhM cl i) 8 i.a (jF6 [] (HIm cl i) i.n (mendP i.ws)):=by
 refine jUI (fv:=[.ref i.l]) jVA (λvs H Q E h=>?_) (λpm ctv u=>rfl) λA mj s H vs Q E cl' hr h=>?_
 .obtain⟨_,_,rfl,_⟩:=h;rfl
 .obtain⟨x,lot,rfl,hx,rk,hI,q⟩:=h;refine⟨_,(jNW T CH hr).2.h,?_⟩;have ul:=LsAt.len hI.2.2;have ll:=jB5 lot 0 _ rk.ris rk.bnd;have n16:=i.hn;have hw:=i.hw;refine⟨_,rfl,i.l,rfl,⟨_,SqL.of hI.2.1⟩,jAJ (xs:=i.us) (λσ=>∃v,σ=[v,some (.ref x)]) (mapZ i.ws λb=>V.bl (lot.any λt=>decide (t∈b))) (mapZ.ok _ _) hI.2.1 (by rw[aJ];lia) ⟨_,rfl⟩ ?_ ?_⟩
  .rintro j v σ' H' zs hv ⟨v1,rfl⟩ e hz S1 S2 yes no;obtain⟨y,hy,p,rfl,hp⟩:=All2.get' hI.2.2 hv;dsimp only[kX,yR];rw[aA rfl];exact⟨_,rfl,_,rfl,x,p,lot,y,rfl,e _ _ hx,e _ _ hp,Aa,λH'' e'=>yes _ _ _ ⟨_,rfl⟩ e' (hz.yes hy)⟩
  .rintro D H1 zs h1 e1 n1 hz;have hz:=hz.all (by rw[ul];exact ar _);have hz2:zs=(i.ws.map λb=>lot.any λt=>decide (t∈b)).map V.bl:=by rw[hz,bX];rfl
   rw[hz2] at h1;refine⟨D,_,rfl,SqL.of h1,?_⟩;have ea:(i.ws.map λb=>lot.any λt=>decide (t∈b)).all id=mendP i.ws lot:=by rw[jz];rfl
   rw[ea];exact q H1 (ExS.of e1) ((HIm.ok cl i).ext e1 hI)
abbrev jFF:Am:=["box","bars"]
def scMends:FnScope jFF ["box"] (j8 kY):= {}
theorem fsML:∀x∈(["bars"]:Am),mendSc.names.lookup x=some .free:=by decide+kernel
theorem jWX:FsAt (XOf jFF "least_mends" kY P w K mg Aq f (.ref c0) A mj s H0 E) ["bars"] [1]:=⟨rfl,λk x h=>by
 match k,h with
 | 0,h=>
  cases h;exact⟨1,rfl,rfl,.inl (show (j8 kY).names.lookup (("bars":String):Str)=some .cell by decide+kernel)⟩
 |k+1,h=>cases h⟩
abbrev tM(tb:Addr):TT:=⟨tb,jS8,qMend⟩
abbrev L5(tb1 tb2 tb3 tb4 tb5:Addr):List TT:=[tP tb1,tW tb2,tK tb3,tB tb4,tM tb5]
def qI(w:Int)(ms:Ag)(Ar:Ae):Af:=yD (mendP (yS w ms Ar)) (y6 w.toNat)
def jMR(tb1 tb2 tb3 tb4 tb5:Addr):Sp:=λvs H Q _=>∃(b:Addr) (w:Int) (ms:Ag) (Ar:Ae),vs=[.ref b]/\BoxAt H b w ms Ar/\Good 16 32 w ms Ar/\w<=9/\TbS (L5 tb1 tb2 tb3 tb4 tb5) H/\
 ∀l us H',H' l=some (.lst us)->LsAt H' us (qI w ms Ar)->ExS (ads (L5 tb1 tb2 tb3 tb4 tb5)) H H'->TbS (L5 tb1 tb2 tb3 tb4 tb5) H'->H l=none->Q (.ref l) H'
abbrev jJZ(tb3:Addr)(cl:Aj)(i:MI):Sp:=jIP i.a tb3 [] (HIm cl i) i.n (mendP i.ws)
def jWD(T:Txt mg)(CH:PySem.W.CodeHd Aq c0 tb5)(BM:qO Aq mg)(CB:Can P w K mg Aq "least_bars" 10 fB fdB ["box"] (jCN tb1 tb2 tb3 tb4))(FG:∀cl i,FnZ P w K mg Aq CX0 (ZC cl ["bars"] [.ref i.l]) 9 fG fdG ["things","holds"] (jJZ tb3 cl i))(MG:mg "least_lots" =some (.ref fG))(KG:keepIn K (.ref fG)=true)(BG:Binds K fdG ["things","holds"] [])(hr:Room 10 (XOf jFF "least_mends" kY P w K mg Aq f (.ref c0) A mj s H0 E).A): {t:TS // JSs (XOf jFF "least_mends" kY P w K mg Aq f (.ref c0) A mj s H0 E) (jE kY) t}:=
 have nd:=scMends.nd
 ⟨_,(jD (jS (i:=1) nd rfl qS (CB.je hr gD (j4 (jv 0 rfl vL) j9 j6) j6) jW) (jF (jU (jKT (G:=λ(i:MI) σ=>jDM σ [1] [.ref i.l]) (FG _) (hr.mono Ac) gD MG KG BG (λi ma s σ H I q=>⟨I.clOk (jK (psc:=j8 kY)),I.fvOk (jK (psc:=j8 kY)) fsML jWX q⟩) (j4 (kD kP (jv 0 rfl vL) (je_int) jJ) (j4 (jKS rfl CH BM (jK (psc:=j8 kY)) rfl) j9 jMW) kG) kG))))⟩
theorem jSB{w:Int}{ms:Ag}{Ar:Ae}(hw:w<=16)(pr:Ag->Bool):(yD pr (y6 w.toNat)).length<=65536/\∀x∈yD pr (y6 w.toNat),x.length<=100:=by
 have p16:2^w.toNat<=2^16:=cr Ac Aa;have p16':(2^16:Nat)=65536:=Ac;have:=jBH pr (y6 w.toNat) (y6 w.toNat).length;rw[bK] at this;have sl:=jHB w.toNat;refine⟨Aa,λx hx=>?_⟩;rcases jBG hx with z|z
 .cases z
 .have r:=jC2 z;have:=jB5 x 0 _ r.ris r.bnd;lia
theorem jQH(F:FunC K "least_mends" "least_mends" kY f fd c0)(T:Txt mg)(CH:PySem.W.CodeHd Aq c0 tb5)(BM:qO Aq mg)(CB:Can P w K mg Aq "least_bars" 10 fB fdB ["box"] (jCN tb1 tb2 tb3 tb4))(FG:∀cl i,FnZ P w K mg Aq CX0 (ZC cl ["bars"] [.ref i.l]) 9 fG fdG ["things","holds"] (jJZ tb3 cl i))(MG:mg "least_lots" =some (.ref fG))(KG:keepIn K (.ref fG)=true)(BG:Binds K fdG ["things","holds"] []):FnOk P w K mg Aq CX0 11 f fd ["box"] (jMR tb1 tb2 tb3 tb4 tb5):=by
 refine F.ok scMends (λvs H Q E h=>?_) (λA mj s H vs Q E hr h=>?_)
 .obtain⟨_,_,_,_,rfl,_⟩:=h;rfl
 .obtain⟨b,wi,ms,Ar,rfl,hB,g,w9,tab,q⟩:=h;refine⟨_,(jWD T CH BM CB FG MG KG BG hr).2.h,?_⟩;have w0:=g.w0;have sub:(L4 tb1 tb2 tb3 tb4).Sublist (L5 tb1 tb2 tb3 tb4 tb5):=dO (L4 tb1 tb2 tb3 tb4) [tM tb5];have m5:tM tb5∈L5 tb1 tb2 tb3 tb4 tb5:=aE (L4 tb1 tb2 tb3 tb4) (ak.mpr rfl);have m3:tK tb3∈L5 tb1 tb2 tb3 tb4 tb5:=sub.subset (ah _ (ah _ (ai ..)));refine⟨_,rfl,b,wi,ms,Ar,rfl,hB,g,w9,tab.sub sub,λl us H1 h1 hu x1 T1 n1=>?_⟩;have y1:ExS (ads (L5 tb1 tb2 tb3 tb4 tb5)) H H1:=ExS.mono (λz hz=>(sub.map TT.a).subset hz) x1;have U1:TbS (L5 tb1 tb2 tb3 tb4 tb5) H1:=tab.set (S:=ads (L4 tb1 tb2 tb3 tb4)) (λz hz=>(sub.map TT.a).subset hz) x1 λz hz hm=>by
   rcases aP.mp (show z∈L4 tb1 tb2 tb3 tb4++[tM tb5] from hz) with y|y
   .exact T1.ok z y
   .exfalso;have e5:=ak.mp y;rw[e5] at hm;have nd:(ads (L4 tb1 tb2 tb3 tb4)++[tb5]).Nodup:=tab.nd;exact(fE.mp nd).2.2 tb5 hm tb5 (ak.mpr rfl) rfl
  have hB1:=hB.mono (tab.tups y1);obtain⟨qm,qp,ps,b1,b2,b3,b4⟩:=id hB1.ex;refine⟨_,rfl,b,_,0,_,rfl,rfl,SqT.of b1,rfl,U1.ok _ m5,λa c H2 k1 k2 k3 e2 na=>?_⟩;have x2:ExS (ads (L5 tb1 tb2 tb3 tb4 tb5)) H1 H2:=ExS.ofT e2 (cY (f:=TT.a) m5);have U2:=U1.setT (x:=tM tb5) m5 e2 (.inr ⟨c,k3,k2⟩);have tu2:=U1.tups x2;have p3:=U2.ok _ m3;obtain⟨l1,_⟩:=jSB (w:=wi) (ms:=ms) (Ar:=Ar) Aa (barP ms Ar);have h2:H2 l=some (.lst us):=U1.at x2 h1;have u2:=LsAt.mono tu2 hu;refine⟨⟨a,c,l,wi.toNat,us,yS wi ms Ar,Aa,l1⟩,rfl,by show [V.int wi,V.ref a]=[V.int ((wi.toNat:Nat):Int),V.ref a];rw[dF w0],by show wi.toNat<=16;lia,p3,λH' e' t'=>?_,λz=>(by cases z),λl2 us2 H3 h3 hu3 e3 I3 k3' n3=>?_⟩
  .have at1:∀{b:Addr}{o:HO},H2 b=some o->(∀ps,o≠.tbl ps)->H' b=some o:=λ{b o} h t=>e' b o h (p3.ne h t);exact⟨⟨at1 k1 (by intro _ z;cases z),at1 k2 (by intro _ z;cases z)⟩,at1 h2 (by intro _ z;cases z),LsAt.mono (λb xs h=>at1 h (by intro _ z;cases z)) u2⟩
  .have e3':ExtT tb3 H2 H3:=λb o h n=>e3 b o h λz=>n (ak.mp z);have U3:=U2.setT (x:=tK tb3) m3 e3' k3';refine q l2 us2 H3 h3 hu3 ((y1.trans x2).trans (ExS.ofT e3' (cY (f:=TT.a) m3))) U3 ?_;cases z:H l2 with
   |none=>rfl
   |some o=>
    cases z1:H1 l2 with
    |none=>
     exfalso;by_cases hm:l2∈ads (L4 tb1 tb2 tb3 tb4)
     .obtain⟨t,ht,rfl⟩:=aZ.mp hm;rcases T1.ok t ht with y|⟨_,y,_⟩<;>(rw[y] at z1;cases z1)
     .rw[x1 _ _ z hm] at z1;cases z1
    |some o1=>
     by_cases y:l2=tb5
     .rw[y,k3] at n3;cases n3
     .rw[e2 _ _ z1 y] at n3;cases n3
structure NC (ms:Ag)(Ar:Ae)(ts S:Ag):Prop where
 bnd:∀k∈S,0<=k/\k<Ar.length
 dis:∀k∈S,∀k'∈S,k≠k'->∀t∈ts,t∈jB Ar k->t∉jB Ar k'
 cov:∀t∈ts,t∉ms->∃k∈S,t∈jB Ar k
theorem jGW{w:Int}(g:Good 16 32 w ms Ar)(rk:Ris w ts):wkN ms Ar ts≠[]↔∃S,NC ms Ar ts S:=by
 have gn:=jEM g rk;have el:cvs (ts.length:Int) (nmd ts ms) (pick ts Ar (lkP Ar ts))=(wkN ms Ar ts).map srt:=by
  unfold cvs wkN;rw[bo]
 have ex:wkN ms Ar ts≠[]↔∃c,IsCov (ts.length:Int) (nmd ts ms) (pick ts Ar (lkP Ar ts)) c:=by
  constructor
  .intro h;obtain⟨x,r,hx⟩:=List.exists_cons_of_ne_nil h;exact⟨srt x,(jNX gn).mp (by rw[el,hx];exact ai ..)⟩
  .rintro ⟨c,hc⟩ z;have:=(jNX gn).mpr hc;rw[el,z] at this;cases this
 have nlk:(lkP Ar ts).Nodup:=((kJ Ar.length).ris.sublist dE).imp λ{a b} h=>by lia
 have pl:(pick ts Ar (lkP Ar ts)).length=(lkP Ar ts).length:=ag ..;have lkm:∀j:Int,0<=j->j<(lkP Ar ts).length->(lkP Ar ts).getD j.toNat 0∈lkP Ar ts:=λj h0 h1=>by
  have hj:j.toNat<(lkP Ar ts).length:=Aa;rw[aG,aF hj];exact dq hj
 rw[ex];constructor
 .rintro ⟨c,C⟩;have cb:∀j∈c,0<=j/\j<(lkP Ar ts).length:=λj hj=>by have:=C.ris.bnd j hj;rw[pl] at this;exact this
  refine⟨c.map λj=>(lkP Ar ts).getD j.toNat 0,λk hk=>?_,λk hk k' hk' ne t ht h1 h2=>?_,λt ht hn=>?_⟩
  .obtain⟨j,hj,rfl⟩:=aZ.mp hk;exact jJ4 _ (lkm j (cb j hj).1 (cb j hj).2)
  .obtain⟨j,hj,rfl⟩:=aZ.mp hk;obtain⟨j',hj',rfl⟩:=aZ.mp hk';have nj:j≠j':=λz=>ne (by rw[z]);refine C.dis j hj j' hj' nj ((ts.idxOf t:Nat):Int) ?_ ?_
   .rw[jA7 (cb j hj).1 (cb j hj).2];exact mem_nmd.mpr ⟨t,h1,ht,rfl⟩
   .rw[jA7 (cb j' hj').1 (cb j' hj').2];exact mem_nmd.mpr ⟨t,h2,ht,rfl⟩
  .have hp:ts.idxOf t<ts.length:=cw.mpr ht;obtain⟨j,hj,hjt⟩:=C.cov ((ts.idxOf t:Nat):Int) Aa Aa (λz=>by
    obtain⟨u,hu,hut,e⟩:=mem_nmd.mp z;exact hn (jJB ht hut e ▸ hu))
   rw[jA7 (cb j hj).1 (cb j hj).2] at hjt;obtain⟨u,hu,hut,e⟩:=mem_nmd.mp hjt;exact⟨_,cY hj,jJB ht hut e ▸ hu⟩
 .rintro ⟨S,N⟩;refine⟨(upto (lkP Ar ts).length).filter λj=>decide ((lkP Ar ts).getD j.toNat 0∈S),⟨(kJ _).ris.sublist dE,λj hj=>?_⟩,λj hj j' hj' ne p h1 h2=>?_,λp p0 p1 hn=>?_⟩
  .rw[pl];exact(kJ _).bnd j (be.mp hj).1
  .obtain⟨a1,a2⟩:=be.mp hj;obtain⟨b1,b2⟩:=be.mp hj';have ab:=(kJ _).bnd j a1;have bb:=(kJ _).bnd j' b1;rw[jA7 ab.1 ab.2] at h1;rw[jA7 bb.1 bb.2] at h2;obtain⟨t,ht,hts,e⟩:=mem_nmd.mp h1;obtain⟨u,hu,hus,e'⟩:=mem_nmd.mp h2;have:t=u:=jJB hts hus Aa;subst this;refine N.dis _ (aL a2) _ (aL b2) (λz=>ne ?_) t hts ht hu;have hj1:j.toNat<(lkP Ar ts).length:=Aa;have hj2:j'.toNat<(lkP Ar ts).length:=Aa;rw[aG,aG,aF hj1,aF hj2] at z;have:j.toNat=j'.toNat:=(eM hj1 nlk).mp (by rw[aF hj1,aF hj2];exact ce some z);lia
  .have hp:p.toNat<ts.length:=Aa;have ht:ts[p.toNat]∈ts:=dq hp;have ip:((ts.idxOf ts[p.toNat]:Nat):Int)=p:=by
    have h1:=(jCC ht).1;have nd:ts.Nodup:=rk.ris.imp λ{a b} h=>by lia
    have hlt:ts.idxOf ts[p.toNat]<ts.length:=cw.mpr ht;have:=(eM hlt nd).mp (h1.trans (aF hp).symm);lia
   obtain⟨k,hk,hkt⟩:=N.cov _ ht (λz=>hn (mem_nmd.mpr ⟨_,z,ht,ip.symm⟩));have kb:=N.bnd k hk;have kl:k∈lkP Ar ts:=by
    unfold lkP;refine be.mpr ⟨?_,dJ.mpr ⟨_,hkt,ao ht⟩⟩;unfold upto;exact aZ.mpr ⟨k.toNat,bI.mpr Aa,Aa⟩
   have hj:(lkP Ar ts).idxOf k<(lkP Ar ts).length:=cw.mpr kl;have gk:(lkP Ar ts).getD ((lkP Ar ts).idxOf k:Int).toNat 0=k:=by
    rw[bo,aG,(jCC kl).1];rfl
   refine⟨((lkP Ar ts).idxOf k:Int),be.mpr ⟨mem_upto.mpr ⟨Aa,Aa⟩,ao (by rw[gk];exact hk)⟩,?_⟩;rw[jA7 Aa Aa,gk];exact mem_nmd.mpr ⟨_,hkt,ht,ip.symm⟩
theorem jPL(p:Nat->Bool):∀n:Nat,∃m<2^n,∀t<n,m.testBit t=p t
 | 0=>⟨0,Ac,λt h=>by lia⟩
 |n+1=>by
  obtain⟨m,hm,h⟩:=jPL p n;refine⟨2^n*(p n).toNat+m,?_,λt ht=>?_⟩
  .have:(p n).toNat<=1:=Bool.toNat_le _;have:=iA (2^n) this;rw[Nat.pow_succ];lia
  .rw[Nat.testBit_two_pow_mul_add _ hm];split
   .exact h t (by assumption)
   .have:t=n:=by lia
    rw[this,gP];cases p n<;>rfl
theorem jDZ(r:Ris (n:Int) x):x∈y6 n:=by
 refine(jBE n).mem_iff.mpr ?_;obtain⟨m,hm,h⟩:=jPL (λt=>decide ((t:Int)∈x)) n;refine aZ.mpr ⟨m,bI.mpr hm,jMY (jL5 n m).ris r.ris λy=>?_⟩;unfold btsN;rw[aZ];constructor
 .rintro ⟨t,ht,rfl⟩;obtain⟨h1,h2⟩:=be.mp ht;rw[h t (bI.mp h1)] at h2;exact aL h2
 .intro hy;have b:=r.bnd y hy;refine⟨y.toNat,be.mpr ⟨bI.mpr Aa,?_⟩,Aa⟩;rw[h _ Aa];exact ao (by rw[dF b.1];exact hy)
def inB_iff{y:Ag}:inB y x=true↔∀t∈y,t∈x:=by
 unfold inB;rw[ck];exact⟨λh t ht=>aL (h t ht),λh t ht=>ao (h t ht)⟩
def jOY{pr:Ag->Bool}:∀{ws acc:Af}{x:Ag},x∈ws.foldl (yM pr) acc->x∈acc\/pr x=true
 |[],_,_,h=> .inl h
 |y::ws,acc,x,h=>by
  rcases jOY (ws:=ws) h with z|z
  .unfold yM at z;split at z
   .rename_i c;rcases aP.mp z with z|z
    .exact .inl z
    .rw[ak.mp z];rw[bJ] at c;exact .inr c.2
   .exact .inl z
  .exact .inr z
def jEQ{pr:Ag->Bool}:∀{ws acc:Af}{x:Ag},x∈acc->x∈ws.foldl (yM pr) acc
 |[],_,_,h=>h
 |y::ws,acc,x,h=>by
  refine jEQ (ws:=ws) ?_;unfold yM;split
  .exact ba _ h
  .exact h
def jDS{pr:Ag->Bool}:∀{ws acc:Af}{x:Ag},x∈ws->pr x=true->∃y∈ws.foldl (yM pr) acc,inB y x=true
 |[],_,_,h,_=>by cases h
 |z::ws,acc,x,h,hp=>by
  rcases aB.mp h with e|e
  .subst e;by_cases c:(acc.any λy=>inB y x)=true
   .obtain⟨y,hy,hi⟩:=dJ.mp c;exact⟨y,jEQ (ws:=x::ws) hy,hi⟩
   .refine⟨x,?_,inB_iff.mpr λt h=>h⟩;rw[List.foldl_cons];refine jEQ ?_;unfold yM;rw[aA (by rw[bJ,cq];exact⟨b9.mpr c,hp⟩)];exact aE _ (ak.mpr rfl)
  .exact jDS (ws:=ws) e hp
def jC7(h:x∈yD pr (y6 n)):pr x=true/\Ris (n:Int) x:=by
 refine⟨?_,?_⟩
 .rcases jOY h with z|z
  .cases z
  .exact z
 .rcases jBG h with z|z
  .cases z
  .exact jC2 z
def jEP{pr:Ag->Bool}:∀{ws acc:Af},(acc.Pairwise λa b=>inB a b=false)->(ws.foldl (yM pr) acc).Pairwise λa b=>inB a b=false
 |[],_,h=>h
 |x::ws,acc,h=>by
  refine jEP (ws:=ws) ?_;unfold yM;split
  .rename_i c;rw[bJ,cq] at c;refine cN.mpr ⟨h,eZ _ _,λa ha b hb=>?_⟩;rw[ak.mp hb];exact b9.mpr λz=>by
    have:(acc.any λy=>inB y x)=true:=dJ.mpr ⟨a,ha,z⟩;rw[c.1] at this;cases this
  .exact h
def jGN{pr:Ag->Bool}:∀{ws acc:Af},(ws.foldl (yM pr) acc).Sublist (acc++ws)
 |[],acc=>by rw[aV];exact jf _
 |x::ws,acc=>by
  refine(jGN (ws:=ws)).trans ?_;rw[<- List.singleton_append,<- aY];refine List.Sublist.append ?_ (jf _);unfold yM;split
  .exact jf _
  .exact dO _ _
theorem jO5{y:Ag}(hx:x∈yD pr (y6 n))(ry:Ris (n:Int) y)(sub:∀t∈y,t∈x)(lt:y.length<x.length):pr y=false:=by
 refine b9.mpr λhy=>?_;obtain⟨z,hz,hi⟩:=jDS (acc:=[]) (jDZ ry) hy;have hz:z∈yD pr (y6 n):=hz;have zy:=inB_iff.mp hi;have rz:=(jC7 hz).2;have zl:z.length<=y.length:=jGH id (rz.ris.imp λ{a b} h=>by lia) (λa ha=>zy a ha) λa _ b _ e=>e;obtain⟨i,hi⟩:=bL hz;obtain⟨j,hj⟩:=bL hx;obtain⟨hi1,hi2⟩:=am.mp hi;obtain⟨hj1,hj2⟩:=am.mp hj;rcases gM i j with q|q|q
 .have:inB (yD pr (y6 n))[i] (yD pr (y6 n))[j]=false:=bV.mp (jEP (pr:=pr) (ws:=y6 n) List.Pairwise.nil) i j hi1 hj1 q;rw[hi2,hj2] at this;rw[inB_iff.mpr λt ht=>sub t (zy t ht)] at this;cases this
 .subst q;rw[hi] at hj;cases hj;lia
 .have:HT.lexLt (keyL (yD pr (y6 n))[i]) (keyL (yD pr (y6 n))[j])=false:=bV.mp ((jDY n).sublist (jGN (pr:=pr) (ws:=y6 n) (acc:=[]))) j i hj1 hi1 q;rw[hi2,hj2] at this;have l1:HT.lexLt (keyL z) (keyL x)=true:=by
   unfold keyL HT.lexLt;have:((z.length:Nat):Int)<x.length:=by lia
   simp[this];exact .inl Aa
  rw[l1] at this;cases this
def NC.sub{ts' S:Ag}(n:NC ms Ar ts' S)(h:∀t∈ts,t∈ts'):NC ms Ar ts S:=⟨n.bnd,λk hk k' hk' ne t ht=>n.dis k hk k' hk' ne t (h t ht),λt ht=>n.cov t (h t ht)⟩
def jRI{w:Int}{ts':Ag}(g:Good 16 32 w ms Ar)(r:Ris w ts)(r':Ris w ts')(h:∀t∈ts,t∈ts')(b:wkN ms Ar ts=[]):wkN ms Ar ts'=[]:=cg λz=>by
 obtain⟨S,n⟩:=(jGW g r').mp z;exact(jGW g r).mpr ⟨S,n.sub h⟩ b
abbrev jG8:Am:=["e","own","kinds"]
def scOthers:FnScope jG8 ["e","own"] (j8 jAV):= {}
abbrev jDO:Am:=["Held","NoCovering","NoDeed","NoOrder","NoPiece","NoRow","NoText","NoThing","NoWeight","TooMany"]
structure Kinds (K:W.Frag)(mg:Ak)(C:Addr)(cl:Nat->Addr)(ks:Nat->Bool):Prop where
 ei:ExcIs K C
 ml:∀i x,jDO[i]?=some x->mg x=some (.ref (cl i))
 is_:∀i,i<10->kitOne K (.ref C) (.ref (cl i))=some (ks i)
 ve:kitOne K (.ref C) (.type "ValueError")=some true
def oneOf(own:Int)(n:Nat):List Tr:=(List.range n).map λ(i:Nat)=>Tr.bl (decide ((i:Int)=own))
def jDK(C:Addr)(ks:Nat->Bool):Addr->Sp:=λx vs H Q _=>∃own:Int,vs=[.ref x,.int own]/\H x=some (.ext (excP x C))/\∀H',Ext H H'->Q (.bl (eqTs [.bl (ks 0),.bl (ks 1),.bl (ks 2),.bl (ks 3),.bl (ks 4),.bl (ks 5),.bl (ks 6),.bl (ks 7),.bl (ks 8),.bl (ks 9),.bl false] (oneOf own 11))) H'
def jTO{C x:Addr}{cl:Nat->Addr}(T:Txt mg)(EI:ExcIs K C)(ML:∀i x,jDO[i]?=some x->mg x=some (.ref (cl i)))(hr:RoomS 0 (cxS P w K mg Aq jG8 "_law_others" (j8 jAV) f mn A mj s H0 E).A x): {t:TS // JSs (cxS P w K mg Aq jG8 "_law_others" (j8 jAV) f mn A mj s H0 E) (jE jAV) t}:=
 have nd:=scOthers.nd
 ⟨_,(jD (jS (i:=2) nd rfl loc_s (yF (j4 (jH (kI EI) gl_s T.isinstance Ab (j4 (jv 0 rfl qL) (j4 (yX (v:=.ref (cl 0)) gl_s (ML 0 _ rfl) rfl) j9 j6) j6) j6) (j4 (jH (kI EI) gl_s T.isinstance Ab (j4 (jv 0 rfl qL) (j4 (yX (v:=.ref (cl 1)) gl_s (ML 1 _ rfl) rfl) j9 j6) j6) j6) (j4 (jH (kI EI) gl_s T.isinstance Ab (j4 (jv 0 rfl qL) (j4 (yX (v:=.ref (cl 2)) gl_s (ML 2 _ rfl) rfl) j9 j6) j6) j6) (j4 (jH (kI EI) gl_s T.isinstance Ab (j4 (jv 0 rfl qL) (j4 (yX (v:=.ref (cl 3)) gl_s (ML 3 _ rfl) rfl) j9 j6) j6) j6) j9 jG) jG) jG) jG)) jD3)
   (jD (jS (i:=2) nd rfl loc_s (kW jG6 (jv 2 rfl qL) (yF (j4 (jH (kI EI) gl_s T.isinstance Ab (j4 (jv 0 rfl qL) (j4 (yX (v:=.ref (cl 4)) gl_s (ML 4 _ rfl) rfl) j9 j6) j6) j6) (j4 (jH (kI EI) gl_s T.isinstance Ab (j4 (jv 0 rfl qL) (j4 (yX (v:=.ref (cl 5)) gl_s (ML 5 _ rfl) rfl) j9 j6) j6) j6) (j4 (jH (kI EI) gl_s T.isinstance Ab (j4 (jv 0 rfl qL) (j4 (yX (v:=.ref (cl 6)) gl_s (ML 6 _ rfl) rfl) j9 j6) j6) j6) (j4 (jH (kI EI) gl_s T.isinstance Ab (j4 (jv 0 rfl qL) (j4 (yX (v:=.ref (cl 7)) gl_s (ML 7 _ rfl) rfl) j9 j6) j6) j6) j9 jG) jG) jG) jG))) jF3)
   (jD (jS (i:=2) nd rfl loc_s (kW jG6 (jv 2 rfl qL) (yF (j4 (jH (kI EI) gl_s T.isinstance Ab (j4 (jv 0 rfl qL) (j4 (yX (v:=.ref (cl 8)) gl_s (ML 8 _ rfl) rfl) j9 j6) j6) j6) (j4 (jH (kI EI) gl_s T.isinstance Ab (j4 (jv 0 rfl qL) (j4 (yX (v:=.ref (cl 9)) gl_s (ML 9 _ rfl) rfl) j9 j6) j6) j6) (j4 (jSH (jH (kI EI) gl_s T.isinstance Ab (j4 (jv 0 rfl qL) (j4 (jCU (v:=.ty "ValueError") gl_s T.ValueError Ab rfl) j9 j6) j6) j6)) j9 se_un) jG) jG))) jF3)
   (jF (jU (yA (jIX hr.units101) (jv 2 rfl qL) (jR0 (m:=[none,some 1]) (Nc:=["place","own"]) hr.hd (jOH gl_s T.range (j4 (je_int) j9 jN) jN) rfl Ab Ab (jK (psc:=j8 jAV)) (jI (N:=jG8) rfl rfl Ab) (λcl C fp s H=>jO (i:=0) (show (["place","own"]:Am).Nodup by decide+kernel) rfl yK) (λcl C fp s H=>y4) (λcl C fp s H=>(yA qC (jv 0 rfl jQ) (jv 1 rfl kL) (jR _))) kR) (jR _)))))))⟩
def jPK{H:Hp}:∀bs:List Bool,TsAt H (bs.map Tr.bl) (bs.map V.bl)
 |[]=>by rw[dZ,dZ,TsAt]
 |b::r=>by
  rw[bg,bg,TsAt];exact⟨_,_,rfl,by rw[TAt],jPK r⟩
def jL6:∀bs:List Bool,deps (bs.map Tr.bl)=0
 |[]=>by rw[dZ,deps]
 |b::r=>by
  rw[bg,deps,jL6 r,dep]
  .rfl
  .intro _ z;cases z
  .intro _ z;cases z
section
variable {C:Addr}{cl:Nat->Addr}
theorem jNF(F:Fun K "_law_others" "_law_others" jAV f fd)(T:Txt mg)(k:Kinds K mg C cl ks):FnS P w K mg Aq 1 f fd ["e","own"] (jDK C ks):=by
 refine jWZ F scOthers (λx vs H Q E h=>?_) (λmn A mj s H vs Q E x hr h=>?_)
 .obtain⟨_,rfl,_⟩:=h;rfl
 .obtain⟨own,rfl,hx,q⟩:=h;refine⟨_,(jTO T k.ei k.ml hr).2.h,?_⟩;have ki:=k.is_;have rr:∀{a:Addr}(v:Value),RelV (.ref a) v->v=.ref a:=λv h=>h;refine⟨_,rfl,x,_,_,_,rfl,hx,rr,ki 0 Ac,_,rfl,x,_,_,_,rfl,hx,rr,ki 1 Ac,_,rfl,x,_,_,_,rfl,hx,rr,ki 2 Ac,_,rfl,x,_,_,_,rfl,hx,rr,ki 3 Ac,by show (4:Nat)<=_;decide,λl1 H1 d1 e1 _=>?_⟩;have hx:=e1 _ _ hx;refine⟨_,rfl,_,rfl,x,_,_,_,rfl,hx,rr,ki 4 Ac,_,rfl,x,_,_,_,rfl,hx,rr,ki 5 Ac,_,rfl,x,_,_,_,rfl,hx,rr,ki 6 Ac,_,rfl,x,_,_,_,rfl,hx,rr,ki 7 Ac,by show (4:Nat)<=_;decide,λl2 H2 d2 e2 _=>?_⟩;refine⟨l1,l2,_,_,rfl,rfl,e2 _ _ d1,d2,by show (8:Nat)<=_;decide,λl3 H3 d3 e3 _=>?_⟩;have hx:=e3 _ _ (e2 _ _ hx);refine⟨_,rfl,_,rfl,x,_,_,_,rfl,hx,rr,ki 8 Ac,_,rfl,x,_,_,_,rfl,hx,rr,ki 9 Ac,_,rfl,x,_,_,_,rfl,hx,(λ_ h=>h),k.ve,_,rfl,by show (3:Nat)<=_;decide,λl4 H4 d4 e4 _=>?_⟩;refine⟨l3,l4,_,_,rfl,rfl,e4 _ _ d3,d4,by show (11:Nat)<=_;decide,λl5 H5 d5 e5 _=>?_⟩;have hx:=e5 _ _ (e4 _ _ hx);have e05:Ext H H5:=(((e1.trans e2).trans e3).trans e4).trans e5;refine⟨_,rfl,11,rfl,Ac,Ac,jPA (n:=11) Ac (λD j σ' H' zs=>(∃v,σ'=[v,some (.int own)])/\Ext H5 H'/\H' D=some (.lst zs)/\H5 D=none/\zs=((List.range j).map λ(i:Nat)=>decide ((i:Int)=own)).map V.bl) ?_ ?_ ?_ ?_⟩
  .intro D hD;exact⟨⟨_,rfl⟩,(Ext.refl _).new hD _,j7,hD,rfl⟩
  .rintro D j σ' H' zs hD hj ⟨_,e,h2,_,rfl⟩;refine⟨⟨C,e _ _ hx⟩,h2,?_⟩;rw[ag,ag,b7];exact ar _
  .rintro D j σ' H' zs hD hj ⟨⟨v,rfl⟩,e,h2,hn,rfl⟩;dsimp only[kX,yR];rw[aA rfl];refine⟨_,rfl,_,rfl,rfl,h2,⟨_,rfl⟩,e.updNew hn _,j7,hn,?_⟩;have ed:decide (V.int (0+(j:Int))=V.int own)=decide ((j:Int)=own):=by
    rw[fq];exact g6.mpr ⟨λz=>V.int.inj z,λz=>by rw[z]⟩
   rw[ed,gw,aW,aW];rfl
  .rintro D σ' H' zs hD ⟨_,e,h2,hn,rfl⟩;refine⟨_,oneOf own 11,⟨l5,_,rfl,e _ _ d5,jPK [ks 0,ks 1,ks 2,ks 3,ks 4,ks 5,ks 6,ks 7,ks 8,ks 9,false]⟩,⟨D,_,rfl,h2,?_⟩,?_,q H' (e05.trans e)⟩
   .have:=jPK (H:=H') ((List.range 11).map λ(i:Nat)=>decide ((i:Int)=own));rw[bX] at this;exact this
   .rw[jL6];exact br _
end
end Eo
section
namespace L2
open PySem
open PySem.Spec PyProof.Rows
variable {fd:FuncData}
def FnOk.toX{C:Addr}{k:Nat}{ps:Am}{sp:Sp}(F:FnOk P w K mg Aq CX0 k f fd ps sp):FnOk P w K mg Aq (CXX P w C) k f fd ps sp:=by
 refine⟨λvs H Q E h=>F.len _ _ _ _ h,λA mj s H args us vs Q E hr e0 hb r hsp=>df (F.run A mj s H args us vs Q _ hr e0 hb r hsp) λres s' hq=>?_⟩;cases res with
 |ok fl=>cases fl<;>exact hq
 |error ev=>exact hq.elim
def FnOk.or{CX:CXT}{k:Nat}{ps:Am}{sp sp':Sp}(F:FnOk P w K mg Aq CX k f fd ps sp)(G:FnOk P w K mg Aq CX k f fd ps sp'):FnOk P w K mg Aq CX k f fd ps (λvs H Q E=>sp vs H Q E\/sp' vs H Q E):=by
 refine⟨λvs H Q E h=>h.elim (λh=>F.len _ _ _ _ h) λh=>G.len _ _ _ _ h,λA mj s H args us vs Q E hr e0 hb r hsp=>?_⟩;rcases hsp with h|h
 .exact F.run A mj s H args us vs Q E hr e0 hb r h
 .exact G.run A mj s H args us vs Q E hr e0 hb r h
end L2
namespace Eo
open PySem L2
variable {fd:FuncData}{H H':Hp}{v9 v8 v7 v4 v3 v0 v12 v11 v1 v10 v6 v5:Option V}{h:Heap}{wi t:Int}{D:Ends}{b p lm lb fr:Addr}{x q p1:Str}{um ub:List V}{n:Nat}
section
variable {u9:Tok}
abbrev XOfX(C:Addr)(N:Am)(q:Str)(st:Stmt)(P:Program)(w:World)(K:W.Frag)(mg:Ak)(Aq:Heap)(f:Addr)(mn:Value)(A:Around)(mj:List Env)(s:Shared)(H:Hp)(E:XK):Cx:=cxOf (CXX P w C) P w K mg Aq N q (j8 st) f mn A mj s H E
def jF5:Sp:=λvs H _ E=>∃(b:Addr) (w:Int) (ms:Ag) (Ar:Ae),vs=[.ref b]/\BoxAt H b w ms Ar/\9<w/\∀a H',Ext H H'->E (.ref a) (some a) H'
def lbxA(T:Txt mg)(MN:mg "MOST_THINGS_WITH_BARS" =some (.int 9 u9))(EK:ExcK K cE)(MX:mg "TooMany" =some (.ref cE))(hr:Room 9 (XOfX cE jFG "least_bars" y8 P w K mg Aq f mn A mj s H0 E).nox.A): {t:TS // JSs (XOfX cE jFG "least_bars" y8 P w K mg Aq f mn A mj s H0 E) (jE y8) t}:=
 have nd:=scLBars.nd
 ⟨_,(jD (yT (JT.nox (jY op_gt (kD kP (jv 0 rfl (jUZ Ab)) (je_int) jJ) (yX (v:=.int 9) (gl_x Ab) MN ⟨_,rfl⟩) (jR _))) (jF (jOD rfl EK (gl_x Ab) MX (j4 jWR j9 jN))) kQ) (jF jKO))⟩
theorem jW3(F:Fun K "least_bars" "least_bars" y8 f fd)(T:Txt mg)(MN:mg "MOST_THINGS_WITH_BARS" =some (.int 9 u9))(EK:ExcK K cE)(MX:mg "TooMany" =some (.ref cE)):FnOk P w K mg Aq (CXX P w cE) 10 f fd ["box"] jF5:=by
 refine F.okX scLBars (λvs H Q E h=>?_) (λmn A mj s H vs Q E hr h=>?_)
 .obtain⟨_,_,_,_,rfl,_⟩:=h;rfl
 .obtain⟨b,w,ms,Ar,rfl,hB,h9,qE⟩:=h;refine⟨_,(lbxA T MN EK MX hr).2.h,?_⟩;obtain⟨qm,qp,ps,b1,b2,b3,b4⟩:=id hB.ex;refine⟨_,rfl,b,_,0,_,rfl,rfl,SqT.of b1,rfl,_,_,rfl,rfl,_,rfl,?_⟩;rw[ao (show w>9 from h9)];exact iteT ⟨by show (1:Nat)<=_;decide,λa=>qE a H (Ext.refl _)⟩
def mdxA(CB:CanX cE P w K mg Aq "least_bars" 10 fB fdB ["box"] (λvs H Q E=>jCN tb1 tb2 tb3 tb4 vs H Q E\/jF5 vs H Q E))(hr:Room 10 (XOfX cE jFF "least_mends" kY P w K mg Aq f mn A mj s H0 E).A): {t:TS // JSs (XOfX cE jFF "least_mends" kY P w K mg Aq f mn A mj s H0 E) (jE kY) t}:=
 have nd:=scMends.nd
 ⟨_,(jD (jS (i:=1) nd rfl ⟨.inr (show (j8 kY).names.lookup (("bars":String):Str)=some NameKind.cell by decide+kernel),.inl rfl⟩ ⟨jN7 CB.G hr (show (j8 kY).names.lookup (("least_bars":String):Str)=some NameKind.globalImplicit by decide+kernel) CB.m CB.kp CB.b .nil jQF (jX (pv 0) yJ)⟩ jW) (jF jKO))⟩
def jW1(F:Fun K "least_mends" "least_mends" kY f fd)(CB:CanX cE P w K mg Aq "least_bars" 10 fB fdB ["box"] (λvs H Q E=>jCN tb1 tb2 tb3 tb4 vs H Q E\/jF5 vs H Q E)):FnOk P w K mg Aq (CXX P w cE) 11 f fd ["box"] jF5:=by
 refine F.okX scMends (λvs H Q E h=>?_) (λmn A mj s H vs Q E hr h=>?_)
 .obtain⟨_,_,_,_,rfl,_⟩:=h;rfl
 .obtain⟨b,w,ms,Ar,rfl,hB,h9,qE⟩:=h;refine⟨_,(mdxA CB hr).2.h,?_⟩;exact⟨_,rfl,.inr ⟨b,w,ms,Ar,rfl,hB,h9,λa H' e=>qE a H' e⟩⟩
end
section
variable {cO:Addr}
def TbS.four(t:TbS (L5 tb1 tb2 tb3 tb4 tb5) H):TbS (L4 tb1 tb2 tb3 tb4) H:=t.sub (dO (L4 tb1 tb2 tb3 tb4) [tM tb5])
def TbS.four_ex(x:ExS (ads (L4 tb1 tb2 tb3 tb4)) H H'):ExS (ads (L5 tb1 tb2 tb3 tb4 tb5)) H H':=ExS.mono (λz hz=>((dO (L4 tb1 tb2 tb3 tb4) [tM tb5]).map TT.a).subset hz) x
def TbS.four_to(t:TbS (L5 tb1 tb2 tb3 tb4 tb5) H)(x:ExS (ads (L4 tb1 tb2 tb3 tb4)) H H')(T1:TbS (L4 tb1 tb2 tb3 tb4) H'):TbS (L5 tb1 tb2 tb3 tb4 tb5) H':=t.set (S:=ads (L4 tb1 tb2 tb3 tb4)) (λz hz=>((dO (L4 tb1 tb2 tb3 tb4) [tM tb5]).map TT.a).subset hz) x λz hz hm=>by
 rcases aP.mp (show z∈L4 tb1 tb2 tb3 tb4++[tM tb5] from hz) with y|y
 .exact T1.ok z y
 .exfalso;have e5:=ak.mp y;rw[e5] at hm;have nd:(ads (L4 tb1 tb2 tb3 tb4)++[tb5]).Nodup:=t.nd;exact(fE.mp nd).2.2 tb5 hm tb5 (ak.mpr rfl) rfl
noncomputable abbrev nTold:Am:=["box","found","e"]
def scTold:FnScope nTold ["box"] (j8 sTold):= {}
def jMP(tb1 tb2 tb3 tb4 tb5:Addr):Sp:=λvs H Q _=>∃(b:Addr) (w:Int) (ms:Ag) (Ar:Ae),vs=[.ref b]/\BoxAt H b w ms Ar/\Good 16 32 w ms Ar/\TbS (L5 tb1 tb2 tb3 tb4 tb5) H/\
 (w<=9->∀r lb lm ub um H',H' r=some (.lst [.ref lb,.ref lm])->H' lb=some (.lst ub)->LsAt H' ub (yS w ms Ar)->H' lm=some (.lst um)->LsAt H' um (qI w ms Ar)->ExS (ads (L5 tb1 tb2 tb3 tb4 tb5)) H H'->TbS (L5 tb1 tb2 tb3 tb4 tb5) H'->Q (.ref r) H')/\(9<w->∀r H',H' r=some (.lst [.bl true,.bl true])->ExS (ads (L5 tb1 tb2 tb3 tb4 tb5)) H H'->TbS (L5 tb1 tb2 tb3 tb4 tb5) H'->Q (.ref r) H')
abbrev spBX(tb1 tb2 tb3 tb4:Addr):Sp:=λvs H Q E=>jCN tb1 tb2 tb3 tb4 vs H Q E\/jF5 vs H Q E
abbrev spMX(tb1 tb2 tb3 tb4 tb5:Addr):Sp:=λvs H Q E=>jMR tb1 tb2 tb3 tb4 tb5 vs H Q E\/jF5 vs H Q E
def toldA(T:Txt mg)(FB:CanX cE P w K mg Aq "least_bars" 10 fB fdB ["box"] (spBX tb1 tb2 tb3 tb4))(FM:CanX cE P w K mg Aq "least_mends" 11 fM fdM ["box"] (spMX tb1 tb2 tb3 tb4 tb5))(CO:CanS P w K mg Aq "_law_others" 1 fO fdO ["e","own"] (jDK cE ks))(MO:mg "OnceError" =some (.ref cO))(hr:Room 11 (XOf nTold "_law_told" sTold P w K mg Aq f mn A mj s H0 E).A): {t:TS // JSs (XOf nTold "_law_told" sTold P w K mg Aq f mn A mj s H0 E) (jE sTold) t}:=
 have nd:=scTold.nd
 ⟨_,(jD (jS (i:=1) nd rfl lL (yF j9) jD3) (jD (jSE (j:=2) nd rfl (show (j8 sTold).names.lookup (("e":String):Str)=some NameKind.local by decide+kernel) (jON (jx_bm bQ cI cJ jA4 (jv 1 rfl vL) (jOB FB.G (hr.mono Ac) gD FB.m FB.kp FB.b (j4 (jv 0 rfl vL) j9 j6) rfl j6) jG) jW) gD MO rfl rfl (λx=>(jF (jBS (je_bm bQ cI cJ jA4 (jv 1 rfl (vis_u vL)) (j4 (jKV CO.G (Room.suite (hr.mono Ac) x) (gl_u gD) CO.m CO.kp CO.b (j4 (jv 2 rfl (vis_u vL)) (j4 je_int j9 jN) j6) j6) j9 jG) jG) jW)))) (jD (jSE (j:=2) nd rfl (show (j8 sTold).names.lookup (("e":String):Str)=some NameKind.local by decide+kernel) (jON (jx_bm bQ cI cJ jA4 (jv 1 rfl vL) (jOB FM.G (hr.mono Ac) gD FM.m FM.kp FM.b (j4 (jv 0 rfl vL) j9 j6) rfl j6) jG) jW) gD MO rfl rfl (λx=>(jF (jBS (je_bm bQ cI cJ jA4 (jv 1 rfl (vis_u vL)) (j4 (jKV CO.G (Room.suite (hr.mono Ac) x) (gl_u gD) CO.m CO.kp CO.b (j4 (jv 2 rfl (vis_u vL)) (j4 je_int j9 jN) j6) j6) j9 jG) jG) jW)))) (jF (jU (jv 1 rfl vL))))))⟩
theorem jTS(F:Fun K "_law_told" "_law_told" sTold f fd)(T:Txt mg)(FB:CanX cE P w K mg Aq "least_bars" 10 fB fdB ["box"] (spBX tb1 tb2 tb3 tb4))(FM:CanX cE P w K mg Aq "least_mends" 11 fM fdM ["box"] (spMX tb1 tb2 tb3 tb4 tb5))(CO:CanS P w K mg Aq "_law_others" 1 fO fdO ["e","own"] (jDK cE λi=>decide (i=9)))(MO:mg "OnceError" =some (.ref cO))(AB:Above K cE cO):FnOk P w K mg Aq CX0 12 f fd ["box"] (jMP tb1 tb2 tb3 tb4 tb5):=by
 refine F.ok scTold (λvs H Q E h=>?_) (λmn A mj s H vs Q E hr h=>?_)
 .obtain⟨_,_,_,_,rfl,_⟩:=h;rfl
 .obtain⟨b,w,ms,Ar,rfl,hB,g,tab,qy,qn⟩:=h;refine⟨_,(toldA T FB FM CO MO hr).2.h,?_⟩;have ek:eqTs [.bl (decide (0=9)),.bl (decide (1=9)),.bl (decide (2=9)),.bl (decide (3=9)),.bl (decide (4=9)),.bl (decide (5=9)),.bl (decide (6=9)),.bl (decide (7=9)),.bl (decide (8=9)),.bl (decide (9=9)),.bl false] (oneOf 9 11)=true:=Ab;refine⟨by show (0:Nat)<=_;decide,λl H1 d1 e1 n1=>?_⟩;have T1:=tab.ext e1;have B1:=hB.mono e1.tups;have s63:∀n:Nat,n<5->n<PySem.sizeLine:=λn h=>by rw[aJ];lia
  by_cases h9:w<=9
  .have q:=qy h9;refine⟨_,rfl,.inl ⟨rfl,_,SqL.of d1⟩,_,rfl,.inl ⟨b,w,ms,Ar,rfl,B1,g,h9,T1.four,λlb ub H2 h2 hu2 x2 t2 n2=>?_⟩⟩;have X2:ExS (ads (L5 tb1 tb2 tb3 tb4 tb5)) H1 H2:=TbS.four_ex x2;have T2:=T1.four_to x2 t2;have l2:=T1.at X2 d1;have nl:lb≠l:=λz=>by rw[z,d1] at n2;cases n2
   refine⟨l,_,_,rfl,rfl,l2,s63 _ Ac,?_⟩;have k3:∀c o,H2 c=some o->c≠l->(L2.upd H2 l (.lst ([]++[V.ref lb]))) c=some o:=λc o h n=>by rw[jA n];exact h
   have d3:(L2.upd H2 l (.lst ([]++[V.ref lb]))) l=some (.lst [V.ref lb]):=j7;have u3:=Tups.upd l2 (.lst ([]++[V.ref lb]));have T3:TbS (L5 tb1 tb2 tb3 tb4 tb5) (L2.upd H2 l (.lst ([]++[V.ref lb]))):=TbS.lst T2 l2;generalize L2.upd H2 l (.lst ([]++[V.ref lb]))=H3 at k3 d3 u3 T3;have B3:=(B1.mono (T1.tups X2)).mono u3;have h23:=k3 _ _ h2 nl;have hu23:=LsAt.mono u3 hu2;refine⟨_,rfl,.inl ⟨rfl,_,SqL.of d3⟩,_,rfl,.inl ⟨b,w,ms,Ar,rfl,B3,g,h9,T3,λlm um H4 h4 hu4 X4 T4 n4=>?_⟩⟩;have l4:=T3.at X4 d3;have nm:lm≠l:=λz=>by rw[z,d3] at n4;cases n4
   refine⟨l,_,_,rfl,rfl,l4,s63 _ (by show (1:Nat)<5;decide),?_⟩;have k5:∀c o,H4 c=some o->c≠l->(L2.upd H4 l (.lst ([V.ref lb]++[V.ref lm]))) c=some o:=λc o h n=>by rw[jA n];exact h
   have d5:(L2.upd H4 l (.lst ([V.ref lb]++[V.ref lm]))) l=some (.lst [V.ref lb,V.ref lm]):=j7;have u5:=Tups.upd l4 (.lst ([V.ref lb]++[V.ref lm]));have T5:TbS (L5 tb1 tb2 tb3 tb4 tb5) (L2.upd H4 l (.lst ([V.ref lb]++[V.ref lm]))):=TbS.lst T4 l4;generalize L2.upd H4 l (.lst ([V.ref lb]++[V.ref lm]))=H5 at k5 d5 u5 T5;refine⟨_,rfl,q l lb lm ub um H5 d5 (k5 _ _ (T3.at X4 h23) nl) (LsAt.mono ((T3.tups X4).trans u5) hu23) (k5 _ _ h4 nm) (LsAt.mono u5 hu4) (λc o h n=>?_) T5⟩;have nc:c≠l:=λz=>by rw[z,n1] at h;cases h
   exact k5 _ _ (X4 _ _ (k3 _ _ (X2 _ _ (e1 _ _ h) n) nc) n) nc
  .have q:=qn Aa;have h9':9<w:=Aa;refine⟨_,rfl,.inl ⟨rfl,_,SqL.of d1⟩,_,rfl,.inr ⟨b,w,ms,Ar,rfl,B1,h9',λa H2 e2=>?_⟩⟩;rintro x hx1 hx2 hx;refine⟨AB,?_⟩;have e3:Ext H2 (L2.upd H2 x (.ext (excP x cE))):=(Ext.refl _).new hx _;have d3:(L2.upd H2 x (.ext (excP x cE))) x=some (.ext (excP x cE)):=j7;generalize L2.upd H2 x (.ext (excP x cE))=H3 at e3 d3;have l3:H3 l=some (.lst []):=e3 _ _ (e2 _ _ d1);refine⟨_,rfl,.inl ⟨rfl,_,SqL.of l3⟩,_,rfl,9,rfl,d3,λH4 e4=>?_⟩;rw[ek];have l4:=e4 _ _ l3;refine⟨l,_,_,rfl,rfl,l4,s63 _ Ac,?_⟩;have E3:=(e1.trans e2).trans e3;have E5:Ext H (L2.upd H4 l (.lst ([]++[V.bl true]))):=(E3.trans e4).updNew n1 _;have d5:(L2.upd H4 l (.lst ([]++[V.bl true]))) l=some (.lst [V.bl true]):=j7;generalize L2.upd H4 l (.lst ([]++[V.bl true]))=H5 at E5 d5;refine⟨_,rfl,.inl ⟨rfl,_,SqL.of d5⟩,_,rfl,.inr ⟨b,w,ms,Ar,rfl,hB.mono E5.tups,h9',λa H6 e6=>?_⟩⟩;rintro y hy1 hy2 hy;refine⟨AB,?_⟩;have e7:Ext H6 (L2.upd H6 y (.ext (excP y cE))):=(Ext.refl _).new hy _;have d7:(L2.upd H6 y (.ext (excP y cE))) y=some (.ext (excP y cE)):=j7;generalize L2.upd H6 y (.ext (excP y cE))=H7 at e7 d7;have E7:=(E5.trans e6).trans e7;have l7:H7 l=some (.lst [V.bl true]):=e7 _ _ (e6 _ _ d5);refine⟨_,rfl,.inl ⟨rfl,_,SqL.of l7⟩,_,rfl,9,rfl,d7,λH8 e8=>?_⟩;rw[ek];have l8:=e8 _ _ l7;refine⟨l,_,_,rfl,rfl,l8,s63 _ (by show (1:Nat)<5;decide),?_⟩;have E9:Ext H (L2.upd H8 l (.lst ([V.bl true]++[V.bl true]))):=(E7.trans e8).updNew n1 _;have d9:(L2.upd H8 l (.lst ([V.bl true]++[V.bl true]))) l=some (.lst [V.bl true,V.bl true]):=j7;generalize L2.upd H8 l (.lst ([V.bl true]++[V.bl true]))=H9 at E9 d9;exact⟨_,rfl,q l H9 d9 (ExS.of E9) (tab.ext E9)⟩
end
theorem jPW(h0:0<=t)(h1:t<n):(((upto n).idxOf t:Nat):Int)=t:=by
 have e:t=(upto n)[t.toNat]'(by rw[jA8];lia):=by
  have:=jFV (n:=n) (i:=t.toNat) Aa;rw[aF (by rw[jA8];lia)] at this;rw[bA this];lia
 have:=(jLA n).idxOf_getElem t.toNat (by rw[jA8];lia);rw[<- e] at this;lia
def jKG{n:Nat}{lot:Ag}(r:lot.Pairwise (· < ·))(hb:∀t∈lot,0<=t/\t<n):nmd (upto n) lot=lot:=by
 rw[jIY (kJ n).ris r,jQ5 λt ht=>mem_upto.mpr (hb t ht)];refine(cK λt ht=>jPW (hb t ht).1 (hb t ht).2).trans ?_;exact jd _
theorem jQ9(g:Good 16 32 wi ms Ar):pick (upto wi.toNat) Ar (upto Ar.length)=Ar:=by
 unfold pick upto;rw[bX];refine jt Ad λi h1 h2=>?_;have hi:i<Ar.length:=h2;have gp:=g.at hi;have w0:=g.w0;simp only[List.getElem_map,List.getElem_range,Function.comp_apply,bo];have e:Ar.getD i ([],0)=Ar[i]:=by simp[List.getD,hi]
 rw[e] at gp ⊢;have:=jKG (n:=wi.toNat) gp.lot.ris λt ht=>by have:=gp.lot.bnd t ht;lia
 unfold jB;rw[bo,e];unfold upto at this;rw[this]
theorem jS0{l:Ag}(h:l.Pairwise (· < ·)):l.Nodup:=h.imp λ{a b} h=>by lia
theorem mem_least{pr:Ag->Bool}{x:Ag}:x∈yD pr (y6 n)↔Ris (n:Int) x/\pr x=true/\∀y,Ris (n:Int) y->(∀t∈y,t∈x)->y.length<x.length->pr y=false:=by
 constructor
 .intro h;obtain⟨a,b⟩:=jC7 h;exact⟨b,a,λy ry sub lt=>jO5 h ry sub lt⟩
 .rintro ⟨r,p,m⟩;obtain⟨y,hy,hi⟩:=jDS (acc:=[]) (jDZ r) p;have hy:y∈yD pr (y6 n):=hy;obtain⟨py,ry⟩:=jC7 hy;have yx:=inB_iff.mp hi;have ny:=jS0 ry.ris;have yl:y.length<=x.length:=jGH id ny (λa ha=>yx a ha) λa _ b _ e=>e;rcases fo y.length x.length with q|q
  .rw[m y ry yx q] at py;cases py
  .have e:y=x:=jMY ry.ris r.ris λt=>⟨yx t,λht=>cg λz=>by
    have:y.length+1<=x.length:=jGH (l:=t::y) id (bS.mpr ⟨z,ny⟩) (λa ha=>(aB.mp ha).elim (λe=>e ▸ ht) (yx a)) λa _ b _ e=>e;lia⟩
   rw[<- e];exact hy
def jKM(pr:Ag->Bool)(n:Nat):(yD pr (y6 n)).Nodup:=(jEP (pr:=pr) (ws:=y6 n) List.Pairwise.nil).imp λ{a b} h e=>by
 rw[e,inB_iff.mpr λt h=>h] at h;cases h
def Ris.one{w:Int}(h0:0<=t)(h1:t<w):Ris w [t]:=⟨eZ _ _,λz hz=>by cases ak.mp hz;exact⟨h0,h1⟩⟩
def jUR{w:Int}(g:Good 16 32 w ms Ar)(h0:0<=t)(h1:t<w):wkN ms Ar [t]=[]↔t∉ms/\∀k:Int,0<=k->k<Ar.length->t∉jB Ar k:=by
 have b:=jGW g (Ris.one h0 h1);constructor
 .intro z;have n:¬∃S,NC ms Ar [t] S:=λq=>b.mpr q z;refine⟨λhm=>n ⟨[],λk hk=>(by cases hk),λk hk=>(by cases hk),λu hu hn=>?_⟩,λk k0 k1 hk=>n ⟨[k],λj hj=>?_,λj hj j' hj' ne=>?_,λu hu hn=>⟨k,ak.mpr rfl,?_⟩⟩⟩
  .cases ak.mp hu;exact absurd hm hn
  .cases ak.mp hj;exact⟨k0,k1⟩
  .rw[ak.mp hj,ak.mp hj'] at ne;exact absurd rfl ne
  .cases ak.mp hu;exact hk
 .rintro ⟨n1,n2⟩;refine cg λz=>?_;obtain⟨S,n⟩:=b.mp z;obtain⟨k,hk,hkt⟩:=n.cov t (ak.mpr rfl) n1;exact n2 k (n.bnd k hk).1 (n.bnd k hk).2 hkt
theorem jPN{w:Int}(g:Good 16 32 w ms Ar):wkN ms Ar (upto w.toNat)=wk (chs w.toNat ms Ar) 0:=by
 have w0:=g.w0;have lk:lkP Ar (upto w.toNat)=upto Ar.length:=by
  refine iy.mpr λk hk=>?_;have hb:=mem_upto.mp hk;have gp:=g.at (k:=k.toNat) Aa;have hm:=jDR gp.lot.ne;have:=gp.lot.bnd _ hm;exact dJ.mpr ⟨_,hm,ao (mem_upto.mpr Aa)⟩
 unfold wkN;rw[lk,jQ9 g,jA8,jKG g.mr.ris λt ht=>by have:=g.mr.bnd t ht;lia]
def jUS{w:Int}(g:Good 16 32 w ms Ar):barP ms Ar []=false:=by
 have:=(jGW g (ts:=[]) ⟨List.Pairwise.nil,λz hz=>by cases hz⟩).mpr ⟨[],⟨λk hk=>(by cases hk),λk hk=>(by cases hk),λt ht=>by cases ht⟩⟩;exact aK this
noncomputable def qD(ms:Ag)(Ar:Ae)(t:Int):Bool:=!decide (t∈ms)&&!decide (t∈(upto Ar.length).flatMap (jB Ar))
section
variable {w:Int}(g:Good 16 32 w ms Ar)
include g
theorem jHK: [t]∈yS w ms Ar↔(0<=t/\t<w)/\qD ms Ar t=true:=by
 have w0:=g.w0;have ew:((w.toNat:Nat):Int)=w:=dF w0;have al:∀{t:Int},0<=t->t<w->(barP ms Ar [t]=true↔qD ms Ar t=true):=λ{t} h0 h1=>by
  unfold barP qD;rw[bz,jUR g h0 h1,bJ,cq,cq,dv,dv];refine and_congr Iff.rfl ⟨λh z=>?_,λh k k0 k1 z=>h (jw.mpr ⟨k,mem_upto.mpr ⟨k0,k1⟩,z⟩)⟩;obtain⟨k,hk,hkt⟩:=jw.mp z;have kb:=mem_upto.mp hk;exact h k kb.1 kb.2 hkt
 rw[show [t]∈yS w ms Ar↔_ from mem_least,ew];constructor
 .rintro ⟨r,p,_⟩;have b:=r.bnd t (ak.mpr rfl);exact⟨b,(al b.1 b.2).mp p⟩
 .rintro ⟨b,p⟩;refine⟨Ris.one b.1 b.2,(al b.1 b.2).mpr p,λy _ _ lt=>?_⟩;have:y=[]:=gG.mp (by have:y.length<1:=lt;lia);rw[this];exact jUS g
theorem jSW:((yS w ms Ar).filter λx=>decide (((x.length:Nat):Int)=1))=((upto w.toNat).filter (qD ms Ar)).map λt=>[t]:=by
 have w0:=g.w0;have ew:((w.toNat:Nat):Int)=w:=dF w0;have inj:∀{x y:Af},x.map keyL=y.map keyL->x=y:=λ{x y} e=>by
  rw[<- jC8 x,<- jC8 y,e]
 refine inj (jGF ?_ ?_ ?_)
 .refine List.Perm.map _ ((gc ((jKM _ _).sublist dE) (bH.mpr (((jS0 (kJ w.toNat).ris).sublist dE).imp λ{a b} h e=>h (List.cons.inj e).1))).mpr λx=>?_);rw[be,aZ];constructor
  .rintro ⟨h1,h2⟩;have h2:=aL h2
   match x,h2 with
   |[t],_=>
    obtain⟨b,p⟩:=(jHK g).mp h1;exact⟨t,be.mpr ⟨mem_upto.mpr Aa,p⟩,rfl⟩
   |[],h=>simp at h
   |_::_::r,h=>simp at h;lia
  .rintro ⟨t,ht,rfl⟩;obtain⟨t1,t2⟩:=be.mp ht;have:=mem_upto.mp t1;exact⟨(jHK g).mpr ⟨Aa,t2⟩,ao rfl⟩
 .refine bH.mpr (List.Pairwise.sublist (dE.trans ?_) (jDY w.toNat));have:=jGN (pr:=barP ms Ar) (ws:=y6 w.toNat) (acc:=[]);rw[kq] at this;exact this
 .refine bH.mpr (bH.mpr (((kJ w.toNat).ris.sublist dE).imp λ{a b} h=>?_));show HT.lexLt [1,b] [1,a]=false;rw[HT.lexLt_cons,aA rfl,HT.lexLt_cons,az Aa];exact aK Aa
theorem jPM:yS w ms Ar=[]↔¬cvs w ms Ar=[]:=by
 have w0:=g.w0;have ew:((w.toNat:Nat):Int)=w:=dF w0;have ru:Ris w (upto w.toNat):=by
  have:=kJ w.toNat;rw[ew] at this;exact this
 have ec:cvs w ms Ar=[]↔barP ms Ar (upto w.toNat)=true:=by
  unfold barP cvs;rw[bz,jPN g,iB]
 rw[ec];constructor
 .intro h z;obtain⟨y,hy,_⟩:=jDS (acc:=[]) (jDZ (kJ w.toNat)) z;have hy:y∈yS w ms Ar:=hy;rw[h] at hy;cases hy
 .intro h;refine List.eq_nil_iff_forall_not_mem.mpr λx hx=>h ?_;obtain⟨p,r⟩:=jC7 hx;rw[ew] at r;exact ao (jRI g r ru (λt ht=>mem_upto.mpr (by have:=r.bnd t ht;lia)) (aL p))
theorem jFH:qI w ms Ar=[[]]↔yS w ms Ar=[]:=by
 constructor
 .intro h;have hm: []∈qI w ms Ar:=by rw[h];exact ak.mpr rfl
  have:=(jC7 hm).1;cases hb:yS w ms Ar with
  |nil=>rfl
  |cons a r=>
   rw[hb] at this;cases this
 .intro h;have pr:∀x,mendP (yS w ms Ar) x=true:=λx=>by rw[h];rfl
  have only:∀x∈qI w ms Ar,x=[]:=λx hx=>by
   obtain⟨r,p,m⟩:=mem_least.mp hx;cases x with
   |nil=>rfl
   |cons a l=>
    have:=m [] ⟨List.Pairwise.nil,λz hz=>by cases hz⟩ (λt ht=>by cases ht) (Nat.succ_pos _);rw[pr] at this;cases this
  have has: []∈qI w ms Ar:=mem_least.mpr ⟨⟨List.Pairwise.nil,λz hz=>by cases hz⟩,pr _,λy _ _ lt=>absurd lt (eD _)⟩;have nd:(qI w ms Ar).Nodup:=jKM _ _
  match hl:qI w ms Ar with
  |[]=>rw[hl] at has;cases has
  |[x]=>rw[only x (by rw[hl];exact ak.mpr rfl)]
  |x::y::r=>
   rw[hl] at nd;have e1:=only x (by rw[hl];exact ai ..);have e2:=only y (by rw[hl];exact ah _ (ai ..));exact absurd (e1.trans e2.symm) λz=>(bS.mp nd).1 (by rw[z];exact ai ..)
end
def jHX{m:List (Option Nat)}{tt:L2.TT}{te:TE}{σ:St}{H:Hp}{Q:VK}{p:Addr}{N0:Int}{n:Nat}(σP:St->Prop)(Z:Hp->List V->Nat->Prop)(zo:ZOk Z)(hn:n<PySem.sizeLine)(h0:σP (blkσ m σ))(hp:H p=some (.lst [.int N0]))(hN:0<=N0)
  (step:∀j σ' H' zs N,j<n->σP σ'->Keep H H' p->H' p=some (.lst [.int N])->0<=N->Z H' zs j->∀(R:St->V->Hp->Prop) (S:St->Hp->Prop),(∀σ2 v H2 N',σP σ2->Keep H' H2 p->H2 p=some (.lst [.int N'])->0<=N'->Z H2 (zs++[v]) (j+1)->R σ2 v H2)->(∀σ2 H2 N',σP σ2->Keep H' H2 p->H2 p=some (.lst [.int N'])->0<=N'->Z H2 zs (j+1)->S σ2 H2)->
   kX 0 (.int (0+(j:Int))) σ' H' λσ2 H2=>tt σ2 H2 λb H3=>if b=true then te σ2 H3 (R σ2) else S σ2 H3)
  (hd:∀D H' zs N,H' D=some (.lst zs)->Keep H H' p->H' p=some (.lst [.int N])->0<=N->H D=none->Z H' zs n->Q (.ref D) H'):qK m (kX 0) tt te σ Q (Itr 0 n) H:=by
 have np:∀{D:Addr},H D=none->D≠p:=λh z=>by rw[z,hp] at h;cases h
 refine jAI (lo:=0) (n:=n) hn (λD j σ' H' zs=>σP σ'/\Keep H H' p/\(∃N,H' p=some (.lst [.int N])/\0<=N)/\H' D=some (.lst zs)/\H D=none/\Z H' zs j) (λD hD=>⟨h0,λc o h _=>((Ext.refl _).new hD _) _ _ h,⟨N0,((Ext.refl _).new hD _) _ _ hp,hN⟩,j7,hD,zo.z0 _⟩) (λD j σ' H' zs hD hj ⟨_,_,_,h2,_,hz⟩=>⟨h2,zo.len _ _ _ hz⟩) ?_ λD σ' H' zs hD ⟨_,k,⟨N,q1,q2⟩,h2,hn,hz⟩=>hd D H' zs N h2 k q1 q2 hn hz;rintro D j σ' H' zs hD hj ⟨sp,k,⟨N,q1,q2⟩,h2,hnD,hz⟩;refine step j σ' H' zs N hj sp k q1 q2 hz _ _ (λσ2 v H2 N' p2 k2 a1 a2 z2=>?_) λσ2 H2 N' p2 k2 a1 a2 z2=>⟨p2,λc o h n=>k2 _ _ (k _ _ h n) n,⟨N',a1,a2⟩,k2 _ _ h2 (np hD),hnD,z2⟩;have hD2:=k2 _ _ h2 (np hD);refine⟨hD2,p2,λc o h n=>?_,⟨N',by rw[jA (np hD).symm];exact a1,a2⟩,j7,hnD,zo.mono _ _ _ _ (jDW hD2 _) z2⟩;rw[jA (jC h hD)];exact k2 _ _ (k _ _ h n) n
section
variable {fX fV:Addr}{fdX fdV:FuncData}
noncomputable abbrev nLaw:Am:=["script","pot","box","wide","pieces","whole","found","held","things","weight","due","bars","mends"]
def scLaw:FnScope nLaw ["script"] (j8 sLaw):= {}
abbrev XLaw(P:Program)(w:World)(K:W.Frag)(mg:Ak)(Aq:Heap)(f:Addr)(mn:Value)(A:Around)(mj:List Env)(s:Shared)(H:Hp)(E:XK):Cx:=XOf nLaw "law" sLaw P w K mg Aq f mn A mj s H E
abbrev LL(tb1 tb2 tb3 tb4 tb5:Addr):List TT:=L5 tb1 tb2 tb3 tb4 tb5
def TbS.two(t:TbS (LL tb1 tb2 tb3 tb4 tb5) H):Tb2 H tb1 tb2:=by
 have nd:=t.nd;unfold ads LL L5 at nd;simp only[bg,dZ,bS,aB,bq,cL,io] at nd;exact⟨t.ok (tP tb1) (ai ..),t.ok (tW tb2) (ah _ (ai ..)),nd.1.1⟩
def TbS.two_ex(e:Ex2 tb1 tb2 H H'):ExS (ads (LL tb1 tb2 tb3 tb4 tb5)) H H':=λb o h n=>e b o h (λz=>n (by rw[z];exact ai ..)) (λz=>n (by rw[z];exact ah _ (ai ..)))
def TbS.two_to(t:TbS (LL tb1 tb2 tb3 tb4 tb5) H)(e:Ex2 tb1 tb2 H H')(t':Tb2 H' tb1 tb2):TbS (LL tb1 tb2 tb3 tb4 tb5) H':=by
 have nd:=t.nd;unfold ads LL L5 at nd;simp only[bg,dZ,bS,aB,bq,cL,io] at nd;obtain⟨⟨n12,n13,n14,n15⟩,⟨n23,n24,n25⟩,_⟩:=nd;refine t.set (S:=[tb1,tb2]) (λs hs=>?_) (λb o h n=>e b o h (λz=>n (by simp[z])) (λz=>n (by simp[z]))) λx hx hm=>?_
 .show s∈[tb1,tb2,tb3,tb4,tb5];simp only[aB,bq,cL] at hs ⊢;rcases hs with z|z
  .exact .inl z
  .exact .inr (.inl z)
 .simp only[aB,bq,cL] at hx hm;rcases hx with rfl|rfl|rfl|rfl|rfl
  .exact t'.p
  .exact t'.w
  .exact absurd hm (io.mpr ⟨λz=>n13 z.symm,λz=>n23 z.symm⟩)
  .exact absurd hm (io.mpr ⟨λz=>n14 z.symm,λz=>n24 z.symm⟩)
  .exact absurd hm (io.mpr ⟨λz=>n15 z.symm,λz=>n25 z.symm⟩)
def jEG{xs:List V}(hp:H p=some (.lst xs))(k:Keep H H' p):Tups H H':=λc ys h=>k _ _ h λz=>by rw[z,hp] at h;cases h
abbrev trL(ws:Af):List Tr:=ws.map λx=>Tr.tup (x.map Tr.int)
theorem jV2(ws:Af):eqTs (trL ws) []=decide (ws=[]):=by
 cases ws with
 |nil=>rw[ao rfl];rfl
 |cons x r=>rw[aK (λz=>by cases z)];rfl
theorem jV1(ws:Af):eqTs (trL ws) (trL [[]])=decide (ws=[[]]):=by
 match ws with
 |[]=>rw[aK (λz=>by cases z)];rfl
 |[[]]=>rw[ao rfl];rfl
 | (a::l)::r=>rw[aK (λz=>by cases z)];rfl
 |[]::y::r=>rw[aK (λz=>by cases z)];rfl
def spLaw(K:W.Frag)(tb1 tb2 tb3 tb4 tb5:Addr):Sp:=λvs H Q _=>∃(a:Addr) (ns:Ag),vs=[.ref a]/\SqL K H a (ns.map V.int)/\ns.length<=63/\TabP H tb1/\TabW H tb2/\TabK H tb3/\TabOk H tb4 barPo qBarL/\TabOk H tb5 jS8 qMend/\tb1≠tb2/\tb1≠tb3/\tb1≠tb4/\tb1≠tb5/\tb2≠tb3/\tb2≠tb4/\tb2≠tb5/\tb3≠tb4/\tb3≠tb5/\tb4≠tb5/\∀H',Q (.bl true) H'
structure LW (P:Program)(w:World)(K:W.Frag)(mg:Ak)(Aq:Heap)(fC fP fT fL fX fV fB fO tb1 tb2 tb3 tb4 tb5:Addr)(fdC fdP fdT fdL fdX fdV fdB fdO:FuncData):Prop where
 T:Txt mg
 CC:Can P w K mg Aq "_law_cell_at" 1 fC fdC ["script","k"] (jMT K)
 CP:Can P w K mg Aq "_law_pot" 1 fP fdP ["cell"] spPot
 CT:Can P w K mg Aq "_law_take" 1 fT fdT ["pot","wide"] yY
 CL:Can P w K mg Aq "_law_lot" 2 fL fdL ["pot","wide"] qN
 CX:Can P w K mg Aq "_law_box" 3 fX fdX ["pot","most_things","most_pieces"] spBox
 CV:Can P w K mg Aq "_law_coverings" 19 fV fdV ["box"] jMS
 CB:Can P w K mg Aq "is_bar" 7 fB fdB ["box","lot"] (spBar tb1 tb2)
 CO:Can P w K mg Aq "_law_told" 12 fO fdO ["box"] (jMP tb1 tb2 tb3 tb4 tb5)
section
variable (G:LW P w K mg Aq fC fP fT fL fX fV fB fO tb1 tb2 tb3 tb4 tb5 fdC fdP fdT fdL fdX fdV fdB fdO)(hr:Room 19 (XLaw P w K mg Aq f mn A mj s H0 E).A)
def jRQ: {t:TS // JSs (XLaw P w K mg Aq f mn A mj s H0 E) ((jE sLaw).drop 10) t}:=
 have nd:=scLaw.nd
 ⟨_,(jD (jWP (jv 6 rfl vL) (jOJ (i:=11) (j:=12) nd rfl rfl Ab Ab)) (jD (yT (jt_w (jw_or (jEH (jC9 (jH jAH gD G.T.isinstance Ab (j4 (jv 11 rfl vL) (j4 (jCU (v:=.ty "list") gD G.T.list Ab rfl) j9 j6) j6) j6) jAS)) (jWN (jY (jIW hr.units101) (kO (m:=[none]) (Nc:=["bar"]) rfl (yW (jv 11 rfl vL)) rfl Ab Ab (jK (psc:=j8 sLaw)) (jI (N:=nLaw) rfl rfl Ab) (λcl C fp s H=>jO (i:=0) (show (["bar"]:Am).Nodup by decide+kernel) rfl yK) (λcl C fp s H=>jB6 (jY qC (jH jM5 gl_b G.T.len Ab (j4 (jv 0 rfl jQ) j9 j6) j6) (je_int) (jR _))) (λcl C fp s H=>(jv 0 rfl jQ)) qB) (jv 10 rfl vL) (jR _))))) (jF (jU (je_bl))) kQ) (jF (jU ((jKW (jH jAH gD G.T.isinstance Ab (j4 (jv 12 rfl vL) (j4 (jCU (v:=.ty "list") gD G.T.list Ab rfl) j9 j6) j6) j6) (jKW (yA qC (yA (jIW hr.units101) (jv 11 rfl vL) (yF j9) (jR _)) (jv 5 rfl vL) (jR _)) (jKR (yA qC (yA (jIW hr.units101) (jv 12 rfl vL) (yF (j4 (yL j9) j9 jDX)) (jR _)) (jv 5 rfl vL) (jR _))))))))))⟩
def jRR: {t:TS // JSs (XLaw P w K mg Aq f mn A mj s H0 E) ((jE sLaw).drop 7) t}:=
 have nd:=scLaw.nd
 ⟨_,(jD (jS (i:=7) nd rfl qS (yF j9) jD3) (jD (jEI dH rfl (jDD (kD kP (jv 2 rfl vC) (je_int) jJ)) (jGJ (i:=8) (j:=9) nd rfl rfl Ab Ab) (jF (jBS (je_bm bQ PySem.F.slot_list_extend PySem.F.type_list_extend jLQ (jv 7 rfl vC) (j4 (jv 8 rfl vL) j9 j6) j6) jW)) jSJ) (jD (jJ6 (i:=10) nd rfl lL ⟨by rfl⟩ (m:=[none,some 2,some 7]) (Nc:=["t","box","held"]) rfl (jA6 gD G.T.range (j4 (kD kP (jv 2 rfl vC) (je_int) jJ) j9 kG) kG) rfl Ab Ab (jK (psc:=j8 sLaw)) (jI (N:=nLaw) rfl rfl Ab) (λcl C fp s H=>jO (i:=0) (show (["t","box","held"]:Am).Nodup by decide+kernel) rfl yK) (λcl C fp s H=>jB6 (jt_w (jOC (jY jFE (jv 0 rfl jQ) (kD yI (jv 1 rfl kL) (je_int) jJ) jNN) (jJ5 (jY jFE (jv 0 rfl jQ) (jv 2 rfl kL) jE6))))) (λcl C fp s H=>(yL (j4 (jv 0 rfl jQ) j9 j6))) kR) (jRQ G hr).2)))⟩
def jRS: {t:TS // JSs (XLaw P w K mg Aq f mn A mj s H0 E) ((jE sLaw).drop 3) t}:=
 have nd:=scLaw.nd
 ⟨_,(jD (jS (i:=5) nd rfl lL (yA (jIX hr.units101) (G.CV.je hr gD (j4 (jv 2 rfl vC) j9 j6) j6) (yF j9) (jR _)) jV9) (jD (yT (jY op_ne (G.CB.je (hr.mono Ac) gD (j4 (jv 2 rfl vC) (j4 (kN (jJS rfl) gD G.T.tuple Ab (j4 (kN jEU gD G.T.range Ab (j4 (kD kP (jv 2 rfl vC) (je_int) jJ) j9 kG) kG) j9 jG) jG) j9 jG) j6) j6) (jv 5 rfl vL) (jR _)) (jF (jU (je_bl))) kQ) (jD (jS (i:=6) nd rfl lL (G.CO.je (hr.mono Ac) gD (j4 (jv 2 rfl vC) j9 j6) j6) jW) (jD (yT (jY op_gt (kD kP (jv 2 rfl vC) (je_int) jJ) (je_int) (jR _)) (jF (jU (yA (jIX hr.units101) (jv 6 rfl vL) (yF (j4 (je_bl) (j4 (je_bl) j9 jN) jN)) (jR _)))) kQ) (jRR G hr).2))))⟩
def mkA: {t:TS // JS (XLaw P w K mg Aq f mn A mj s H0 E) ((jE sLaw).getD 2 (.Pass ⟨0,0,0,0⟩)) t}:=
 have nd:=scLaw.nd
 ⟨_,(yT (jY qC (G.CT.je (hr.mono Ac) gD (j4 (jv 1 rfl vC) (j4 (je_int) j9 jN) j6) j6) (je_int) (jR _)) (jD (jS (i:=3) nd rfl qS (kW yE (je_int) (G.CT.je (hr.mono Ac) gD (j4 (jv 1 rfl vC) (j4 (je_int) j9 jN) j6) j6)) jF3)
   (jD (jJ6 (i:=4) nd rfl lL ⟨by rfl⟩ (m:=[none,some 1,some 3]) (Nc:=["k","pot","wide"]) rfl (jA6 gD G.T.range (j4 (G.CT.je (hr.mono Ac) gD (j4 (jv 1 rfl vC) (j4 (je_int) j9 jN) j6) j6) j9 jG) jG) rfl Ab Ab (jK (psc:=j8 sLaw)) (jI (N:=nLaw) rfl rfl Ab) (λcl C fp s H=>jO (i:=0) (show (["k","pot","wide"]:Am).Nodup by decide+kernel) rfl yK) (λcl C fp s H=>y4) (λcl C fp s H=>(yL (j4 (G.CL.je (hr.mono Ac) gl_b (j4 (jv 1 rfl kL) (j4 (jv 2 rfl kL) j9 j6) j6) j6) (j4 (kW jD9 (G.CT.je (hr.mono Ac) gl_b (j4 (jv 1 rfl kL) (j4 (je_int) j9 jN) j6) j6) (je_int)) j9 yO) jG))) kR)
   (jF (jS (i:=2) nd rfl qS (yL (j4 (jv 3 rfl vC) (j4 (kN jV gD G.T.tuple Ab (j4 (kO (m:=[none,some 1]) (Nc:=["t","pot"]) rfl (jA6 gD G.T.range (j4 (jv 3 rfl vC) j9 j6) j6) rfl Ab Ab (jK (psc:=j8 sLaw)) (jI (N:=nLaw) rfl rfl Ab) (λcl C fp s H=>jO (i:=0) (show (["t","pot"]:Am).Nodup by decide+kernel) rfl yK) (λcl C fp s H=>jB6 (jY op_gt (G.CT.je (hr.mono Ac) gl_b (j4 (jv 1 rfl kL) (j4 (je_int) j9 jN) j6) j6) (je_int) (jR _))) (λcl C fp s H=>(jv 0 rfl jQ)) kR) j9 jL) jL) (j4 (kN jV gD G.T.tuple Ab (j4 (jv 4 rfl vL) j9 j6) j6) j9 jG) jG) j6)) jRV)))) kQ)⟩
def lawA: {t:TS // JSs (XLaw P w K mg Aq f mn A mj s H0 E) (jE sLaw) t}:=
 have nd:=scLaw.nd
 ⟨_,(jD (jS (i:=1) nd rfl qS (G.CP.je (hr.mono Ac) gD (j4 (G.CC.je (hr.mono Ac) gD (j4 (jv 0 rfl vL) (j4 (je_int) j9 jN) j6) j6) j9 jG) jG) jW) (jD (jS (i:=2) nd rfl qS (G.CX.je (hr.mono Ac) gD (j4 (jv 1 rfl vC) (j4 (je_int) (j4 (je_int) j9 jN) jN) j6) j6) jW) (jD (mkA G hr).2 (jRS G hr).2)))⟩
theorem jLE
  {b du:Addr}{ud:List V}{v2:Option V}(g:Good 16 32 wi ms Ar) (w9:wi<=9) (hf:H fr=some (.lst [.ref lb,.ref lm])) (hb:H lb=some (.lst ub)) (hub:LsAt H ub (yS wi ms Ar)) (hm:H lm=some (.lst um)) (hum:LsAt H um (qI wi ms Ar)) (hd:H du=some (.lst ud)) (hud:LsAt H ud (((upto wi.toNat).filter (qD ms Ar)).map λt=>[t])) (q:∀H',D.rt (.bl true) H'):
  (jRQ G hr).1 D [v0,v1,v2,v3,v4,some (.bl (decide (wk (chs wi.toNat ms Ar) 0=[]))),some (.ref fr),v7,v8,v9,some (.ref du),v11,v12] H:=by
 have l1:(yS wi ms Ar).length<=65536:=(jSB (w:=wi) (ms:=ms) (Ar:=Ar) Aa (barP ms Ar)).1;have ul:=LsAt.len hub;refine⟨_,rfl,fr,_,rfl,SqL.of hf,rfl,_,_,rfl,_,_,rfl,rfl,?_⟩;refine⟨_,rfl,_,_,_,true,rfl,.lst hb,rfl,_,rfl,iteF ?_⟩;refine⟨_,rfl,lb,rfl,⟨_,SqL.of hb⟩,jAJ (xs:=ub) (λσ=>∃v,σ=[v]) (λH' zs j=>LsAt H' zs (((yS wi ms Ar).take j).filter λx=>decide (((x.length:Nat):Int)=1))) ⟨λH=>trivial,λH H' zs j tt h=>LsAt.mono tt h,λH zs j h=>?_⟩ hb (by rw[aJ];lia) ⟨_,rfl⟩ ?_ ?_⟩
 .rw[LsAt.len h];exact bh (bN _ _) (bC _ _)
 .rintro j x σ' H' zs hx ⟨v,rfl⟩ e hz S1 S2 yes no;obtain⟨ks,hks,ad,rfl,had⟩:=All2.get' hub hx;have had':=e _ _ had;refine⟨_,rfl,ad,_,rfl,.inr (SqT.of had'),rfl,_,rfl,?_⟩;have ec:decide (V.int (((ks.map V.int).length:Nat):Int)=V.int 1)=decide (((ks.length:Nat):Int)=1):=by
   rw[ag];exact g6.mpr ⟨V.int.inj,λz=>by rw[z]⟩
  rw[ec];refine ite2 (λh=>?_) (λh=>?_)
  .refine⟨_,rfl,yes _ _ _ ⟨_,rfl⟩ (Ext.refl _) ?_⟩;show LsAt H' _ (((yS wi ms Ar).take (j+1)).filter _);rw[jAQ hks,aA h];exact All2.snoc hz ⟨ad,rfl,had'⟩
  .refine no _ _ ⟨_,rfl⟩ (Ext.refl _) ?_;show LsAt H' _ (((yS wi ms Ar).take (j+1)).filter _);rw[jAQ hks,az h,aV];exact hz
 .rintro D5 H5 zs h5 e5 n5 hz;have hz:LsAt H5 zs ((yS wi ms Ar).filter λx=>decide (((x.length:Nat):Int)=1)):=by
   rw[ul,bK] at hz;exact hz
  rw[jSW g] at hz;refine⟨_,rfl,_,_,⟨D5,_,rfl,h5,jBP hz⟩,⟨du,_,rfl,e5 _ _ hd,jBP (LsAt.mono e5.tups hud)⟩,jEA _,_,rfl,?_⟩;rw[jB7];refine iteF ?_;refine⟨_,rfl,_,_,_,true,rfl,.lst (e5 _ _ hm),rfl,true,rfl,iteT ?_⟩;have en:(yS wi ms Ar=[])↔¬wk (chs wi.toNat ms Ar) 0=[]:=by
   rw[jPM g];unfold cvs;rw[iB]
  refine⟨_,rfl,by show (0:Nat)<=_;decide,λl6 H6 d6 e6 n6=>?_⟩;have E6:=e5.trans e6;refine⟨_,[],⟨lb,_,rfl,E6 _ _ hb,jBP (LsAt.mono E6.tups hub)⟩,⟨l6,_,rfl,d6,rfl⟩,jEA _,?_⟩;have e1:(!eqTs (trL (yS wi ms Ar)) [])=decide (wk (chs wi.toNat ms Ar) 0=[]):=by
   rw[jV2];by_cases z:wk (chs wi.toNat ms Ar) 0=[]
   .rw[ao z,aK (λy=>en.mp y z)];rfl
   .rw[aK z,ao (en.mpr z)];rfl
  rw[e1];refine⟨_,rfl,rfl,_,rfl,?_⟩;rw[ao rfl];refine iteT ?_;refine⟨_,rfl,by show (0:Nat)<=_;decide,λt7 H7 d7 e7=>⟨by show (1:Nat)<=_;decide,λl8 H8 d8 e8 n8=>?_⟩⟩;have E8:=(E6.trans e7).trans e8;have ls8:LsAt H8 [.ref t7] [[]]:=⟨⟨t7,rfl,e8 _ _ d7⟩,trivial⟩;refine⟨_,_,⟨lm,_,rfl,E8 _ _ hm,jBP (LsAt.mono E8.tups hum)⟩,⟨l8,_,rfl,d8,jBP ls8⟩,jEA _,?_⟩;have e2:(!eqTs (trL (qI wi ms Ar)) (trL [[]]))=decide (wk (chs wi.toNat ms Ar) 0=[]):=by
   rw[jV1];by_cases z:wk (chs wi.toNat ms Ar) 0=[]
   .rw[ao z,aK (λy=>en.mp ((jFH g).mp y) z)];rfl
   .rw[aK z,ao ((jFH g).mpr (en.mpr z))];rfl
  rw[e2];refine⟨_,rfl,rfl,?_⟩;rw[ao rfl];exact q H8
theorem jLF
  (hB:BoxAt H b wi ms Ar) (g:Good 16 32 wi ms Ar) (w9:wi<=9) (hf:H fr=some (.lst [.ref lb,.ref lm])) (hb:H lb=some (.lst ub)) (hub:LsAt H ub (yS wi ms Ar)) (hm:H lm=some (.lst um)) (hum:LsAt H um (qI wi ms Ar)) (q:∀H',D.rt (.bl true) H'):
  (jRR G hr).1 D [v0,v1,some (.ref b),v3,v4,some (.bl (decide (wk (chs wi.toNat ms Ar) 0=[]))),some (.ref fr),v7,v8,v9,v10,v11,v12] H:=by
 obtain⟨qm,qp,ps,b1,b2,b3,b4⟩:=id hB.ex;have pl:=b4.len;have w0:=g.w0;have gpl:=g.pl;refine⟨by show (0:Nat)<=_;decide,λl H1 d1 e1 n1=>?_⟩;refine⟨_,rfl,b,_,2,_,rfl,rfl,SqT.of (e1 _ _ b1),rfl,qp,rfl,⟨_,SqT.of (e1 _ _ b3)⟩,jUH (xs:=ps) (λi σ H'=>(∃v8 v9,σ=[v0,v1,some (.ref b),v3,v4,some (.bl (decide (wk (chs wi.toNat ms Ar) 0=[]))),some (.ref fr),some (.ref l),v8,v9,v10,v11,v12])/\Ext H H'/\H' l=some (.lst ((((upto Ar.length).take i).flatMap (jB Ar)).map V.int))/\(((upto Ar.length).take i).flatMap (jB Ar)).length<=16*i) ⟨⟨_,_,rfl⟩,e1,d1,ar _⟩ (λi σ H' _ ⟨_,e,_⟩=>SqT.of (e _ _ b3)) ?_ ?_⟩
 .rintro i x σ H' hx ⟨⟨v8,v9,rfl⟩,e,hl,ll⟩;have hj:i<Ar.length:=by
   rw[<- pl];exact(am.mp hx).1
  obtain⟨x',hx',pa,pq,rfl,c1,c2⟩:=b4.get hj;rw[hx] at hx';cases hx';have tl:=jF2 g (k:=i) Aa Aa;have et:jB Ar (i:Int)=(Ar.getD i ([],0)).1:=by unfold jB;rw[bo]
  rw[<- et] at c2;refine⟨pa,_,rfl,SqT.of (e _ _ c1),rfl,_,_,rfl,_,_,rfl,rfl,?_⟩;refine⟨_,rfl,.inl ⟨rfl,_,SqL.of hl⟩,_,rfl,l,pq,_,_,rfl,rfl,hl,e _ _ c2,by rw[ag,ag,aJ];lia,?_⟩;have ef:((upto Ar.length).take (i+1)).flatMap (jB Ar)=((upto Ar.length).take i).flatMap (jB Ar)++jB Ar (i:Int):=by
   rw[jBW hj,lH];show _++(jB Ar (i:Int)++[])=_;rw[aV]
  refine⟨⟨_,_,rfl⟩,e.updNew n1 _,?_,?_⟩
  .rw[ef,aW];exact j7
  .rw[ef,aI];lia
 .rintro σ H2 ⟨⟨v8,v9,rfl⟩,e2,hl,ll⟩;rw[pl,bE (by rw[jA8];exact ar _)] at hl;obtain⟨qm',qp',ps',b1',b2',b3',b4'⟩:=id (hB.mono e2.tups).ex;refine⟨_,rfl,b,_,0,_,rfl,rfl,SqT.of b1',rfl,wi,rfl,Aa,Aa,jGR (n:=wi.toNat) (λσ=>∃v,σ=[v,some (.ref b),some (.ref l)]) (λH' zs j=>LsAt H' zs ((((upto wi.toNat).take j).filter (qD ms Ar)).map λt=>[t])) ⟨λH=>trivial,λH H' zs j tt h=>LsAt.mono tt h,λH zs j h=>?_⟩ (by rw[aJ];lia) ⟨_,rfl⟩ ?_ ?_⟩
  .rw[LsAt.len h,ag];exact bh (bN _ _) (bC _ _)
  .rintro j σ' H' zs hj ⟨v,rfl⟩ e hz S1 S2 yes no;have hg:(upto wi.toNat)[j]?=some (j:Int):=jFV hj;refine⟨_,rfl,_,rfl,b,_,1,_,rfl,rfl,SqT.of (e _ _ b1'),rfl,qm',_,rfl,.inr (SqT.of (e _ _ b2')),rfl,jAG _,_,rfl,?_⟩;rw[jB0,fq];refine ite2 (λh1=>?_) (λh1=>?_)
   .refine⟨_,rfl,_,rfl,l,_,rfl,.inl (SqL.of (e _ _ hl)),rfl,jAG _,_,rfl,?_⟩;rw[jB0];refine ite2 (λh2=>?_) (λh2=>?_)
    .refine⟨_,rfl,by show (1:Nat)<=_;decide,λr H3 d3 e3=>?_⟩;refine yes _ _ _ ⟨_,rfl⟩ e3 ?_;show LsAt H3 _ ((((upto wi.toNat).take (j+1)).filter (qD ms Ar)).map _);rw[jAQ hg,aA (show qD ms Ar (j:Int)=true from dW.mpr ⟨h1,h2⟩),aW];exact All2.snoc (LsAt.mono e3.tups hz) ⟨r,rfl,d3⟩
    .refine no _ _ ⟨_,rfl⟩ (Ext.refl _) ?_;show LsAt H' _ ((((upto wi.toNat).take (j+1)).filter (qD ms Ar)).map _);rw[jAQ hg,az (λz:qD ms Ar (j:Int)=true=>h2 (dW.mp z).2),aV];exact hz
   .refine no _ _ ⟨_,rfl⟩ (Ext.refl _) ?_;show LsAt H' _ ((((upto wi.toNat).take (j+1)).filter (qD ms Ar)).map _);rw[jAQ hg,az (λz:qD ms Ar (j:Int)=true=>h1 (dW.mp z).1),aV];exact hz
  .rintro du H3 zs h3 e3 n3 hz;rw[bE (by rw[jA8];exact ar _)] at hz;have E3:=e2.trans e3;exact jLE G hr (b:=b) g w9 (E3 _ _ hf) (E3 _ _ hb) (LsAt.mono E3.tups hub) (E3 _ _ hm) (LsAt.mono E3.tups hum) h3 hz q
theorem jLG
  (hB:BoxAt H b wi ms Ar) (g4:Good 16 4 wi ms Ar) (tab:TbS (LL tb1 tb2 tb3 tb4 tb5) H) (q:∀H',D.rt (.bl true) H'):
  (jRS G hr).1 D [v0,v1,some (.ref b),v3,v4,v5,v6,v7,v8,v9,v10,v11,v12] H:=by
 have g:Good 16 32 wi ms Ar:=g4.wide Ac Ac;have g16:Good 16 16 wi ms Ar:=g4.wide Ac Ac;have w0:=g.w0;have w1:=g.w1;refine⟨_,rfl,b,wi,ms,Ar,rfl,hB,g16,λl us H1 h1 hu ul e1=>?_⟩;refine⟨by show (0:Nat)<=_;decide,λl2 H2 d2 e2 n2=>?_⟩;refine⟨_,[],⟨l,us,rfl,e2 _ _ h1,jBP (hu.mono e2.tups)⟩,⟨l2,_,rfl,d2,rfl⟩,jEA _,?_⟩;rw[jWE];have ed:decide (cvs wi ms Ar=[])=decide (wk (chs wi.toNat ms Ar) 0=[]):=by
  unfold cvs;exact g6.mpr iB
 rw[ed];have E2:=e1.trans e2;have B2:=hB.mono E2.tups;obtain⟨qm,qp,ps,b1,b2,b3,b4⟩:=id B2.ex;refine⟨_,rfl,_,rfl,b,_,0,_,rfl,rfl,SqT.of b1,rfl,_,rfl,λrg hrg=>?_⟩;have e4:Ext H2 (L2.upd H2 rg (.rng 0 wi)):=(Ext.refl _).new hrg _;have d4:(L2.upd H2 rg (.rng 0 wi)) rg=some (.rng 0 wi):=j7;generalize L2.upd H2 rg (.rng 0 wi)=H4 at e4 d4;refine⟨rg,0,wi,rfl,d4,Aa,Aa,Aa,λt1 ht1=>?_⟩;have e5:Ext H4 (L2.upd H4 t1 (.tup ((jCB 0 (wi-0).toNat).map V.int))):=(Ext.refl _).new ht1 _;have d5:(L2.upd H4 t1 (.tup ((jCB 0 (wi-0).toNat).map V.int))) t1=some (.tup ((upto wi.toNat).map V.int)):=by
  rw[j7];unfold jCB;rw[Int.sub_zero];congr 3;exact cK λt _=>fq _
 generalize L2.upd H4 t1 (.tup ((jCB 0 (wi-0).toNat).map V.int))=H5 at e5 d5;have E5:=E2.trans (e4.trans e5);have ru:Ris wi (upto wi.toNat):=⟨(kJ wi.toNat).ris,λz hz=>by have:=(kJ wi.toNat).bnd z hz;lia⟩;have T5:=tab.ext E5;have B5:=hB.mono E5.tups;refine⟨b,t1,wi,ms,Ar,_,rfl,B5,g,d5,ru,T5.two,λH6 e6 t6=>?_⟩;rw[jPN g];have X6:ExS (ads (LL tb1 tb2 tb3 tb4 tb5)) H5 H6:=TbS.two_ex e6;have T6:=T5.two_to e6 t6;have B6:=B5.mono (T5.tups X6);refine⟨_,rfl,rfl,_,rfl,?_⟩;rw[ao rfl];refine iteF ?_;refine⟨_,rfl,b,wi,ms,Ar,rfl,B6,g,T6,λh9 r lb lm ub um H7 h7 hb hub hm hum X7 T7=>?_,λh9 r H7 h7 X7 T7=>?_⟩
 .have B7:=B6.mono (T6.tups X7);obtain⟨_,_,_,c1,_⟩:=id B7.ex;refine⟨_,rfl,b,_,0,_,rfl,rfl,SqT.of c1,rfl,_,_,rfl,rfl,_,rfl,?_⟩;rw[aK (show ¬wi>9 by lia)];exact iteF (jLF G hr B7 g h9 h7 hb hub hm hum q)
 .have B7:=B6.mono (T6.tups X7);obtain⟨_,_,_,c1,_⟩:=id B7.ex;refine⟨_,rfl,b,_,0,_,rfl,rfl,SqT.of c1,rfl,_,_,rfl,rfl,_,rfl,?_⟩;rw[ao (show wi>9 by lia)];refine iteT ⟨_,rfl,by show (2:Nat)<=_;decide,λl8 H8 d8 e8 n8=>?_⟩;have tt:∀H:Hp,TsAt H [.bl true,.bl true] [.bl true,.bl true]:=λH=>⟨_,_,rfl,rfl,_,_,rfl,rfl,rfl⟩;refine⟨[.bl true,.bl true],[.bl true,.bl true],⟨r,_,rfl,e8 _ _ h7,tt _⟩,⟨l8,_,rfl,d8,tt _⟩,Ac,?_⟩;rw[jB7];exact q H8
theorem jU5
  {N:Int}(hp:H p=some (.lst [.int N])) (hN:0<=N) (hB:BoxAt H b wi ms Ar) (g4:Good 16 4 wi ms Ar)
  (nx:∀H' b' wi' ms' Ar' v3 v4,Keep H H' p->BoxAt H' b' wi' ms' Ar'->Good 16 4 wi' ms' Ar'->D.nx [v0,some (.ref p),some (.ref b'),v3,v4,v5,v6,v7,v8,v9,v10,v11,v12] H'):
  (mkA G hr).1 D [v0,some (.ref p),some (.ref b),v3,v4,v5,v6,v7,v8,v9,v10,v11,v12] H:=by
 refine⟨_,rfl,p,N,2,rfl,hp,hN,Ac,Ac,λN1 r1 a1 a2 a3=>⟨rfl,_,rfl,?_⟩⟩;have k1:Keep H (L2.upd H p (.lst [.int N1])) p:=(Keep.refl H p).upd _;have p1:(L2.upd H p (.lst [.int N1])) p=some (.lst [.int N1]):=j7;generalize L2.upd H p (.lst [.int N1])=H1 at k1 p1;refine ite2 (λ_=>?_) (λ_=>nx H1 b wi ms Ar _ _ k1 (hB.mono (jEG hp k1)) g4);refine⟨_,rfl,p,N1,5,rfl,p1,a1,Ac,Ac,λN2 r2 c1 c2 c3=>⟨_,_,rfl,rfl,?_⟩⟩;have k2:Keep H (L2.upd H1 p (.lst [.int N2])) p:=k1.upd _;have p2:(L2.upd H1 p (.lst [.int N2])) p=some (.lst [.int N2]):=j7;generalize L2.upd H1 p (.lst [.int N2])=H2 at k2 p2;have w7:7<=7+r2:=Aa;have w11:7+r2<=11:=Aa;refine⟨_,rfl,p,N2,4,rfl,p2,c1,Ac,Ac,λN3 r3 f1 f2 f3=>⟨r3,rfl,Aa,Aa,?_⟩⟩;have k3:Keep H (L2.upd H2 p (.lst [.int N3])) p:=k2.upd _;have p3:(L2.upd H2 p (.lst [.int N3])) p=some (.lst [.int N3]):=j7;generalize L2.upd H2 p (.lst [.int N3])=H3 at k3 p3;refine jHX (n:=r3.toNat) (λσ=>∃v,σ=[v,some (.ref p),some (.int (7+r2))]) (λH' zs j=>∃qs,PcsAt H' zs qs/\qs.length=j/\∀pc∈qs,GoodPc (7+r2) pc) ⟨λH=>⟨[],trivial,rfl,λpc h=>by cases h⟩,λH H' zs j tt ⟨qs,z1,z2,z3⟩=>⟨qs,z1.mono tt,z2,z3⟩,λH zs j ⟨qs,z1,z2,z3⟩=>by rw[z1.len,z2];exact ar _⟩ (by rw[aJ];lia) ⟨_,rfl⟩ p3 f1 ?_ ?_
 .rintro j σ' H4 zs N4 hj ⟨v,rfl⟩ k4 p4 n4 ⟨qs,z1,z2,z3⟩ S1 S2 yes no;dsimp only[kX,yR];rw[aA rfl];refine⟨_,rfl,_,rfl,p,N4,(7+r2),rfl,p4,n4,Aa,Aa,λq5 N5 ts H5 n5 lt d5 p5 k5=>?_⟩;refine⟨_,rfl,p,N5,9,rfl,p5,n5,Ac,Ac,λN6 r6 g1 g2 g3=>⟨_,_,rfl,rfl,?_⟩⟩;have d6:(L2.upd H5 p (.lst [.int N6])) q5=some (.tup (ts.map V.int)):=by
   rw[jA λz=>by rw[z,p5] at d5;cases d5];exact d5
  have k6:Keep H4 (L2.upd H5 p (.lst [.int N6])) p:=k5.upd _;have p6:(L2.upd H5 p (.lst [.int N6])) p=some (.lst [.int N6]):=j7;generalize L2.upd H5 p (.lst [.int N6])=H6 at k6 p6 d6;refine⟨by show (2:Nat)<=_;decide,λt H7 d7 e7=>?_⟩;have k7:Keep H4 H7 p:=λc o h n=>e7 _ _ (k6 _ _ h n);refine yes _ _ _ N6 ⟨_,rfl⟩ k7 (e7 _ _ p6) g1 ⟨qs++[(ts,r6-4)],PcsAt.snoc (p:=(ts,r6-4)) ⟨t,q5,rfl,d7,e7 _ _ d6⟩ (z1.mono (jEG p4 k7)),by rw[aI,z2];rfl,λpc hpc=>?_⟩;rcases aP.mp hpc with z|z
  .exact z3 pc z
  .rw[ak.mp z];exact⟨lt,by show -1000000000000<=r6-4;lia,by show r6-4<=1000000000000;lia⟩
 .rintro D4 H4 zs N4 h4 k4 p4 n4 nd4 ⟨qs,z1,z2,z3⟩;have k4':Keep H H4 p:=k3.trans k4;refine⟨_,rfl,_,rfl,(7+r2),rfl,Aa,Aa,jHX (n:=(7+r2).toNat) (λσ=>∃v,σ=[v,some (.ref p)]) (λH' zs j=>∃ts:Ag,zs=ts.map V.int/\Ris (j:Int) ts) ⟨λH=>⟨[],rfl,Ris.nil _⟩,λH H' zs j tt h=>h,λH zs j ⟨ts,z1,z2⟩=>?_⟩ (by rw[aJ];lia) ⟨_,rfl⟩ p4 n4 ?_ ?_⟩
  .have:=jB5 ts 0 _ z2.ris z2.bnd;rw[z1,ag];lia
  .rintro j σ' H5 zs5 N5 hj ⟨v,rfl⟩ k5 p5 n5 ⟨ts,y1,y2⟩ S1 S2 yes no;refine⟨_,rfl,p,N5,3,rfl,p5,n5,Ac,Ac,λN6 r6 g1 g2 g3=>⟨_,_,rfl,rfl,_,rfl,?_⟩⟩;have k6:Keep H5 (L2.upd H5 p (.lst [.int N6])) p:=(Keep.refl H5 p).upd _;have p6:(L2.upd H5 p (.lst [.int N6])) p=some (.lst [.int N6]):=j7;generalize L2.upd H5 p (.lst [.int N6])=H6 at k6 p6;refine ite2 (λ_=>?_) (λ_=>?_)
   .refine⟨_,rfl,yes _ _ _ N6 ⟨_,rfl⟩ k6 p6 g1 ⟨ts++[(j:Int)],?_,y2.snoc⟩⟩;rw[y1,aW,fq];rfl
   .refine no _ _ N6 ⟨_,rfl⟩ k6 p6 g1 ⟨ts,y1,y2.ris,λz hz=>?_⟩;have:=y2.bnd z hz;lia
  .rintro D5 H5 zs5 N5 h5 k5 p5 n5 nd5 ⟨ts,y1,y2⟩;have k5':=k4'.trans k5;have np4:D4≠p:=λz=>by rw[z,p3] at nd4;cases nd4
   refine⟨D5,_,rfl,.inl ⟨SqL.of h5,λm hm=>?_⟩⟩;have e6:Ext H5 (L2.upd H5 m (.tup zs5)):=(Ext.refl _).new hm _;have d6:(L2.upd H5 m (.tup zs5)) m=some (.tup zs5):=j7;generalize L2.upd H5 m (.tup zs5)=H6 at e6 d6;have h46:H6 D4=some (.lst zs):=e6 _ _ (k5 _ _ h4 np4);refine⟨_,rfl,D4,_,rfl,.inl ⟨SqL.of h46,λm2 hm2=>?_⟩⟩;have e7:Ext H6 (L2.upd H6 m2 (.tup zs)):=(Ext.refl _).new hm2 _;have d7:(L2.upd H6 m2 (.tup zs)) m2=some (.tup zs):=j7;generalize L2.upd H6 m2 (.tup zs)=H7 at e7 d7;refine⟨by show (3:Nat)<=_;decide,λb8 H8 d8 e8=>?_⟩;have k8:Keep H H8 p:=λc o h n=>e8 _ _ (e7 _ _ (e6 _ _ (k5' _ _ h n)));have t48:Tups H4 H8:=(jEG p4 k5).trans (e6.trans (e7.trans e8)).tups;have ew:(((7+r2).toNat:Nat):Int)=(7+r2):=dF Aa;rw[ew] at y2;refine nx H8 b8 (7+r2) ts qs _ _ k8 ⟨m,m2,zs,d8,?_,e8 _ _ d7,z1.mono t48⟩ ⟨Aa,Aa,y2,by rw[z2];lia,z3⟩;rw[<- y1];exact(e7.trans e8) _ _ d6
end
theorem jW4(F:Fun K "law" "law" sLaw f fd)(G:LW P w K mg Aq fC fP fT fL fX fV fB fO tb1 tb2 tb3 tb4 tb5 fdC fdP fdT fdL fdX fdV fdB fdO):FnOk P w K mg Aq CX0 20 f fd ["script"] (spLaw K tb1 tb2 tb3 tb4 tb5):=by
 refine F.ok scLaw (λvs H Q E h=>?_) (λmn A mj s H vs Q E hr h=>?_)
 .obtain⟨_,_,rfl,_⟩:=h;rfl
 .obtain⟨a,ns,rfl,hS,hlen,o1,o2,o3,o4,o5,n12,n13,n14,n15,n23,n24,n25,n34,n35,n45,k⟩:=h;have tab:TbS (LL tb1 tb2 tb3 tb4 tb5) H:=⟨by unfold ads LL L5;simp[n12,n13,n14,n15,n23,n24,n25,n34,n35,n45],λx hx=>by
   simp only[aB,bq,cL] at hx;rcases hx with rfl|rfl|rfl|rfl|rfl
   .exact o1
   .exact o2
   .exact o3
   .exact o4
   .exact o5⟩
  refine⟨_,(lawA G hr).2.h,?_⟩;refine⟨_,rfl,a,ns,0,rfl,hS,Ac,λc=>⟨c,rfl,λp N hp hN=>?_⟩⟩;have e1:Ext H (L2.upd H p (.lst [.int N])):=(Ext.refl _).new hp _;have d1:(L2.upd H p (.lst [.int N])) p=some (.lst [.int N]):=j7;generalize L2.upd H p (.lst [.int N])=H1 at e1 d1;refine⟨_,rfl,p,N,16,4,rfl,d1,hN,Ac,Ac,Ac,Ac,λb N2 wi ms Ar H2 hN2 d2 hB g kp=>?_⟩;refine jU5 G hr d2 hN2 hB g λH3 b3 wi3 ms3 Ar3 v3 v4 k3 B3 g3=>?_;have E3:Ext H H3:=λc o h=>k3 _ _ (kp _ _ (e1 _ _ h) (jC h hp)) (jC h hp);exact jLG G hr B3 g3 (tab.ext E3) k
end
def lenU1{P:Al->Prop}:∀{us:Al},us.length=1->(∀a,P [a])->P us
 |[a],_,h=>h a
def lenU2{P:Al->Prop}:∀{us:Al},us.length=2->(∀a b,P [a,b])->P us
 |[a,b],_,h=>h a b
def lenU3{P:Al->Prop}:∀{us:Al},us.length=3->(∀a b c,P [a,b,c])->P us
 |[a,b,c],_,h=>h a b c
abbrev zN(K:W.Frag)(x:Str):=PySem.W.nsIn K mainGlobals x
abbrev zr(f:Addr):Option (Ao):=some (some (.ref f))
noncomputable abbrev zl(x:Str)(st:Stmt)(oc:Value)(od:Option Addr)(kV dc pm:Value)(an:Option Addr)(cd ct:Value)(sl:Array (Ao)):Option Obj:=some ⟨oc,od,.func (PySem.W.fnOf x x (yC st) (jE st) (j8 st) .none kV dc pm an cd ct),sl⟩
abbrev zc:=PySem.W.codeIn
abbrev zk(K:W.Frag)(f:Addr):=keepIn K (.ref f)
def zb1{st:Stmt}(F:Fun K x q st f fd)(h:∀(kV doc pm:Value) (an:Option Addr) (mn ct u1:Value),bindArgs (PySem.W.fnOf x q (yC st) (jE st) (j8 st) .none kV doc pm an mn ct) ⟨[u1],[]⟩=pure [(p1,u1)]:=by intros;rfl):Binds K fd [p1] []:=F.binds λkV doc pm an mn ct us hl=>lenU1 (P:=λus=>bindArgs _ ⟨us,[]⟩=pure (List.zip _ us)) hl λu1=>h kV doc pm an mn ct u1
def zb2{p2:Str}{st:Stmt}(F:Fun K x q st f fd)(h:∀(kV doc pm:Value) (an:Option Addr) (mn ct u1 u2:Value),bindArgs (PySem.W.fnOf x q (yC st) (jE st) (j8 st) .none kV doc pm an mn ct) ⟨[u1,u2],[]⟩=pure [(p1,u1),(p2,u2)]:=by intros;rfl):Binds K fd [p1,p2] []:=F.binds λkV doc pm an mn ct us hl=>lenU2 (P:=λus=>bindArgs _ ⟨us,[]⟩=pure (List.zip _ us)) hl λu1 u2=>h kV doc pm an mn ct u1 u2
def zb3{p2 p3:Str}{st:Stmt}(F:Fun K x q st f fd)(h:∀(kV doc pm:Value) (an:Option Addr) (mn ct u1 u2 u3:Value),bindArgs (PySem.W.fnOf x q (yC st) (jE st) (j8 st) .none kV doc pm an mn ct) ⟨[u1,u2,u3],[]⟩=pure [(p1,u1),(p2,u2),(p3,u3)]:=by intros;rfl):Binds K fd [p1,p2,p3] []:=F.binds λkV doc pm an mn ct us hl=>lenU3 (P:=λus=>bindArgs _ ⟨us,[]⟩=pure (List.zip _ us)) hl λu1 u2 u3=>h kV doc pm an mn ct u1 u2 u3
set_option autoImplicit true
set_option relaxedAutoImplicit true
set_option maxHeartbeats 8000000 in
theorem all_mk{l:PySem.W.OpenLaw}{fa f1 f2 f3 f4 f5 f6 f7 f8 f9 f10 f11 f12 f13 f14 f15 f16 f17 f18 f19 f20 f21 f22 f23 f24 f25 f26 f27 f28 f29 f30:Addr}(X:K.In h)(G:h.Ns mainGlobals mg)(hfa:mg "law" =some (.ref fa))
  {u1:Tok}
  (a1:zN K "is_whole" =zr f1) (l1:K.lookup f1=zl "is_whole" jBN oc1 od1 kV1 dc1 pm1 an1 cd1 ct1 sl1) (c1:zc K cd1 "is_whole" =true) (k1:zk K f1=true)
  (a2:zN K "is_rising" =zr f2) (l2:K.lookup f2=zl "is_rising" jAK oc2 od2 kV2 dc2 pm2 an2 cd2 ct2 sl2) (c2:zc K cd2 "is_rising" =true) (k2:zk K f2=true)
  (a3:zN K "is_lot" =zr f3) (l3:K.lookup f3=zl "is_lot" jD6 oc3 od3 kV3 dc3 pm3 an3 cd3 ct3 sl3) (c3:zc K cd3 "is_lot" =true) (k3:zk K f3=true)
  (a4:zN K "mask_of" =zr f4) (l4:K.lookup f4=zl "mask_of" sMask oc4 od4 kV4 dc4 pm4 an4 cd4 ct4 sl4) (c4:zc K cd4 "mask_of" =true) (k4:zk K f4=true)
  (a5:zN K "lot_of" =zr f5) (l5:K.lookup f5=zl "lot_of" jD5 oc5 od5 kV5 dc5 pm5 an5 cd5 ct5 sl5) (c5:zc K cd5 "lot_of" =true) (k5:zk K f5=true)
  (a6:zN K "picked" =zr f6) (l6:K.lookup f6=zl "picked" y9 oc6 od6 kV6 dc6 pm6 an6 cd6 ct6 sl6) (c6:zc K cd6 "picked" =true) (k6:zk K f6=true)
  (a7:zN K "choices_of" =zr f7) (l7:K.lookup f7=zl "choices_of" yH oc7 od7 kV7 dc7 pm7 an7 cd7 ct7 sl7) (c7:zc K cd7 "choices_of" =true) (k7:zk K f7=true)
  (a8:zN K "full_mask" =zr f8) (l8:K.lookup f8=zl "full_mask" sFull oc8 od8 kV8 dc8 pm8 an8 cd8 ct8 sl8) (c8:zc K cd8 "full_mask" =true) (k8:zk K f8=true)
  (a9:zN K "choices_at" =zr f9) (l9:K.lookup f9=zl "choices_at" sAt oc9 od9 kV9 dc9 pm9 an9 cd9 ct9 sl9) (c9:zc K cd9 "choices_at" =true) (k9:zk K f9=true)
  (a10:zN K "masks_met" =zr f10) (l10:K.lookup f10=zl "masks_met" sMet oc10 od10 kV10 dc10 pm10 an10 cd10 ct10 sl10) (c10:zc K cd10 "masks_met" =true) (k10:zk K f10=true)
  (a11:zN K "gathered" =zr f11) (l11:K.lookup f11=zl "gathered" qQ oc11 od11 kV11 dc11 pm11 an11 cd11 ct11 sl11) (c11:zc K cd11 "gathered" =true) (k11:zk K f11=true)
  (a12:zN K "ways_of" =zr f12) (l12:K.lookup f12=zl "ways_of" qP oc12 od12 kV12 dc12 pm12 an12 cd12 ct12 sl12) (c12:zc K cd12 "ways_of" =true) (k12:zk K f12=true)
  (a13:zN K "many" =zr f13) (l13:K.lookup f13=zl "many" sMany oc13 od13 kV13 dc13 pm13 an13 cd13 ct13 sl13) (c13:zc K cd13 "many" =true) (k13:zk K f13=true)
  (a14:zN K "have_common" =zr f14) (l14:K.lookup f14=zl "have_common" jB4 oc14 od14 kV14 dc14 pm14 an14 cd14 ct14 sl14) (c14:zc K cd14 "have_common" =true) (k14:zk K f14=true)
  (a15:zN K "narrowed" =zr f15) (l15:K.lookup f15=zl "narrowed" jAW oc15 od15 kV15 dc15 pm15 an15 cd15 ct15 sl15) (c15:zc K cd15 "narrowed" =true) (k15:zk K f15=true)
  (a16:zN K "is_bar" =zr f16) (l16:K.lookup f16=zl "is_bar" sBar oc16 od16 kV16 dc16 pm16 an16 cd16 ct16 sl16) (c16:zc K cd16 "is_bar" =true) (k16:zk K f16=true)
  (a17:zN K "is_within" =zr f17) (l17:K.lookup f17=zl "is_within" jB3 oc17 od17 kV17 dc17 pm17 an17 cd17 ct17 sl17) (c17:zc K cd17 "is_within" =true) (k17:zk K f17=true)
  (a18:zN K "least_lots" =zr f18) (l18:K.lookup f18=zl "least_lots" yZ oc18 od18 kV18 dc18 pm18 an18 cd18 ct18 sl18) (c18:zc K cd18 "least_lots" =true) (k18:zk K f18=true)
  (a19:zN K "least_bars" =zr f19) (l19:K.lookup f19=zl "least_bars" y8 oc19 od19 kV19 dc19 pm19 an19 cd19 ct19 sl19) (c19:zc K cd19 "least_bars" =true) (k19:zk K f19=true)
  (a20:zN K "least_mends" =zr f20) (l20:K.lookup f20=zl "least_mends" kY oc20 od20 kV20 dc20 pm20 an20 cd20 ct20 sl20) (c20:zc K cd20 "least_mends" =true) (k20:zk K f20=true)
  (a21:zN K "_law_cell_at" =zr f21) (l21:K.lookup f21=zl "_law_cell_at" sCell oc21 od21 kV21 dc21 pm21 an21 cd21 ct21 sl21) (c21:zc K cd21 "_law_cell_at" =true) (k21:zk K f21=true)
  (a22:zN K "_law_pot" =zr f22) (l22:K.lookup f22=zl "_law_pot" sPot oc22 od22 kV22 dc22 pm22 an22 cd22 ct22 sl22) (c22:zc K cd22 "_law_pot" =true) (k22:zk K f22=true)
  (a23:zN K "_law_take" =zr f23) (l23:K.lookup f23=zl "_law_take" sTake oc23 od23 kV23 dc23 pm23 an23 cd23 ct23 sl23) (c23:zc K cd23 "_law_take" =true) (k23:zk K f23=true)
  (a24:zN K "_law_lot" =zr f24) (l24:K.lookup f24=zl "_law_lot" sLot oc24 od24 kV24 dc24 pm24 an24 cd24 ct24 sl24) (c24:zc K cd24 "_law_lot" =true) (k24:zk K f24=true)
  (a25:zN K "_law_box" =zr f25) (l25:K.lookup f25=zl "_law_box" sBox oc25 od25 kV25 dc25 pm25 an25 cd25 ct25 sl25) (c25:zc K cd25 "_law_box" =true) (k25:zk K f25=true)
  (a26:zN K "_law_from" =zr f26) (l26:K.lookup f26=zl "_law_from" qR oc26 od26 kV26 dc26 pm26 an26 cd26 ct26 sl26) (c26:zc K cd26 "_law_from" =true) (k26:zk K f26=true)
  (a27:zN K "_law_coverings" =zr f27) (l27:K.lookup f27=zl "_law_coverings" sCovs oc27 od27 kV27 dc27 pm27 an27 cd27 ct27 sl27) (c27:zc K cd27 "_law_coverings" =true) (k27:zk K f27=true)
  (a28:zN K "_law_others" =zr f28) (l28:K.lookup f28=zl "_law_others" jAV oc28 od28 kV28 dc28 pm28 an28 cd28 ct28 sl28) (c28:zc K cd28 "_law_others" =true) (k28:zk K f28=true)
  (a29:zN K "_law_told" =zr f29) (l29:K.lookup f29=zl "_law_told" sTold oc29 od29 kV29 dc29 pm29 an29 cd29 ct29 sl29) (c29:zc K cd29 "_law_told" =true) (k29:zk K f29=true)
  (a30:zN K "law" =zr f30) (l30:K.lookup f30=zl "law" sLaw oc30 od30 kV30 dc30 pm30 an30 cd30 ct30 sl30) (c30:zc K cd30 "law" =true) (k30:zk K f30=true)
  (g1:zN K "MOST_THINGS_WITH_BARS" =some (some (.int 9 u1))) (z1:zN K "len" =some none) (z2:zN K "range" =some none) (z3:zN K "tuple" =some none) (z4:zN K "sorted" =some none) (z5:zN K "set" =some none) (z6:zN K "list" =some none) (z7:zN K "int" =some none) (z8:zN K "isinstance" =some none) (z9:zN K "bool" =some none) (z10:zN K "str" =some none) (z11:zN K "all" =some none) (z12:zN K "zip" =some none) (z13:zN K "max" =some none) (z14:zN K "min" =some none) (z15:zN K "any" =some none) (z16:zN K "abs" =some none) (z17:zN K "sum" =some none) (z18:zN K "enumerate" =some none) (z19:zN K "dict" =some none) (z20:zN K "ValueError" =some none)
  {cT cO:Addr}{cl:Nat->Addr}(x0:zN K "OnceError" =some (some (.ref cO))) (x1:zN K "TooMany" =some (some (.ref cT))) (x2:ExcK K cT) (x3:Above K cT cO) (x4:ExcIs K cT) (x5:∀i x,jDO[i]?=some x->PySem.W.nsIn K mainGlobals x=some (some (.ref (cl i)))) (x6:∀i,i<10->kitOne K (.ref cT) (.ref (cl i))=some (decide (i=9))) (x7:kitOne K (.ref cT) (.type "ValueError")=some true) {cc1:Addr}(cde1:cd6=.ref cc1) (hcd1:codeHdIn K cc1 tb1=true) {cc2:Addr}(cde2:cd12=.ref cc2) (hcd2:codeHdIn K cc2 tb2=true) {cc3:Addr}(cde3:cd18=.ref cc3) (hcd3:codeHdIn K cc3 tb3=true) {cc4:Addr}(cde4:cd19=.ref cc4) (hcd4:codeHdIn K cc4 tb4=true) {cc5:Addr}(cde5:cd20=.ref cc5) (hcd5:codeHdIn K cc5 tb5=true) {bmA:Addr}(xb1:zN K "__builtins__" =zr bmA) (xb2:K.lookup bmA=some ⟨.type "module",some builtinsNs,.plain,#[]⟩) (xb3:bmA≠builtinsNs) (xb4:bmA≠mainGlobals):
  ∃fd:FuncData,(∀(s:Shared) (v:Value),BindsTo s fd ⟨[v],[]⟩ [("script",v)])/\∀Aq:Heap,K.In Aq->Aq.Ns mainGlobals mg->FnOk l.prog w K mg Aq CX0 20 fa fd ["script"] (spLaw K tb1 tb2 tb3 tb4 tb5):=by
 have e:=hfa.symm.trans (g8 X G a30);cases e;have T:Txt mg:=⟨bu X G z1,bu X G z2,bu X G z3,bu X G z4,bu X G z5,bu X G z6,bu X G z7,bu X G z8,bu X G z9,bu X G z10,bu X G z11,bu X G z12,bu X G z13,bu X G z14,bu X G z15,bu X G z16,bu X G z17,bu X G z18,bu X G z19,bu X G z20⟩;have F1:=jZ (st:=jBN) l1 c1 k1;have F2:=jZ (st:=jAK) l2 c2 k2;have F3:=jZ (st:=jD6) l3 c3 k3;have F4:=jZ (st:=sMask) l4 c4 k4;have F5:=jZ (st:=jD5) l5 c5 k5;have F6:=jZ (st:=y9) l6 c6 k6;have b6:Binds K _ ["box","things","pieces"] []:=zb3 F6;have F7:=jZ (st:=yH) l7 c7 k7;have F8:=jZ (st:=sFull) l8 c8 k8;have F9:=jZ (st:=sAt) l9 c9 k9;have F10:=jZ (st:=sMet) l10 c10 k10;have F11:=jZ (st:=qQ) l11 c11 k11;have F12:=jZ (st:=qP) l12 c12 k12;have b12:Binds K _ ["choices"] []:=zb1 F12;have F13:=jZ (st:=sMany) l13 c13 k13;have F14:=jZ (st:=jB4) l14 c14 k14;have F15:=jZ (st:=jAW) l15 c15 k15;have F16:=jZ (st:=sBar) l16 c16 k16;have F17:=jZ (st:=jB3) l17 c17 k17;have F18:=jZ (st:=yZ) l18 c18 k18;have b18:Binds K _ ["things","holds"] []:=zb2 F18;have F19:=jZ (st:=y8) l19 c19 k19;have b19:Binds K _ ["box"] []:=zb1 F19;have F20:=jZ (st:=kY) l20 c20 k20;have b20:Binds K _ ["box"] []:=zb1 F20;have F21:=jZ (st:=sCell) l21 c21 k21;have F22:=jZ (st:=sPot) l22 c22 k22;have F23:=jZ (st:=sTake) l23 c23 k23;have F24:=jZ (st:=sLot) l24 c24 k24;have F25:=jZ (st:=sBox) l25 c25 k25;have F26:=jZ (st:=qR) l26 c26 k26;have F27:=jZ (st:=sCovs) l27 c27 k27;have F28:=jZ (st:=jAV) l28 c28 k28;have F29:=jZ (st:=sTold) l29 c29 k29;have F30:=jZ (st:=sLaw) l30 c30 k30;refine⟨PySem.W.fnOf "law" "law" (yC sLaw) (jE sLaw) (j8 sLaw) .none kV30 dc30 pm30 an30 cd30 ct30,λs v=> .of_eq rfl,λAq KB _=>?_⟩;have M:=λ{x:Str}{f:Addr}(a:PySem.W.nsIn K mainGlobals x=some (some (.ref f)))=>g8 X G a;have M':=λ{x:Str}{v:Value}(a:PySem.W.nsIn K mainGlobals x=some (some v))=>g8 X G a;have CD1:PySem.W.CodeHd Aq cc1 tb1:=dY KB hcd1;have FC1:FunC K "picked" "picked" y9 f6 _ cc1:=⟨_,_,_,_,_,_,_,_,rfl,cde1 ▸ l6,cde1 ▸ c6⟩;have CD2:PySem.W.CodeHd Aq cc2 tb2:=dY KB hcd2;have FC2:FunC K "ways_of" "ways_of" qP f12 _ cc2:=⟨_,_,_,_,_,_,_,_,rfl,cde2 ▸ l12,cde2 ▸ c12⟩;have CD3:PySem.W.CodeHd Aq cc3 tb3:=dY KB hcd3;have FC3:FunC K "least_lots" "least_lots" yZ f18 _ cc3:=⟨_,_,_,_,_,_,_,_,rfl,cde3 ▸ l18,cde3 ▸ c18⟩;have CD4:PySem.W.CodeHd Aq cc4 tb4:=dY KB hcd4;have FC4:FunC K "least_bars" "least_bars" y8 f19 _ cc4:=⟨_,_,_,_,_,_,_,_,rfl,cde4 ▸ l19,cde4 ▸ c19⟩;have CD5:PySem.W.CodeHd Aq cc5 tb5:=dY KB hcd5;have FC5:FunC K "least_mends" "least_mends" kY f20 _ cc5:=⟨_,_,_,_,_,_,_,_,rfl,cde5 ▸ l20,cde5 ▸ c20⟩;have BM:qO Aq mg:=⟨bmA,_,g8 X G xb1,xb3,xb4,KB _ _ xb2,rfl,rfl,rfl⟩;have KD:Kinds K mg cT cl (λi=>decide (i=9)):=⟨x4,λi x h=>M (x5 i x h),x6,x7⟩;have C1:Can l.prog w K mg Aq "is_whole" 1 f1 _ ["thing"] spWh:=⟨jNC F1 T,M a1,k1,(zb1 F1)⟩;have C2:Can l.prog w K mg Aq "is_rising" 2 f2 _ ["thing"] (spB risB):=⟨jND F2 T C1,M a2,k2,(zb1 F2)⟩;have C3:Can l.prog w K mg Aq "is_lot" 3 f3 _ ["thing","many"] (spB2 lotB):=⟨jQK F3 T C2,M a3,k3,(zb2 F3)⟩;have C4:Can l.prog w K mg Aq "mask_of" 1 f4 _ ["lot"] jH5:=⟨jTU F4 T,M a4,k4,(zb1 F4)⟩;have C5:Can l.prog w K mg Aq "lot_of" 1 f5 _ ["mask"] jFX:=⟨jQJ F5 T,M a5,k5,(zb1 F5)⟩;have C6:Can l.prog w K mg Aq "picked" 2 f6 _ ["box","things","pieces"] (jDJ tb1):=⟨jNE FC1 T CD1 BM,M a6,k6,b6⟩;have C7:Can l.prog w K mg Aq "choices_of" 2 f7 _ ["box"] jBZ:=⟨jLP F7 T C4,M a7,k7,(zb1 F7)⟩;have C8:Can l.prog w K mg Aq "full_mask" 1 f8 _ ["choices"] jF7:=⟨jTX F8 T,M a8,k8,(zb1 F8)⟩;have C9:Can l.prog w K mg Aq "choices_at" 1 f9 _ ["choices","mask"] spAt:=⟨ok_at F9 T,M a9,k9,(zb2 F9)⟩;have C10:Can l.prog w K mg Aq "masks_met" 2 f10 _ ["choices"] spMet:=⟨jW0 F10 T C8 C9,M a10,k10,(zb1 F10)⟩;have C11:Can l.prog w K mg Aq "gathered" 4 f11 _ ["choices","at_end","join"] jIQ:=⟨FnOk.ex λx o=>(jTW F11 T C8 C10 C9 ((jW5 o T).mono Ac) ZT.st (zhW.ok _ _) (RWay.ok _) o).ok,M a11,k11,(zb3 F11)⟩;have C12:Can l.prog w K mg Aq "ways_of" 5 f12 _ ["choices"] (jJX tb2):=⟨jTR FC2 T CD2 BM C11,M a12,k12,b12⟩;have C13:Can l.prog w K mg Aq "many" 6 f13 _ ["box"] (jJY tb2):=⟨jTV F13 T C7 C12,M a13,k13,(zb1 F13)⟩;have C14:Can l.prog w K mg Aq "have_common" 1 f14 _ ["one","other"] jBD:=⟨jNI F14 T,M a14,k14,(zb2 F14)⟩;have C15:Can l.prog w K mg Aq "narrowed" 4 f15 _ ["box","lot"] (jDL tb1):=⟨jNG F15 T C3 C6 C14,M a15,k15,(zb2 F15)⟩;have C16:Can l.prog w K mg Aq "is_bar" 7 f16 _ ["box","lot"] (spBar tb1 tb2):=⟨jW8 F16 C15 C13,M a16,k16,(zb2 F16)⟩;have C17:Can l.prog w K mg Aq "is_within" 1 f17 _ ["lot","other"] jBC:=⟨jNB F17 T,M a17,k17,(zb2 F17)⟩;have C18:Can l.prog w K mg Aq "least_lots" 9 f18 _ ["things","holds"] (λ_ _ _ _=>False):=⟨FnOk.never,M a18,k18,b18⟩;have C19:CanX cT l.prog w K mg Aq "least_bars" 10 f19 _ ["box"] (spBX tb1 tb2 tb3 tb4):=⟨FnOk.or (jKD FC4 T CD4 BM (M' g1) (λcl i=>jG7 FC3 T CD3 BM C5 C17 (jNJ C16 cl i) (ZC.st _ _ _) (HIb.ok tb1 tb2 cl i) λH h=>h.1) (M a18) k18 b18).toX (jW3 (cde4 ▸ F19) T (M' g1) x2 (M x1)),M a19,k19,b19⟩;have C20:CanX cT l.prog w K mg Aq "least_mends" 11 f20 _ ["box"] (spMX tb1 tb2 tb3 tb4 tb5):=⟨FnOk.or (jQH FC5 T CD5 BM ⟨jKD FC4 T CD4 BM (M' g1) (λcl i=>jG7 FC3 T CD3 BM C5 C17 (jNJ C16 cl i) (ZC.st _ _ _) (HIb.ok tb1 tb2 cl i) λH h=>h.1) (M a18) k18 b18,M a19,k19,b19⟩ (λcl i=>jG7 FC3 T CD3 BM C5 C17 (jQI T C14 cl i) (ZC.st _ _ _) (HIm.ok cl i) λH h=>h.1) (M a18) k18 b18).toX (jW1 (cde5 ▸ F20) C19),M a20,k20,b20⟩;have C21:Can l.prog w K mg Aq "_law_cell_at" 1 f21 _ ["script","k"] (jMT K):=⟨jTZ F21 T,M a21,k21,(zb2 F21)⟩;have C22:Can l.prog w K mg Aq "_law_pot" 1 f22 _ ["cell"] spPot:=⟨jVZ F22 T,M a22,k22,(zb1 F22)⟩;have C23:Can l.prog w K mg Aq "_law_take" 1 f23 _ ["pot","wide"] yY:=⟨jTT F23,M a23,k23,(zb2 F23)⟩;have C24:Can l.prog w K mg Aq "_law_lot" 2 f24 _ ["pot","wide"] qN:=⟨jW2 F24 T C23,M a24,k24,(zb2 F24)⟩;have C25:Can l.prog w K mg Aq "_law_box" 3 f25 _ ["pot","most_things","most_pieces"] spBox:=⟨jW7 F25 T C23 C24,M a25,k25,(zb3 F25)⟩;have C26:Can l.prog w K mg Aq "_law_from" 18 f26 _ ["box","thing","held"] (jF8 16):=⟨jNH F26 T (M a26) k26 (zb3 F26) 16,M a26,k26,(zb3 F26)⟩;have C27:Can l.prog w K mg Aq "_law_coverings" 19 f27 _ ["box"] jMS:=⟨jTY F27 T C26,M a27,k27,(zb1 F27)⟩;have C28:CanS l.prog w K mg Aq "_law_others" 1 f28 _ ["e","own"] (jDK cT λi=>decide (i=9)):=⟨jNF F28 T KD,M a28,k28,(zb2 F28)⟩;have C29:Can l.prog w K mg Aq "_law_told" 12 f29 _ ["box"] (jMP tb1 tb2 tb3 tb4 tb5):=⟨jTS F29 T C19 C20 C28 (M x0) x3,M a29,k29,(zb1 F29)⟩;exact jW4 F30 ⟨T,C21,C22,C23,C24,C25,C27,C16,C29⟩
def kcl(i:Nat):Addr:=[162,90,174,150,126,186,78,114,138,102].getD i 0
def kcC(P:Params)(X:(kK P).In h):h.get? 102=some (excClassObj "TooMany" "TooMany" 102 101 [.ref 58] [.ref 58,.type "ValueError",.type "Exception",.type "BaseException",.type "object"] true [] [] false none none (some (.ref 93)) (none) (some (.str "TooMany" 291)) (some (.str "TooMany" 299)) (some (.bool true)) "ValueError.__new__"):=X 102 _ (by kernel_rfl)
def kesC(P:Params):Array DictEntry:=#[kE P "__module__" 298 (.str "eachonce.errors" 230),kE P "__firstlineno__" 302 (.int 35 301),kE P "__static_attributes__" 303 (.ref 100),kE P "__doc__" 304 (.none)]
def kNC(P:Params)(X:(kK P).In h):h.Ns 101 (nsFind (kesC P)):=⟨⟨.type "dict",none,.dict (kesC P) 2,#[]⟩,_,_,X 101 _ (by kernel_rfl),rfl,λe he=>by
  unfold kesC at he;simp only[List.mem_toArray,aB,bq,cL] at he;rcases he with rfl|rfl|rfl|rfl<;>exact⟨_,_,rfl⟩,λ_=>rfl⟩
def kcB(P:Params)(X:(kK P).In h):h.get? 58=some (excClassObj "OnceError" "OnceError" 58 57 [.type "ValueError"] [.type "ValueError",.type "Exception",.type "BaseException",.type "object"] true [] [.ref 78,.ref 90,.ref 102,.ref 114,.ref 126,.ref 138,.ref 150,.ref 162,.ref 174,.ref 186] false none none (some (.ref 49)) (none) (some (.str "OnceError" 232)) (some (.str "OnceError" 240)) (some (.bool true)) "ValueError.__new__"):=X 58 _ (by kernel_rfl)
def kesB(P:Params):Array DictEntry:=#[kE P "__module__" 239 (.str "eachonce.errors" 230),kE P "__firstlineno__" 243 (.int 26 242),kE P "__static_attributes__" 244 (.ref 56),kE P "__weakref__" 246 (.ref 59),kE P "__doc__" 247 (.none)]
def kNB(P:Params)(X:(kK P).In h):h.Ns 57 (nsFind (kesB P)):=⟨⟨.type "dict",none,.dict (kesB P) 3,#[]⟩,_,_,X 57 _ (by kernel_rfl),rfl,λe he=>by
  unfold kesB at he;simp only[List.mem_toArray,aB,bq,cL] at he;rcases he with rfl|rfl|rfl|rfl|rfl<;>exact⟨_,_,rfl⟩,λ_=>rfl⟩
def kx2(P:Params):ExcK (kK P) 102:=⟨"TooMany","TooMany",101,[.ref 58],[.ref 58,.type "ValueError",.type "Exception",.type "BaseException",.type "object"],true,[],[],false,none,none,some (.ref 93),none,some (.str "TooMany" 291),some (.str "TooMany" 299),some (.bool true),nsFind (kesC P),by kernel_rfl,by kernel_rfl,λh X=>⟨kcC P X,kNC P X,.own (kcB P X) (kNB P X) (by kernel_rfl) .base⟩⟩
def kx3(P:Params):Above (kK P) 102 58:=⟨"TooMany","TooMany","OnceError","OnceError",101,57,[.ref 58],[.ref 58,.type "ValueError",.type "Exception",.type "BaseException",.type "object"],[.type "ValueError"],[.type "ValueError",.type "Exception",.type "BaseException",.type "object"],true,true,[],[],[],[.ref 78,.ref 90,.ref 102,.ref 114,.ref 126,.ref 138,.ref 150,.ref 162,.ref 174,.ref 186],false,false,none,none,none,none,some (.ref 93),none,some (.str "TooMany" 291),some (.str "TooMany" 299),some (.bool true),some (.ref 49),none,some (.str "OnceError" 232),some (.str "OnceError" 240),some (.bool true),"ValueError.__new__","ValueError.__new__",by kernel_rfl,by kernel_rfl,λh X=>⟨kcC P X,kcB P X⟩⟩
def kx4(P:Params):ExcIs (kK P) 102:=⟨by kernel_rfl,by kernel_rfl,by kernel_rfl,by kernel_rfl,by kernel_rfl,by kernel_rfl,by kernel_rfl,by kernel_rfl⟩
def kx5(P:Params):∀i x,jDO[i]?=some x->PySem.W.nsIn (kK P) mainGlobals x=some (some (.ref (kcl i)))
 | 0,_,rfl | 1,_,rfl | 2,_,rfl | 3,_,rfl | 4,_,rfl | 5,_,rfl | 6,_,rfl | 7,_,rfl | 8,_,rfl | 9,_,rfl=>by kernel_rfl
 |_+10,_,h=>by cases h
theorem kx6(P:Params):∀i,i<10->kitOne (kK P) (.ref 102) (.ref (kcl i))=some (decide (i=9))
 | 0,_ | 1,_ | 2,_ | 3,_ | 4,_ | 5,_ | 6,_ | 7,_ | 8,_ | 9,_=>by kernel_rfl
 |_+10,h=>by lia
def kx7(P:Params):kitOne (kK P) (.ref 102) (.type "ValueError")=some true:=by kernel_rfl
theorem walk{l:PySem.W.OpenLaw}{q:Program}{loose:Am}{XP:(Ak)->Heap->Prop}{YP:World->Heap->Prop}{d:DefRec}{K:Params->W.Frag}(hn:l.most=some 63)(hdf:d.params.defaults=[]){tb1 tb2 tb3 tb4 tb5:Addr}{cc1 cc2 cc3 cc4 cc5:Addr}
  (hY:∀(w:World) (h:Heap),YP w h->(K w.params).In h/\∀T∈[tb1,tb2,tb3,tb4,tb5],h.get? T=some (tabObj #[])) (hcd:∀w:World,codeHdIn (K w.params) cc1 tb1=true/\codeHdIn (K w.params) cc2 tb2=true/\codeHdIn (K w.params) cc3 tb3=true/\codeHdIn (K w.params) cc4 tb4=true/\codeHdIn (K w.params) cc5 tb5=true) (hKT:∀w:World,∀T∈[tb1,tb2,tb3,tb4,tb5],(K w.params).lookup T=none) (hnd:([tb1,tb2,tb3,tb4,tb5]:List Addr).Nodup)
  (F:∀(w:World) (mg:Ak) (fa:Addr) (h:Heap),(K w.params).In h->h.Ns mainGlobals mg->mg d.name=some (.ref fa)->
   ∃fd:FuncData,(∀(s:Shared) (u:Value),BindsTo s fd ⟨[u],[]⟩ [("script",u)])/\∀Aq:Heap,(K w.params).In Aq->Aq.Ns mainGlobals mg->FnOk l.prog w (K w.params) mg Aq CX0 20 fa fd ["script"] (spLaw (K w.params) tb1 tb2 tb3 tb4 tb5)):
  PySem.W.WalkO q loose XP YP l.row.toRowW d [] (λf vs=>PySem.call f vs):=
 L2.walk_ofTs (cts:=[(cc1,tb1),(cc2,tb2),(cc3,tb3),(cc4,tb4),(cc5,tb5)]) (n:=63) (k:=20) (x:= "script") (CX:=λ_=>CX0) (sp:=λw=>spLaw (K w.params) tb1 tb2 tb3 tb4 tb5) hn Ac hdf ⟨rfl,Ac,Ac⟩ hY (λw p hp=>by
  obtain⟨_h0,_h1,_h2,_h3,_h4⟩:=hcd w;simp only[aB,bq,cL] at hp;rcases hp with rfl|rfl|rfl|rfl|rfl<;>assumption) hKT F (λ_ H a ns hl hT hS=>⟨a,ns,rfl,hS,hl,.inl (hT _ ai),.inl (hT _ (ah _ ai)),.inl (hT _ (ah _ (ah _ ai))),.inl (hT _ (ah _ (ah _ (ah _ ai)))),.inl (hT _ (ah _ (ah _ (ah _ (ah _ ai))))),(by rintro rfl;simp at hnd),(by rintro rfl;simp at hnd),(by rintro rfl;simp at hnd),(by rintro rfl;simp at hnd),(by rintro rfl;simp at hnd),(by rintro rfl;simp at hnd),(by rintro rfl;simp at hnd),(by rintro rfl;simp at hnd),(by rintro rfl;simp at hnd),(by rintro rfl;simp at hnd),λ_=>rfl⟩) λ_ _ _ _ _ z=>z
end Eo
open PySem PySem.W PyProof.Rows
set_option maxRecDepth 100000 in
set_option maxHeartbeats 0 in
theorem PySem.Challenge.cw_eachonce_k68_bars_of_many_things_holds : PySem.Challenge.rw_eachonce_k68_bars_of_many_things.Holds := by
 w_on
 refine holds_law Ab λsaid=>?_;refine holds_open (q:=Eo.vw) (loose:=[]) (Xt:=λs=>xlAt Eo.vw [] s&&recOk (RowW.records (OpenRow.toRowW PySem.Challenge.rw_eachonce_k68_bars_of_many_things.row)) s) (XP:=XL Eo.vw []) (Yf:=Hook.obs Eo.kH) (Ya:=Hook.val Eo.kH) (YP:=Hook.says Eo.kH) (N:=7100) Eo.left (Hook.of Eo.kH) (Hook.keeps Eo.kH) (λs e=>xl_of s (dW.mp e).1) XL.keeps (by rfl) (by rfl) (by rfl) (λs e=>recFacts_of (dW.mp e).2) rfl said Ab ⟨rfl,rfl,rfl,rfl,rfl,Ab⟩ ?hw ?hc
 case hw=>w_witness2
 refine Eo.walk (l:=PySem.Challenge.rw_eachonce_k68_bars_of_many_things) (K:=Eo.kK) rfl rfl (tb1:=45) (cc1:=47) (tb2:=219) (cc2:=223) (tb3:=255) (cc3:=257) (tb4:=260) (cc4:=264) (tb5:=267) (cc5:=271) (λw h Y=>⟨PySem.W.km_in_of Y,PySem.W.km_tabs_of Y⟩) (λw=>⟨by kernel_rfl,by kernel_rfl,by kernel_rfl,by kernel_rfl,by kernel_rfl⟩) (λw T hm=>by
   simp only[aB,bq,cL] at hm;rcases hm with rfl|rfl|rfl|rfl|rfl<;>kernel_rfl) Ac ?F
 case F=>
  intro w mg fa h KX G hmg
  k_fill
  refine' Eo.all_mk KX G hmg _ _ _ _ _ _ _ _ _ _ _ _ _ _ _ _ _ _ _ _ _ _ _ _ _ _ _ _ _ _ _ _ _ _ _ _ _ _ _ _ _ _ _ _ _ _ _ _ _ _ _ _ _ _ _ _ _ _ _ _ _ _ _ _ _ _ _ _ _ _ _ _ _ _ _ _ _ _ _ _ _ _ _ _ _ _ _ _ _ _ _ _ _ _ _ _ _ _ _ _ _ _ _ _ _ _ _ _ _ _ _ _ _ _ _ _ _ _ _ _ _ _ _ _ _ _ _ _ _ _ _ _ _ _ _ _ _ _ _ _ _ _ _ (Eo.kx2 _) (Eo.kx3 _) (Eo.kx4 _) (Eo.kx5 _) (Eo.kx6 _) (Eo.kx7 _) (tb1:=45) rfl (by kernel_rfl) (tb2:=219) rfl (by kernel_rfl) (tb3:=255) rfl (by kernel_rfl) (tb4:=260) rfl (by kernel_rfl) (tb5:=267) rfl (by kernel_rfl) (bmA:=4) (by kernel_rfl) (by kernel_rfl) Ac Ac
  all_goals ((try delta Eo.zN);(try delta Eo.zr);(try delta Eo.zl);(try delta Eo.zc);(try delta Eo.zk);try k_is)
end
