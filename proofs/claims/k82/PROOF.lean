import PyProof.Rows.All
import Wide.All
import OpenK.AllK
import Wide.FinOn
import PyProof.EqAt
import PyProof.EqKinds
import PyProof.TupleCall
import Lean
import PySem.SetOps
import PyProof.SetKind
import PyProof.DictKinds
import PyProof.CompMap
import PyProof.WalksS
import PyProof.Walks
import PyProof.CollectWalk
import PyProof.FactsAll.set_1
import PyProof.SetNew
import PyProof.Rows.SetFrom
import PyProof.ZipIter
import PyProof.Rows.SortShell
import PyProof.Rows.SortWalk
import PyProof.NeKinds
import PyProof.SumWalkG
import PyProof.RangeIter
import PyProof.StationsW
import PyProof.ExcClass3
import PyProof.ExcBaseAll.ValueError
import PyProof.ExcAttrAll.ValueError
import PyProof.Rows.CatchOwn
import KE.KIsAll
import PyProof.NsDelKeeps
import KE.KNestM
import PyProof.EnumMake
import KE.KDictOf
import PyProof.AttrMiss
import PyProof.IsiH_list
import PyProof.FactsAll.tuple_3
import PyProof.TupleOfStr
import PyProof.ListRange
import PyProof.SeqI3
import KE.KLam
import PyProof.Rows.SortRuns
import PyProof.Rows.SortRev
import PyProof.Rows.RuleM_int
import KE.KSortTup
import KE.KSortKey
import PySem.Challenge.RW_eachonce_k82_whole_side_by_side
set_option Elab.async false
set_option linter.all false
set_option maxRecDepth 100000
theorem Aa {p:Prop}(h:p:=by lia):p:=h
theorem Ab {p:Prop}(h:p:=by decide+kernel):p:=h
theorem Ac {p:Prop}(h:p:=by decide):p:=h
theorem Ad {p:Prop}(h:p:=by simp):p:=h
abbrev Ae:=List (List Int×Int)
abbrev Af:=List (List Int)
abbrev Ag:=List Int
abbrev Ah:=PySem.Value->PySem.Shared->Prop
abbrev Ai:=List (PySem.Addr×PySem.Obj)
abbrev Aj:=List (PySem.Str×PySem.Addr)
abbrev Ak:=PySem.Str->Option PySem.Value
abbrev Am:=List PySem.Value
abbrev An:=List PySem.Str
abbrev Ao:=Array PySem.Value
abbrev Ap:=Option PySem.Value
def ae:=@PySem.wpAny_bind
def af:=@List.length_map
def ag:=@List.mem_cons_of_mem
def ah:=@PySem.Heap.get?_push_of_some
def ai:=@List.mem_cons_self
def aj:=@PySem.wpAny_pure
def ak:=@if_neg
def am:=@List.getD_eq_getElem?_getD
def ao:=@List.getElem?_eq_some_iff
def aq:=@if_pos
def ar:=@decide_eq_true
def aw:=@List.mem_map
def ay:=@Bool.false_ne_true
def az:=@List.size_toArray
def aA:=@Nat.le_refl
def aB:=@List.mem_append_right
def aC:=@List.getElem?_eq_getElem
def aE:=@PySem.sizeLine_eq
def aF:=@PySem.Heap.get?_push_size
def aG:=@of_decide_eq_true
def aH:=@List.mem_of_getElem?
def aI:=@List.mem_cons
def aJ:=@List.mem_append
def aK:=@PySem.Heap.lt_size
def aL:=@List.length_append
def aM:=@decide_eq_false
def aN:=@List.mem_singleton
def aO:=@PyProof.Rows.wpS_bind
def aP:=@Array.length_toList
def aQ:=@PyProof.Rows.wpS_pure
def aR:=@List.mem_filter
def aS:=@List.map_append
def aU:=@List.length_cons
def aV:=@List.getElem?_map
def aW:=@Nat.ne_of_lt
def aX:=@Nat.lt_of_lt_of_le
def aY:=@List.mem_append_left
def aZ:=@List.append_assoc
def be:=@List.take_add_one
def bf:=@List.append_nil
def bg:=@List.map_cons
def bh:=@List.getElem?_of_mem
def bi:=@List.getElem?_append_right
def bq:=@List.take_length
def br:=@decide_eq_true_iff
def bu:=@List.pairwise_map
def bv:=@Nat.le_trans
def bw:=@Nat.zero_le
def bz:=@Int.toNat_natCast
def bA:=@PySem.W.mg_none_of
def bB:=@List.map_map
def bC:=@List.length_take_le
def bD:=@Option.some.inj
def bE:=@PySem.Heap.get?_update_other
def bF:=@Nat.two_pow_pos
def bG:=@Array.toList_append
def bH:=@List.not_mem_nil
def bI:=@List.map_congr_left
def bJ:=@List.mem_map_of_mem
def bK:=@List.mem_range
def bL:=@Bool.and_eq_true
def bM:=@List.take_append_drop
def bN:=@List.filter_append
def bO:=@List.length_take
def bP:=@List.lookup_cons
def bQ:=@List.pairwise_iff_getElem
def bR:=@Classical.byContradiction
def bS:=@List.length_filter_le
def bU:=@List.all_eq_true
def bV:=@List.mem_of_mem_take
def bW:=@congrArg
def bX:=@PySem.wpAny_holding
def bY:=@Array.getElem?_toList
def bZ:=@Bool.eq_iff_iff
def b7:=@List.getElem?_append_left
def b8:=@Nat.testBit_or
def b9:=@List.take_of_length_le
def ce:=@List.nodup_cons
def cf:=@PySem.mem_of_lookup
def cg:=@List.pairwise_append
def ci:=@PyProof.Rows.wpS_forRange
def cj:=@Nat.pow_le_pow_right
def ck:=@Bool.eq_false_iff
def cm:=@PySem.wpAny_mono
def cn:=@List.idxOf_lt_length_iff
def cq:=@Nat.add_sub_cancel_left
def cr:=@Array.perm_iff_toList_perm
def cw:=@PySem.F.plainAttrs_list
def cx:=@List.length_range
def cy:=@List.mem_of_mem_drop
def cz:=@PySem.Around.under_plainId
def cA:=@List.length_nil
def cB:=@PySem.codeAny_builtin
def cC:=@PySem.PassesOwn.never
def cD:=@List.getElem?_take_of_lt
def cE:=@PySem.wpAny_call_entry
def cF:=@List.countP_cons
def cG:=@beq_eq_false_iff_ne
def cH:=@Bool.not_eq_true'
def cI:=@Nat.testBit_two_pow_sub_one
def cJ:=@Nat.eq_of_testBit_eq
def cK:=@PySem.W.kia_one
def cL:=@PySem.wpAny_loadPart'
def cM:=@Int.le_of_lt
def cN:=@List.filter_cons
def cO:=@Nat.testBit_two_pow
def cP:=@Nat.ne_of_gt
def cQ:=@PySem.wpAny_Call_Name_kw
def cR:=@List.pairwise_cons
def cS:=@PySem.wpAny_setField_rec
def cU:=@List.getElem_mem
def cV:=@PySem.wpAny_callSpecial?_slot
def cW:=@Array.toArray_toList
def cX:=@Int.le_refl
def cY:=@Nat.le_of_lt
def cZ:=@PySem.wpAny_newObj_type
def da:=@Nat.lt_succ_of_lt
def db:=@PySem.wpAny_rule
def de:=@Int.le_trans
def df:=@Nat.mod_two_eq_zero_or_one
def dh:=@List.getElem?_range
def di:=@Nat.testBit_and
def dq:=@List.Perm.append_left
def dr:=@or_false
def dv:=@List.getElem?_eq_none
def dw:=@PySem.Around.in1_units
def dy:=@Nat.zero_testBit
def dz:=@Nat.lt_irrefl
def dC:=@Bool.false_and
def dD:=@Bool.and_false
def dE:=@Nat.le_succ
def dF:=@PyProof.Rows.wpS_mono
def dG:=@Array.toList_reverse
def dH:=@List.eq_nil_of_length_eq_zero
def dI:=@PySem.wpAny_truthy_bool
def dJ:=@PySem.wpAny_pyIter_list
def dL:=@PySem.wpAny_setState_of
def dM:=@List.flatMap_cons
def dN:=@List.of_mem_zip
def dO:=@PySem.W.codeHd_of_K
def dP:=@List.filter_sublist
def dQ:=@Int.toNat_of_nonneg
def dR:=@PyProof.Rows.callWith_type1
def dS:=@PySem.codeAny_mono
def dU:=@Nat.lt_or_ge
def dW:=@List.any_eq_true
def dX:=@List.zip_cons_cons
def dY:=@List.exists_cons_of_ne_nil
def dZ:=@PySem.Heap.get?_update_self
def d0:=@List.perm_append_comm
def eg:=@List.extract_eq_take_drop
def eh:=@PySem.wpAny_passesOwn
def ek:=@List.find?_cons
def ev:=@Ne.symm
def eC:=@List.take_sublist
def eD:=@Array.toList_push
def eE:=@PySem.wpAny_field
def eF:=@Array.getElem_toList
def eG:=@PySem.wpAny_attempt
def eI:=@PySem.wpAny_newList
def eJ:=@PyProof.Rows.listUpdate_at
def eL:=@Bool.true_and
def eM:=@List.sublist_append_left
def eO:=@List.filterMap_cons
def eQ:=@List.getElem_of_mem
def eR:=@PySem.Heap.size_push
def eS:=@PySem.F.plain_list_iadd
def eT:=@decide_eq_false_iff_not
def eU:=@Nat.testBit_two_pow_mul
def eV:=@PySem.sizeLine_eq
def eW:=@PySem.SeqAt.EqAt.int_int
def eX:=@Nat.lt_trans
def eY:=@PyProof.Rows.wpS_modify
def eZ:=@Nat.not_lt_zero
def fb:=@Bool.or_eq_true
def fe:=@PySem.wpAny_standAt
def ff:=@List.all_cons
def fg:=@PySem.plainId_quiet
def fh:=@List.nodup_append
def fj:=@List.getElem?_inj
def fm:=@PySem.Calls.evalArgs_plain
def fo:=@Array.toList_extract
def fq:=@beq_iff_eq
def fw:=@List.perm_ext_iff_of_nodup
def fz:=@PySem.wpAny_askSetting
def fJ:=@Nat.testBit_zero
def fQ:=@List.flatMap_map
def fU:=@PySem.Calls.call_function_entry
def fY:=@List.getLastD_eq_getLast?
def fZ:=@List.getLast?_eq_getElem?
def ga:=@List.reverse_append
def gb:=@Nat.mul_le_mul_left
def gc:=@PySem.Paired.length
def gd:=@PySem.F.args_tuple_add_2
def gf:=@PySem.F.slot_list_append
def gh:=@PySem.F.type_list_append
def gj:=@PyProof.Rows.entry_list_sort
def gm:=@PyProof.Rows.get?_update_seq
def gq:=@Int.natCast_nonneg
def gt:=@PySem.tupleKind_room_in1
def gu:=@of_decide_eq_false
def gw:=@List.getElem_idxOf
def gx:=@PySem.F.entry_tuple_add
def gy:=@List.length_eq_zero_iff
def gz:=@List.pairwise_singleton
def gA:=@PySem.W.cellsFrom_some
def gB:=@PySem.F.slot_tuple_add
def gC:=@Nat.lt_trichotomy
def gE:=@Option.some.injEq
def gF:=@PyProof.Rows.slot_list_sort
def gG:=@Bool.or_true
def gH:=@PyProof.Rows.listItems_at
def gI:=@PyProof.Rows.wpS_get
def gJ:=@List.Perm.append_right
def gL:=@Nat.sub_self
def gM:=@Nat.testBit_lt_two_pow
def gN:=@List.pairwise_lt_range
def gO:=@Nat.testBit_eq_decide_div_mod_eq
def gP:=@List.flatMap_singleton
def gQ:=@PySem.F.slot_tuple_lt
def gR:=@List.length_singleton
def gS:=@PySem.builtinLookup_eq_fast
def gU:=@PySem.wpAny_load
def gW:=@List.length_drop
def gX:=@PySem.call_meets
def gY:=@PyProof.Rows.size_push'
def gZ:=@PySem.Heap.size_update
def g0:=@decide_eq_decide
def g4:=@List.eq_nil_iff_forall_not_mem
def g5:=@if_true
def g6:=@List.any_cons
def g7:=@PySem.W.mg_of
def g8:=@Bool.false_or
def g9:=@List.sum_cons
def hG:=@Sum.inl.inj
def hV:=@Nat.pow_lt_pow_right
def h9:=@PyProof.Rows.wpS_lift
def ic:=@Bool.and_eq_true_iff
def ie:=@List.map_id
def ig:=@Bool.or_eq_false_iff
def ik:=@PySem.wpAny_execs_nil
def im:=@List.nil_append
def io:=@List.range_succ
def iq:=@PySem.Heap.SameBut.update
def ir:=@PySem.W.callWith_of
def iu:=@List.map_nil
def iw:=@PySem.F.plain_proto_collect
def ix:=@PyProof.Rows.plain_sorted
def iy:=@PyProof.Rows.entry_sorted
def iA:=@List.all_map
def iB:=@getElem?_pos
def iC:=@PySem.F.slot_int_bit_length
def iE:=@PySem.F.type_int_bit_length
def iF:=@Nat.testBit_two_pow_mul_add
def iG:=@PySem.Calls.Name_function_global
def iH:=@Int.fdiv_eq_ediv_of_nonneg
def iI:=@PySem.wpAny_call
def iJ:=@PySem.wpAny_newFunctionEnv_cells
def iK:=@PySem.wpAny_runValue
def iM:=@List.drop_drop
def iN:=@List.getElem?_drop
def iP:=@List.take_zero
def iQ:=@Array.toList_setIfInBounds
def iR:=@Bool.false_eq_true
def iS:=@List.drop_sublist
def iT:=@PyProof.Rows.kind_sorted
def iU:=@Option.isSome_map
def iV:=@PyProof.Rows.seqEpoch_at
def iW:=@bne_self_eq_false
def iX:=@Nat.or_lt_two_pow
def iY:=@decide_eq_true_eq
def iZ:=@Nat.pow_add
def i4:=@List.Sublist.refl
def i5:=@List.filter_congr
def i6:=@List.Pairwise.imp_of_mem
def i7:=@List.getElem?_replicate
def i8:=@PySem.F.args_tuple_lt_2
def i9:=@PySem.noFill_tuple_add
def ja:=@if_false
def jc:=@List.cons_append
def jd:=@PySem.wpAny_isInstance
def jf:=@List.pairwise_mergeSort
def jg:=@PySem.F.slot_list_count
def jh:=@PySem.F.type_list_count
def ji:=@Nat.le_mul_of_pos_right
def jk:=@List.getElem?_set_self
def jl:=@PySem.F.entry_tuple_lt
def jm:=@Nat.add_comm
def jn:=@PySem.Walks.list
def jo:=@PySem.wpAny_typeOf
def jp:=@Nat.add_zero
def jq:=@List.drop_eq_nil_of_le
def jr:=@Int.zero_add
def jt:=@PySem.F.plainAttrs_int
def ju:=@List.filter_eq_nil_iff
def jw:=@PySem.typeLookup_type
def jx:=@PySem.Heap.DictOf.new
def jy:=@PySem.W.keeps_F
def jz:=@List.Perm.of_eq
def ka:=@Array.Perm.refl
def ke:=@List.length_zip
def kf:=@List.filter_nil
def kg:=@and_congr_right
def kh:=@List.length_replicate
def ki:=@PySem.F.slot_set_iter
def kj:=@List.set_append_right
def kn:=@List.getElem?_set_ne
def ko:=@List.nodup_nil
def kq:=@PySem.isSubtype_type
def ku:=@PySem.wpAny_newTuple
def kx:=@List.drop_zero
def kz:=@List.reverse_reverse
def la:=@List.mergeSort_perm
def lb:=@List.flatMap_append
def lc:=@List.length_flatMap
def lg:=@List.filter_eq_self
def lh:=@Bool.not_true
def lj:=@List.map_take
def ln:=@Array.append_assoc
def lu:=@List.mem_filterMap
def lv:=@PySem.W.callWith_K
def lw:=@PySem.W.codeRec_of
def ly:=@Nat.lt_of_le_of_lt
def lz:=@not_or
def lA:=@Array.empty_append
def lC:=@Int.emod_lt_of_pos
def lE:=@Nat.and_one_is_mod
def lF:=@Int.natAbs_natCast
def lG:=@List.any_map
open PySem.W (codeHdIn envX findIn fnMade instObj keepIn kitOne kitx_dict kitx_list kla_obj lookIn methodObj mg_of mroIn plainGet tabObj)
open Nat (strongRecOn)
open Array (size_map)
open Option (getD_none map_some)
namespace L2
open PySem PySem.Spec PyProof.Rows
def y8 (s:Stmt):Arguments:=match s with
 | .FunctionDef _ a _ _ _ _ _ _ _ _=>a
 | _=> { posonlyargs:=[],args:=[],vararg:=none,kwonlyargs:=[],kw_defaults:=[],kwarg:=none,defaults:=[]}
def jC (s:Stmt):List Stmt:=match s with
 | .FunctionDef _ _ b _ _ _ _ _ _ _=>b
 | _=> []
def j7 (s:Stmt):Scope:=match s with
 | .FunctionDef _ _ _ _ _ _ sc _ _ _=>sc
 | _=> { kind:= .function,names:=[],isGenerator:=false,isCoroutine:=false}
end L2
namespace Eo
open PySem L2
def top (i:Nat):Stmt:=PySem.Challenge.pw_eachonce_k82_whole_side_by_side.main.body.getD i (.Pass ⟨0,0,0,0⟩)
abbrev jC0:Stmt:=top 1
abbrev jAM:Stmt:=top 2
abbrev jDI:Stmt:=top 3
abbrev sMask:Stmt:=top 4
abbrev jDH:Stmt:=top 5
abbrev y9:Stmt:=top 9
abbrev jDG:Stmt:=top 15
abbrev sSide:Stmt:=top 16
abbrev sCov:Stmt:=top 18
abbrev yH:Stmt:=top 19
abbrev sFull:Stmt:=top 20
abbrev sAt:Stmt:=top 21
abbrev sMet:Stmt:=top 22
abbrev qS:Stmt:=top 23
abbrev qP:Stmt:=top 24
abbrev sMany:Stmt:=top 25
abbrev jB5:Stmt:=top 28
abbrev jAW:Stmt:=top 29
abbrev sBar:Stmt:=top 30
abbrev jB4:Stmt:=top 31
abbrev yU:Stmt:=top 32
abbrev yJ:Stmt:=top 33
abbrev yT:Stmt:=top 35
abbrev sCell:Stmt:=top 37
abbrev sPot:Stmt:=top 38
abbrev sTake:Stmt:=top 39
abbrev sLot:Stmt:=top 40
abbrev sBox:Stmt:=top 41
abbrev qT:Stmt:=top 42
abbrev sCovs:Stmt:=top 43
abbrev sLaw:Stmt:=top 44
def kC (x:Str)(t:Nat)(l n:Int)(a:Nat)(X Y:Value)(z:Nat)(u:Int)(v:Nat):Obj:=⟨.type "code",none, .fields #[.str x t, .str x (t+1), .str "/claim/cut.py" (t+2), .int l 0, .int n 0, .int 0 0, .int 0 0, .int 3 0, .ref a, .bool true, .int 181 0, .ref (a+1), .none,X,Y, .ref z, .int u 0, .int l 0, .str "/claim/cut.py" v],#[]⟩
def kF (x:Str)(s:Stmt)(m:Str)(t c:Nat):Obj:=⟨.type "function",none, .func (PySem.W.fnOf x x (y8 s) (jC s) (j7 s) .none .none .none (.str m t) none (.ref c) .none),#[]⟩
def kM (P:Params):Obj:=
 let e (x:Str) (t:Nat) (v:Value):DictEntry:=⟨PyData.keyHash P x, .str x t,v⟩
 ⟨.type "dict",none, .dict #[e "__name__" 165 (.str "law_eachonce_k82_whole_side_by_side" 416),e "__doc__" 166 (.none),e "__package__" 167 (.none),e "__loader__" 168 (.builtin "__main__.__loader__#opaque"),e "__spec__" 169 (.none),e "__annotations__" 170 (.ref 6),e "__builtins__" 171 (.ref 4),e "__file__" 173 (.str "/claim/cut.py" 172),e "__cached__" 174 (.none),e "is_whole" 195 (.ref 21),e "is_rising" 201 (.ref 26),e "is_lot" 209 (.ref 33),e "mask_of" 215 (.ref 38),e "lot_of" 221 (.ref 43),e "MOST_THINGS" 225 (.int 16 224),e "MOST_PIECES" 227 (.int 32 226),e "picked" 233 (.ref 48),e "OnceError" 253 (.ref 58),e "TooMany" 269 (.ref 71),e "NoThing" 285 (.ref 83),e "moved_on" 293 (.ref 90),e "side_by_side" 299 (.ref 95),e "is_covering" 307 (.ref 100),e "choices_of" 313 (.ref 105),e "full_mask" 320 (.ref 112),e "choices_at" 326 (.ref 117),e "masks_met" 339 (.ref 124),e "gathered" 345 (.ref 129),e "ways_of" 352 (.ref 136),e "many" 359 (.ref 143),e "MOST_THINGS_WITH_BARS" 363 (.int 9 362),e "have_common" 369 (.ref 148),e "narrowed" 375 (.ref 153),e "is_bar" 383 (.ref 160),e "is_within" 389 (.ref 165),e "least_lots" 395 (.ref 170),e "least_bars" 403 (.ref 177),e "lightest" 415 (.ref 184),e "_law_cell_at" 425 (.ref 191),e "_law_pot" 435 (.ref 198),e "_law_take" 444 (.ref 205),e "_law_lot" 450 (.ref 210),e "_law_box" 456 (.ref 215),e "_law_from" 462 (.ref 220),e "_law_coverings" 468 (.ref 225),e "law" 474 (.ref 230)] 46,#[]⟩
def kK (P:Params):W.Frag:=(nat_lit 3,kM P)::(nat_lit 4,⟨.type "module",some 0, .plain,#[]⟩)::(nat_lit 20,kC "is_whole" 189 2 1 15 (.ref 17) (.ref 18) 19 193 194)::(nat_lit 21,kF "is_whole" jC0 "eachonce.kinds" 187 20)::(nat_lit 25,kC "is_rising" 196 4 1 22 (.none) (.none) 24 199 200)::(nat_lit 26,kF "is_rising" jAM "eachonce.kinds" 187 25)::(nat_lit 32,kC "is_lot" 202 10 2 27 (.ref 29) (.ref 30) 31 207 208)::(nat_lit 33,kF "is_lot" jDI "eachonce.kinds" 187 32)::(nat_lit 37,kC "mask_of" 210 14 1 34 (.none) (.none) 36 213 214)::(nat_lit 38,kF "mask_of" sMask "eachonce.kinds" 187 37)::(nat_lit 42,kC "lot_of" 216 16 1 39 (.none) (.none) 41 219 220)::(nat_lit 43,kF "lot_of" jDH "eachonce.kinds" 187 42)::(nat_lit 47,kC "picked" 228 21 3 44 (.none) (.none) 46 231 232)::(nat_lit 48,kF "picked" y9 "eachonce.boxes" 222 47)::(nat_lit 89,kC "moved_on" 288 35 2 86 (.none) (.none) 88 291 292)::(nat_lit 90,kF "moved_on" jDG "eachonce.changes" 286 89)::(nat_lit 94,kC "side_by_side" 294 37 2 91 (.none) (.none) 93 297 298)::(nat_lit 95,kF "side_by_side" sSide "eachonce.changes" 286 94)::(nat_lit 99,kC "is_covering" 302 44 2 96 (.none) (.none) 98 305 306)::(nat_lit 100,kF "is_covering" sCov "eachonce.coverings" 300 99)::(nat_lit 104,kC "choices_of" 308 51 1 101 (.none) (.none) 103 311 312)::(nat_lit 105,kF "choices_of" yH "eachonce.coverings" 300 104)::(nat_lit 111,kC "full_mask" 314 56 1 106 (.ref 108) (.ref 109) 110 318 319)::(nat_lit 112,kF "full_mask" sFull "eachonce.coverings" 300 111)::(nat_lit 116,kC "choices_at" 321 58 2 113 (.none) (.none) 115 324 325)::(nat_lit 117,kF "choices_at" sAt "eachonce.coverings" 300 116)::(nat_lit 123,kC "masks_met" 327 61 1 118 (.ref 120) (.ref 121) 122 337 338)::(nat_lit 124,kF "masks_met" sMet "eachonce.coverings" 300 123)::(nat_lit 128,kC "gathered" 340 73 3 125 (.none) (.none) 127 343 344)::(nat_lit 129,kF "gathered" qS "eachonce.coverings" 300 128)::(nat_lit 135,kC "ways_of" 346 82 1 130 (.ref 132) (.ref 133) 134 350 351)::(nat_lit 136,kF "ways_of" qP "eachonce.coverings" 300 135)::(nat_lit 142,kC "many" 353 84 1 137 (.ref 139) (.ref 140) 141 357 358)::(nat_lit 143,kF "many" sMany "eachonce.coverings" 300 142)::(nat_lit 147,kC "have_common" 364 88 2 144 (.none) (.none) 146 367 368)::(nat_lit 148,kF "have_common" jB5 "eachonce.bars" 360 147)::(nat_lit 152,kC "narrowed" 370 90 2 149 (.none) (.none) 151 373 374)::(nat_lit 153,kF "narrowed" jAW "eachonce.bars" 360 152)::(nat_lit 159,kC "is_bar" 376 94 2 154 (.ref 156) (.ref 157) 158 381 382)::(nat_lit 160,kF "is_bar" sBar "eachonce.bars" 360 159)::(nat_lit 164,kC "is_within" 384 96 2 161 (.none) (.none) 163 387 388)::(nat_lit 165,kF "is_within" jB4 "eachonce.bars" 360 164)::(nat_lit 169,kC "least_lots" 390 98 2 166 (.none) (.none) 168 393 394)::(nat_lit 170,kF "least_lots" yU "eachonce.bars" 360 169)::(nat_lit 176,kC "least_bars" 396 104 1 171 (.ref 173) (.ref 174) 175 401 402)::(nat_lit 177,kF "least_bars" yJ "eachonce.bars" 360 176)::(nat_lit 183,kC "lightest" 406 109 1 178 (.ref 180) (.ref 181) 182 413 414)::(nat_lit 184,kF "lightest" yT "eachonce.lightest" 404 183)::(nat_lit 190,kC "_law_cell_at" 418 124 2 185 (.ref 187) (.ref 188) 189 423 424)::(nat_lit 191,kF "_law_cell_at" sCell "law_eachonce_k82_whole_side_by_side" 416 190)::(nat_lit 197,kC "_law_pot" 426 128 1 192 (.ref 194) (.ref 195) 196 433 434)::(nat_lit 198,kF "_law_pot" sPot "law_eachonce_k82_whole_side_by_side" 416 197)::(nat_lit 204,kC "_law_take" 436 137 2 199 (.ref 201) (.ref 202) 203 442 443)::(nat_lit 205,kF "_law_take" sTake "law_eachonce_k82_whole_side_by_side" 416 204)::(nat_lit 209,kC "_law_lot" 445 141 2 206 (.none) (.none) 208 448 449)::(nat_lit 210,kF "_law_lot" sLot "law_eachonce_k82_whole_side_by_side" 416 209)::(nat_lit 214,kC "_law_box" 451 150 3 211 (.none) (.none) 213 454 455)::(nat_lit 215,kF "_law_box" sBox "law_eachonce_k82_whole_side_by_side" 416 214)::(nat_lit 219,kC "_law_from" 457 168 3 216 (.none) (.none) 218 460 461)::(nat_lit 220,kF "_law_from" qT "law_eachonce_k82_whole_side_by_side" 416 219)::(nat_lit 224,kC "_law_coverings" 463 181 1 221 (.none) (.none) 223 466 467)::(nat_lit 225,kF "_law_coverings" sCovs "law_eachonce_k82_whole_side_by_side" 416 224)::(nat_lit 229,kC "law" 469 183 1 226 (.none) (.none) 228 472 473)::(nat_lit 230,kF "law" sLaw "law_eachonce_k82_whole_side_by_side" 416 229)::[]
def kA:List Addr:=[3,4,20,21,25,26,32,33,37,38,42,43,47,48,89,90,94,95,99,100,104,105,111,112,116,117,123,124,128,129,135,136,142,143,147,148,152,153,159,160,164,165,169,170,176,177,183,184,190,191,197,198,204,205,209,210,214,215,219,220,224,225,229,230]
def vw:Program:= { PySem.Challenge.pw_eachonce_k82_whole_side_by_side with main:= { PySem.Challenge.pw_eachonce_k82_whole_side_by_side.main with body:=[top 1,top 2,top 3,top 4,top 5,top 7,top 8,top 9,top 11,top 12,top 13,top 15,top 16,top 18,top 19,top 20,top 21,top 22,top 23,top 24,top 25,top 27,top 28,top 29,top 30,top 31,top 32,top 33,top 35,top 37,top 38,top 39,top 40,top 41,top 42,top 43,top 44]}}
theorem kA_eq:∀ P,kA=(kK P).map (·.1):=fun _=>by kernel_rfl
abbrev kH:PySem.W.Hook:=PySem.W.kmHook kK kA kA_eq [45,131,167,172,179]
set_option maxHeartbeats 0 in
theorem left:PySem.W.LeftO PySem.Challenge.rw_eachonce_k82_whole_side_by_side.prog vw [] (fun s=>PySem.W.xlAt vw [] s&&PySem.W.recOk (PySem.W.RowW.records (PySem.W.OpenRow.toRowW PySem.Challenge.rw_eachonce_k82_whole_side_by_side.row)) s) (PySem.W.Hook.obs kH) (PySem.W.Hook.val kH) 4100:=fun w=>by kernel_rfl
end Eo
section
namespace L2
open PySem PySem.Spec PyProof.Rows
abbrev Key:=Sum Int Str
def keyIs:Key->Value->Bool
 | .inl k,v=>Value.isInt k v
 | .inr x,v=>Value.isStrOf x v
def keyH (w:World):Key->Int
 | .inl k=>hashInt k
 | .inr x=>hashStr w x
theorem jA0:∀ {k:Key}{v:Value},keyIs k v=true->(∃ i t,k=Sum.inl i/\v=Value.int i t)\/(∃ x t,k=Sum.inr x/\v=Value.str x t)
 | .inl i,v,h=>by
  obtain⟨t,e⟩:=Value.isInt_shape (k:=i) (v:=v) h;exact .inl ⟨i,t,rfl,e⟩
 | .inr x,v,h=>by
  obtain⟨t,e⟩:=Value.isStrOf_shape (x:=x) (v:=v) h;exact .inr ⟨x,t,rfl,e⟩
theorem jOH (i:Int)(t:Tok):keyIs (.inl i) (.int i t)=true:=by simp [keyIs,Value.isInt]
theorem jOG (x:Str)(t:Tok):keyIs (.inr x) (.str x t)=true:=by simp [keyIs,Value.isStrOf]
theorem jWX (a b:Int):decide ((Sum.inl a:Key)=Sum.inl b)=(a==b):=by
 by_cases e:a=b
 ·subst e; simp
 ·have h:¬ (Sum.inl a:Key)=Sum.inl b:=fun q=>e (hG q);rw[aM h];exact(cG.mpr e).symm
theorem jWU (a b:Str):decide ((Sum.inr a:Key)=Sum.inr b)=decide (a=b):=by
 by_cases e:a=b
 ·subst e; simp
 ·have h:¬ (Sum.inr a:Key)=Sum.inr b:=fun q=>e (Sum.inr.inj q);rw[aM h,aM e]
theorem jWW (a:Int)(b:Str):decide ((Sum.inl a:Key)=Sum.inr b)=false:=aM (fun q=>nomatch q)
theorem jWV (a:Str)(b:Int):decide ((Sum.inr a:Key)=Sum.inl b)=false:=aM (fun q=>nomatch q)
def kX (prog:Program)(w:World):PySem.KeyKind prog w Key where
 is:=keyIs
 hash:=keyH w
 inj:=fun v a b ha hb=>by
  rcases jA0 ha with ⟨i,t,rfl,rfl⟩ | ⟨x,t,rfl,rfl⟩
  ·rcases jA0 hb with ⟨j,u,rfl,e⟩ | ⟨y,u,rfl,e⟩
   ·injection e with e1 _; rw[e1]
   ·exact nomatch e
  ·rcases jA0 hb with ⟨j,u,rfl,e⟩ | ⟨y,u,rfl,e⟩
   ·exact nomatch e
   ·injection e with e1 _; rw[e1]
 byValue:=fun k v h=>by
  rcases jA0 h with ⟨i,t,rfl,rfl⟩ | ⟨x,t,rfl,rfl⟩ <;> rfl
 pyHash:=fun hv h=>by
  rcases jA0 hv with ⟨i,t,rfl,rfl⟩ | ⟨x,t,rfl,rfl⟩
  ·exact wpAny_pyHash_int h
  ·exact wpAny_pyHash_str h
 eqBool:=fun hu hv h=>by
  rcases jA0 hu with ⟨i,t,rfl,rfl⟩ | ⟨x,t,rfl,rfl⟩
  ·rcases jA0 hv with ⟨j,u,rfl,rfl⟩ | ⟨y,u,rfl,rfl⟩
   ·rw[jWX] at h; exact wpAny_eqBool_int h
   ·rw[jWW] at h; exact SeqAt.EqAt.int_str i t y u _ _ _ _ h
  ·rcases jA0 hv with ⟨j,u,rfl,rfl⟩ | ⟨y,u,rfl,rfl⟩
   ·rw[jWV] at h; exact SeqAt.EqAt.str_int x t j u _ _ _ _ h
   ·rw[jWU] at h; exact wpAny_eqBool_str h
 «strs»:=fun k x t v h=>by
  rcases jA0 h with ⟨i,u,rfl,e⟩ | ⟨y,u,rfl,e⟩
  ·exact nomatch e
  ·injection e with e1 _;subst e1;cases v <;> rfl
theorem jJA (prog:Program)(w:World)(i:Int)(t:Tok):(kX prog w).is (.inl i) (.int i t)=true:=jOH i t
theorem jJ9 (prog:Program)(w:World)(x:Str)(t:Tok):(kX prog w).is (.inr x) (.str x t)=true:=jOG x t
inductive V where
 | non | bl (b:Bool) | int (i:Int) | str (x:Str) | byt (b:Array UInt8) | flt (b:UInt64) | ref (a:Addr) | ty (n:String)
 deriving DecidableEq
def RelV:V->Value->Prop
 | .non,u=>u=Value.none
 | .bl b,u=>u=Value.bool b
 | .int i,u=>∃ t,u=Value.int i t
 | .str x,u=>∃ t,u=Value.str x t
 | .byt b,u=>∃ t,u=Value.bytes b t
 | .flt b,u=>∃ t,u=Value.float b t
 | .ref a,u=>u=Value.ref a
 | .ty n,u=>u=Value.type n
abbrev Vals:List V->Am->Prop:=Paired RelV
theorem Vals.length {xs:List V}{us:Am}(r:Vals xs us):xs.length=us.length:=gc r
theorem Vals.get:∀ {xs:List V}{us:Am}{i:Nat}{x:V},Vals xs us->xs[i]?=some x->∃ u,us[i]?=some u/\RelV x u
 | _,_,_,_, .nil,e=>by simp at e
 | _,_,0,_, .cons r _,e=>by simp at e; subst e; exact⟨_,rfl,r⟩
 | _,_,i+1,x, .cons _ t,e=>by
  obtain⟨u,h1,h2⟩:=Vals.get (i:=i) (x:=x) t (by simpa using e);exact⟨u,by simpa using h1,h2⟩
theorem Vals.set {x:V}{u:Value}(r:RelV x u):∀ {xs:List V}{us:Am}(i:Nat),Vals xs us->Vals (xs.set i x) (us.set i u)
 | _,_,_, .nil=> .nil
 | _,_,0, .cons _ t=> .cons r t
 | _,_,i+1, .cons q t=> .cons q (Vals.set r i t)
theorem Vals.append:∀ {xs ys:List V}{us ws:Am},Vals xs us->Vals ys ws->Vals (xs++ys) (us++ws)
 | _,_,_,_, .nil,s=>s
 | _,_,_,_, .cons r t,s=> .cons r (Vals.append t s)
theorem Vals.take:∀ {xs:List V}{us:Am}(n:Nat),Vals xs us->Vals (xs.take n) (us.take n)
 | _,_,0,_=> .nil
 | _,_,_+1, .nil=> .nil
 | _,_,n+1, .cons r t=> .cons r (Vals.take n t)
theorem Vals.drop:∀ {xs:List V}{us:Am}(n:Nat),Vals xs us->Vals (xs.drop n) (us.drop n)
 | _,_,0,r=>r
 | _,_,_+1, .nil=> .nil
 | _,_,n+1, .cons _ t=>Vals.drop n t
def RelO:Option V->Ap->Prop
 | some v,some u=>RelV v u
 | none,none=>True
 | _,_=>False
def KV {κ:Type} :List (κ×V)->List (κ×Value)->Prop:=Paired fun (p:κ×V) (q:κ×Value)=>p.1=q.1/\RelV p.2 q.2
def kV:Key->V
 | .inl i=> .int i
 | .inr x=> .str x
def TupO (h:Heap)(a:Addr)(items:Ao):Prop:=∃ n,h.get? a=some { cls:= .type "tuple",data:= .seq items n}
theorem TupO.isTup {h:Heap}{a:Addr}{items:Ao}(x:TupO h a items):IsTup h a items:=let ⟨n,e⟩:=x; ⟨_,e,rfl,n,rfl⟩
theorem TupO.new (h:Heap)(items:Ao):TupO (h.push { cls:= .type "tuple",data:= .seq items}) h.objs.size items:=⟨0,aF _ rfl⟩
inductive HO where
  | lst (xs:List V)
  | tup (xs:List V)
  | dK (kvs:List (Key×V)) | dT (kvs:List (List Key×V))
  | set (S:Int->Bool) (n:Nat)
  | ins (C dx:Addr) (fs:List (Str×V))
  | own (x:Addr)
  | xd (fs:List (Str×V))
  | met (f x:Addr)
  | rng (lo hi:Int)
  | frz (o:Obj) (u:HO)
  | tbl (ps:Ao)
  | ext (φ:Heap->Prop)
abbrev Hp:=Addr->Option HO
def upd (H:Hp)(a:Addr)(o:HO):Hp:=fun b=>if b=a then some o else H b
theorem j5 {H:Hp}{a:Addr}{o:HO} :upd H a o a=some o:=by unfold upd; rw[aq rfl]
theorem j9 {H:Hp}{a b:Addr}{o:HO}(h:b≠a):upd H a o b=H b:=by unfold upd; rw[ak h]
theorem ne_of {H:Hp}{a b:Addr}{o u:HO}(h:H a=some o)(h':H b=some u)(d:o≠u):a≠b:=by
 intro e; subst e; rw[h] at h'; exact d (bD h')
theorem jA {H:Hp}{a b:Addr}{o:HO}(h:H a=some o)(h':H b=none):a≠b:=by
 intro e; subst e; rw[h] at h'; cases h'
section
variable (P:Program)(w:World)
def ObjOk (H:Hp)(h:Heap)(a:Addr):HO->Prop
 | .lst xs=>xs.length<=sizeLine/\∃ (its:Am) (n:Nat),Vals xs its/\h.get? a=some { cls:= .type "list",data:= .seq its.toArray n}
 | .tup xs=>xs.length<=sizeLine/\∃ its:Am,Vals xs its/\TupO h a its.toArray
 | .dK kvs=>kvs.length<=sizeLine/\(a==sysModules)=false/\∃ vs,KV kvs vs/\h.DictOf (kX P w) a vs
 | .dT kvs=>kvs.length<=sizeLine/\(a==sysModules)=false/\∃ xs:List (List Key×Addr×Value),
   Paired (fun (p:List Key×V) (q:List Key×Addr×Value)=>p.1=q.1/\H q.2.1=some (.tup (p.1.map kV))/\RelV p.2 q.2.2) kvs xs/\
   ∃ o es ep,h.get? a=some o/\o.ExactDict/\o.data= .dict es ep/\es.toList=xs.map (entryOfKey (tupleKind (kX P w)))/\(xs.map (·.1)).Nodup
 | .set S n=>h.SetOf (intKind P w) a S n
 | .ins C dx fs=>H dx=some (.own a)/\fs.length<=1000/\dx≠a/\h.get? a=some (instObj C dx)/\
   ∃ mA,h.Ns1 dx mA/\(∀ f,RelO (fs.lookup f) (mA f))/\PySem.Within mA (fs.map (·.1))
 | .own _=>∃ o,h.get? a=some o
 | .xd fs=>∃ mA,h.Ns1 a mA/\∀ f,RelO (fs.lookup f) (mA f)
 | .rng lo hi=>∃ t u v,h.get? a=some { cls:= .type "range",data:= .fields #[.int lo t, .int hi u, .int 1 v]}
 | .frz o u=>h.get? a=some o/\ObjOk H h a u
 | .tbl ps=>h.get? a=some { cls:= .none,data:= .fields ps}
 | .met f x=>h.get? a=some (methodObj (.ref f) (.ref x))
 | .ext φ=>φ h/\(∃ o,h.get? a=some o)/\∀ h1 h2:Heap,φ h1->(∀ o,h1.get? a=some o->h2.get? a=some o)->φ h2
def HOk (H:Hp)(h:Heap):Prop:=∀ a o,H a=some o->ObjOk P w H h a o
end
variable {P:Program}{w:World}{H H':Hp}{h h':Heap}{a:Addr}
section
variable {o:HO}
theorem ObjOk.lt (x:ObjOk P w H h a o):a<h.objs.size:=by
 cases o with
 | lst xs=>obtain⟨_,_,_,_,e⟩:=x; exact aK e
 | tup xs=>obtain⟨_,_,_,_,e⟩:=x; exact aK e
 | dK kvs=>obtain⟨_,_,_,_,o,_,_,e,_⟩:=x; exact aK e
 | dT kvs=>obtain⟨_,_,_,_,o,_,_,e,_⟩:=x; exact aK e
 | set S n=>obtain⟨o,_,_,_,e,_⟩:=x; exact aK e
 | ins C dx fs=>obtain⟨_,_,_,e,_⟩:=x; exact aK e
 | own y=>obtain⟨_,e⟩:=x; exact aK e
 | xd fs=>obtain⟨_,⟨_,_,_,e,_⟩,_⟩:=x; exact aK e
 | rng lo hi=>obtain⟨_,_,_,e⟩:=x; exact aK e
 | frz ob u=>obtain⟨e,_⟩:=x; exact aK e
 | tbl ps=>exact aK (show h.get? a=some _ from x)
 | met f y=>exact aK (show h.get? a=some _ from x)
 | ext φ=>obtain⟨_,⟨_,e⟩,_⟩:=x; exact aK e
theorem Paired.mapP {α β:Type}{F G:α->β->Prop} :∀ {l₁:List α}{l₂:List β},Paired F l₁ l₂->(∀ a b,F a b->G a b)->Paired G l₁ l₂
 | _,_, .nil,_=> .nil
 | _,_, .cons r t,f=> .cons (f _ _ r) (Paired.mapP t f)
theorem ObjOk.stay (x:ObjOk P w H h a o)(k:∀ b u,(b=a\/H b=some (.own a))->h.get? b=some u->h'.get? b=some u)
  (ho:∀ b,H b=some (.own a)->H' b=some (.own a)) (ht:∀ b xs,H b=some (.tup xs)->H' b=some (.tup xs)):ObjOk P w H' h' a o:=by
 induction o with
 | lst xs=>obtain⟨z,its,n,r,e⟩:=x; exact⟨z,its,n,r,k _ _ (.inl rfl) e⟩
 | tup xs=>obtain⟨z,its,r,n,e⟩:=x; exact⟨z,its,r,n,k _ _ (.inl rfl) e⟩
 | dK kvs=>obtain⟨z,y,vs,r,ob,es,ep,e,c⟩:=x; exact⟨z,y,vs,r,ob,es,ep,k _ _ (.inl rfl) e,c⟩
 | dT kvs=>
  obtain⟨z,y,xs,r,ob,es,ep,e,c⟩:=x;exact⟨z,y,xs,Paired.mapP r fun p q z=>⟨z.1,ht _ _ z.2.1,z.2.2⟩,ob,es,ep,k _ _ (.inl rfl) e,c⟩
 | set S n=>obtain⟨ob,es,ep,t,e,c⟩:=x; exact⟨ob,es,ep,t,k _ _ (.inl rfl) e,c⟩
 | ins C dx fs=>
  obtain⟨d,z,ne,e,mA,⟨od,es,ep,e2,c⟩,r⟩:=x;exact⟨ho _ d,z,ne,k _ _ (.inl rfl) e,mA,⟨od,es,ep,k _ _ (.inr d) e2,c⟩,r⟩
 | own y=>obtain⟨ob,e⟩:=x; exact⟨ob,k _ _ (.inl rfl) e⟩
 | xd fs=>obtain⟨mA,⟨od,es,ep,e,c⟩,r⟩:=x; exact⟨mA,⟨od,es,ep,k _ _ (.inl rfl) e,c⟩,r⟩
 | rng lo hi=>obtain⟨t,u,v,e⟩:=x; exact⟨t,u,v,k _ _ (.inl rfl) e⟩
 | frz ob u ih=>obtain⟨e,q⟩:=x; exact⟨k _ _ (.inl rfl) e,ih q⟩
 | tbl ps=>
  have e:h.get? a=some { cls:= .none,data:= .fields ps} :=x;show h'.get? a=some { cls:= .none,data:= .fields ps};exact k a _ (.inl rfl) e
 | met f y=>
  have e:h.get? a=some (methodObj (.ref f) (.ref y)):=x;show h'.get? a=some (methodObj (.ref f) (.ref y));exact k a _ (.inl rfl) e
 | ext φ=>obtain⟨p,⟨o,e⟩,st⟩:=x; exact⟨st _ _ p fun o q=>k _ _ (.inl rfl) q,⟨o,k _ _ (.inl rfl) e⟩,st⟩
theorem HOk.lt (x:HOk P w H h)(e:H a=some o):a<h.objs.size:=(x a o e).lt
theorem HOk.fresh (x:HOk P w H h)(e:h.objs.size<=a):H a=none:=by
 cases q:H a with
 | none=>rfl
 | some u=>exact absurd (aX (x.lt q) e) (dz _)
theorem HOk.kept (x:HOk P w H h)(k:∀ b u,h.get? b=some u->h'.get? b=some u):HOk P w H h':=fun a o e=>
 (x a o e).stay (fun b u _ q=>k b u q) (fun _ q=>q) fun _ _ q=>q
theorem HOk.laid (x:HOk P w H h)(k:∀ b u,h.get? b=some u->h'.get? b=some u)(hp:h.objs.size<=a)(new:ObjOk P w (upd H a o) h' a o):HOk P w (upd H a o) h':=fun b u e=>by
 have hn:=x.fresh hp;by_cases hb:b=a
 ·subst hb; rw[j5] at e; cases e; exact new
 ·rw[j9 hb] at e;exact(x b u e).stay (fun c v _ q=>k c v q) (fun c q=>by rw[j9 (jA q hn)]; exact q) fun c xs q=>by rw[j9 (jA q hn)]; exact q
end
def Rd (H:Hp)(a:Addr)(u:HO):Prop:=H a=some u\/∃ o,H a=some (.frz o u)
theorem Rd.ok {P:Program}{w:World}{H:Hp}{h:Heap}{a:Addr}{u:HO}(r:Rd H a u)(x:HOk P w H h):ObjOk P w H h a u:=by
 rcases r with r | ⟨o,r⟩
 ·exact x a u r
 ·obtain⟨_,q⟩:=x a _ r;exact q
def Mut:Option HO->Prop
 | some (.lst _)=>True
 | some (.dK _)=>True
 | some (.dT _)=>True
 | some (.set _ _)=>True
 | some (.ins _ _ _)=>True
 | some (.ext _)=>True
 | _=>False
variable {x:Addr}
section
variable {e:Addr}{o':HO}
theorem HOk.write (ok:HOk P w H h)(mu:Mut (H x))(he:e=x\/H e=some (.own x))(k:∀ b u,b≠e->h.get? b=some u->h'.get? b=some u)(heo:∃ u,h'.get? e=some u)
  (new:ObjOk P w (upd H x o') h' x o'):HOk P w (upd H x o') h':=fun b u q=>by
 have nown:∀ c y,H c=some (.own y)->c≠x:=fun c y r z=>by subst z; rw[r] at mu; exact mu
 have ntup:∀ c xs,H c=some (.tup xs)->c≠x:=fun c xs r z=>by subst z; rw[r] at mu; exact mu
 by_cases hb:b=x
 ·subst hb; rw[j5] at q; cases q; exact new
 ·rw[j9 hb] at q;by_cases hbe:b=e
  ·have q':H b=some (.own x):=by
    rcases he with z | z
    ·exact absurd (hbe.trans z) hb
    ·rw[hbe]; exact z
   rw[q] at q'; cases q';obtain⟨v,hv⟩:=heo;exact⟨v,by rw[hbe]; exact hv⟩
  ·refine(ok b u q).stay (fun c v hc r=>k c v ?_ r) (fun c r=>by rw[j9 (nown c b r)]; exact r) fun c xs r=>by rw[j9 (ntup c xs r)]; exact r
   rcases hc with rfl | hc
   ·exact hbe
   ·rintro rfl;rcases he with z | z
    ·exact nown c b hc z
    ·rw[hc] at z; cases z; exact hb rfl
end
structure Un (fs ex:List Addr)(H H':Hp)(h h':Heap):Prop where
 keep:∀ b o,h.get? b=some o->H b=none->b∉fs->b∉ex->h'.get? b=some o
 slot:∀ b o,h.get? b=some o->H b=none->b∈fs->b∉ex->∃ sl,h'.get? b=some { o with slots:=sl}
 free:∀ b o,h.get? b=some o->H b=none->b∉ex->H' b=none
 there:∀ b o,h.get? b=some o->b∉ex->∃ o',h'.get? b=some o'
 tups:∀ b xs,H b=some (.tup xs)->H' b=some (.tup xs)
 frzs:∀ b o u,H b=some (.frz o u)->H' b=some (.frz o u)
 tbls:∀ b ps,H b=some (.tbl ps)->∃ more,H' b=some (.tbl (ps++more))
section
variable {fs fs' ex ex':List Addr}{H1 H2:Hp}{h1 h2:Heap}{e:Addr}{o:HO}
theorem Un.any (u:Un fs ex H H1 h h1){b:Addr}{ob:Obj}(q:h.get? b=some ob)(n:H b=none)(hx:b∉ex):∃ sl,h1.get? b=some { ob with slots:=sl} :=by
 by_cases hb:b∈fs
 ·exact u.slot b ob q n hb hx
 ·exact⟨ob.slots,u.keep b ob q n hb hx⟩
theorem Un.trans (a:Un fs ex H H1 h h1)(b:Un fs ex H1 H2 h1 h2):Un fs ex H H2 h h2 where
 keep:=fun c ob q n hc hx=>b.keep c ob (a.keep c ob q n hc hx) (a.free c ob q n hx) hc hx
 slot:=fun c ob q n hc hx=>by
  obtain⟨sl,e1⟩:=a.slot c ob q n hc hx;obtain⟨sl',e2⟩:=b.slot c _ e1 (a.free c ob q n hx) hc hx;exact⟨sl',e2⟩
 free:=fun c ob q n hx=>by
  obtain⟨o',e1⟩:=a.there c ob q hx;exact b.free c o' e1 (a.free c ob q n hx) hx
 there:=fun c ob q hx=>by
  obtain⟨o',e1⟩:=a.there c ob q hx;exact b.there c o' e1 hx
 tups:=fun c xs q=>b.tups c xs (a.tups c xs q)
 frzs:=fun c ob xs q=>b.frzs c ob xs (a.frzs c ob xs q)
 tbls:=fun c ps q=>by
  obtain⟨m1,e1⟩:=a.tbls c ps q;obtain⟨m2,e2⟩:=b.tbls c _ e1;exact⟨m1++m2,by rw[e2,ln]⟩
theorem Un.kept (k:∀ b u,h.get? b=some u->h'.get? b=some u):Un fs ex H H h h':=
 ⟨fun b ob q _ _ _=>k b ob q,fun b ob q _ _ _=>⟨ob.slots,k b ob q⟩,fun _ _ _ n _=>n,fun b ob q _=>⟨ob,k b ob q⟩,fun _ _ q=>q,fun _ _ _ q=>q,fun _ ps q=>⟨#[],by rw[q]; simp⟩⟩
theorem Un.refl:Un fs ex H H h h:=Un.kept fun _ _ q=>q
theorem Un.laid (k:∀ b u,h.get? b=some u->h'.get? b=some u)(hp:h.objs.size<=a)(hn:H a=none):Un fs ex H (upd H a o) h h' where
 keep:=fun b u q _ _ _=>k b u q
 slot:=fun b u q _ _ _=>⟨u.slots,k b u q⟩
 free:=fun b u q n _=>by rw[j9 (aW (aX (aK q) hp))]; exact n
 there:=fun b u q _=>⟨u,k b u q⟩
 tups:=fun b xs q=>by rw[j9 (jA q hn)]; exact q
 frzs:=fun b u xs q=>by rw[j9 (jA q hn)]; exact q
 tbls:=fun b ps q=>⟨#[],by rw[j9 (jA q hn),q]; simp⟩
theorem Un.write (mu:Mut (H x))(he:e=x\/H e=some (.own x))(k:∀ b u,b≠e->h.get? b=some u->h'.get? b=some u)(heo:∃ u,h'.get? e=some u):Un fs ex H (upd H x o) h h':=by
 have hx:∀ b,H b=none->b≠x:=fun b n z=>by subst z; rw[n] at mu; exact mu
 have hb:∀ b,H b=none->b≠e:=fun b n z=>by
  subst z;rcases he with r | r
  ·exact hx b n r
  ·rw[n] at r; cases r
 have hm:∀ b u,H b=some u->¬ Mut (some u)->b≠x:=fun b u q nm z=>by subst z; rw[q] at mu; exact nm mu
 refine⟨fun b u q n _ _=>k b u (hb b n) q,fun b u q n _ _=>⟨u.slots,k b u (hb b n) q⟩,fun b u q n _=>by rw[j9 (hx b n)]; exact n,fun b u q _=>?_,
  fun b xs q=>by rw[j9 (hm b _ q fun z=>z)]; exact q,fun b u xs q=>by rw[j9 (hm b _ q fun z=>z)]; exact q,fun b ps q=>⟨#[],by rw[j9 (hm b _ q fun z=>z),q]; simp⟩⟩
 by_cases hbe:b=e
 ·subst hbe; exact heo
 ·exact⟨u,k b u hbe q⟩
end
def trk (h:Heap)(H:Hp):List Addr:=(List.range h.objs.size).filter fun a=>(H a).isSome
def hidT (h:Heap)(H:Hp):Heap:=PySem.W.hideAll h (trk h H)
theorem jP2 (h:Heap)(H:Hp):(hidT h H).objs.size=h.objs.size:=PySem.W.hideAll_size _ _
theorem jRD {h:Heap}{H:Hp}{b:Addr}{o:Obj}(e:h.get? b=some o)(n:H b=none):(hidT h H).get? b=some o:=
 PySem.W.hideAll_get _ e fun hm=>by
  have q:(H b).isSome=true:=(aR.mp hm).2;rw[n] at q; simp at q
theorem jUG {h:Heap}{H:Hp}{b:Addr}{o:Obj}(e:(hidT h H).get? b=some o):h.get? b=some o/\H b=none:=by
 have e':h.get? b=some o:=PySem.W.of_hideAll (trk h H) e;refine⟨e',?_⟩;cases q:H b with
 | none=>rfl
 | some x=>
  have hm:b∈trk h H:=aR.mpr ⟨bK.mpr (aK e'),by simp [q]⟩;have z:(hidT h H).get? b=none:=PySem.W.hideAll_none (trk h H) hm;rw[z] at e; cases e
structure Mod (K:W.Frag)(mg:Ak)(Ar:Heap):Prop where
 kin:K.In Ar
 glob:Ar.Ns mainGlobals mg
 blt:∃ mb,Ar.Ns builtinsNs mb/\∀ x:Str,x≠ "__name__" ->mb x=bootBuiltins x
 nolimit:Ar.NoLimit
structure Cx where
 prog:Program
 w:World
 K:W.Frag
 mg:Ak
 Ar:Heap
 A:Around
 N:An
 s₀:Shared
 H₀:Hp
 env:Env
 Aq:List Env
 stack:List Env
 ex:List Addr
 fn:Str->Bool
 calm:Bool
 pn:Ai
 xe:Ah
def frs (l:List Env):List Addr:=l.filterMap (·.frame)
abbrev Cx.fs (X:Cx):List Addr:=frs X.Aq
def Vis (sc:Scope)(x:Str):Prop:=sc.names.lookup x=some .local\/sc.names.lookup x=some .cell\/sc.names.lookup x=some .free
def Loc (sc:Scope)(x:Str):Prop:=sc.names.lookup x=some .local\/sc.names.lookup x=some .cell
def Look (env:Env)(h:Heap)(m:Ak)(x:Str)(u:Value):Prop:=
 (env.kindOf x=some .local/\m x=some u)\/((env.kindOf x=some .cell\/env.kindOf x=some .free)/\∃ c,env.cells.lookup x=some c/\h.IsCell c (some u))
structure Cx.Ok (X:Cx):Prop where
 mod:Mod X.K X.mg X.Ar
 kind:X.env.scope.kind= .function
 glob:X.env.globals=mainGlobals
 blt:X.env.builtins=builtinsNs
 above:X.s₀.heap.objs.size<=X.env.locals
 inj:∀ x y c,X.env.cells.lookup x=some c->X.env.cells.lookup y=some c->x=y
 has:∀ x,(X.env.kindOf x=some .cell\/X.env.kindOf x=some .free)->∃ c,X.env.cells.lookup x=some c
 cab:∀ x c,X.fn x=true->X.env.cells.lookup x=some c->X.s₀.heap.objs.size<=c
 hd:X.calm=true->X.A.handled=none
 frames:X.A.frames=some X.stack
 stk:X.stack=X.Aq\/(X.stack=X.env::X.Aq/\X.env.frame=some X.env.locals)
 exf:∀ b∈X.ex,b≠X.env.locals/\∀ x c,X.env.cells.lookup x=some c->c≠b
 bs:∀ b o,X.Ar.get? b=some o->X.s₀.heap.get? b=some o/\X.H₀ b=none
 bsz:X.Ar.objs.size<=X.s₀.heap.objs.size
 noex:∀ b o,X.Ar.get? b=some o->b∉X.ex
 exfs:∀ b∈X.ex,b∉X.fs
 funs:X.s₀.heap.FunFrames X.Ar X.Aq
 frf:∀ b∈X.fs,X.H₀ b=none
structure Inv (X:Cx)(lH:Ai)(σ:List (Option V))(H:Hp)(s:Shared):Prop where
 ok:X.Ok
 os:s.os=X.s₀.os
 bare:AllBare s.gens
 Ar:Un X.fs X.ex X.H₀ H X.s₀.heap s.heap
 loc:∃ m,s.heap.Ns X.env.locals m/\∀ (i:Nat) (x:Str) (v:V),X.N[i]?=some x->σ[i]?=some (some v)->Vis X.env.scope x->∃ u,RelV v u/\Look X.env s.heap m x u
 cell:∀ x c,X.env.cells.lookup x=some c->∃ v,s.heap.IsCell c v
 free:H X.env.locals=none
 freeC:∀ x c,X.env.cells.lookup x=some c->H c=none
 pin:∀ p∈X.pn++lH,s.heap.get? p.1=some p.2/\H p.1=none/\p.1≠X.env.locals/\p.1∉X.fs/\∀ v,p.2.data≠ .cell v
 hok:HOk X.prog X.w H s.heap
 len:σ.length=X.N.length
variable {X:Cx}{lH:Ai}{s:Shared}
section
variable {σ:List (Option V)}
theorem Cx.Ok.nofr (ok:X.Ok){b:Addr}{o:Obj}(e:X.Ar.get? b=some o):b∉X.fs:=fun hb=>by
 have:=(ok.funs.mem hb).1;rw[e] at this; cases this
theorem Inv.bs (I:Inv X lH σ H s):∀ b o,X.Ar.get? b=some o->s.heap.get? b=some o/\H b=none:=fun b o e=>
 ⟨I.Ar.keep b o (I.ok.bs b o e).1 (I.ok.bs b o e).2 (I.ok.nofr e) (I.ok.noex b o e),I.Ar.free b o (I.ok.bs b o e).1 (I.ok.bs b o e).2 (I.ok.noex b o e)⟩
theorem Inv.bk (I:Inv X lH σ H s):∀ b o,X.Ar.get? b=some o->s.heap.get? b=some o:=fun b o e=>(I.bs b o e).1
theorem Inv.mod (I:Inv X lH σ H s):Mod X.K X.mg X.Ar:=I.ok.mod
theorem Inv.kIn (I:Inv X lH σ H s):X.K.In s.heap:=I.ok.mod.kin.keeps I.bk
theorem Inv.lt (I:Inv X lH σ H s):X.env.locals<s.heap.objs.size:=let ⟨_,hn,_⟩:=I.loc; hn.lt
theorem Inv.sz (I:Inv X lH σ H s):X.s₀.heap.objs.size<=s.heap.objs.size:=bv I.ok.above (cY I.lt)
theorem Inv.nofs (I:Inv X lH σ H s){a:Addr}(h:s.heap.objs.size<=a):a∉X.fs:=fun hb=>by
 obtain⟨_,o,ho,_⟩:=I.ok.funs.mem hb;exact absurd (aX (aK ho) (bv I.sz h)) (dz _)
theorem Inv.cne (I:Inv X lH σ H s):∀ x c,X.env.cells.lookup x=some c->c≠X.env.locals:=fun x c e z=>by
 obtain⟨v,o,ho,hd⟩:=I.cell x c e;obtain⟨m,⟨o',es,ep,ho',hd',_⟩,_⟩:=I.loc;rw[z,ho'] at ho; cases ho; rw[hd'] at hd; cases hd
theorem Inv.funs (I:Inv X lH σ H s):s.heap.FunFrames X.Ar X.Aq:=by
 have all:∀ (l:List Env),(∀ b∈frs l,b∈X.fs)->X.s₀.heap.FunFrames X.Ar l->s.heap.FunFrames X.Ar l:=by
  intro l
  induction l with
  | nil=>intro _ _; trivial
  | cons env r ih=>
   intro hs hl;obtain⟨hk,⟨L,o,hf,hn,ho,hd⟩,hr⟩:=hl;have hL:L∈X.fs:=hs L (by unfold frs; rw[eO,hf]; exact ai);obtain⟨sl,e⟩:=I.Ar.slot L o ho (I.ok.frf L hL) hL fun z=>I.ok.exfs L z hL;exact⟨hk,⟨L,_,hf,hn,e,hd⟩,ih (fun b hb=>hs b (by unfold frs; rw[eO,hf]; exact ag _ hb)) hr⟩
 exact all X.Aq (fun _ hb=>hb) I.ok.funs
theorem Inv.stack (I:Inv X lH σ H s):s.heap.FunFrames X.Ar X.stack:=by
 rcases I.ok.stk with e | ⟨e,hf⟩
 ·rw[e]; exact I.funs
 ·rw[e];obtain⟨m,hn,_⟩:=I.loc;refine .cons (by rw[I.ok.kind]; decide) hf hn ?_ I.funs;exact Heap.get?_none_of_le (bv I.ok.bsz I.ok.above)
theorem Inv.stkSub (I:Inv X lH σ H s):∀ b∈frs X.stack,b∈X.env.locals::X.fs:=fun b hb=>by
 rcases I.ok.stk with e | ⟨e,hf⟩
 ·rw[e] at hb; exact ag _ hb
 ·rw[e] at hb;unfold frs at hb;rw[eO,hf] at hb;exact hb
theorem Inv.stkFree (I:Inv X lH σ H s):∀ b∈frs X.stack,H b=none:=fun b hb=>by
 rcases aI.mp (I.stkSub b hb) with e | hb
 ·rw[e]; exact I.free
 ·obtain⟨_,o,ho,_⟩:=I.ok.funs.mem hb;exact I.Ar.free b o ho (I.ok.frf b hb) fun z=>I.ok.exfs b z hb
theorem Inv.step {g':Array GenState}{t':Nat}{d':Drawn}{ch:List Addr}(I:Inv X lH σ H s)
  (hch:∀ b∈ch,(b∈X.ex\/X.s₀.heap.objs.size<=b)/\b≠X.env.locals/\(∀ x c,X.env.cells.lookup x=some c->c≠b)/\∀ p∈X.pn++lH,p.1≠b)
  (keep:∀ b o,b≠X.env.locals->b∉X.fs->b∉ch->s.heap.get? b=some o->H b=none->h'.get? b=some o)
  (slot:∀ b o,b≠X.env.locals->b∈X.fs->b∉ch->s.heap.get? b=some o->H b=none->∃ sl,h'.get? b=some { o with slots:=sl}) (free:∀ b o,b∉ch->s.heap.get? b=some o->H b=none->H' b=none)
  (there:∀ b o,b∉ch->s.heap.get? b=some o->∃ o',h'.get? b=some o')
  (tups:∀ b xs,H b=some (.tup xs)->H' b=some (.tup xs)) (frzs:∀ b o u,H b=some (.frz o u)->H' b=some (.frz o u)) (tbls:∀ b ps,H b=some (.tbl ps)->∃ more,H' b=some (.tbl (ps++more)))
  (ns:∀ m,s.heap.Ns X.env.locals m->h'.Ns X.env.locals m) (hok:HOk X.prog X.w H' h') (hg:AllBare g'):
  Inv X lH σ H' { s with heap:=h',gens:=g',drawn:=d',toks:=t'} :=by
 have neL:∀ b o,X.s₀.heap.get? b=some o->b≠X.env.locals:=fun b o e=>aW (aX (aK e) I.ok.above);have neC:∀ b o,X.s₀.heap.get? b=some o->b∉X.ex->b∉ch:=fun b o e hx hb=>by
  rcases (hch b hb).1 with z | z
  ·exact hx z
  ·exact absurd (aX (aK e) z) (dz _)
 have cellK:∀ x c,X.env.cells.lookup x=some c->∀ v,s.heap.IsCell c v->h'.IsCell c v:=fun x c e v ⟨o,ho,hd⟩=>by
  have nch:c∉ch:=fun z=>(hch c z).2.2.1 x c e rfl;by_cases hc:c∈X.fs
  ·obtain⟨sl,q⟩:=slot c o (I.cne x c e) hc nch ho (I.freeC x c e);exact⟨_,q,hd⟩
  ·exact⟨o,keep c o (I.cne x c e) hc nch ho (I.freeC x c e),hd⟩
 refine⟨I.ok,I.os,hg,⟨fun b o e n hb hx=>?_,fun b o e n hb hx=>?_,fun b o e n hx=>?_,fun b o e hx=>?_,fun b xs e=>tups b xs (I.Ar.tups b xs e),fun b o xs e=>frzs b o xs (I.Ar.frzs b o xs e),fun b ps e=>?_⟩,?_,fun x c e=>?_,?_,fun x c e=>?_,fun p hp=>?_,hok,I.len⟩
 ·exact keep b o (neL b o e) hb (neC b o e hx) (I.Ar.keep b o e n hb hx) (I.Ar.free b o e n hx)
 ·obtain⟨sl,e1⟩:=I.Ar.slot b o e n hb hx;obtain⟨sl',e2⟩:=slot b _ (neL b o e) hb (neC b o e hx) e1 (I.Ar.free b o e n hx);exact⟨sl',e2⟩
 ·obtain⟨o',e1⟩:=I.Ar.there b o e hx;exact free b o' (neC b o e hx) e1 (I.Ar.free b o e n hx)
 ·obtain⟨o',e1⟩:=I.Ar.there b o e hx;exact there b o' (neC b o e hx) e1
 ·obtain⟨m1,e1⟩:=I.Ar.tbls b ps e;obtain⟨m2,e2⟩:=tbls b _ e1;exact⟨m1++m2,by rw[e2,ln]⟩
 ·obtain⟨m,hn,hl⟩:=I.loc;refine⟨m,ns m hn,fun i x v e1 e2 e3=>?_⟩;obtain⟨u,r,l⟩:=hl i x v e1 e2 e3;refine⟨u,r,?_⟩;rcases l with l | ⟨k,c,e,z⟩
  ·exact .inl l
  ·exact .inr ⟨k,c,e,cellK x c e _ z⟩
 ·obtain⟨v,z⟩:=I.cell x c e;exact⟨v,cellK x c e v z⟩
 ·obtain⟨m,⟨o,_,_,ho,_⟩,_⟩:=I.loc;exact free _ o (fun z=>(hch _ z).2.1 rfl) ho I.free
 ·obtain⟨v,o,ho,hd⟩:=I.cell x c e;exact free c o (fun z=>(hch c z).2.2.1 x c e rfl) ho (I.freeC x c e)
 ·obtain⟨e,n,ne,nf,d⟩:=I.pin p hp;have nch:p.1∉ch:=fun z=>(hch p.1 z).2.2.2 p hp rfl;exact⟨keep p.1 p.2 ne nf nch e n,free p.1 p.2 nch e n,ne,nf,d⟩
theorem Inv.un {t':Nat}(I:Inv X lH σ H s)(u:Un X.fs [] H H' s.heap h')(hok:HOk X.prog X.w H' h'):Inv X lH σ H' { s with heap:=h',toks:=t'} :=by
 obtain⟨m,⟨o,es,ep,ho,r⟩,_⟩:=id I.loc;obtain⟨sl,hL⟩:=u.any ho I.free Ad;exact I.step (g':=s.gens) (d':=s.drawn) (ch:=[]) (fun _ z=>nomatch z) (fun b o _ hb _ e n=>u.keep b o e n hb Ad) (fun b o _ hb _ e n=>u.slot b o e n hb Ad) (fun b o _ e n=>u.free b o e n Ad) (fun b o _ e=>u.there b o e Ad) u.tups u.frzs u.tbls (fun m' hm=>by
  obtain⟨o',es',ep',ho',r'⟩:=hm;rw[ho] at ho'; cases ho';exact⟨_,es',ep',hL,r'⟩) hok I.bare
theorem Inv.call {g':Array GenState}{t':Nat}{d':Drawn}{ch:List Addr}(I:Inv X lH σ H s)(u:Un (frs X.stack) ch H H' s.heap h')(hok:HOk X.prog X.w H' h')(hg:AllBare g')
  (hch:∀ b∈ch,(b∈X.ex\/X.s₀.heap.objs.size<=b)/\b≠X.env.locals/\(∀ x c,X.env.cells.lookup x=some c->c≠b)/\∀ p∈X.pn++lH,p.1≠b):
  Inv X lH σ H' { s with heap:=h',gens:=g',drawn:=d',toks:=t'} :=by
 obtain⟨m,⟨o,es,ep,ho,r⟩,_⟩:=id I.loc;obtain⟨sl,hL⟩:=u.any ho I.free fun z=>(hch _ z).2.1 rfl;exact I.step (ch:=ch) hch (fun b o hL hb hc e n=>u.keep b o e n (fun z=>(aI.mp (I.stkSub b z)).elim hL hb) hc) (fun b o _ _ hc e n=>u.any e n hc) (fun b o hc e n=>u.free b o e n hc) (fun b o hc e=>u.there b o e hc) u.tups u.frzs u.tbls (fun m' hm=>by
  obtain⟨o',es',ep',ho',r'⟩:=hm;rw[ho] at ho'; cases ho';exact⟨_,es',ep',hL,r'⟩) hok hg
theorem Inv.turned {t':Nat}{it:Addr}(I:Inv X lH σ H s)(k:∀ b o,b≠it->s.heap.get? b=some o->h'.get? b=some o)(hn:H it=none)(hL:it≠X.env.locals)
  (h1:it∈X.ex\/X.s₀.heap.objs.size<=it) (h2:∀ x c,X.env.cells.lookup x=some c->c≠it) (h3:∀ p∈X.pn++lH,p.1≠it):Inv X lH σ H { s with heap:=h',toks:=t'} :=by
 have nit:∀ b u,H b=some u->b≠it:=fun b u e z=>by rw[z,hn] at e; cases e
 refine I.step (g':=s.gens) (d':=s.drawn) (ch:=[it]) (fun b hb=>?_) (fun b o _ _ hc e _=>k b o (fun z=>hc (by simp [z])) e) (fun b o _ _ hc e _=>⟨o.slots,k b o (fun z=>hc (by simp [z])) e⟩) (fun _ _ _ _ n=>n)
  (fun b o hc e=>⟨o,k b o (fun z=>hc (by simp [z])) e⟩) (fun _ _ e=>e) (fun _ _ _ e=>e) (fun b ps e=>⟨#[],by rw[e]; simp⟩) (fun m hm=>?_) (fun b u e=>?_) I.bare
 ·have e:b=it:=by simpa using hb
  subst e;exact⟨h1,hL,h2,h3⟩
 ·obtain⟨o,es,ep,ho,r⟩:=hm;exact⟨o,es,ep,k _ o (ev hL) ho,r⟩
 ·refine(I.hok b u e).stay (fun c v hc q=>k c v ?_ q) (fun _ q=>q) fun _ _ q=>q;rcases hc with z | z
  ·rw[z]; exact nit b u e
  ·exact nit c _ z
theorem Inv.tok (I:Inv X lH σ H s)(t:Nat):Inv X lH σ H { s with toks:=t} :=I.un (h':=s.heap) (t':=t) Un.refl I.hok
theorem Inv.kept {t':Nat}(I:Inv X lH σ H s)(k:∀ b u,s.heap.get? b=some u->h'.get? b=some u):Inv X lH σ H { s with heap:=h',toks:=t'} :=I.un (Un.kept k) (I.hok.kept k)
theorem Inv.laid {a:Addr}{o:HO}{t':Nat}(I:Inv X lH σ H s)(k:∀ b u,s.heap.get? b=some u->h'.get? b=some u)(hp:s.heap.objs.size<=a)(new:ObjOk X.prog X.w (upd H a o) h' a o):
  Inv X lH σ (upd H a o) { s with heap:=h',toks:=t'} :=I.un (Un.laid k hp (I.hok.fresh hp)) (I.hok.laid k hp new)
theorem Inv.write {x e:Addr}{o:HO}{t':Nat}(I:Inv X lH σ H s)(mu:Mut (H x))(he:e=x\/H e=some (.own x))(k:∀ b u,b≠e->s.heap.get? b=some u->h'.get? b=some u)(heo:∃ u,h'.get? e=some u)
  (new:ObjOk X.prog X.w (upd H x o) h' x o):Inv X lH σ (upd H x o) { s with heap:=h',toks:=t'} :=I.un (Un.write mu he k heo) (I.hok.write mu he k heo new)
theorem Inv.pins_of {lH':Ai}(I:Inv X lH σ H s)(h:∀ p∈lH',s.heap.get? p.1=some p.2/\H p.1=none/\p.1≠X.env.locals/\p.1∉X.fs/\∀ v,p.2.data≠ .cell v):Inv X lH' σ H s:=
 ⟨I.ok,I.os,I.bare,I.Ar,I.loc,I.cell,I.free,I.freeC,fun p hp=>(aJ.mp hp).elim (fun z=>I.pin p (aY _ z)) (h p),I.hok,I.len⟩
theorem jKP {N:An}(hN:N.Nodup){i j:Nat}{x:Str}(a:N[i]?=some x)(b:N[j]?=some x):i=j:=by
 obtain⟨h1,e1⟩:=ao.mp a;obtain⟨h2,e2⟩:=ao.mp b;exact(List.getElem_inj hN).mp (e1.trans e2.symm)
theorem jH9 {M:Model}{A:Around}{E:Ah}{i:Nat}{x:Str}{v:V}{u:Value}{Q:Unit->Shared->Prop}(I:Inv X lH σ H s)(hN:X.N.Nodup)(hi:X.N[i]?=some x)(hx:Loc X.env.scope x)(r:RelV v u)
  (h:∀ s',Inv X lH (σ.set i (some v)) H s'->(∃ a,Heap.SameBut a s.heap s'.heap/\(a=X.env.locals\/X.env.cells.lookup x=some a))->Q () s') (hf:X.fn x=true\/X.env.scope.names.lookup x=some .local:=by first | exact .inl rfl | exact .inr rfl | assumption):wpAny M A (storeName X.env x u) Q E s:=by
 obtain⟨m,hn,hl⟩:=id I.loc;have hcls:(X.env.scope.kind== .class || (X.env.scope.kind== .module&&X.env.locals != X.env.globals))=false:=by rw[I.ok.kind]; rfl
 have hiσ:i<σ.length:=by rw[I.len]; exact(ao.mp hi).1
 have cne:=I.cne;have tracked:∀ {a:Addr}{h':Heap},(∃ o,s.heap.get? a=some o/\H a=none)->Heap.SameBut a s.heap h'->HOk X.prog X.w H h':=fun {a h'} ha hs b ob e=>by
  obtain⟨_,_,hfree⟩:=ha;refine(I.hok b ob e).stay (fun c w' hc q=>(hs.2 c ?_).trans q) (fun _ q=>q) fun _ _ q=>q;rintro rfl;rcases hc with rfl | hc
  ·rw[hfree] at e; cases e
  ·rw[hfree] at hc; cases hc
 rcases hx with hk | hk
 ·refine wpAny_storeName_local hk hn (fun h' hn' hs=>?_) hcls;obtain⟨oL,_,_,hoL,_⟩:=id hn;refine h _ ⟨I.ok,I.os,I.bare,⟨fun b o e n hb hx=>?_,fun b o e n hb hx=>?_,I.Ar.free,fun b o e hx=>?_,I.Ar.tups,I.Ar.frzs,I.Ar.tbls⟩,⟨_,hn',fun j y v' e1 e2 e3=>?_⟩,fun y c e=>?_,I.free,I.freeC,fun p hp=>?_,tracked ⟨oL,hoL,I.free⟩ hs,by simpa using I.len⟩ ⟨_,hs, .inl rfl⟩
  ·exact(hs.2 b (aW (aX (aK e) I.ok.above))).trans (I.Ar.keep b o e n hb hx)
  ·obtain⟨sl,e1⟩:=I.Ar.slot b o e n hb hx;exact⟨sl,(hs.2 b (aW (aX (aK e) I.ok.above))).trans e1⟩
  ·obtain⟨o',e1⟩:=I.Ar.there b o e hx;exact⟨o',(hs.2 b (aW (aX (aK e) I.ok.above))).trans e1⟩
  ·by_cases hj:j=i
   ·subst hj;rw[hi] at e1; cases e1;rw[jk hiσ] at e2;cases e2;exact⟨u,r, .inl ⟨hk,Ad⟩⟩
   ·rw[kn (ev hj)] at e2;obtain⟨u',r',q⟩:=hl j y v' e1 e2 e3;refine⟨u',r',?_⟩;rcases q with ⟨k,e⟩ | ⟨k,c,e,z⟩
    ·refine .inl ⟨k,?_⟩;have:y≠x:=fun e=>hj (jKP hN e1 (e ▸ hi));simp [this,e]
    ·exact .inr ⟨k,c,e,z.sameBut hs (cne y c e)⟩
  ·obtain⟨w',z⟩:=I.cell y c e;exact⟨w',z.sameBut hs (cne y c e)⟩
  ·obtain⟨e,n,ne,nf,d⟩:=I.pin p hp;exact⟨(hs.2 p.1 ne).trans e,n,ne,nf,d⟩
 ·have hfn:X.fn x=true:=by
   rcases hf with z | z
   ·exact z
   ·rw[z] at hk; cases hk
  obtain⟨c,hc⟩:=I.ok.has x (.inl hk);obtain⟨w',z⟩:=I.cell x c hc;refine wpAny_storeName_cell I.ok.kind hk hc z (fun h' hc' hs=>?_);obtain⟨oc,hoc,hocd⟩:=id z;refine h { s with heap:=h'} ⟨I.ok,I.os,I.bare,⟨fun b o e n hb hx=>?_,fun b o e n hb hx=>?_,I.Ar.free,fun b o e hx=>?_,I.Ar.tups,I.Ar.frzs,I.Ar.tbls⟩,⟨m,hn.sameBut hs (ev (cne x c hc)),fun j y v' e1 e2 e3=>?_⟩,fun y c' e=>?_,I.free,I.freeC,fun p hp=>?_,tracked ⟨oc,hoc,I.freeC x c hc⟩ hs,by simpa using I.len⟩ ⟨c,hs, .inr hc⟩
  ·exact(hs.2 b (aW (aX (aK e) (I.ok.cab x c hfn hc)))).trans (I.Ar.keep b o e n hb hx)
  ·obtain⟨sl,e1⟩:=I.Ar.slot b o e n hb hx;exact⟨sl,(hs.2 b (aW (aX (aK e) (I.ok.cab x c hfn hc)))).trans e1⟩
  ·obtain⟨o',e1⟩:=I.Ar.there b o e hx;exact⟨o',(hs.2 b (aW (aX (aK e) (I.ok.cab x c hfn hc)))).trans e1⟩
  ·by_cases hj:j=i
   ·subst hj;rw[hi] at e1; cases e1;rw[jk hiσ] at e2;cases e2;exact⟨u,r, .inr ⟨.inl hk,c,hc,hc'⟩⟩
   ·rw[kn (ev hj)] at e2;obtain⟨u',r',q⟩:=hl j y v' e1 e2 e3;refine⟨u',r',?_⟩;rcases q with q | ⟨k,c',e,z'⟩
    ·exact .inl q
    ·refine .inr ⟨k,c',e,z'.sameBut hs ?_⟩;rintro rfl;exact hj (jKP hN e1 (I.ok.inj _ _ _ e hc ▸ hi))
  ·by_cases hcc:c'=c
   ·subst hcc; exact⟨_,hc'⟩
   ·obtain⟨w2,z2⟩:=I.cell y c' e;exact⟨w2,z2.sameBut hs hcc⟩
  ·obtain⟨e,n,ne,nf,d⟩:=I.pin p hp;refine⟨(hs.2 p.1 ?_).trans e,n,ne,nf,d⟩;intro q;rw[q,hoc] at e;have q':oc=p.2:=bD e;exact d w' (by rw[<- q']; exact hocd)
theorem jDQ {M:Model}{A:Around}{E:Ah}{i:Nat}{x:Str}{v:V}{u:Value}{Q:Unit->Shared->Prop}(I:Inv X lH σ H s)(hN:X.N.Nodup)(hi:X.N[i]?=some x)(hx:Loc X.env.scope x)(r:RelV v u)
  (h:∀ s',Inv X lH (σ.set i (some v)) H s'->Q () s') (hf:X.fn x=true\/X.env.scope.names.lookup x=some .local:=by first | exact .inl rfl | exact .inr rfl | assumption):wpAny M A (storeName X.env x u) Q E s:=
 jH9 I hN hi hx r (fun s' I' _=>h s' I') hf
theorem Inv.call' {s':Shared}{ch:List Addr}(I:Inv X lH σ H s)(ho:s'.os=s.os)(u:Un (frs X.stack) ch H H' s.heap s'.heap)(hok:HOk X.prog X.w H' s'.heap)(hg:AllBare s'.gens)
  (hch:∀ b∈ch,(b∈X.ex\/X.s₀.heap.objs.size<=b)/\b≠X.env.locals/\(∀ x c,X.env.cells.lookup x=some c->c≠b)/\∀ p∈X.pn++lH,p.1≠b):Inv X lH σ H' s':=by
 obtain⟨h',g',d',t',o'⟩:=s';have e:o'=s.os:=ho;subst e;exact I.call (g':=g') (t':=t') (d':=d') u hok hg hch
end
abbrev XK:=Value->Option Addr->Hp->Prop
abbrev St:=List (Option V)
abbrev VK:=V->Hp->Prop
abbrev TE:=St->Hp->VK->Prop
abbrev TT:=St->Hp->(Bool->Hp->Prop)->Prop
abbrev TA:=St->Hp->(List V->Hp->Prop)->Prop
structure Ends where
 nx:St->Hp->Prop
 rt:VK
 bk:St->Hp->Prop:=fun _ _=>False
 ct:St->Hp->Prop:=fun _ _=>False
abbrev TS:=Ends->St->Hp->Prop
def EP (X:Cx)(lH:Ai)(σ:St)(Q:VK)(u:Value)(s':Shared):Prop:=∃ v H',Inv X lH σ H' s'/\RelV v u/\Q v H'
def TP (X:Cx)(lH:Ai)(σ:St)(Q:Bool->Hp->Prop)(b:Bool)(s':Shared):Prop:=∃ H',Inv X lH σ H' s'/\Q b H'
def AP (X:Cx)(lH:Ai)(σ:St)(Q:List V->Hp->Prop)(us:Am)(s':Shared):Prop:=∃ vs H',Inv X lH σ H' s'/\Vals vs us/\Q vs H'
def SP (X:Cx)(lH:Ai)(D:Ends)(f:Flow)(s':Shared):Prop:=
 match f with
 | .next=>∃ σ' H',Inv X lH σ' H' s'/\D.nx σ' H'
 | .brk=>∃ σ' H',Inv X lH σ' H' s'/\D.bk σ' H'
 | .cont=>∃ σ' H',Inv X lH σ' H' s'/\D.ct σ' H'
 | .ret u=>∃ v σ' H',Inv X lH σ' H' s'/\RelV v u/\D.rt v H'
def PE (X:Cx)(e:Expr)(t:TE):Prop:=
 ∀ (lH:Ai) (s:Shared) (σ:St) (H:Hp) (Q:VK),Inv X lH σ H s->t σ H Q->wpAny (model X.prog X.w) X.A (eval e X.env) (EP X lH σ Q) X.xe s
def PT (X:Cx)(e:Expr)(t:TT):Prop:=
 ∀ (lH:Ai) (s:Shared) (σ:St) (H:Hp) (Q:Bool->Hp->Prop),Inv X lH σ H s->t σ H Q->wpAny (model X.prog X.w) X.A (isTrue e X.env (eval e X.env)) (TP X lH σ Q) X.xe s
def PW (X:Cx)(e:Expr)(t:TT):Prop:=
 ∀ (whole:Sem Value) (lH:Ai) (s:Shared) (σ:St) (H:Hp) (Q:Bool->Hp->Prop),Inv X lH σ H s->t σ H Q->wpAny (model X.prog X.w) X.A (isTrue e X.env whole) (TP X lH σ Q) X.xe s
theorem PW.pt {X:Cx}{e:Expr}{t:TT}(h:PW X e t):PT X e t:=h _
def PA (X:Cx)(es:List Expr)(t:TA):Prop:=
 ∀ (pos:Pos) (lH:Ai) (s:Shared) (σ:St) (H:Hp) (Q:List V->Hp->Prop),Inv X lH σ H s->t σ H Q->wpAny (model X.prog X.w) X.A (spliced (backTo pos (starEach es X.env))) (AP X lH σ Q) X.xe s
def PS (X:Cx)(st:Stmt)(t:TS):Prop:=
 ∀ (lH:Ai) (s:Shared) (σ:St) (H:Hp) (D:Ends),Inv X lH σ H s->t D σ H->wpAny (model X.prog X.w) X.A (exec st X.env) (SP X lH D) X.xe s
def PSs (X:Cx)(st:List Stmt)(t:TS):Prop:=
 ∀ (lH:Ai) (s:Shared) (σ:St) (H:Hp) (D:Ends),Inv X lH σ H s->t D σ H->wpAny (model X.prog X.w) X.A (execs st X.env) (SP X lH D) X.xe s
theorem lJ {α:Type}{t:Sem α}{Q Q':α->Shared->Prop}{M:Model}{A:Around}{E:Ah}{s:Shared}(h:wpAny M A t Q E s)(hQ:∀ a s,Q a s->Q' a s):wpAny M A t Q' E s:=cm h hQ fun _ _ x=>x
variable {b:Expr}{ta tb:TE}{pos:Pos}
section
def tVar (i:Nat):TE:=fun σ H Q=>∃ v,σ[i]?=some (some v)/\Q v H
def tC (v:V):TE:=fun _ H Q=>Q v H
theorem jHQ {i:Nat}{x:Str}{pos:Pos}(hN:X.N[i]?=some x)(hv:Vis X.env.scope x)(hd:(x==("__debug__" :Str))=false:=by decide)(hcd:(x==("__classdict__" :Str))=false:=by decide):PE X (.Name x pos) (tVar i):=by
 intro lH s σ H Q I h;obtain⟨v,e,h⟩:=h;obtain⟨m,hn,hl⟩:=I.loc;obtain⟨u,r,l⟩:=hl i x v hN e hv;have fin:EP X lH σ Q u s:=⟨v,H,I,r,h⟩;rcases l with ⟨hk,hm⟩ | ⟨hk,c,hc,hcell⟩
 ·exact wpAny_Name (wpAny_loadName_local I.ok.kind hk hn hm fin) hd
 ·rcases hk with hk | hk
  ·exact wpAny_Name (wpAny_loadName_cell I.ok.kind hk hc hcell fin) hd
  ·exact wpAny_Name (wpAny_loadName_free I.ok.kind hk hc hcell fin hcd) hd
theorem jU {i j pos} :PE X (.Constant (.int i) j pos) (tC (.int i)):=fun _ _ _ H _ I h=>wpAny_Constant_int ⟨.int i,H,I.tok _,⟨_,rfl⟩,h⟩
theorem pe_bl {b j pos} :PE X (.Constant (.bool b) j pos) (tC (.bl b)):=fun _ _ _ H _ I h=>Constant_bool ⟨.bl b,H,I,rfl,h⟩
theorem jW6 {j pos} :PE X (.Constant .none j pos) (tC .non):=fun _ _ _ H _ I h=>Constant_none ⟨.non,H,I,rfl,h⟩
def Gl (X:Cx)(x:Str):Prop:=X.env.kindOf x=some .globalImplicit
theorem jJC {E:Ah}{lH:Ai}{s:Shared}{σ:St}{H:Hp}{x:Str}{u:Value}{pos:Pos}{Q:Ah}(I:Inv X lH σ H s)(hg:Gl X x)(hm:X.mg x=some u)(h:Q u s)
  (hd:(x==("__debug__" :Str))=false:=by decide):wpAny (model X.prog X.w) X.A (eval (.Name x pos) X.env) Q E s:=
 iG I.ok.kind hg (Calls.loadGlobal_global (by rw[I.ok.glob]; exact I.mod.glob.keeps I.bk) hm h) hd
theorem jEO {E:Ah}{lH:Ai}{s:Shared}{σ:St}{H:Hp}{x:Str}{u:Value}{pos:Pos}{Q:Ah}(I:Inv X lH σ H s)(hg:Gl X x)(hm:X.mg x=none)(hv:bootBuiltins x=some u)(h:Q u s)
  (hn:x≠ "__name__" :=by decide) (hd:(x==("__debug__" :Str))=false:=by decide):wpAny (model X.prog X.w) X.A (eval (.Name x pos) X.env) Q E s:=by
 obtain⟨mb,h1,h2⟩:=I.mod.blt;exact iG I.ok.kind hg (Calls.loadGlobal_builtin (by rw[I.ok.glob]; exact I.mod.glob.keeps I.bk) hm (by rw[I.ok.blt]; exact h1.keeps I.bk) ((h2 x hn).trans hv) h) hd
theorem jTU {x:Str}{v:V}{u:Value}{pos:Pos}(hg:Gl X x)(hm:X.mg x=some u)(r:RelV v u)(hd:(x==("__debug__" :Str))=false:=by decide):PE X (.Name x pos) (tC v):=
 fun _ _ _ H _ I h=>jJC I hg hm ⟨v,H,I,r,h⟩ hd
theorem jU2 {x:Str}{v:V}{u:Value}{pos:Pos}(hg:Gl X x)(hm:X.mg x=none)(hv:bootBuiltins x=some u)(r:RelV v u)(hn:x≠ "__name__" :=by decide)(hd:(x==("__debug__" :Str))=false:=by decide):PE X (.Name x pos) (tC v):=
 fun _ _ _ H _ I h=>jEO I hg hm hv ⟨v,H,I,r,h⟩ hn hd
variable {a:Expr}
def PC (X:Cx)(op:CmpOp)(a b:Expr)(t:TE):Prop:=
 ∀ (lH:Ai) (s:Shared) (σ:St) (H:Hp) (Q:VK),Inv X lH σ H s->t σ H Q->
  wpAny (model X.prog X.w) X.A (eval a X.env) (fun v s₁=>wpAny (model X.prog X.w) X.A (eval b X.env) (fun u s₂=>wpAny (model X.prog X.w) X.A (compareOp op v u) (EP X lH σ Q) X.xe s₂) X.xe s₁) X.xe s
def tB (t:TE):TT:=fun σ H Q=>t σ H fun x H1=>∃ c,x= .bl c/\Q c H1
theorem jSB {op:CmpOp}{t:TE}(h:PC X op a b t)(h1:behindInMarks op b=false:=by first | exact nobehind _ Ac Ac | rfl):PT X (.Compare a [op] [b] pos) (tB t):=by
 intro lH s σ H Q I hw;refine wpAny_isTrue_Compare1 (lJ (h lH s σ H _ I hw) fun v s1 h1=>lJ h1 fun u s2 h2=>lJ h2 fun c s3 ⟨x,H1,I1,r1,q1⟩=>?_) h1;obtain⟨d,rfl,q⟩:=q1;cases r1;exact dI ⟨H1,I1,q⟩
theorem jVV {e:Expr}{t:TE}(h:PE X e t)(he:∀ whole,isTrue e X.env whole=(do let v <- whole; standAt e.pos; holding [v] (truthy v)):=by intro _; rfl):PT X e (tB t):=by
 intro lH s σ H Q I hw;refine isTrue_plain (lJ (h lH s σ H _ I hw) fun v s1 ⟨x,H1,I1,r1,q1⟩=>?_) (he _);obtain⟨d,rfl,q⟩:=q1;cases r1;exact dI ⟨H1,I1,q⟩
variable {tA tB':TT}{rest:List Expr}
def tAnd (t u:TT):TT:=fun σ H Q=>t σ H fun c H1=>if c=true then u σ H1 Q else Q false H1
def tOr (t u:TT):TT:=fun σ H Q=>t σ H fun c H1=>if c=true then Q true H1 else u σ H1 Q
def tNot (t:TT):TT:=fun σ H Q=>t σ H fun c H1=>Q (!c) H1
theorem jTG (ha:PT X a tA):PW X (.BoolOp .And [a] pos) tA:=by
 intro wh lH s σ H Q I h;refine isTrue_and (lJ (ha lH s σ H Q I h) fun c s1 e=>?_);cases c with
 | true=>exact isTrue_and_nil e
 | false=>exact e
theorem jVT (ha:PT X a tA):PW X (.BoolOp .Or [a] pos) tA:=by
 intro wh lH s σ H Q I h;refine isTrue_or (lJ (ha lH s σ H Q I h) fun c s1 e=>?_);cases c with
 | false=>exact isTrue_or_nil e
 | true=>exact e
theorem jVU (ha:PT X a tA)(hb:PW X (.BoolOp .And (b::rest) pos) tB'):PW X (.BoolOp .And (a::b::rest) pos) (tAnd tA tB'):=by
 intro wh lH s σ H Q I h;refine isTrue_and (lJ (ha lH s σ H _ I h) fun c s1 ⟨H1,I1,q1⟩=>?_);cases c with
 | true=>exact hb wh lH s1 σ H1 Q I1 q1
 | false=>exact⟨H1,I1,q1⟩
theorem pw_or (ha:PT X a tA)(hb:PW X (.BoolOp .Or (b::rest) pos) tB'):PW X (.BoolOp .Or (a::b::rest) pos) (tOr tA tB'):=by
 intro wh lH s σ H Q I h;refine isTrue_or (lJ (ha lH s σ H _ I h) fun c s1 ⟨H1,I1,q1⟩=>?_);cases c with
 | true=>exact⟨H1,I1,q1⟩
 | false=>exact hb wh lH s1 σ H1 Q I1 q1
theorem jVW (ha:PT X a tA):PT X (.UnaryOp .Not a pos) (tNot tA):=by
 intro lH s σ H Q I h;exact isTrue_not (ha lH s σ H (fun c H1=>Q (!c) H1) I h)
def tAndV (ta tb:TE):TE:=fun σ H Q=>ta σ H fun x H1=>∃ c,x= .bl c/\if c=true then tb σ H1 Q else Q (.bl false) H1
def tOrV (ta tb:TE):TE:=fun σ H Q=>ta σ H fun x H1=>∃ c,x= .bl c/\if c=true then Q (.bl true) H1 else tb σ H1 Q
def tNotV (ta:TE):TE:=fun σ H Q=>ta σ H fun x H1=>∃ c,x= .bl c/\Q (.bl (!c)) H1
theorem jW4 {op}{t:TE}(h:PE X a t):PE X (.BoolOp op [a] pos) t:=fun lH s σ H Q I hw=>BoolOp_one (h lH s σ H Q I hw)
theorem jW9 (ha:PE X a ta)(hb:PE X (.BoolOp .And (b::rest) pos) tb):PE X (.BoolOp .And (a::b::rest) pos) (tAndV ta tb):=by
 intro lH s σ H Q I h;refine BoolOp_and (lJ (ha lH s σ H _ I h) fun v s1 ⟨x,H1,I1,r1,q1⟩=>?_);obtain⟨c,rfl,q1⟩:=q1;cases r1;refine dI ?_;cases c with
 | true=>exact hb lH s1 σ H1 Q I1 q1
 | false=>exact⟨.bl false,H1,I1,rfl,q1⟩
theorem pe_or (ha:PE X a ta)(hb:PE X (.BoolOp .Or (b::rest) pos) tb):PE X (.BoolOp .Or (a::b::rest) pos) (tOrV ta tb):=by
 intro lH s σ H Q I h;refine BoolOp_or (lJ (ha lH s σ H _ I h) fun v s1 ⟨x,H1,I1,r1,q1⟩=>?_);obtain⟨c,rfl,q1⟩:=q1;cases r1;refine dI ?_;cases c with
 | false=>exact hb lH s1 σ H1 Q I1 q1
 | true=>exact⟨.bl true,H1,I1,rfl,q1⟩
theorem jW5 (ha:PE X a ta):PE X (.UnaryOp .Not a pos) (tNotV ta):=by
 intro lH s σ H Q I h;refine UnaryOp_ (lJ (ha lH s σ H _ I h) fun v s1 ⟨x,H1,I1,r1,q1⟩=>?_);obtain⟨c,rfl,q1⟩:=q1;cases r1;exact not_of (dI ⟨.bl (!c),H1,I1,rfl,q1⟩)
def tIf (t:TT)(ta tb:TE):TE:=fun σ H Q=>t σ H fun c H1=>if c=true then ta σ H1 Q else tb σ H1 Q
theorem jQL {c:Expr}(hc:PT X c tA)(ha:PE X a ta)(hb:PE X b tb):PE X (.IfExp c a b pos) (tIf tA ta tb):=by
 intro lH s σ H Q I h;refine wpAny_IfExp (lJ (hc lH s σ H _ I h) fun d s1 ⟨H1,I1,q1⟩=>?_);cases d with
 | true=>exact ha lH s1 σ H1 Q I1 q1
 | false=>exact hb lH s1 σ H1 Q I1 q1
end
def SqL (K:W.Frag)(H:Hp)(a:Addr)(xs:List V):Prop:=
 Rd H a (.lst xs)\/
  ∃ (o:Obj) (its:Ao) (n:Nat),K.lookup a=some o/\o.cls= .type "list" /\o.dict=none/\o.data= .seq its n/\its.size<=sizeLine/\Vals xs its.toList
def SqT (K:W.Frag)(H:Hp)(a:Addr)(xs:List V):Prop:=
 Rd H a (.tup xs)\/
  ∃ (o:Obj) (its:Ao) (n:Nat),K.lookup a=some o/\o.cls= .type "tuple" /\o.data= .seq its n/\its.size<=sizeLine/\Vals xs its.toList
def absV:Value->Option V
 | .none=>some .non
 | .bool b=>some (.bl b)
 | .int i _=>some (.int i)
 | .str x _=>some (.str x)
 | .bytes b _=>some (.byt b)
 | .float b _=>some (.flt b)
 | .ref a=>some (.ref a)
 | .type n=>some (.ty n)
 | _=>none
theorem RelV.abs {x:V}{u:Value}(r:RelV x u):absV u=some x:=by
 cases x with
 | non=>cases r; rfl
 | bl _=>cases r; rfl
 | int _=>obtain⟨t,rfl⟩:=r; rfl
 | str _=>obtain⟨t,rfl⟩:=r; rfl
 | byt _=>obtain⟨t,rfl⟩:=r; rfl
 | flt _=>obtain⟨t,rfl⟩:=r; rfl
 | ref _=>cases r; rfl
 | ty _=>cases r; rfl
theorem RelV.inj {x y:V}{u:Value}(r:RelV x u)(q:RelV y u):x=y:=bD (r.abs.symm.trans q.abs)
theorem Vals.inj:∀ {xs ys:List V}{us:Am},Vals xs us->Vals ys us->xs=ys
 | _,_,_, .nil, .nil=>rfl
 | _,_,_, .cons r t, .cons r' t'=>by rw[r.inj r',Vals.inj t t']
section
variable {σ:St}{xs ys:List V}
theorem SqL.of {K:W.Frag}(h:H a=some (.lst xs)):SqL K H a xs:= .inl (.inl h)
theorem SqT.of {K:W.Frag}(h:H a=some (.tup xs)):SqT K H a xs:= .inl (.inl h)
theorem Inv.list (I:Inv X lH σ H s)(h:SqL X.K H a xs):∃ its:Am,Vals xs its/\PlainL s.heap a its.toArray/\xs.length<=sizeLine:=by
 rcases h with h | ⟨o,its,n,hk,hc,hd,hs,hz,r⟩
 ·obtain⟨z,its,n,r,e⟩:=h.ok I.hok;exact⟨its,r,⟨_,n,e,rfl,rfl,rfl⟩,z⟩
 ·refine⟨its.toList,r,⟨o,n,I.kIn a o hk,hc,hd,by simpa using hs⟩,?_⟩;have e:=r.length;simp only [aP] at e;lia
theorem Inv.tuple (I:Inv X lH σ H s)(h:SqT X.K H a xs):∃ its:Am,Vals xs its/\IsTup s.heap a its.toArray/\xs.length<=sizeLine:=by
 rcases h with h | ⟨o,its,n,hk,hc,hs,hz,r⟩
 ·obtain⟨z,its,r,p⟩:=h.ok I.hok;exact⟨its,r,p.isTup,z⟩
 ·refine⟨its.toList,r,⟨o,I.kIn a o hk,hc,n,by simpa using hs⟩,?_⟩;have e:=r.length;simp only [aP] at e;lia
theorem Inv.list_inj (I:Inv X lH σ H s)(h:SqL X.K H a xs)(h':SqL X.K H a ys):xs=ys:=by
 obtain⟨its,r,⟨o,n,e,_,_,d⟩,_⟩:=I.list h;obtain⟨its',r',⟨o',n',e',_,_,d'⟩,_⟩:=I.list h';rw[e] at e'; cases e';rw[d] at d';injection d' with d1 _;have:its=its':=by simpa using bW Array.toList d1
 subst this;exact r.inj r'
theorem Inv.tuple_inj (I:Inv X lH σ H s)(h:SqT X.K H a xs)(h':SqT X.K H a ys):xs=ys:=by
 obtain⟨its,r,⟨o,e,_,n,d⟩,_⟩:=I.tuple h;obtain⟨its',r',⟨o',e',_,n',d'⟩,_⟩:=I.tuple h';rw[e] at e'; cases e';rw[d] at d';injection d' with d1 _;have:its=its':=by simpa using bW Array.toList d1
 subst this;exact r.inj r'
end
abbrev Cx.wish (X:Cx)(E:Ah):Cx:= { X with xe:=E}
abbrev Cx.nox (X:Cx):Cx:=X.wish fun _ _=>False
theorem Cx.Ok.wish {X:Cx}(ok:X.Ok)(E:Ah):(X.wish E).Ok:=
 ⟨ok.mod,ok.kind,ok.glob,ok.blt,ok.above,ok.inj,ok.has,ok.cab,ok.hd,ok.frames,ok.stk,ok.exf,ok.bs,ok.bsz,ok.noex,ok.exfs,ok.funs,ok.frf⟩
theorem Cx.Ok.unwish {X:Cx}{E:Ah}(ok:(X.wish E).Ok):X.Ok:=
 ⟨ok.mod,ok.kind,ok.glob,ok.blt,ok.above,ok.inj,ok.has,ok.cab,ok.hd,ok.frames,ok.stk,ok.exf,ok.bs,ok.bsz,ok.noex,ok.exfs,ok.funs,ok.frf⟩
variable {E:Ah}
section
variable {σ:St}
theorem Inv.wish (I:Inv X lH σ H s)(E:Ah):Inv (X.wish E) lH σ H s:=⟨I.ok.wish E,I.os,I.bare,I.Ar,I.loc,I.cell,I.free,I.freeC,I.pin,I.hok,I.len⟩
theorem Inv.unwish (I:Inv (X.wish E) lH σ H s):Inv X lH σ H s:=⟨I.ok.unwish,I.os,I.bare,I.Ar,I.loc,I.cell,I.free,I.freeC,I.pin,I.hok,I.len⟩
theorem SP.unwish {D:Ends}{f:Flow}{s':Shared}(h:SP (X.wish E) lH D f s'):SP X lH D f s':=by
 cases f with
 | next=>obtain⟨σ',H',I,q⟩:=h; exact⟨σ',H',I.unwish,q⟩
 | brk=>obtain⟨σ',H',I,q⟩:=h; exact⟨σ',H',I.unwish,q⟩
 | cont=>obtain⟨σ',H',I,q⟩:=h; exact⟨σ',H',I.unwish,q⟩
 | ret u=>obtain⟨v,σ',H',I,r,q⟩:=h; exact⟨v,σ',H',I.unwish,r,q⟩
theorem PSs.nox {st:List Stmt}{t:TS}(h:PSs X.nox st t):PSs X st t:=fun lH s σ H D I hw=>
 cm (h lH s σ H D (I.wish _) hw) (fun _ _ q=>q.unwish) fun _ _ z=>False.elim z
end
variable {e:Expr}{te:TE}
section
variable {st:Stmt}{rest:List Stmt}{t u:TS}
def tNext:TS:=fun D σ H=>D.nx σ H
def tSeq (t u:TS):TS:=fun D σ H=>t { D with nx:=u D} σ H
theorem jG7:PSs X [] tNext:=fun _ _ σ H _ I h=>ik ⟨σ,H,I,h⟩
theorem kZ (h1:PS X st t)(h2:PSs X rest u):PSs X (st::rest) (tSeq t u):=by
 intro lH s σ H D I h;refine wpAny_execs_cons (lJ (h1 lH s σ H { D with nx:=u D} I h) fun f s1 q=>?_);cases f with
 | next=>
  obtain⟨σ',H',I',q⟩:=q;exact h2 lH s1 σ' H' D I' q
 | ret v=>exact q
 | brk=>exact q
 | cont=>exact q
theorem jAX (h1:PS X st t):PSs X [st] t:=by
 intro lH s σ H D I h;refine wpAny_execs_cons (lJ (h1 lH s σ H D I h) fun f s1 q=>?_);cases f with
 | next=>exact ik q
 | ret v=>exact q
 | brk=>exact q
 | cont=>exact q
theorem Inv.quiet {lH:Ai}{σ:St}{H:Hp}{s:Shared}(I:Inv X lH σ H s):interactive X.env=false:=by simp [interactive,I.ok.kind]
def tDrop (te:TE):TS:=fun D σ H=>te σ H fun _ H1=>D.nx σ H1
theorem jTJ (he:PE X e te)(hs:swapsWith e none pos.line X.env=pure false:=by rfl):PS X (.Expr e pos) (tDrop te):=by
 intro lH s σ H D I h;exact wpAny_Expr_any (lJ (he lH s σ H _ I h) fun v s1 ⟨x,H1,I1,r1,q1⟩=>⟨σ,H1,I1,q1⟩) I.quiet hs
def tRet (te:TE):TS:=fun D σ H=>te σ H D.rt
theorem jDJ (he:PE X e te):PS X (.Return (some e) pos) (tRet te):=by
 intro lH s σ H D I h;exact wpAny_Return_some (lJ (he lH s σ H _ I h) fun v s1 ⟨x,H1,I1,r1,q1⟩=>⟨x,σ,H1,I1,r1,q1⟩)
def tIfS (c:TT)(t u:TS):TS:=fun D σ H=>c σ H fun b H1=>if b=true then t D σ H1 else u D σ H1
theorem ps_if {c:Expr}{a b:List Stmt}{tc:TT}(hc:PT X c tc)(ha:PSs X a t)(hb:PSs X b u):PS X (.If c a b pos) (tIfS tc t u):=by
 intro lH s σ H D I h;refine wpAny_If (lJ (hc lH s σ H _ I h) fun d s1 ⟨H1,I1,q1⟩=>?_);cases d with
 | true=>exact ha lH s1 σ H1 D I1 q1
 | false=>exact hb lH s1 σ H1 D I1 q1
end
abbrev TG:=V->St->Hp->(St->Hp->Prop)->Prop
abbrev TGs:=List V->St->Hp->(St->Hp->Prop)->Prop
def PG (X:Cx)(target:Expr)(t:TG):Prop:=
 ∀ (lH:Ai) (s:Shared) (σ:St) (H:Hp) (v:V) (u:Value) (Q:St->Hp->Prop),Inv X lH σ H s->RelV v u->t v σ H Q->
  wpAny (model X.prog X.w) X.A (assign target X.env u) (fun _ s'=>∃ σ' H',Inv X lH σ' H' s'/\Q σ' H') X.xe s
def PGs (X:Cx)(ts:List Expr)(t:TGs):Prop:=
 ∀ (lH:Ai) (s:Shared) (σ:St) (H:Hp) (vs:List V) (us:Am) (Q:St->Hp->Prop),Inv X lH σ H s->Vals vs us->t vs σ H Q->
  wpAny (model X.prog X.w) X.A (assignInOrder ((assignEach ts X.env).map (·.2)) us) (fun _ s'=>∃ σ' H',Inv X lH σ' H' s'/\Q σ' H') X.xe s
abbrev TSet:=V->V->V->Hp->(Hp->Prop)->Prop
def PSet (X:Cx)(t:TSet):Prop:=
 ∀ (lH:Ai) (s:Shared) (σ:St) (H:Hp) (o i v:V) (ov iv u:Value) (Q:Hp->Prop),Inv X lH σ H s->RelV o ov->RelV i iv->RelV v u->t o i v H Q->
  wpAny (model X.prog X.w) X.A (setItem ov iv u) (fun _ s'=>∃ H',Inv X lH σ H' s'/\Q H') X.xe s
def kR (i:Nat):TG:=fun v σ H Q=>Q (σ.set i (some v)) H
theorem jG8 {i:Nat}{x:Str}(hN:X.N.Nodup)(hi:X.N[i]?=some x)(hx:Loc X.env.scope x)(hf:X.fn x=true\/X.env.scope.names.lookup x=some .local:=by first | exact .inl rfl | exact .inr rfl | assumption):PG X (.Name x pos) (kR i):=by
 intro lH s σ H v u Q I r h;exact wpAny_assign_Name (jDQ I hN hi hx r (fun s' I'=>⟨_,H,I',h⟩) hf)
def gNil:TGs:=fun vs σ H Q=>vs=[]/\Q σ H
def gCons (t:TG)(u:TGs):TGs:=fun vs σ H Q=>∃ v r,vs=v::r/\t v σ H fun σ' H'=>u r σ' H' Q
theorem jTT:PGs X [] gNil:=by
 intro lH s σ H vs us Q I r h;obtain⟨e,h⟩:=h;subst e;cases r;exact assignInOrder_nil ⟨σ,H,I,h⟩
theorem jQJ {e:Expr}{es:List Expr}{t:TG}{u:TGs}(h1:PG X e t)(h2:PGs X es u)
  (hs:(assignEach (e::es) X.env).map (·.2)=assign e X.env::(assignEach es X.env).map (·.2):=by rfl):PGs X (e::es) (gCons t u):=by
 intro lH s σ H vs us Q I r h;obtain⟨v,vr,e1,h⟩:=h;subst e1;cases r with
 | cons r rr=>
  rw[hs];refine assignInOrder_cons (lJ (h1 lH s σ H _ _ _ I r h) fun _ s1 ⟨σ1,H1,I1,q1⟩=>?_);exact h2 lH s1 σ1 H1 _ _ Q I1 rr q1
def gTup (K:W.Frag)(n:Nat)(t:TGs):TG:=fun v σ H Q=>∃ a xs,v= .ref a/\SqT K H a xs/\xs.length=n/\t xs σ H Q
theorem jW1 {es:List Expr}{k:Nat}{t:TGs}{n:Nat}(hc:X.calm=true)(h:PGs X es t)
  (hn:(assignEach es X.env).length=n:=by rfl) (hst:(assignEach es X.env).findIdx? (·.1)=none:=by rfl):PG X (.Tuple es k pos) (gTup X.K n t):=by
 intro lH s σ H v u Q I r hw;obtain⟨a,xs,e1,hq,hl,hw⟩:=hw;subst e1;cases r;obtain⟨its,rv,ht,hz⟩:=I.tuple hq;refine assign_Tuple_tuple (I.ok.hd hc) ht (by simp [hn,<- hl,rv.length]) hst fun h' hx=>?_;have I1:Inv X lH σ H { s with heap:=h'} :=I.kept (t':=s.toks) fun b o e=>hx b o (aW (aK e)) e;exact h lH _ σ H xs _ Q I1 (by simpa using rv) hw
def gSub (to ti:TE)(t:TSet):TG:=fun v σ H Q=>to σ H fun o H1=>ti σ H1 fun i H2=>t o i v H2 fun H3=>Q σ H3
theorem jW2 {o i:Expr}{to ti:TE}{t:TSet}(ho:PE X o to)(hi:PE X i ti)(hs:PSet X t)
  (ha:∀ v,assign (.Subscript o i pos) X.env v=(do
   let ov <- holding [v] (eval o X.env)
   let iv <- holding [v,ov] (eval i X.env)
   standAt pos
   holding [v,ov,iv] (setItem ov iv v)
   release [v,ov,iv] []):=by intro _; rfl):PG X (.Subscript o i pos) (gSub to ti t):=by
 intro lH s σ H v u Q I r h;rw[ha];refine ae (bX (lJ (ho lH s σ H _ I h) fun ov s1 ⟨x,H1,I1,r1,q1⟩=>?_));refine ae (bX (lJ (hi lH s1 σ H1 _ I1 q1) fun iv s2 ⟨y,H2,I2,r2,q2⟩=>?_));refine ae (fe (ae (bX (lJ (hs lH s2 σ H2 x y v ov iv u _ I2 r1 r2 r q2) fun _ s3 ⟨H3,I3,q3⟩=>?_))));exact wpAny_release ⟨σ,H3,I3,q3⟩
def tAsg (te:TE)(g:TG):TS:=fun D σ H=>te σ H fun x H1=>g x σ H1 D.nx
theorem jVY {tg e:Expr}{te:TE}{g:TG}(he:PE X e te)(hg:PG X tg g)(hs:swapsWithSole [tg] e pos.line X.env=pure false:=by rfl)(hw:swappedStores [tg] e X.env=pure none:=by rfl)
  (h1:(assignEach [tg] X.env).map (·.2)=[assign tg X.env]:=by rfl):PS X (.Assign [tg] e pos) (tAsg te g):=by
 intro lH s σ H D I h;refine wpAny_Assign_stores (lJ (he lH s σ H _ I h) fun v s1 ⟨x,H1,I1,r1,q1⟩=>?_) hs hw;rw[h1];exact lJ (hg lH s1 σ H1 x v _ I1 r1 q1) fun _ s2 q=>q
theorem qG {i:Nat}{x:Str}{e:Expr}{te:TE}{pos':Pos}(hN:X.N.Nodup)(hi:X.N[i]?=some x)(hx:Loc X.env.scope x)(he:PE X e te)(hs:swapsWith e (some (.Name x pos')) pos.line X.env=pure false:=by rfl)(hf:X.fn x=true\/X.env.scope.names.lookup x=some .local:=by first | exact .inl rfl | exact .inr rfl | assumption):
  PS X (.Assign [.Name x pos'] e pos) (tAsg te (kR i)):=by
 intro lH s σ H D I h;refine wpAny_Assign_Name (lJ (he lH s σ H _ I h) fun v s1 ⟨y,H1,I1,r1,q1⟩=>?_) hs;exact jDQ I1 hN hi hx r1 (fun s2 I2=>⟨_,H1,I2,q1⟩) hf
def jS4 (c:TT)(tb:TS):TS:=fun D σ H=>∃ W:Nat->St->Hp->Prop,(∃ m,W m σ H)/\∀ m σ H,W m σ H->
 c σ H fun b H1=>if b=true then ∃ N:St->Hp->Prop,(∀ σ' H',N σ' H'->∃ m',m'<m/\W m' σ' H')/\tb { D with nx:=N,ct:=N,bk:=D.nx} σ H1 else D.nx σ H1
theorem jQD {c:Expr}{body:List Stmt}{tc:TT}{tb:TS}(hp:PassesOwn (model X.prog X.w) X.A X.env X.xe)(hc:PT X c tc)(hb:PSs X body tb):PS X (.While c body [] pos) (jS4 tc tb):=by
 intro lH s σ H D I h;obtain⟨W,⟨m0,w0⟩,turn⟩:=h;refine wpAny_While (codeAny_whileLoop (fun n s'=>∃ σ' H',Inv X lH σ' H' s'/\W n σ' H') ?_ m0 ⟨σ,H,I,w0⟩);rintro n s1 ⟨σ1,H1,I1,w1⟩;refine eh hp (lJ (hc lH s1 σ1 H1 _ I1 (turn n σ1 H1 w1)) fun b s2 ⟨H2,I2,q2⟩=>?_);cases b with
 | true=>
  obtain⟨N,hN,q2⟩:=q2;rw[aq rfl];refine eh hp (lJ (hb lH s2 σ1 H2 _ I2 q2) fun f s3 q3=>?_);cases f with
  | next=>
   obtain⟨σ3,H3,I3,n3⟩:=q3;obtain⟨m',hm,w3⟩:=hN σ3 H3 n3;exact⟨m',hm,σ3,H3,I3,w3⟩
  | cont=>
   obtain⟨σ3,H3,I3,n3⟩:=q3;obtain⟨m',hm,w3⟩:=hN σ3 H3 n3;exact⟨m',hm,σ3,H3,I3,w3⟩
  | brk=>exact q3
  | ret v=>exact q3
 | false=>
  rw[ak ay];exact ik ⟨σ1,H2,I2,q2⟩
structure It where
 go:Nat->Hp->Prop
 yld:Nat->Hp->V->Hp->Prop
 stop:Nat->Hp->Prop
def FpOk (X:Cx)(lH:Ai)(H:Hp)(b:Addr):Prop:=
 H b=none/\b≠X.env.locals/\b∉X.fs/\(b∈X.ex\/X.s₀.heap.objs.size<=b)/\(∀ x c,X.env.cells.lookup x=some c->c≠b)/\∀ p∈X.pn++lH,p.1≠b
theorem Inv.fpOk {X:Cx}{lH:Ai}{σ:St}{H H':Hp}{s:Shared}{b:Addr}(I:Inv X lH σ H s)(hb:s.heap.objs.size<=b)(hn:H' b=none):FpOk X lH H' b:=by
 refine⟨hn,cP (aX I.lt hb),I.nofs hb, .inr (bv I.sz hb),fun x c e z=>?_,fun p hp z=>?_⟩
 ·obtain⟨v,q⟩:=I.cell x c e;exact absurd (aX q.lt (by rw[z]; exact hb)) (dz _)
 ·exact absurd (aX (aK (I.pin p hp).1) (by rw[z]; exact hb)) (dz _)
structure Turn (P:Program)(w:World)(K:W.Frag)(tg:Expr)(J:It)(fp:List Addr)(it:Addr)(tn:Nat->Heap->Prop):Prop where
 mem:it∈fp
 obj:∀ i h,tn i h->∀ b∈fp,∃ o,h.get? b=some o/\∀ v,o.data≠ .cell v
 keep:∀ i h h',tn i h->(∀ b∈fp,∀ o,h.get? b=some o->h'.get? b=some o)->tn i h'
 item:∀ (X:Cx),X.prog=P->X.w=w->X.K=K->X.calm=true->∀ (i:Nat) (lH:Ai) (s:Shared) (σ:St) (H:Hp) (E:Ah),Inv X lH σ H s->(∀ b∈fp,FpOk X lH H b)->tn i s.heap->J.go i H->
  wpAny (model P w) X.A (pyNext (.ref it)) (fun r s1=>∃ u,r=some u/\
   wpAny (model P w) X.A (letOwnedTupleGo tg (.ref it) u) (fun _ s2=>∃ x H',Inv X lH σ H' s2/\RelV x u/\J.yld i H x H'/\tn (i+1) s2.heap/\∀ b∈fp,H' b=none) E s1) E s
 done:∀ (X:Cx),X.prog=P->X.w=w->X.K=K->X.calm=true->∀ (i:Nat) (lH:Ai) (s:Shared) (σ:St) (H:Hp) (E:Ah),Inv X lH σ H s->(∀ b∈fp,FpOk X lH H b)->tn i s.heap->J.stop i H->
  wpAny (model P w) X.A (pyNext (.ref it)) (fun r s1=>r=none/\Inv X lH σ H s1) E s
 self:∀ (A:Around) (i:Nat) (s:Shared) (Q:Ah) (E:Ah),tn i s.heap->Q (.ref it) s->wpAny (model P w) A (pyIter (.ref it)) Q E s
abbrev TI:=St->Hp->(It->Hp->Prop)->Prop
def PIE (X:Cx)(lH:Ai)(σ:St)(tg:Expr)(R:It->Hp->Prop)(itv:Value)(s2:Shared):Prop:=
 ∃ (it:Addr) (fp:List Addr) (tn:Nat->Heap->Prop) (J:It) (H':Hp),itv= .ref it/\Inv X lH σ H' s2/\Turn X.prog X.w X.K tg J fp it tn/\tn 0 s2.heap/\(∀ b∈fp,FpOk X lH H' b)/\R J H'
def PI (X:Cx)(tg iter:Expr)(wi:TI):Prop:=
 ∀ (lH:Ai) (s:Shared) (σ:St) (H:Hp) (R:It->Hp->Prop),Inv X lH σ H s->wi σ H R->
  wpAny (model X.prog X.w) X.A (eval iter X.env) (fun v s1=>wpAny (model X.prog X.w) X.A (pyIter v) (PIE X lH σ tg R) X.xe s1) X.xe s
theorem go_of {M:Model}{A:Around}{E:Ah}{s:Shared}{tg:Expr}{it:Addr}{u:Value}{o:Obj}{n:String}{vs:Ao}{Q:Unit->Shared->Prop}(ho:s.heap.get? it=some o)(hc:o.cls= .type n)(hd:o.data= .fields vs)
  (hn: ["enumerate","zip","dict_itemiterator","dict_reverseitemiterator","odict_iterator","itertools.zip_longest","itertools.pairwise"].contains n=false) (hQ:Q () s):wpAny M A (letOwnedTupleGo tg (.ref it) u) Q E s:=by
 unfold letOwnedTupleGo;cases tg <;> first
  | exact aj hQ
  | (cases u <;> first
    | exact aj hQ
    | (refine ae (gU ho ?_)
       rw [hc, hd];show wpAny M A (if (["enumerate", "zip", "dict_itemiterator", "dict_reverseitemiterator", "odict_iterator", "itertools.zip_longest", "itertools.pairwise"].contains n && vs[0]? == some (rawInt _)) = true then _ else _) Q E s;rw [ak (by intro h; rw [hn, dC] at h; cases h)];exact aj hQ))
def Itl (K:W.Frag)(a:Addr):It:=
 ⟨fun i H=>∃ xs x,SqL K H a xs/\xs[i]?=some x,fun i H x H'=>H'=H/\∀ xs,SqL K H a xs->xs[i]?=some x,fun i H=>∃ xs,SqL K H a xs/\xs.length<=i⟩
def Itt (K:W.Frag)(a:Addr):It:=
 ⟨fun i H=>∃ xs x,SqT K H a xs/\xs[i]?=some x,fun i H x H'=>H'=H/\∀ xs,SqT K H a xs->xs[i]?=some x,fun i H=>∃ xs,SqT K H a xs/\xs.length<=i⟩
def Itr (lo:Int)(n:Nat):It:=⟨fun i _=>i<n,fun i H x H'=>H'=H/\x= .int (lo+i),fun i _=>n<=i⟩
theorem jMP {P:Program}{w:World}{K:W.Frag}{tg:Expr}(a it:Addr):Turn P w K tg (Itl K a) [it] it (fun i h=>h.IsListIter it a i) where
 mem:=by simp
 obj:=fun i h st b hb=>by
  have e:b=it:=by simpa using hb
  subst e;obtain⟨o,e,c,d⟩:=st;exact⟨o,e,fun v z=>by rw[d] at z; cases z⟩
 keep:=fun i h h' st k=>st.at fun o e=>k it Ad o e
 item:=by
  intro X hP hw hK hc i lH s σ H E I hf st hg;subst hP hw hK;obtain⟨xs,x,hq,hx⟩:=hg;obtain⟨its,rv,p,hz⟩:=I.list hq;obtain⟨u,hu,ru⟩:=rv.get hx;obtain⟨f0,f1,f2,f3,f4,f5⟩:=hf it Ad;refine wpAny_pyNext_list_item st p.isList (x:=u) (by simpa using hu) fun h' st' sb=>?_;have I1:Inv X lH σ H { s with heap:=h'} :=I.turned (t':=s.toks) (fun b o hb e=>(sb.2 b hb).trans e) f0 f1 f3 f4 f5;obtain⟨o,e,c,d⟩:=id st';exact⟨u,rfl,go_of (s:= { s with heap:=h'}) e c d Ac ⟨x,H,I1,ru,⟨rfl,fun ys hy=>by rw[I.list_inj hy hq]; exact hx⟩,st',fun b hb=>(hf b hb).1⟩⟩
 done:=by
  intro X hP hw hK hc i lH s σ H E I hf st hg;subst hP hw hK;obtain⟨xs,hq,hx⟩:=hg;obtain⟨its,rv,p,hz⟩:=I.list hq;obtain⟨f0,f1,f2,f3,f4,f5⟩:=hf it Ad;have hl:=rv.length;exact wpAny_pyNext_list_end (I.ok.hd hc) st p.isList (by simp; lia) fun h' eb=>⟨rfl,I.turned (t':=s.toks) (fun b o hb e=>eb b o hb e) f0 f1 f3 f4 f5⟩
 self:=fun _ _ _ _ _ st h=>wpAny_pyIter_listiter st h
theorem jLL {P:Program}{w:World}{K:W.Frag}{tg:Expr}(a it:Addr):Turn P w K tg (Itt K a) [it] it (fun i h=>h.IsTupleIter it a i) where
 mem:=by simp
 obj:=fun i h st b hb=>by
  have e:b=it:=by simpa using hb
  subst e;obtain⟨o,e,c,d⟩:=st;exact⟨o,e,fun v z=>by rw[d] at z; cases z⟩
 keep:=fun i h h' st k=>st.at fun o e=>k it Ad o e
 item:=by
  intro X hP hw hK hc i lH s σ H E I hf st hg;subst hP hw hK;obtain⟨xs,x,hq,hx⟩:=hg;obtain⟨its,rv,p,hz⟩:=I.tuple hq;obtain⟨u,hu,ru⟩:=rv.get hx;obtain⟨f0,f1,f2,f3,f4,f5⟩:=hf it Ad;refine wpAny_pyNext_tuple_item st (show s.heap.IsTuple a its.toArray from p) (x:=u) (by simpa using hu) fun h' st' sb=>?_;have I1:Inv X lH σ H { s with heap:=h'} :=I.turned (t':=s.toks) (fun b o hb e=>(sb.2 b hb).trans e) f0 f1 f3 f4 f5;obtain⟨o,e,c,d⟩:=id st';exact⟨u,rfl,go_of (s:= { s with heap:=h'}) e c d Ac ⟨x,H,I1,ru,⟨rfl,fun ys hy=>by rw[I.tuple_inj hy hq]; exact hx⟩,st',fun b hb=>(hf b hb).1⟩⟩
 done:=by
  intro X hP hw hK hc i lH s σ H E I hf st hg;subst hP hw hK;obtain⟨xs,hq,hx⟩:=hg;obtain⟨its,rv,p,hz⟩:=I.tuple hq;obtain⟨f0,f1,f2,f3,f4,f5⟩:=hf it Ad;have hl:=rv.length;exact wpAny_pyNext_tuple_end (I.ok.hd hc) st (show s.heap.IsTuple a its.toArray from p) (by simp; lia) fun h' eb=>⟨rfl,I.turned (t':=s.toks) (fun b o hb e=>eb b o hb e) f0 f1 f3 f4 f5⟩
 self:=fun _ _ _ _ _ st h=>wpAny_pyIter_tupleiter st h
theorem jLM {P:Program}{w:World}{K:W.Frag}{tg:Expr}(it:Addr)(lo:Int)(n:Nat):Turn P w K tg (Itr lo n) [it] it (fun i h=>IsRangeIter h it (lo+(i:Nat)*1) ((n:Int) - (i:Nat)) 1) where
 mem:=by simp
 obj:=fun i h st b hb=>by
  have e:b=it:=by simpa using hb
  subst e;exact⟨_,st,fun v z=>by
   have z':Data.fields _=Data.cell v:=z;cases z'⟩
 keep:=fun i h h' st k=>k it Ad _ st
 item:=by
  intro X hP hw hK hc i lH s σ H E I hf st hg;subst hP hw hK;obtain⟨f0,f1,f2,f3,f4,f5⟩:=hf it Ad;have W:=Walks.range (prog:=X.prog) (w:=X.w) (I.ok.hd hc) it lo 1 n;refine W.item i s _ _ hg st fun v h' tk hv st' kk=>?_;obtain⟨t,rfl⟩:=hv;have I1:Inv X lH σ H { s with heap:=h',toks:=tk} :=I.turned (fun b o hb e=>kk b o (by simpa using hb) e) f0 f1 f3 f4 f5;refine⟨_,rfl,go_of (s:= { s with heap:=h',toks:=tk}) (n:= "range_iterator") st' rfl rfl Ac ⟨.int (lo+i),H,I1,⟨t,?_⟩,⟨rfl,rfl⟩,st',fun b hb=>(hf b hb).1⟩⟩;rw[Int.mul_one]
 done:=by
  intro X hP hw hK hc i lH s σ H E I hf st hg;subst hP hw hK;obtain⟨f0,f1,f2,f3,f4,f5⟩:=hf it Ad;exact wpAny_pyNext_range_end (I.ok.hd hc) st (by have:n<=i:=hg; lia) fun h' eb=>⟨rfl,I.turned (t':=s.toks) (fun b o hb e=>eb b o hb e) f0 f1 f3 f4 f5⟩
 self:=fun _ _ _ _ _ st h=>wpAny_pyIter_rangeiter st h
section
variable {tg:Expr}
def iList (K:W.Frag)(tl:TE):TI:=fun σ H R=>tl σ H fun x H1=>∃ a,x= .ref a/\(∃ xs,SqL K H1 a xs)/\R (Itl K a) H1
def iTup (K:W.Frag)(tl:TE):TI:=fun σ H R=>tl σ H fun x H1=>∃ a,x= .ref a/\(∃ xs,SqT K H1 a xs)/\R (Itt K a) H1
theorem jTR {l:Expr}{tl:TE}(hl:PE X l tl):PI X tg l (iList X.K tl):=by
 intro lH s σ H R I h;refine lJ (hl lH s σ H _ I h) fun v s1 ⟨x,H1,I1,r1,q1⟩=>?_;obtain⟨a,e,⟨xs,hq⟩,q⟩:=q1;subst e;cases r1;obtain⟨its,rv,p,hz⟩:=I1.list hq;refine dJ p.isList ?_;refine⟨s1.heap.objs.size,[s1.heap.objs.size],_,_,H1,rfl,I1.kept (t':=s1.toks) fun b o e=>ah _ e,jMP a _,⟨_,aF _ rfl,rfl,rfl⟩,fun b hb=>?_,q⟩;have e:b=s1.heap.objs.size:=by simpa using hb
 subst e;exact I1.fpOk (aA _) (I1.hok.fresh (aA _))
theorem jW0 {l:Expr}{tl:TE}(hl:PE X l tl):PI X tg l (iTup X.K tl):=by
 intro lH s σ H R I h;refine lJ (hl lH s σ H _ I h) fun v s1 ⟨x,H1,I1,r1,q1⟩=>?_;obtain⟨a,e,⟨xs,hq⟩,q⟩:=q1;subst e;cases r1;obtain⟨its,rv,p,hz⟩:=I1.tuple hq;refine wpAny_pyIter_tuple (show s1.heap.IsTuple a its.toArray from p) ?_;refine⟨s1.heap.objs.size,[s1.heap.objs.size],_,_,H1,rfl,I1.kept (t':=s1.toks) fun b o e=>ah _ e,jLL a _,⟨_,aF _ rfl,rfl,rfl⟩,fun b hb=>?_,q⟩;have e:b=s1.heap.objs.size:=by simpa using hb
 subst e;exact I1.fpOk (aA _) (I1.hok.fresh (aA _))
theorem jKE {lH:Ai}{σ:St}{H:Hp}{s:Shared}{R:It->Hp->Prop}{E:Ah}{lo hi:Int}{t u v:Tok}{tk:Nat}(I:Inv X lH σ H s)(h1: -(2 ^ 62)<=lo)(h2:lo<2 ^ 62)(h3: -(2 ^ 62)<=hi)(h4:hi<2 ^ 62)
  (q:R (Itr lo (hi - lo).toNat) H):wpAny (model X.prog X.w) X.A (pyIter (.ref s.heap.objs.size)) (PIE X lH σ tg R) E { s with heap:=s.heap.push { cls:= .type "range",data:= .fields #[.int lo t, .int hi u, .int 1 v]},toks:=tk} :=by
 refine wpAny_pyIter_range (IsRange.new ..) (small_one h1 h2 h3 h4) ?_;have I1:Inv X lH σ H { s with heap:=s.heap.push { cls:= .type "range",data:= .fields #[.int lo t, .int hi u, .int 1 v]},toks:=tk} :=I.kept fun b o e=>ah _ e;refine⟨(s.heap.push { cls:= .type "range",data:= .fields #[.int lo t, .int hi u, .int 1 v]}).objs.size,[(s.heap.push { cls:= .type "range",data:= .fields #[.int lo t, .int hi u, .int 1 v]}).objs.size],_,_,H,rfl,
  I1.kept (t':=tk) fun b o e=>ah _ e,jLM _ lo (hi - lo).toNat,?_,fun b hb=>?_,q⟩
 ·have e1:lo+((0:Nat):Int)*1=lo:=Ad;have e2:(((hi - lo).toNat:Nat):Int) - ((0:Nat):Int)=Builtin.Range.rangeSize lo hi 1:=by rw[rangeSize_one]; split <;> lia
  show IsRangeIter _ _ (lo+((0:Nat):Int)*1) ((((hi - lo).toNat:Nat):Int) - ((0:Nat):Int)) 1;rw[e1,e2];exact aF _ rfl
 ·have e:b=(s.heap.push { cls:= .type "range",data:= .fields #[.int lo t, .int hi u, .int 1 v]}).objs.size:=by simpa using hb
  subst e;exact I1.fpOk (aA _) (I1.hok.fresh (aA _))
def iRng1 (ta:TA):TI:=fun σ H R=>ta σ H fun vs H1=>∃ j:Int,vs=[.int j]/\ -(2 ^ 62)<=j/\j<2 ^ 62/\R (Itr 0 j.toNat) H1
def iRng2 (ta:TA):TI:=fun σ H R=>ta σ H fun vs H1=>∃ i j:Int,vs=[.int i, .int j]/\(-(2 ^ 62)<=i/\i<2 ^ 62/\ -(2 ^ 62)<=j/\j<2 ^ 62)/\R (Itr i (j - i).toNat) H1
theorem jCE {a:Expr}{ta:TA}{p pos:Pos}(hg:Gl X "range")(hm:X.mg "range" =none)(ha:PA X [a] ta)(hs:starEach [a] X.env=[(false,eval a X.env)]:=by rfl):PI X tg (.Call (.Name "range" p) [a] [] pos) (iRng1 ta):=by
 intro lH s σ H R I h;refine Call_ (jEO I hg hm boot_range (dR (lJ (ha pos lH s σ H _ I h) fun us s1 ⟨vs,H1,I1,r1,q1⟩=>?_) hs rfl));obtain⟨j,e,q1,q2,q⟩:=q1;subst e;cases r1 with
 | cons r rr=>
  cases rr;obtain⟨t,rfl⟩:=r;exact call_range_1 (jKE I1 Aa Aa q1 q2 (by simpa using q))
theorem jND {a b:Expr}{ta:TA}{p pos:Pos}(hg:Gl X "range")(hm:X.mg "range" =none)(ha:PA X [a,b] ta)(hs:starEach [a,b] X.env=[(false,eval a X.env),(false,eval b X.env)]:=by rfl)(hs2:starEach [b] X.env=[(false,eval b X.env)]:=by rfl):
  PI X tg (.Call (.Name "range" p) [a,b] [] pos) (iRng2 ta):=by
 intro lH s σ H R I h;refine Call_ (jEO I hg hm boot_range (dR (lJ (ha pos lH s σ H _ I h) fun us s1 ⟨vs,H1,I1,r1,q1⟩=>?_) (by rw[hs,hs2]) (by rw[hs2]; rfl)));obtain⟨i,j,e,⟨q1,q2,q3,q4⟩,q⟩:=q1;subst e;cases r1 with
 | cons r rr=>
  cases rr with
  | cons r' rr=>
   cases rr;obtain⟨t,rfl⟩:=r;obtain⟨t',rfl⟩:=r';exact call_range_2 (jKE I1 q1 q2 q3 q4 q)
def tFor (wi:TI)(g:TG)(tb:TS):TS:=fun D σ H=>wi σ H fun J H1=>∃ W:Nat->Nat->St->Hp->Prop,(∃ m,W 0 m σ H1)/\∀ i m σ H,W i m σ H->
 (J.stop i H/\D.nx σ H)\/(J.go i H/\∃ N:St->Hp->Prop,(∀ σ' H',N σ' H'->∃ m',m'<m/\W (i+1) m' σ' H')/\∀ x H',J.yld i H x H'->g x σ H' fun σ2 H2=>tb { D with nx:=N,ct:=N,bk:=D.nx} σ2 H2)
def jHN (fp:List Addr)(h:Heap):Ai:=fp.filterMap fun b=>(h.get? b).map fun o=>(b,o)
theorem jBG {fp:List Addr}{h:Heap}{b:Addr}{o:Obj}(hb:b∈fp)(e:h.get? b=some o):(b,o)∈jHN fp h:=lu.mpr ⟨b,hb,by rw[e]; rfl⟩
theorem jNQ {fp:List Addr}{h:Heap}{p:Addr×Obj}(hp:p∈jHN fp h):p.1∈fp/\h.get? p.1=some p.2:=by
 obtain⟨b,hb,e⟩:=lu.mp hp;cases q:h.get? b with
 | none=>rw[q] at e; cases e
 | some o=>
  rw[q] at e;have e':(b,o)=p:=bD e;subst e';exact⟨hb,q⟩
theorem Inv.pinned {lH:Ai}{σ:St}{H:Hp}{s:Shared}{fp:List Addr}(I:Inv X lH σ H s)(hf:∀ b∈fp,FpOk X lH H b)(ho:∀ b∈fp,∃ o,s.heap.get? b=some o/\∀ v,o.data≠ .cell v):Inv X (lH++jHN fp s.heap) σ H s:=
 I.pins_of fun p hp=>(aJ.mp hp).elim (fun z=>I.pin p (aB _ z)) fun z=>by
  obtain⟨hb,e⟩:=jNQ z;obtain⟨f0,f1,f2,_⟩:=hf p.1 hb;obtain⟨o,e',d⟩:=ho p.1 hb;rw[e] at e'; cases e';exact⟨e,f0,f1,f2,d⟩
theorem Inv.unpinned {lH pl:Ai}{σ:St}{H:Hp}{s:Shared}(I:Inv X (lH++pl) σ H s):Inv X lH σ H s:=I.pins_of fun p hp=>I.pin p (aB _ (aY _ hp))
theorem jSC {iter:Expr}{body:List Stmt}{wi:TI}{g:TG}{tb:TS}{pos:Pos}(hp:PassesOwn (model X.prog X.w) X.A X.env X.xe)(hc:X.calm=true)(hi:PI X tg iter wi)(hg:PG X tg g)(hb:PSs X body tb)
  (hs:∀ x,foldedSetIterable iter X.env x=pure x:=by intro _; rfl):PS X (.For tg iter body [] pos) (tFor wi g tb):=by
 intro lH s σ H D I h;refine wpAny_For (lJ (hi lH s σ H _ I h) fun v s1 h1=>lJ h1 fun itv s2 h2=>?_) hs;obtain⟨it,fp,tn,J,H2,e,I2,T,st2,f2,W,⟨m0,w0⟩,turn⟩:=h2;subst e;have stat:∀ {H':Hp},(∀ b∈fp,H' b=none)->∀ b∈fp,FpOk X lH H' b:=fun hn b hb=>⟨hn b hb,(f2 b hb).2⟩;refine codeAny_forLoop_any (fun n s'=>∃ i σ' H',Inv X lH σ' H' s'/\tn i s'.heap/\(∀ b∈fp,H' b=none)/\W i n σ' H') ?_ m0 ⟨0,σ,H2,I2,st2,fun b hb=>(f2 b hb).1,w0⟩;rintro n s3 ⟨i,σ3,H3,I3,st3,fr3,w3⟩;rcases turn i n σ3 H3 w3 with ⟨stop,qn⟩ | ⟨go,N,hN,step⟩
 ·refine eh hp (lJ (T.done X rfl rfl rfl hc i lH s3 σ3 H3 X.xe I3 (stat fr3) st3 stop) fun r s4 ⟨hr,I4⟩=>?_);subst hr;exact ik ⟨σ3,H3,I4,qn⟩
 ·refine eh hp (lJ (T.item X rfl rfl rfl hc i lH s3 σ3 H3 X.xe I3 (stat fr3) st3 go) fun r s4 ⟨u,hr,h4⟩=>?_);subst hr;refine eh hp (lJ h4 fun _ s5 ⟨x,H5,I5,r5,y5,st5,fr5⟩=>?_);have I5':=I5.pinned (stat fr5) (T.obj _ _ st5);refine eh hp (lJ (hg _ s5 σ3 H5 x u _ I5' r5 (step x H5 y5)) fun _ s6 ⟨σ6,H6,I6,q6⟩=>?_);refine eh hp (lJ (hb _ s6 σ6 H6 _ I6 q6) fun f s7 q7=>?_);have again:∀ {σ7:St}{H7:Hp},Inv X (lH++jHN fp s5.heap) σ7 H7 s7->N σ7 H7->∃ m,m<n/\∃ i σ' H',Inv X lH σ' H' s7/\tn i s7.heap/\(∀ b∈fp,H' b=none)/\W i m σ' H':=fun {σ7 H7} I7 n7=>by
   obtain⟨m',hm,w7⟩:=hN σ7 H7 n7;refine⟨m',hm,i+1,σ7,H7,I7.unpinned,T.keep _ _ _ st5 fun b hb o e=>(I7.pin (b,o) (aB _ (aB _ (jBG hb e)))).1,fun b hb=>?_,w7⟩;obtain⟨o,e,d⟩:=T.obj _ _ st5 b hb;exact(I7.pin (b,o) (aB _ (aB _ (jBG hb e)))).2.1
  cases f with
  | next=>obtain⟨σ7,H7,I7,n7⟩:=q7; exact again I7 n7
  | cont=>obtain⟨σ7,H7,I7,n7⟩:=q7; exact again I7 n7
  | brk=>obtain⟨σ7,H7,I7,q7⟩:=q7; exact⟨σ7,H7,I7.unpinned,q7⟩
  | ret v=>obtain⟨x7,σ7,H7,I7,r7,q7⟩:=q7; exact⟨x7,σ7,H7,I7.unpinned,r7,q7⟩
end
theorem jBM {K:W.Frag}{a:Addr}{xs:List V}{g:TG}{tb:TS}{D:Ends}{σ:St}{H:Hp}(Pv:Nat->St->Hp->Prop)(h0:Pv 0 σ H)(hl:∀ i σ H,i<=xs.length->Pv i σ H->SqL K H a xs)
  (hs:∀ i x σ H,xs[i]?=some x->Pv i σ H->g x σ H fun σ2 H2=>tb { D with nx:=Pv (i+1),ct:=Pv (i+1),bk:=D.nx} σ2 H2) (hd:∀ σ H,Pv xs.length σ H->D.nx σ H):
  ∃ W:Nat->Nat->St->Hp->Prop,(∃ m,W 0 m σ H)/\∀ i m σ H,W i m σ H->
   ((Itl K a).stop i H/\D.nx σ H)\/((Itl K a).go i H/\∃ N:St->Hp->Prop,(∀ σ' H',N σ' H'->∃ m',m'<m/\W (i+1) m' σ' H')/\∀ x H',(Itl K a).yld i H x H'->g x σ H' fun σ2 H2=>tb { D with nx:=N,ct:=N,bk:=D.nx} σ2 H2):=by
 refine⟨fun i m σ H=>m=xs.length - i/\i<=xs.length/\Pv i σ H,⟨xs.length,Ad,bw _,h0⟩,?_⟩;rintro i m σ H ⟨rfl,hi,p⟩;have q:=hl i σ H hi p;by_cases hlt:i<xs.length
 ·refine .inr ⟨⟨xs,xs[i],q,by simp [hlt]⟩,Pv (i+1),fun σ' H' p'=>⟨xs.length - (i+1),Aa,rfl,hlt,p'⟩,fun x H' y=>?_⟩;obtain⟨e,y⟩:=y;subst e;exact hs i x σ _ (y xs q) p
 ·have e:i=xs.length:=Aa;subst e;exact .inl ⟨⟨xs,q,aA _⟩,hd σ H p⟩
theorem jUZ {K:W.Frag}{a:Addr}{xs:List V}{g:TG}{tb:TS}{D:Ends}{σ:St}{H:Hp}(Pv:Nat->St->Hp->Prop)(h0:Pv 0 σ H)(hl:∀ i σ H,i<=xs.length->Pv i σ H->SqT K H a xs)
  (hs:∀ i x σ H,xs[i]?=some x->Pv i σ H->g x σ H fun σ2 H2=>tb { D with nx:=Pv (i+1),ct:=Pv (i+1),bk:=D.nx} σ2 H2) (hd:∀ σ H,Pv xs.length σ H->D.nx σ H):
  ∃ W:Nat->Nat->St->Hp->Prop,(∃ m,W 0 m σ H)/\∀ i m σ H,W i m σ H->
   ((Itt K a).stop i H/\D.nx σ H)\/((Itt K a).go i H/\∃ N:St->Hp->Prop,(∀ σ' H',N σ' H'->∃ m',m'<m/\W (i+1) m' σ' H')/\∀ x H',(Itt K a).yld i H x H'->g x σ H' fun σ2 H2=>tb { D with nx:=N,ct:=N,bk:=D.nx} σ2 H2):=by
 refine⟨fun i m σ H=>m=xs.length - i/\i<=xs.length/\Pv i σ H,⟨xs.length,Ad,bw _,h0⟩,?_⟩;rintro i m σ H ⟨rfl,hi,p⟩;have q:=hl i σ H hi p;by_cases hlt:i<xs.length
 ·refine .inr ⟨⟨xs,xs[i],q,by simp [hlt]⟩,Pv (i+1),fun σ' H' p'=>⟨xs.length - (i+1),Aa,rfl,hlt,p'⟩,fun x H' y=>?_⟩;obtain⟨e,y⟩:=y;subst e;exact hs i x σ _ (y xs q) p
 ·have e:i=xs.length:=Aa;subst e;exact .inl ⟨⟨xs,q,aA _⟩,hd σ H p⟩
theorem jEV {lo:Int}{n:Nat}{g:TG}{tb:TS}{D:Ends}{σ:St}{H:Hp}(Pv:Nat->St->Hp->Prop)(h0:Pv 0 σ H)
  (hs:∀ i σ H,i<n->Pv i σ H->g (.int (lo+i)) σ H fun σ2 H2=>tb { D with nx:=Pv (i+1),ct:=Pv (i+1),bk:=D.nx} σ2 H2) (hd:∀ σ H,Pv n σ H->D.nx σ H):
  ∃ W:Nat->Nat->St->Hp->Prop,(∃ m,W 0 m σ H)/\∀ i m σ H,W i m σ H->
   ((Itr lo n).stop i H/\D.nx σ H)\/((Itr lo n).go i H/\∃ N:St->Hp->Prop,(∀ σ' H',N σ' H'->∃ m',m'<m/\W (i+1) m' σ' H')/\∀ x H',(Itr lo n).yld i H x H'->g x σ H' fun σ2 H2=>tb { D with nx:=N,ct:=N,bk:=D.nx} σ2 H2):=by
 refine⟨fun i m σ H=>m=n - i/\i<=n/\Pv i σ H,⟨n,Ad,bw _,h0⟩,?_⟩;rintro i m σ H ⟨rfl,hi,p⟩;by_cases hlt:i<n
 ·refine .inr ⟨hlt,Pv (i+1),fun σ' H' p'=>⟨n - (i+1),Aa,rfl,hlt,p'⟩,fun x H' y=>?_⟩;obtain⟨e,y⟩:=y;subst e y;exact hs i σ _ hlt p
 ·have e:i=n:=Aa;subst e;exact .inl ⟨aA _,hd σ H p⟩
abbrev R2:=V->V->Hp->VK->Prop
def OpR (X:Cx)(f:Value->Value->Sem Value)(r:R2):Prop:=
 ∀ (lH:Ai) (s:Shared) (σ:St) (H:Hp) (x y:V) (v u:Value) (Q:VK),Inv X lH σ H s->RelV x v->RelV y u->r x y H Q->
  wpAny (model X.prog X.w) X.A (f v u) (EP X lH σ Q) X.xe s
def UnR (X:Cx)(f:Value->Sem Value)(r:V->Hp->VK->Prop):Prop:=
 ∀ (lH:Ai) (s:Shared) (σ:St) (H:Hp) (x:V) (v:Value) (Q:VK),Inv X lH σ H s->RelV x v->r x H Q->
  wpAny (model X.prog X.w) X.A (f v) (EP X lH σ Q) X.xe s
def yV (X:Cx)(f:Value)(r:List V->Hp->VK->Prop):Prop:=
 ∀ (lH:Ai) (s:Shared) (σ:St) (H:Hp) (xs:List V) (us:Am) (Q:VK),Inv X lH σ H s->Vals xs us->r xs H Q->
  wpAny (model X.prog X.w) X.A (call f us) (EP X lH σ Q) X.xe s
def tOp (r:R2)(ta tb:TE):TE:=fun σ H Q=>ta σ H fun x H1=>tb σ H1 fun y H2=>r x y H2 Q
def tUn (r:V->Hp->VK->Prop)(ta:TE):TE:=fun σ H Q=>ta σ H fun x H1=>r x H1 Q
def rI (C:Int->Int->Prop)(g:Int->Int->V):R2:=fun x y H Q=>∃ i j,x= .int i/\y= .int j/\C i j/\Q (g i j) H
def rI0 (g:Int->Int->V):R2:=fun x y H Q=>∃ i j,x= .int i/\y= .int j/\Q (g i j) H
def rU (g:Int->V):V->Hp->VK->Prop:=fun x H Q=>∃ i,x= .int i/\Q (g i) H
variable {c:Expr}{tc:TE}
section
variable {a:Expr}
theorem binT (ha:PE X a ta)(hb:PE X b tb){lH:Ai}{s:Shared}{σ:St}{H:Hp}{R:V->V->Hp->Prop}(I:Inv X lH σ H s)
  (h:ta σ H fun x H1=>tb σ H1 fun y H2=>R x y H2) {Q:Ah}{f:Value->Value->Sem Value}
  (hf:∀ v u s2 x y H2,Inv X lH σ H2 s2->RelV x v->RelV y u->R x y H2->wpAny (model X.prog X.w) X.A (f v u) Q X.xe s2):
  wpAny (model X.prog X.w) X.A (eval a X.env) (fun v s₁=>wpAny (model X.prog X.w) X.A (eval b X.env) (fun u s₂=>wpAny (model X.prog X.w) X.A (f v u) Q X.xe s₂) X.xe s₁) X.xe s:=by
 refine lJ (ha lH s σ H _ I h) fun v s1 ⟨x,H1,I1,r1,q1⟩=>?_;refine lJ (hb lH s1 σ H1 _ I1 q1) fun u s2 ⟨y,H2,I2,r2,q2⟩=>?_;exact hf v u s2 x y H2 I2 r1 r2 q2
theorem kW {op:Operator}{r:R2}(ho:OpR X (binaryOp op) r)(ha:PE X a ta)(hb:PE X b tb):PE X (.BinOp a op b pos) (tOp r ta tb):=by
 intro lH s σ H Q I h;exact wpAny_BinOp (binT ha hb I h fun v u s2 x y H2 I2 rx ry q=>ho lH s2 σ H2 x y v u Q I2 rx ry q)
theorem pe_un {op:UnaryOp}{r:V->Hp->VK->Prop}(ho:UnR X (unaryOp op) r)(ha:PE X a ta):PE X (.UnaryOp op a pos) (tUn r ta):=by
 intro lH s σ H Q I h;exact UnaryOp_ (lJ (ha lH s σ H _ I h) fun v s1 ⟨x,H1,I1,r1,q1⟩=>ho lH s1 σ H1 x v Q I1 r1 q1)
theorem opI {f:Value->Value->Sem Value}{C:Int->Int->Prop}{g:Int->Int->Int}
  (rule:∀ (i j:Int) (t u:Tok) (s:Shared) (Q:Ah) (E:Ah),C i j->Q (.int (g i j) s.toks) { s with toks:=s.toks+1} ->wpAny (model X.prog X.w) X.A (f (.int i t) (.int j u)) Q E s):
  OpR X f (rI C fun i j=> .int (g i j)):=by
 intro lH s σ H x y v u Q I rx ry h;obtain⟨i,j,rfl,rfl,hc,q⟩:=h;obtain⟨t,rfl⟩:=rx;obtain⟨t',rfl⟩:=ry;exact rule i j t t' s _ _ hc ⟨.int (g i j),H,I.tok _,⟨_,rfl⟩,q⟩
theorem opI0 {f:Value->Value->Sem Value}{g:Int->Int->Int}
  (rule:∀ (i j:Int) (t u:Tok) (s:Shared) (Q:Ah) (E:Ah),Q (.int (g i j) s.toks) { s with toks:=s.toks+1} ->wpAny (model X.prog X.w) X.A (f (.int i t) (.int j u)) Q E s):
  OpR X f (rI0 fun i j=> .int (g i j)):=by
 intro lH s σ H x y v u Q I rx ry h;obtain⟨i,j,rfl,rfl,q⟩:=h;obtain⟨t,rfl⟩:=rx;obtain⟨t',rfl⟩:=ry;exact rule i j t t' s _ _ ⟨.int (g i j),H,I.tok _,⟨_,rfl⟩,q⟩
theorem opB0 {f:Value->Value->Sem Value}{g:Int->Int->Bool}
  (rule:∀ (i j:Int) (t u:Tok) (s:Shared) (Q:Ah) (E:Ah),Q (.bool (g i j)) s->wpAny (model X.prog X.w) X.A (f (.int i t) (.int j u)) Q E s):
  OpR X f (rI0 fun i j=> .bl (g i j)):=by
 intro lH s σ H x y v u Q I rx ry h;obtain⟨i,j,rfl,rfl,q⟩:=h;obtain⟨t,rfl⟩:=rx;obtain⟨t',rfl⟩:=ry;exact rule i j t t' s _ _ ⟨.bl (g i j),H,I,rfl,q⟩
def CPow (i j:Int):Prop:=0<=j/\j<=1000000/\i.natAbs<2 ^ 64
def CMul (i j:Int):Prop:=(-(2 ^ 64)<i/\i<2 ^ 64)\/(-(2 ^ 64)<j/\j<2 ^ 64)
theorem CMul.ok {i j:Int}(h:CMul i j):IntMulOk i j:=by
 rcases h with ⟨h1,h2⟩ | ⟨h1,h2⟩
 ·exact .of_left (intBits_le_64 h1 h2)
 ·exact .of_right (intBits_le_64 h1 h2)
theorem jLK (k:Nat):(0:Int)<=2 ^ k:=by
 rw[two_pow_cast];exact gq _
theorem kU:OpR X (binaryOp .Add) (rI0 fun i j=> .int (i+j)):=opI0 fun _ _ _ _ _ _ _ q=>add_int q
theorem jEB:OpR X (binaryOp .Sub) (rI0 fun i j=> .int (i - j)):=opI0 fun _ _ _ _ _ _ _ q=>sub_int q
theorem jCG:OpR X (binaryOp .Mult) (rI CMul fun i j=> .int (i*j)):=opI fun _ _ _ _ _ _ _ hc q=>mul_int q hc.ok
theorem jHT:OpR X (binaryOp .Mod) (rI (fun _ j=>0<j) fun i j=> .int (i % j)):=opI fun i j _ _ _ _ _ hc q=>by
 have h1:(0:Int)<j:=hc;exact mod_int' Aa (by rw[Int.fmod_eq_emod_of_nonneg i Aa]; exact q)
theorem jNF:OpR X (binaryOp .Pow) (rI CPow fun i j=> .int (i ^ j.toNat)):=opI fun _ _ _ _ _ _ _ hc q=>pow_int_small hc.1 hc.2.1 hc.2.2 q
theorem jHS:OpR X (binaryOp .LShift) (rI CPow fun i j=> .int (i*2 ^ j.toNat)):=opI fun _ _ _ _ _ _ _ hc q=>lshift_int_small hc.1 hc.2.1 hc.2.2 q
theorem jSH:OpR X (binaryOp .RShift) (rI (fun _ j=>0<=j) fun i j=> .int (i / 2 ^ j.toNat)):=opI fun i j _ _ _ _ _ hc q=>
 rshift_int hc (by rw[iH i (jLK _)]; exact q)
theorem jKN:OpR X (binaryOp .BitAnd) (rI0 fun i j=> .int (Builtin.bitAnd i j)):=opI0 fun _ _ _ _ _ _ _ q=>and_int q
theorem op_or:OpR X (binaryOp .BitOr) (rI0 fun i j=> .int (Builtin.bitOr i j)):=opI0 fun _ _ _ _ _ _ _ q=>or_int q
theorem unI {f:Value->Sem Value}{g:Int->Int}
  (rule:∀ (i:Int) (t:Tok) (s:Shared) (Q:Ah) (E:Ah),Q (.int (g i) s.toks) { s with toks:=s.toks+1} ->wpAny (model X.prog X.w) X.A (f (.int i t)) Q E s):
  UnR X f (rU fun i=> .int (g i)):=by
 intro lH s σ H x v Q I rx h;obtain⟨i,rfl,q⟩:=h;obtain⟨t,rfl⟩:=rx;exact rule i t s _ _ ⟨.int (g i),H,I.tok _,⟨_,rfl⟩,q⟩
theorem jRW:UnR X (unaryOp .USub) (rU fun i=> .int (-i)):=unI fun _ _ _ _ _ q=>neg_int q
theorem jVG:UnR X (unaryOp .Invert) (rU fun i=> .int (Builtin.bitNot i)):=unI fun _ _ _ _ _ q=>invert_int q
end
def scal:V->V->Bool
 | .non, .non=>true | .non, .int _=>true | .int _, .non=>true | .non, .bl _=>true | .bl _, .non=>true | .non, .str _=>true | .str _, .non=>true
 | .int _, .int _=>true | .bl _, .bl _=>true | .str _, .str _=>true | .byt _, .byt _=>true
 | .int _, .str _=>true | .str _, .int _=>true | .bl _, .str _=>true | .str _, .bl _=>true
 | _,_=>false
def rEq:R2:=fun x y H Q=>scal x y=true/\Q (.bl (decide (x=y))) H
def rNe:R2:=fun x y H Q=>scal x y=true/\Q (.bl (!decide (x=y))) H
theorem jF1 {i j:Int} :decide (V.int i=V.int j)=(i==j):=by
 rw[bZ];simp
theorem jT0 {i j:Bool} :decide (V.bl i=V.bl j)=(i==j):=by
 rw[bZ];simp
theorem jPF {i j:Str} :decide (V.str i=V.str j)=(i==j):=by
 rw[bZ];simp
theorem jPG {i j:Array UInt8} :decide (V.byt i=V.byt j)=(i.toList==j.toList):=by
 rw[bZ];cases i;cases j;simp
section
variable {a:Expr}
theorem kD {lH:Ai}{σ:St}{H:Hp}{s:Shared}{Q:VK}{k k':Bool}(I:Inv X lH σ H s)(q:Q (.bl k) H)(e:k=k'):EP X lH σ Q (.bool k') s:=by
 subst e;exact⟨.bl k,H,I,rfl,q⟩
theorem qQ:OpR X (compareOp .Eq) rEq:=by
 intro lH s σ H x y v u Q I rx ry h;obtain⟨hs,q⟩:=h;cases x with
 | non=>
  cases rx;cases y with
  | non=>cases ry; exact PySem.EqNone.eq_none_none (kD I q Ad)
  | bl j=>cases ry; exact PySem.EqNone.eq_none_bool (kD I q Ad)
  | int j=>obtain⟨t',rfl⟩:=ry; exact PySem.EqNone.eq_none_int (kD I q Ad)
  | str j=>obtain⟨t',rfl⟩:=ry; exact PySem.EqNone.eq_none_str (kD I q Ad)
  | _=>exact absurd (show false=true from hs) ay
 | bl i=>
  cases rx;cases y with
  | non=>cases ry; exact PySem.EqNone.eq_bool_none (kD I q Ad)
  | bl j=>cases ry; exact eq_bool (kD I q jT0)
  | str j=>obtain⟨t',rfl⟩:=ry; exact PySem.EqMixed.eq_bool_str (kD I q Ad)
  | _=>exact absurd (show false=true from hs) ay
 | int i=>
  obtain⟨t,rfl⟩:=rx;cases y with
  | non=>cases ry; exact PySem.EqNone.eq_int_none (kD I q Ad)
  | int j=>obtain⟨t',rfl⟩:=ry; exact eq_int (kD I q jF1)
  | str j=>obtain⟨t',rfl⟩:=ry; exact PySem.EqMixed.eq_int_str (kD I q Ad)
  | _=>exact absurd (show false=true from hs) ay
 | str i=>
  obtain⟨t,rfl⟩:=rx;cases y with
  | non=>cases ry; exact PySem.EqNone.eq_str_none (kD I q Ad)
  | bl j=>cases ry; exact PySem.EqMixed.eq_str_bool (kD I q Ad)
  | int j=>obtain⟨t',rfl⟩:=ry; exact PySem.EqMixed.eq_str_int (kD I q Ad)
  | str j=>obtain⟨t',rfl⟩:=ry; exact eq_str (kD I q jPF)
  | _=>exact absurd (show false=true from hs) ay
 | byt i=>
  obtain⟨t,rfl⟩:=rx;cases y with
  | byt j=>obtain⟨t',rfl⟩:=ry; exact PySem.W.eq_bytes (kD I q jPG)
  | _=>exact absurd (show false=true from hs) ay
 | _=>cases y <;> exact absurd (show false=true from hs) ay
theorem op_ne:OpR X (compareOp .NotEq) rNe:=by
 intro lH s σ H x y v u Q I rx ry h;obtain⟨hs,q⟩:=h;cases x with
 | non=>
  cases rx;cases y with
  | non=>cases ry; exact PySem.EqNone.ne_none_none (kD I q Ad)
  | bl j=>cases ry; exact PySem.EqNone.ne_none_bool (kD I q Ad)
  | int j=>obtain⟨t',rfl⟩:=ry; exact PySem.EqNone.ne_none_int (kD I q Ad)
  | str j=>obtain⟨t',rfl⟩:=ry; exact PySem.EqNone.ne_none_str (kD I q Ad)
  | _=>exact absurd (show false=true from hs) ay
 | bl i=>
  cases rx;cases y with
  | non=>cases ry; exact PySem.EqNone.ne_bool_none (kD I q Ad)
  | bl j=>cases ry; exact ne_bool (kD I q (bW not jT0))
  | str j=>obtain⟨t',rfl⟩:=ry; exact PySem.EqMixed.ne_bool_str (kD I q Ad)
  | _=>exact absurd (show false=true from hs) ay
 | int i=>
  obtain⟨t,rfl⟩:=rx;cases y with
  | non=>cases ry; exact PySem.EqNone.ne_int_none (kD I q Ad)
  | int j=>obtain⟨t',rfl⟩:=ry; exact ne_int (kD I q (bW not jF1))
  | str j=>obtain⟨t',rfl⟩:=ry; exact PySem.EqMixed.ne_int_str (kD I q Ad)
  | _=>exact absurd (show false=true from hs) ay
 | str i=>
  obtain⟨t,rfl⟩:=rx;cases y with
  | non=>cases ry; exact PySem.EqNone.ne_str_none (kD I q Ad)
  | bl j=>cases ry; exact PySem.EqMixed.ne_str_bool (kD I q Ad)
  | int j=>obtain⟨t',rfl⟩:=ry; exact PySem.EqMixed.ne_str_int (kD I q Ad)
  | str j=>obtain⟨t',rfl⟩:=ry; exact ne_str (kD I q (bW not jPF))
  | _=>exact absurd (show false=true from hs) ay
 | byt i=>
  obtain⟨t,rfl⟩:=rx;cases y with
  | byt j=>obtain⟨t',rfl⟩:=ry; exact PySem.W.ne_bytes (kD I q (bW not jPG))
  | _=>exact absurd (show false=true from hs) ay
 | _=>cases y <;> exact absurd (show false=true from hs) ay
theorem op_lt:OpR X (compareOp .Lt) (rI0 fun i j=> .bl (decide (i<j))):=opB0 fun _ _ _ _ _ _ _ q=>lt_int q
theorem op_le:OpR X (compareOp .LtE) (rI0 fun i j=> .bl (decide (i<=j))):=opB0 fun _ _ _ _ _ _ _ q=>le_int q
theorem op_gt:OpR X (compareOp .Gt) (rI0 fun i j=> .bl (decide (j<i))):=opB0 fun _ _ _ _ _ _ _ q=>gt_int q
theorem op_ge:OpR X (compareOp .GtE) (rI0 fun i j=> .bl (decide (j<=i))):=opB0 fun _ _ _ _ _ _ _ q=>ge_int q
theorem jSI:OpR X (compareOp .Is) (fun x y H Q=>y= .non/\Q (.bl (decide (x= .non))) H):=by
 intro lH s σ H x y v u Q I rx ry h;obtain⟨rfl,q⟩:=h;cases ry;refine is_none_gen (kD I q ?_);cases x <;> first
  | (cases rx; rfl)
  | (obtain⟨t,rfl⟩:=rx; rfl)
theorem jNG:OpR X (compareOp .IsNot) (fun x y H Q=>y= .non/\Q (.bl (!decide (x= .non))) H):=by
 intro lH s σ H x y v u Q I rx ry h;obtain⟨rfl,q⟩:=h;cases ry;refine isnot_none_gen (kD I q ?_);cases x <;> first
  | (cases rx; rfl)
  | (obtain⟨t,rfl⟩:=rx; rfl)
theorem jV (b:Expr){op:CmpOp}(h:op≠ .In:=by decide)(h2:op≠ .NotIn:=by decide):behindInMarks op b=false:=by
 have e1:(op==CmpOp.In)=false:=by cases op <;> first | rfl | exact absurd rfl h
 have e2:(op==CmpOp.NotIn)=false:=by cases op <;> first | rfl | exact absurd rfl h2
 cases b <;> simp [behindInMarks,e1,e2]
theorem jTZ {op:CmpOp}{r:R2}(ho:OpR X (compareOp op) r)(ha:PE X a ta)(hb:PE X b tb)(hm:behindInMarks op b=false):PE X (.Compare a [op] [b] pos) (tOp r ta tb):=by
 intro lH s σ H Q I h;exact wpAny_Compare1 (binT ha hb I h fun v u s2 x y H2 I2 rx ry q=>ho lH s2 σ H2 x y v u Q I2 rx ry q) hm
def tTest (t:TE):TT:=fun σ H Q=>t σ H fun x H'=>∃ k,x= .bl k/\Q k H'
theorem jE7 {op:CmpOp}{r:R2}(ho:OpR X (compareOp op) r)(ha:PE X a ta)(hb:PE X b tb)(hm:behindInMarks op b=false):PT X (.Compare a [op] [b] pos) (tTest (tOp r ta tb)):=by
 intro lH s σ H Q I h;refine wpAny_isTrue_Compare1 (lJ (ha lH s σ H _ I h) fun v s1 ⟨x,H1,I1,r1,q1⟩=>lJ (hb lH s1 σ H1 _ I1 q1) fun u s2 ⟨y,H2,I2,r2,q2⟩=>
  lJ (ho lH s2 σ H2 x y v u _ I2 r1 r2 q2) fun c s3 ⟨z,H3,I3,r3,k,e,q3⟩=>?_) hm
 subst e;cases r3;exact dI ⟨H3,I3,q3⟩
theorem jI0:(sizeLine:Nat)<2 ^ 63:=by rw[eV]; decide
theorem vals1 {x:V}{us:Am}(r:Vals [x] us):∃ u,us=[u]/\RelV x u:=by
 cases r with
 | cons r1 r2=>cases r2; exact⟨_,rfl,r1⟩
theorem jPR:yV X (.type "int") (fun xs H Q=>(∃ i,xs=[.int i]/\Q (.int i) H)\/∃ k,xs=[.bl k]/\Q (.int (if k then 1 else 0)) H):=by
 intro lH s σ H xs us Q I r h;rcases h with ⟨i,rfl,q⟩ | ⟨k,rfl,q⟩
 ·obtain⟨u,rfl,t,rfl⟩:=vals1 r;exact call_int_int ⟨.int i,H,I,⟨_,rfl⟩,q⟩
 ·obtain⟨u,rfl,r1⟩:=vals1 r;cases r1;exact call_int_bool ⟨.int (if k then 1 else 0),H,I.tok _,⟨_,rfl⟩,q⟩
end
structure ObjM (h:Heap)(x dx C:Addr)(mA:Ak):Prop where
 obj:h.get? x=some (instObj C dx)
 ns:h.Ns1 dx mA
 ne:dx≠x
theorem jOA {h:Heap}{dx:Addr}{mA:Ak}(n:h.Ns1 dx mA):∃ od,h.get? dx=some od/\∀ name,lookIn name od=some (mA name):=by
 obtain⟨o,es,ep,ho,hd,hk,_,hm⟩:=n;refine⟨o,ho,fun name=>?_⟩;have e:=hm name;unfold nsFind findBy at e;rw[<- Array.find?_toList] at e;unfold lookIn;rw[hd];dsimp only;split
 ·rename_i y q;rw[q] at e;exact bW some e
 ·rename_i q;rw[q] at e;have a:es.toList.any (·.refKey)=false:=by
   rw[List.any_eq_false];intro y hy;obtain⟨z,t,hkey⟩:=hk y (Array.mem_toList_iff.mp hy);simp [DictEntry.refKey,hkey]
  have a':¬ es.toList.any (·.refKey)=true:=by rw[a]; exact ay
  rw[ak a'];exact bW some e
theorem ObjM.look {h:Heap}{x dx C:Addr}{mA:Ak}(I:ObjM h x dx C mA):∃ od,PySem.W.InstAt h x (instObj C dx) C (some od)/\∀ name,lookIn name od=some (mA name):=
 let ⟨od,ho,hl⟩:=jOA I.ns
 ⟨od,⟨I.obj,rfl,rfl,ho⟩,hl⟩
variable {A:Around}{dx C f:Addr}
section
variable {prog:Program}{K:W.Frag}{mA:Ak}{name:Str}{v:Value}
end
theorem RelO.some_of {v:V}{o:Ap}(r:RelO (some v) o):∃ u,o=some u/\RelV v u:=by
 cases o with
 | none=>exact(show False from r).elim
 | some u=>exact⟨u,rfl,r⟩
section
variable {fs fs':List (Str×V)}
theorem jUS (hok:HOk P w H h)(e:H a=some (.ins C dx fs)):∃ mA,ObjM h a dx C mA/\(∀ f,RelO (fs.lookup f) (mA f))/\PySem.Within mA (fs.map (·.1))/\fs.length<=1000/\H dx=some (.own a):=by
 obtain⟨d,z,ne,ob,mA,n,r,q⟩:=(show ObjOk P w H h a (.ins C dx fs) from hok a _ e);exact⟨mA,⟨ob,n,ne⟩,r,q,z,d⟩
end
structure Cls (K:W.Frag)(C:Addr):Prop where
 pg:plainGet K C Str.empty=true
 hd:PySem.W.hasDictIn K C=true
 po:PySem.W.plainOver K C=true
 sa:findIn K (.ref C) "__setattr__" =some (some (.builtin "object.__setattr__"))
theorem Cls.get {K:W.Frag}{C:Addr}(c:Cls K C)(f:Str):plainGet K C f=true:=c.pg
section
variable {σ:St}{fs:List (Str×V)}{f:Str}{v:V}
end
variable {o:Expr}
section
variable {value:Expr}{f:Str}{pos' tpos:Pos}{tv:TE}
end
section
variable {σ:St}{Q:Ah}{c:Value}{b:Bool}
inductive TyOf (K:W.Frag) (H:Hp):V->Value->Prop where
 | non:TyOf K H .non (.type "NoneType")
 | bl (x:Bool):TyOf K H (.bl x) (.type "bool")
 | int (i:Int):TyOf K H (.int i) (.type "int")
 | str (x:Str):TyOf K H (.str x) (.type "str")
 | flt (x:UInt64):TyOf K H (.flt x) (.type "float")
 | lst {a:Addr}{xs:List V}(e:H a=some (.lst xs)):TyOf K H (.ref a) (.type "list")
 | frz {a:Addr}{o:Obj}{xs:List V}(e:H a=some (.frz o (.lst xs))):TyOf K H (.ref a) (.type "list")
 | tup {a:Addr}{xs:List V}(e:H a=some (.tup xs)):TyOf K H (.ref a) (.type "tuple")
 | dK {a:Addr}{kvs:List (Key×V)}(e:H a=some (.dK kvs)):TyOf K H (.ref a) (.type "dict")
 | dT {a:Addr}{kvs:List (List Key×V)}(e:H a=some (.dT kvs)):TyOf K H (.ref a) (.type "dict")
 | ins {a C dx:Addr}{fs:List (Str×V)}(e:H a=some (.ins C dx fs)) (cl:Cls K C) (ha:findIn K (.ref C) "__class__" =some (some (.builtin "object.__class__")))
   (hn:PySem.W.specialIn K (.builtin "object.__class__") "__get__" =some (some (.builtin "getset_descriptor.__get__"))) (htk:PySem.W.takesIn K (.builtin "object.__class__")=some true)
   (hm:mroIn K C (.type "object")=some true):TyOf K H (.ref a) (.ref C)
theorem jOY {x:V}{u t:Value}(I:Inv X lH σ H s)(rx:RelV x u)(ty:TyOf X.K H x t)(e:kitOne X.K t c=some b)(h:∀ tk,Q (.bool b) { s with toks:=tk}):
  wpAny (model X.prog X.w) A (call (.builtin "isinstance") [u,c]) Q E s:=by
 cases ty with
 | non=>cases (show u=Value.none from rx); exact cK PySem.W.kitx_none I.kIn True.intro e (fun z=>nomatch z) h
 | bl y=>cases (show u=Value.bool y from rx); exact cK PySem.W.kitx_bool I.kIn True.intro e (fun z=>nomatch z) h
 | int i=>obtain⟨t,q⟩:=(show ∃ t,u=Value.int i t from rx); cases q; exact cK PySem.W.kitx_int I.kIn True.intro e (fun z=>nomatch z) h
 | str y=>obtain⟨t,q⟩:=(show ∃ t,u=Value.str y t from rx); cases q; exact cK PySem.W.kitx_str I.kIn True.intro e (fun z=>nomatch z) h
 | flt y=>obtain⟨t,q⟩:=(show ∃ t,u=Value.float y t from rx); cases q; exact cK PySem.W.kitx_float I.kIn True.intro e (fun z=>nomatch z) h
 | @lst a xs ea=>
  cases (show u=Value.ref a from rx);obtain⟨_,_,n,_,h1⟩:=(show ObjOk X.prog X.w H s.heap a (.lst xs) from I.hok a _ ea);exact cK kitx_list I.kIn ⟨_,h1,rfl⟩ e (fun z=>nomatch z) h
 | @frz a ob xs ea=>
  cases (show u=Value.ref a from rx);obtain⟨_,_,_,n,_,h1⟩:=(show ObjOk X.prog X.w H s.heap a (.frz ob (.lst xs)) from I.hok a _ ea);exact cK kitx_list I.kIn ⟨_,h1,rfl⟩ e (fun z=>nomatch z) h
 | @tup a xs ea=>
  cases (show u=Value.ref a from rx);obtain⟨_,_,_,p⟩:=(show ObjOk X.prog X.w H s.heap a (.tup xs) from I.hok a _ ea);obtain⟨o,h1,h2,_⟩:=p.isTup;exact cK PySem.W.kitx_tuple I.kIn ⟨o,h1,h2⟩ e (fun z=>nomatch z) h
 | @dK a kvs ea=>
  cases (show u=Value.ref a from rx);obtain⟨_,_,vs,_,p⟩:=(show ObjOk X.prog X.w H s.heap a (.dK kvs) from I.hok a _ ea);obtain⟨o,es,ep,h1,h2,_⟩:=p;exact cK kitx_dict I.kIn ⟨o,h1,h2.1⟩ e (fun z=>nomatch z) h
 | @dT a kvs ea=>
  cases (show u=Value.ref a from rx);obtain⟨_,_,xs,_,o,es,ep,h1,h2,_⟩:=(show ObjOk X.prog X.w H s.heap a (.dT kvs) from I.hok a _ ea);exact cK kitx_dict I.kIn ⟨o,h1,h2.1⟩ e (fun z=>nomatch z) h
 | @ins a C dx fs ea cl ha hn htk hm=>
  cases (show u=Value.ref a from rx);obtain⟨mA,O,_⟩:=jUS I.hok ea;obtain⟨od,J,_⟩:=O.look;exact cK (PySem.W.kitx_own (cl.get _) cl.hd ha hn htk hm) I.kIn J e (fun z=>nomatch z) h
end
structure Room (k:Nat)(A:Around):Prop where
 hd:A.handled=none
 dp:A.depth+3*k+5<recursionLimit
 un:A.units+16*k+200<cLine
theorem Room.mono {j k:Nat}{A:Around}(r:Room k A)(h:j<=k):Room j A:=⟨r.hd,by have:=r.dp; lia,by have:=r.un; lia⟩
theorem Room.deeper {k:Nat}{A:Around}(r:Room (k+1) A)(env:Env):Room k (A.deeper env):=
 ⟨r.hd,by have:=r.dp; show A.depth+1+3*k+5<_; lia,by have:=r.un; show A.units+3+16*k+200<_; lia⟩
theorem Room.in1 {k:Nat}{A:Around}(r:Room (k+1) A):Room k A.in1:=
 ⟨r.hd,by have:=r.dp; show A.depth+3*k+5<_; lia,by have:=r.un; show A.units+1+16*k+200<_; lia⟩
theorem Room.depth {k:Nat}{A:Around}(r:Room k A):A.depth<recursionLimit:=by have:=r.dp; lia
theorem Room.units {k:Nat}{A:Around}(r:Room k A):A.units+64<cLine:=by have:=r.un; lia
theorem Room.units0 {k:Nat}{A:Around}(r:Room k A):A.units<cLine:=by have:=r.un; lia
def tNil:TA:=fun _ H Q=>Q [] H
def tCons (ta:TE)(tr:TA):TA:=fun σ H Q=>ta σ H fun x H1=>tr σ H1 fun xs H2=>Q (x::xs) H2
variable {es:List Expr}{t:TA}
theorem yO:PA X [] tNil:=fun _ _ _ _ H Q I h=>Calls.spliced_nil ⟨[],H,I, .nil,h⟩
theorem kL (ha:PE X e te)(hr:PA X es t)(hs:starEach (e::es) X.env=(false,eval e X.env)::starEach es X.env:=by rfl):PA X (e::es) (tCons te t):=by
 intro pos lH s σ H Q I h;rw[hs];show wpAny _ _ (spliced ((false,eval e X.env)::backTo pos (starEach es X.env))) _ _ s;refine Calls.spliced_cons (lJ (ha lH s σ H _ I h) fun u s1 ⟨x,H1,I1,r1,q1⟩=>?_);exact lJ (hr pos lH s1 σ H1 _ I1 q1) fun us s2 ⟨xs,H2,I2,r2,q2⟩=>⟨x::xs,H2,I2, .cons r1 r2,q2⟩
def tTup (t:TA):TE:=fun σ H Q=>t σ H fun xs H1=>xs.length<=sizeLine/\∀ p,H1 p=none->Q (.ref p) (upd H1 p (.tup xs))
def tLst (t:TA):TE:=fun σ H Q=>t σ H fun xs H1=>xs.length<=sizeLine/\∀ p,H1 p=none->Q (.ref p) (upd H1 p (.lst xs))
theorem jW3 {x1}(h:PA X es t):PE X (.Tuple es x1 pos) (tTup t):=by
 intro lH s σ H Q I hq;refine wpAny_Tuple_spliced (lJ (h pos lH s σ H _ I hq) fun us s1 ⟨xs,H1,I1,r,z,q⟩=>⟨by rw[<- r.length]; exact z,?_⟩);have hf:H1 s1.heap.objs.size=none:=I1.hok.fresh (aA _);refine⟨.ref s1.heap.objs.size,upd H1 s1.heap.objs.size (.tup xs),I1.laid (t':=s1.toks) (fun b u e=>ah _ e) (aA _) ?_,rfl,q _ hf⟩;exact⟨z,us,r,TupO.new _ _⟩
theorem jKK (h:PA X es t):PE X (.List es pos) (tLst t):=by
 intro lH s σ H Q I hq;refine wpAny_List_spliced (lJ (h pos lH s σ H _ I hq) fun us s1 ⟨xs,H1,I1,r,z,q⟩=>⟨by rw[<- r.length]; exact z,?_⟩);have hf:H1 s1.heap.objs.size=none:=I1.hok.fresh (aA _);refine⟨.ref s1.heap.objs.size,upd H1 s1.heap.objs.size (.lst xs),I1.laid (t':=s1.toks) (fun b u e=>ah _ e) (aA _) ?_,rfl,q _ hf⟩;exact⟨z,us,0,r,aF _ rfl⟩
abbrev Sp:=List V->Hp->VK->XK->Prop
abbrev CXT:=List Env->Hp->Shared->XK->Ah
structure Env0 (P:Program)(w:World)(K:W.Frag)(mg:Ak)(Ar:Heap)(A:Around)(Aq:List Env)(s:Shared)(H:Hp):Prop where
 frames:A.frames=some Aq
 mod:Mod K mg Ar
 bs:∀ b o,Ar.get? b=some o->s.heap.get? b=some o/\H b=none
 bsz:Ar.objs.size<=s.heap.objs.size
 funs:s.heap.FunFrames Ar Aq
 frf:∀ b∈frs Aq,H b=none
 hok:HOk P w H s.heap
 bare:AllBare s.gens
def CE (Aq:List Env)(P:Program)(w:World)(H:Hp)(s:Shared)(Q:VK)(u:Value)(s':Shared):Prop:=
 ∃ v H',s'.os=s.os/\AllBare s'.gens/\Un (frs Aq) [] H H' s.heap s'.heap/\HOk P w H' s'.heap/\RelV v u/\Q v H'
def CR (CX:CXT)(Aq:List Env)(P:Program)(w:World)(H:Hp)(s:Shared)(Q:VK)(E:XK)(r:Result)(s':Shared):Prop:=
 match r with
 | .ok (.ret u)=>CE Aq P w H s Q u s'
 | .ok _=>False
 | .error e=>CX Aq H s E e s'
structure FnOk (P:Program)(w:World)(K:W.Frag)(mg:Ak)(Ar:Heap)(CX:CXT)(k:Nat)(f:Addr)(fd:FuncData)(ps:An)(sp:Sp):Prop where
 len:∀ vs H Q E,sp vs H Q E->vs.length=ps.length
 run:∀ (A:Around) (Aq:List Env) (s:Shared) (H:Hp) (args:Args) (us:Am) (vs:List V) (Q:VK) (E:XK),Room k A->Env0 P w K mg Ar A Aq s H->BindsTo s fd args (ps.zip us)->Vals vs us->sp vs H Q E->
  codeAny (model P w) A (.call (.ref f) args) (CR CX Aq P w H s Q E) s
theorem Env0.in1 {P:Program}{w:World}{K:W.Frag}{mg:Ak}{Ar:Heap}{A:Around}{Aq:List Env}{s:Shared}{H:Hp}(e:Env0 P w K mg Ar A Aq s H):
  Env0 P w K mg Ar A.in1 Aq s H:=⟨e.frames,e.mod,e.bs,e.bsz,e.funs,e.frf,e.hok,e.bare⟩
section
variable {σ:St}{s':Shared}
theorem Inv.env0 (I:Inv X lH σ H s):Env0 X.prog X.w X.K X.mg X.Ar X.A X.stack s H:=
 ⟨I.ok.frames,I.ok.mod,I.bs,bv I.ok.bsz I.sz,I.stack,I.stkFree,I.hok,I.bare⟩
theorem Inv.after {Q:VK}{u:Value}(I:Inv X lH σ H s)(h:CE X.stack X.prog X.w H s Q u s'):EP X lH σ Q u s':=by
 obtain⟨v,H',os,bare,un,hok,r,q⟩:=h;obtain⟨hh,g,d,t,os'⟩:=s';obtain rfl:os'=s.os:=os;exact⟨v,H',I.call (h':=hh) (g':=g) (d':=d) (t':=t) (ch:=[]) un hok bare (fun b z=>absurd z Ad),r,q⟩
end
def tCall (sp:Sp)(dvs:List V)(E:XK)(t:TA):TE:=fun σ H Q=>t σ H fun vs H1=>sp (vs++dvs) H1 Q E
def Binds (K:W.Frag)(fd:FuncData)(ps:An)(ds:Am):Prop:=
 ∀ (s:Shared) (us:Am),K.In s.heap->(us++ds).length=ps.length->BindsTo s fd ⟨us,[]⟩ (ps.zip (us++ds))
theorem Binds.all {K:W.Frag}{fd:FuncData}{ps:An}(h:∀ us:Am,us.length=ps.length->bindArgs fd ⟨us,[]⟩=pure (ps.zip us)):Binds K fd ps []:=fun s us _ hl=>by
 rw[bf] at hl ⊢;exact .of_eq (h us hl)
def jQ0 (CX:CXT)(X:Cx)(E:XK):Prop:=∀ (lH:Ai) (σ:St) (H:Hp) (s:Shared) (e:Value) (s':Shared),Inv X lH σ H s->CX X.stack H s E e s'->X.xe e s'
variable {CX:CXT}{fd:FuncData}{ps:An}{sp:Sp}{m:Str}{p apos:Pos}
section
variable {k:Nat}{dvs:List V}{ds:Am}{E:XK}{x:Str}
theorem jVR {lH:Ai}{σ:St}{H:Hp}{s:Shared}{Q:VK}{us:Am}{vs:List V}(F:FnOk X.prog X.w X.K X.mg X.Ar CX k f fd ps sp)(hr:Room k X.A)(hb:Binds X.K fd ps ds)(hd:Vals dvs ds)(hx:jQ0 CX X E)
  (I:Inv X lH σ H s) (r:Vals vs us) (h:sp (vs++dvs) H Q E):wpAny (model X.prog X.w) X.A (call (.ref f) us) (EP X lH σ Q) X.xe s:=by
 have r2:Vals (vs++dvs) (us++ds):=r.append hd;have hl:(us++ds).length=ps.length:=by rw[<- r2.length]; exact F.len _ _ _ _ h
 refine iI (dS (F.run X.A X.stack s H ⟨us,[]⟩ (us++ds) (vs++dvs) Q E hr I.env0 (hb s us I.kIn hl) r2 h) fun r s' hq=>?_);cases r with
 | error e=>exact hx lH σ H s e s' I hq
 | ok fl=>
  cases fl with
  | ret u=>exact I.after hq
  | next=>exact False.elim hq
  | brk=>exact False.elim hq
  | cont=>exact False.elim hq
theorem jU0 (F:FnOk X.prog X.w X.K X.mg X.Ar CX k f fd ps sp)(hr:Room k X.A)(hg:Gl X x)(hm:X.mg x=some (.ref f))(hk:keepIn X.K (.ref f)=true)(hb:Binds X.K fd ps ds)(hd:Vals dvs ds)(hx:jQ0 CX X E)
  (ha:PA X (e::es) t) (hdb:(x==("__debug__" :Str))=false:=by decide) (he:starEach (e::es) X.env=(false,eval e X.env)::starEach es X.env:=by rfl) (hpl:(backTo pos (starEach es X.env)).any (·.1)=false:=by rfl):
  PE X (.Call (.Name x p) (e::es) [] pos) (tCall sp dvs E t):=by
 intro lH s σ H Q I h;refine cQ (jJC I hg hm ?_ hdb);refine lv (h₀:=X.Ar) I.ok.mod.kin hk (lJ (ha pos lH s σ H _ I h) fun us s1 ⟨vs,H1,I1,r,q⟩=>⟨I1.kIn,?_⟩) he hpl;exact jVR F hr hb hd hx I1 r q
end
def PK (X:Cx)(kws:List Keyword)(t:TA):Prop:=
 ∀ (pos:Pos) (lH:Ai) (s:Shared) (σ:St) (H:Hp) (Q:List V->Hp->Prop),Inv X lH σ H s->t σ H Q->wpAny (model X.prog X.w) X.A (evalAll ((backToKw pos (keywordEach kws X.env)).map (·.2))) (AP X lH σ Q) X.xe s
section
variable {k:Nat}{ks:An}{E:XK}{x:Str}{kpos:Pos}{kws:List Keyword}{tk:TA}{nm:Option Str}
theorem jVZ:PK X [] tNil:=fun _ _ _ _ H Q I h=>wpAny_evalAll_nil ⟨[],H,I, .nil,h⟩
theorem jTO (ha:PE X e te)(hr:PK X kws t):PK X (⟨nm,e,kpos⟩::kws) (tCons te t):=by
 intro pos lH s σ H Q I h;show wpAny _ _ (evalAll ((do let v <- eval e X.env; standAt pos; pure v)::(backToKw pos (keywordEach kws X.env)).map (·.2))) _ _ s;refine wpAny_evalAll_cons (ae (lJ (ha lH s σ H _ I h) fun u s1 ⟨x,H1,I1,r1,q1⟩=>ae (fe (aj ?_))));exact lJ (hr pos lH s1 σ H1 _ I1 q1) fun us s2 ⟨xs,H2,I2,r2,q2⟩=>⟨x::xs,H2,I2, .cons r1 r2,q2⟩
variable {g:Am->Am->Am}{gV:List V->List V->List V}
end
structure FnScope (N P:An)(sc:Scope):Prop where
 kind:sc.kind= .function:=by rfl
 co:sc.isCoroutine=false:=by rfl
 gen:sc.isGenerator=false:=by rfl
 nd:N.Nodup:=by decide+kernel
 pre:N.take P.length=P:=by rfl
 par:∀ x∈P,sc.names.lookup x=some .local\/sc.names.lookup x=some .cell:=by decide+kernel
 nofree:∀ y∈sc.names,y.2≠ .free:=by decide+kernel
theorem jIM {kindOf:Str->Option NameKind}{x:Str} :∀ {binds:List (Str×Value)}{m:Ak},(∀ v,(x,v)∉binds)->bindL kindOf binds m x=m x
 | [],_,_=>rfl
 | (n,v)::r,m,h=>by
  unfold bindL;rw[jIM fun w hw=>h w (ag _ hw)];split
  ·have:x≠n:=by rintro rfl; exact h v ai
   simp [this]
  ·rfl
theorem jIO {kindOf:Str->Option NameKind}{x:Str} :∀ {binds:List (Str×Value)}{m:Ak},(∀ v,(x,v)∉binds)->bindC kindOf binds m x=m x
 | [],_,_=>rfl
 | (n,v)::r,m,h=>by
  unfold bindC;rw[jIO fun w hw=>h w (ag _ hw)];split
  ·rfl
  ·have:x≠n:=by rintro rfl; exact h v ai
   simp [this]
theorem jIN {kindOf:Str->Option NameKind}{x:Str}{v:Value} :∀ {P:An}{vs:Am}{i:Nat}{m:Ak},P.Nodup->P[i]?=some x->vs[i]?=some v->kindOf x=some .local->
  bindL kindOf (P.zip vs) m x=some v
 | [],_,_,_,_,h,_,_=>by simp at h
 | _::_,[],_,_,_,_,h,_=>by simp at h
 | p::P,w::vs,0,m,nd,h1,h2,hk=>by
  simp at h1 h2; subst h1; subst h2;show bindL kindOf ((p,w)::P.zip vs) m p=_;unfold bindL;rw[jIM fun v hv=>(ce.mp nd).1 (dN hv).1,aq hk];simp
 | p::P,w::vs,i+1,m,nd,h1,h2,hk=>by
  show bindL kindOf ((p,w)::P.zip vs) m x=_;unfold bindL;exact jIN (i:=i) (ce.mp nd).2 (by simpa using h1) (by simpa using h2) hk
theorem jIP {kindOf:Str->Option NameKind}{x:Str}{v:Value} :∀ {P:An}{vs:Am}{i:Nat}{m:Ak},P.Nodup->P[i]?=some x->vs[i]?=some v->kindOf x≠some .local->
  bindC kindOf (P.zip vs) m x=some v
 | [],_,_,_,_,h,_,_=>by simp at h
 | _::_,[],_,_,_,_,h,_=>by simp at h
 | p::P,w::vs,0,m,nd,h1,h2,hk=>by
  simp at h1 h2; subst h1; subst h2;show bindC kindOf ((p,w)::P.zip vs) m p=_;unfold bindC;rw[jIO fun v hv=>(ce.mp nd).1 (dN hv).1,ak hk];simp
 | p::P,w::vs,i+1,m,nd,h1,h2,hk=>by
  show bindC kindOf ((p,w)::P.zip vs) m x=_;unfold bindC;exact jIP (i:=i) (ce.mp nd).2 (by simpa using h1) (by simpa using h2) hk
def yC (N:An)(vs:List V):St:=vs.map some++List.replicate (N.length - vs.length) none
def cxOf (CX:CXT)(P:Program)(w:World)(K:W.Frag)(mg:Ak)(Ar:Heap)(N:An)(qual:Str)(scope:Scope)(f:Addr)(cd:Value)(A:Around)(Aq:List Env)(s:Shared)(H:Hp)(E:XK):Cx where
 prog:=P
 w:=w
 K:=K
 mg:=mg
 Ar:=Ar
 A:=A.deeper (envOfC qual scope s.heap.objs.size f cd)
 N:=N
 s₀:=s
 H₀:=H
 env:=envOfC qual scope s.heap.objs.size f cd
 Aq:=Aq
 stack:=envOfC qual scope s.heap.objs.size f cd::Aq
 ex:=[]
 calm:=true
 fn:=fun _=>true
 pn:=[]
 xe:=fun e s'=>wpAny (model P w) (A.deeper (envOfC qual scope s.heap.objs.size f cd)) (leaving (envOfC qual scope s.heap.objs.size f cd) e) (fun _ s''=>CX Aq H s E e s'') (fun e' s''=>CX Aq H s E e' s'') s'
theorem jLG {sc:Scope}{n:Nat}{x:Str}(h:sc.names.lookup x=some .cell):∃ c,(cellsFrom n sc.names []).lookup x=some c:=by
 have q:=gA sc.names n [] (.inl h);exact Option.isSome_iff_exists.mp q
theorem jI6 {CX:CXT}{P:Program}{w:World}{K:W.Frag}{mg:Ak}{Ar:Heap}{N ps:An}{qual:Str}{scope:Scope}{f:Addr}{cd:Value}{A:Around}{Aq:List Env}{s s1:Shared}{H:Hp}{E:XK}{us:Am}{vs:List V}
  (S:FnScope N ps scope) (hd:A.handled=none) (e0:Env0 P w K mg Ar A Aq s H) (hl:vs.length=ps.length) (r:Vals vs us)
  (x:InCallC s s.heap.objs.size (bindL (envOfC qual scope s.heap.objs.size f cd).kindOf (ps.zip us) fun _=>none) (cellsFrom (s.heap.objs.size+1) scope.names []) (bindC (envOfC qual scope s.heap.objs.size f cd).kindOf (ps.zip us) fun _=>none) s1):
  Inv (cxOf CX P w K mg Ar N qual scope f cd A Aq s H E) [] (yC N vs) H s1:=by
 have hpl:ps.length<=N.length:=by have:=bW List.length S.pre; rw[bO] at this; lia
 obtain⟨h1,tk,rfl,hk⟩:=x.done;have noA:∀ b:Addr,b∉(cxOf CX P w K mg Ar N qual scope f cd A Aq s H E).ex:=fun b z=>absurd (show b∈([]:List Addr) from z) Ad;refine⟨⟨e0.mod,S.kind,rfl,rfl,aA _,fun y z c h1 h2=>?_,fun y hy=>?_,fun y c _ h=>?_,fun _=>hd,Around.frames_deeper e0.frames, .inr ⟨rfl,rfl⟩,fun b z=>absurd z (noA b),e0.bs,e0.bsz,fun b _ _=>noA b,fun b z=>absurd z (noA b),e0.funs,e0.frf⟩,
  rfl,e0.bare,Un.kept hk,⟨_,x.toInCall.ns,fun i y v h1 h2 h3=>?_⟩,fun y c h=>⟨_,x.cell y c h⟩,e0.hok.fresh (aA _),fun y c h=>?_,fun p hp=>absurd (show p∈([]:Ai) from hp) Ad,e0.hok.kept hk,?_⟩
 ·exact name_of_addr x.apart (cf h1) (cf h2)
 ·have hy:scope.names.lookup y=some .cell\/scope.names.lookup y=some .free:=hy;rcases hy with hy | hy
  ·exact jLG hy
  ·exact absurd rfl (S.nofree _ (cf hy))
 ·exact cY (x.above y c (cf h))
 ·have hi:i<vs.length:=by
   unfold yC at h2;by_cases hi:i<vs.length
   ·exact hi
   ·rw[bi (by simpa using hi)] at h2;rw[i7] at h2;split at h2 <;> cases h2
  have ha:vs[i]?=some v:=by
   unfold yC at h2;rw[b7 (by simpa using hi),aV] at h2;cases e:vs[i]? with
   | none=>rw[e] at h2; cases h2
   | some a=>rw[e] at h2; cases h2; rfl
  obtain⟨u,hu,rv⟩:=r.get ha;have hp:ps[i]?=some y:=by
   rw[<- S.pre,cD Aa]; exact h1
  have ndP:ps.Nodup:=by rw[<- S.pre]; exact S.nd.sublist (eC _ _)
  refine⟨u,rv,?_⟩;rcases S.par y (aH hp) with k | k
  ·exact .inl ⟨k,jIN ndP hp hu k⟩
  ·obtain⟨c,e⟩:=jLG (n:=s.heap.objs.size+1) k;refine .inr ⟨.inl k,c,e,?_⟩;have q:=x.cell y c e;rw[jIP ndP hp hu (by show scope.names.lookup y≠_; rw[k]; decide)] at q;exact q
 ·exact e0.hok.fresh (cY (x.above y c (cf h)))
 ·unfold yC;show _=N.length;rw[aL,af,kh];lia
theorem fn_of {CX:CXT}{P:Program}{w:World}{K:W.Frag}{mg:Ak}{Ar:Heap}{k:Nat}{f:Addr}{name qual:Str}{params:Arguments}{body:List Stmt}{scope:Scope}{dV kV doc pm lI ct oc:Value}{an od:Option Addr}
  {osl:Array (Ap)}{N ps:An}{sp:Sp}(lk:K.lookup f=some ⟨oc,od, .func (PySem.W.fnOf name qual params body scope dV kV doc pm an lI ct),osl⟩) (hcd:PySem.W.codeIn K lI qual=true) (S:FnScope N ps scope)
  (len:∀ vs H Q E,sp vs H Q E->vs.length=ps.length)
  (hbody:∀ (A:Around) (Aq:List Env) (s:Shared) (H:Hp) (vs:List V) (Q:VK) (E:XK),Room k (A.deeper (envOfC qual scope s.heap.objs.size f lI))->sp vs H Q E->
   ∃ t,PSs (cxOf CX P w K mg Ar N qual scope f lI A Aq s H E) body t/\t { nx:=fun _ H'=>Q .non H',rt:=Q} (yC N vs) H):
  FnOk P w K mg Ar CX (k+1) f (PySem.W.fnOf name qual params body scope dV kV doc pm an lI ct) ps sp:=by
 refine⟨len,fun A Aq s H args us vs Q E hr e0 hb r hsp=>?_⟩;have hl:=len _ _ _ _ hsp;have KX:K.In s.heap:=e0.mod.kin.keeps fun b o e=>(e0.bs b o e).1;have lim:s.heap.NoLimit:=e0.mod.nolimit.keeps fun b o e=>(e0.bs b o e).1;have hkind:∀ y∈ps.zip us,scope.names.lookup y.1=some .local\/(scope.names.lookup y.1=some .cell/\((cellsFrom (s.heap.objs.size+1) scope.names []).lookup y.1).isSome=true):=fun ⟨n,v⟩ hy=>by
  rcases S.par n (dN hy).1 with q | q
  ·exact .inl q
  ·exact .inr ⟨q,gA _ _ _ (.inl q)⟩
 refine codeAny_call_function hr.depth (KX _ _ lk) rfl S.co S.gen rfl (lw KX hcd) (hb _ _ _ _ ?_);refine iJ S.kind hkind fun env he s1 x=>?_;subst he;refine⟨lim.keeps x.toInCall.keep,codeAny_func ?_⟩;obtain⟨t,ht,hq⟩:=hbody A Aq s H vs Q E (hr.deeper _) hsp;have I:Inv (cxOf CX P w K mg Ar N qual scope f lI A Aq s H E) [] (yC N vs) H s1:=jI6 S hr.hd e0 hl r x;refine cm (ht [] s1 (yC N vs) H _ I hq) (fun fl s' hs=>?_) fun e s' hs=>hs;have fin:∀ {σ':St}{H':Hp}{v:V}{u:Value},Inv (cxOf CX P w K mg Ar N qual scope f lI A Aq s H E) [] σ' H' s'->RelV v u->Q v H'->CE Aq P w H s Q u s':=
  fun {σ' H' v u} J rv q=>⟨v,H',J.os,J.bare,J.Ar,J.hok,rv,q⟩
 cases fl with
 | ret u=>
  obtain⟨v,σ',H',J,rv,q⟩:=hs;exact fin J rv q
 | next=>
  obtain⟨σ',H',J,q⟩:=hs;exact fin (v:=V.non) (u:=Value.none) J rfl q
 | brk=>
  obtain⟨_,_,_,q⟩:=hs;exact False.elim q
 | cont=>
  obtain⟨_,_,_,q⟩:=hs;exact False.elim q
section
variable {x:Str}{id T:String}{r:List V->Hp->VK->Prop}
def tCB (r:List V->Hp->VK->Prop)(t:TA):TE:=fun σ H Q=>t σ H fun vs H1=>r vs H1 Q
theorem jG9 (hc:yV X (.builtin id) r)(hg:Gl X x)(hm:X.mg x=none)(hv:bootBuiltins x=some (.builtin id))(ha:PA X (e::es) t)(hn:x≠ "__name__" :=by decide)(hdb:(x==("__debug__" :Str))=false:=by decide)
  (he:starEach (e::es) X.env=(false,eval e X.env)::starEach es X.env:=by rfl) (hpl:(backTo pos (starEach es X.env)).any (·.1)=false:=by rfl):PE X (.Call (.Name x p) (e::es) [] pos) (tCB r t):=by
 intro lH s σ H Q I h;refine cQ (jEO I hg hm hv ?_ hn hdb);exact PyProof.Rows.callWith_builtin1 (lJ (ha pos lH s σ H _ I h) fun us s1 ⟨vs,H1,I1,r1,q1⟩=>hc lH s1 σ H1 vs us Q I1 r1 q1) he hpl
theorem jCF (hc:yV X (.type T) r)(hg:Gl X x)(hm:X.mg x=none)(hv:bootBuiltins x=some (.type T))(ha:PA X (e::es) t)(hn:x≠ "__name__" :=by decide)(hdb:(x==("__debug__" :Str))=false:=by decide)
  (he:starEach (e::es) X.env=(false,eval e X.env)::starEach es X.env:=by rfl) (hpl:(backTo pos (starEach es X.env)).any (·.1)=false:=by rfl):PE X (.Call (.Name x p) (e::es) [] pos) (tCB r t):=by
 intro lH s σ H Q I h;refine cQ (jEO I hg hm hv ?_ hn hdb);exact dR (lJ (ha pos lH s σ H _ I h) fun us s1 ⟨vs,H1,I1,r1,q1⟩=>hc lH s1 σ H1 vs us Q I1 r1 q1) he hpl
end
end L2
namespace HT
open PySem PyProof.Rows
def lexLt:Ag->Ag->Bool
 | [],[]=>false
 | [],_::_=>true
 | _::_,[]=>false
 | x::xs,y::ys=>if x=y then lexLt xs ys else decide (x<y)
theorem lexLt_cons (x y:Int)(xs ys:Ag):lexLt (x::xs) (y::ys)=if x=y then lexLt xs ys else decide (x<y):=rfl
theorem jGJ:lexLt [] []=false:=rfl
theorem jF5 (y:Int)(ys:Ag):lexLt [] (y::ys)=true:=rfl
theorem jF6 (x:Int)(xs:Ag):lexLt (x::xs) []=false:=rfl
theorem jRH (A:Around)(s:Shared)(a:Int)(t:Tok)(c:Int)(u:Tok):∃ e,SeqAt.EqAt A s (.int a t) (.int c u) e/\(e=true↔a=c):=
 ⟨(a==c),eW a t c u,Ad⟩
theorem rcLt_int (A:Around)(s:Shared)(a:Int)(t:Tok)(c:Int)(u:Tok)(prog:Program)(w:World)(E:Ah)(Q:Ah)(h:Q (.bool (decide (a<c))) s):
  wpAny (model prog w) A (richCompare .Lt (.int a t) (.int c u)) Q E s:=
 (PyProof.Rows.lt_int h:wpAny (model prog w) A (compareOp .Lt (.int a t) (.int c u)) Q E s)
section
open PySem.SeqAt
open PySem.AutoSeq1 (wpAny_loadPart')
open PySem.MeetsSeq PySem.MeetsSeq2 PySem.MeetsSeq3
theorem tuple_lt_ints (l b:Addr)(items items2:Ao)(n n2:Nat)(dd dd2:Option Addr)(sl sl2:Array (Ap))(ns ms:Ag)(hi:IntsAre items.toList ns)(hj:IntsAre items2.toList ms):
  Meets (Builtin.«tuple.__lt__» ⟨[.ref l, .ref b],[]⟩)
   (fun _ R s=>s.heap.get? l=some { cls:= .type "tuple",dict:=dd,data:= .seq items n,slots:=sl} /\s.heap.get? b=some { cls:= .type "tuple",dict:=dd2,data:= .seq items2 n2,slots:=sl2} /\
    R (.ok (.ret (.bool (lexLt ns ms)))) s):=
 .of_wp fun prog w A R s h=>by
  obtain⟨hp,g,d,tk,os⟩:=s; obtain⟨hl,hb,h⟩:=h;have f2:=AutoSeq1.sub_tuple_tuple;have z1:items.size=ns.length:=by rw[<- hi.length]; simp
  have z2:items2.size=ms.length:=by rw[<- hj.length]; simp
  wp_walk using cL hl,cL hb,wpAny_forIn_list _ (fun rest b s'=>b.1=none/\s'=⟨hp,g,d,tk,os⟩/\∃ (vs ws:Am) (ns' ms':Ag),rest=vs.zip ws/\
   IntsAre vs ns'/\IntsAre ws ms'/\ns'.length+items2.size=ms'.length+items.size/\R (.ok (.ret (.bool (lexLt ns' ms')))) ⟨hp,g,d,tk,os⟩) _
  case turn=>
   rintro ⟨y,x⟩ rest b s' ⟨hb',rfl,vs,ws,ns',ms',hz,hvi,hwi,hlen,hR⟩;cases hvi with
   | nil=>rw[List.zip_nil_left] at hz; cases hz
   | cons a t hvi'=>
    cases hwi with
    | nil=>rw[List.zip_nil_right] at hz; cases hz
    | cons c u hwi'=>
     rw[dX] at hz;injection hz with hyx hrest;injection hyx with hy hx;subst hy hx;rw[lexLt_cons] at hR;simp only [aU] at hlen;obtain⟨e,he,hiff⟩:=jRH A.in1 ⟨hp,g,d,tk,os⟩ a t c u;refine ae (he prog w _ _ ?_);cases e with
     | true=>
      rw[aq (hiff.mp rfl)] at hR
      wp_walk
      exact⟨rfl,rfl,_,_,_,_,hrest,hvi',hwi',Aa,hR⟩
     | false=>
      rw[ak (fun q=>absurd (hiff.mpr q) ay)] at hR;have hri:=rcLt_int A.in1 ⟨hp,g,d,tk,os⟩ a t c u prog w
      wp_walk using hri
      exact⟨_,rfl,by simpa using hR⟩
  case fin=>
   rintro ⟨b1,b2⟩ s' ⟨hb',rfl,vs,ws,ns',ms',hz,hvi,hwi,hlen,hR⟩;simp only at hb';subst hb';have hv:lexLt ns' ms'=decide (items.size<items2.size):=by
    cases hvi with
    | nil=>
     cases hwi with
     | nil=>
      simp only [cA] at hlen;rw[jGJ];exact(aM Aa).symm
     | cons c u hw=>
      simp only [cA,aU] at hlen;rw[jF5];exact(ar Aa).symm
    | cons a t hv=>
     cases hwi with
     | nil=>
      simp only [cA,aU] at hlen;rw[jF6];exact(aM Aa).symm
     | cons c u hw=>
      rw[dX] at hz;cases hz
   rw[hv] at hR
   wp_walk
   exact⟨_,rfl,by simpa [Builtin.Tuple.tupleCompareSizes] using hR⟩
  case h=>
   exact⟨rfl,rfl,items.toList,items2.toList,ns,ms,rfl,hi,hj,Aa,h⟩
end
section
variable {prog:Program}{w:World}{A:Around}{E:Ah}{s:Shared}
theorem lt_tupInts {l b:Addr}{items items2:Ao}{ns ms:Ag}{Q:Ah}(hl:IsTup s.heap l items)(hb:IsTup s.heap b items2)(hi:IntsAre items.toList ns)(hj:IntsAre items2.toList ms)
  (hu:A.units<cLine) (h:Q (.bool (lexLt ns ms)) s):wpAny (model prog w) A (compareOp .Lt (.ref l) (.ref b)) Q E s:=by
 obtain⟨⟨cls,dd,data,sl⟩,ho,hc,n,hd⟩:=id hl;obtain⟨⟨cls2,dd2,data2,sl2⟩,ho2,hc2,n2,hd2⟩:=id hb;simp only at hc hd hc2 hd2;subst hc hd hc2 hd2;exact richCompare_meets_room (op:= .Lt) ⟨_,ho,rfl⟩ ⟨_,ho2,rfl⟩ gQ jl (i8 _ _) (tuple_lt_ints l b items items2 n n2 dd dd2 sl sl2 ns ms hi hj)
  ⟨ho,ho2,show Value.bool (lexLt ns ms)≠Value.notImplemented/\Q (.bool (lexLt ns ms)) s from ⟨(fun x=>nomatch x),h⟩⟩ hu
theorem cat_tup {t b:Addr}{vs ws:Am}{Q:Ah}(ht:IsTup s.heap t vs.toArray)(hb:IsTup s.heap b ws.toArray)(hv:vs≠ [])
  (h1:ws=[]->Q (.ref t) s) (h2:ws≠ []->Q (.ref s.heap.objs.size) { s with heap:=s.heap.push { cls:= .type "tuple",data:= .seq (vs++ws).toArray}})
  (hsz:vs.length+ws.length<=sizeLine):wpAny (model prog w) A (binaryOp .Add (.ref t) (.ref b)) Q E s:=by
 obtain⟨⟨cls,dd,data,sl⟩,ho,hc,n,hd⟩:=id ht;obtain⟨⟨cls2,dd2,data2,sl2⟩,ho2,hc2,n2,hd2⟩:=id hb;simp only at hc hd hc2 hd2;subst hc hd hc2 hd2;have e:vs.toArray++ws.toArray=(vs++ws).toArray:=Ad;by_cases hw:ws=[]
 ·exact concat_meets ⟨_,ho,rfl⟩ ⟨_,ho2,rfl⟩ i9 seq_tuple_add gB gx (gd _ _)
   (tuple_addW1 t b vs.toArray ws.toArray n n2 dd dd2 sl sl2 (by simpa using hv) (by simp [hw])) ⟨ho,ho2,h1 hw⟩
 ·refine concat_meets ⟨_,ho,rfl⟩ ⟨_,ho2,rfl⟩ i9 seq_tuple_add gB gx (gd _ _)
   (tuple_addW2 t b vs.toArray ws.toArray n n2 dd dd2 sl sl2 (by simpa using hv) (by simpa using hw) (by rw[az,az]; exact hsz)) ⟨ho,ho2,?_⟩
  rw[e];exact h2 hw
def sIx (n d:Nat):Option Int->Nat
 | none=>d
 | some v=>if v<0 then (v+(n:Int)).toNat else min v.toNat n
end
end HT
namespace L2
open PySem PySem.Spec PyProof.Rows
abbrev TO:=St->Hp->(Option Int->Hp->Prop)->Prop
def PO (X:Cx)(e:Option Expr)(t:TO):Prop:=
 ∀ (lH:Ai) (s:Shared) (σ:St) (H:Hp) (Q:Option Int->Hp->Prop),Inv X lH σ H s->t σ H Q->
  wpAny (model X.prog X.w) X.A (evalPart e X.env) (fun u s'=>∃ o H',Inv X lH σ H' s'/\IsPart u o/\Q o H') X.xe s
def jMW:TO:=fun _ H Q=>Q none H
def tPart (t:TE):TO:=fun σ H Q=>t σ H fun x H1=>∃ i,x= .int i/\Q (some i) H1
theorem jFQ {ns:Ag} :∀ {us:Am},Vals (ns.map V.int) us->IntsAre us ns:=by
 induction ns with
 | nil=>intro us r; rw[iu] at r; cases r; exact .nil
 | cons n ns ih=>
  intro us r;rw[bg] at r;cases r with
  | cons r1 r2=>
   obtain⟨t,e⟩:=r1;subst e;exact .cons n t (ih r2)
variable {X:Cx}{e:Expr}{pos:Pos}
section
variable {te:TE}{lo hi:Option Expr}{tl th:TO}{p2:Pos}
theorem jTN:PO X none jMW:=by
 intro lH s σ H Q I h;rw[evalPart_none];exact aj ⟨none,H,I, .none,h⟩
theorem jTM (h:PE X e te):PO X (some e) (tPart te):=by
 intro lH s σ H Q I hw;rw[evalPart_some];refine lJ (h lH s σ H _ I hw) fun u s1 ⟨x,H1,I1,r1,q1⟩=>?_;obtain⟨i,rfl,q⟩:=q1;obtain⟨t,rfl⟩:=r1;exact⟨some i,H1,I1, .int i t,q⟩
def SlR (X:Cx)(r:V->Option Int->Option Int->Hp->VK->Prop):Prop:=
 ∀ (lH:Ai) (s:Shared) (σ:St) (H:Hp) (x:V) (v vl vu:Value) (lo hi:Option Int) (sl:Addr) (Q:VK),Inv X lH σ H s->RelV x v->s.heap.IsSliceOf sl vl vu .none->IsPart vl lo->IsPart vu hi->r x lo hi H Q->
  ∃ T id,typeLookup (.type T) "__getitem__" =pure (some (.builtin id))/\s.TypeIs v T/\wpAny (model X.prog X.w) X.A (getItem v (.ref sl)) (EP X lH σ Q) X.xe s
def tSl (r:V->Option Int->Option Int->Hp->VK->Prop)(te:TE)(tl th:TO):TE:=fun σ H Q=>te σ H fun x H1=>tl σ H1 fun l H2=>th σ H2 fun u H3=>r x l u H3 Q
theorem jQK {r:V->Option Int->Option Int->Hp->VK->Prop}(hr:SlR X r)(he:PE X e te)(hl:PO X lo tl)(hu:PO X hi th):PE X (.Subscript e (.Slice lo hi none p2) pos) (tSl r te tl th):=by
 intro lH s σ H Q I h;refine Subscript_ (lJ (he lH s σ H _ I h) fun v s1 ⟨x,H1,I1,r1,q1⟩=>?_);refine wpAny_Slice (lJ (hl lH s1 σ H1 _ I1 q1) fun vl s2 ⟨l,H2,I2,pl,q2⟩=>lJ (hu lH s2 σ H2 _ I2 q2) fun vu s3 ⟨u,H3,I3,pu,q3⟩=>?_);rw[evalPart_none];refine aj ?_;have I4:Inv X lH σ H3 { s3 with heap:=s3.heap.push { cls:= .type "slice",data:= .fields #[vl,vu, .none]}} :=I3.kept (t':=s3.toks) fun b ob q=>ah _ q;obtain⟨T,id,hT,ht,hg⟩:=hr lH { s3 with heap:=s3.heap.push { cls:= .type "slice",data:= .fields #[vl,vu, .none]}} σ H3 x v vl vu l u s3.heap.objs.size Q I4 r1 (Heap.IsSliceOf.new ..) pl pu q3;show wpAny (model X.prog X.w) X.A (subscriptTail e (.Slice lo hi none p2) v (.ref s3.heap.objs.size)) (EP X lH σ Q) X.xe { s3 with heap:=s3.heap.push { cls:= .type "slice",data:= .fields #[vl,vu, .none]}};exact tail_any (ops:=[.ref s3.heap.objs.size,v]) ht hT hg (by with_unfolding_all rfl)
def cutV (xs:List V)(lo hi:Option Int):List V:=(xs.drop (HT.sIx xs.length 0 lo)).take (HT.sIx xs.length xs.length hi - HT.sIx xs.length 0 lo)
theorem jJR (xs:List V)(lo hi:Option Int):(cutV xs lo hi).length<=xs.length:=by
 unfold cutV;rw[bO,gW];lia
def rCatT (K:W.Frag):R2:=fun x y H Q=>∃ a b xs ys,x= .ref a/\y= .ref b/\SqT K H a xs/\SqT K H b ys/\xs≠ []/\xs.length+ys.length<=sizeLine/\
 (ys=[]->Q (.ref a) H)/\(ys≠ []->∀ p,H p=none->Q (.ref p) (upd H p (.tup (xs++ys))))
theorem Vals.nil_iff {xs:List V}{us:Am}(r:Vals xs us):us=[]↔xs=[]:=by
 cases r with
 | nil=>simp
 | cons _ _=>simp
theorem jU4:OpR X (binaryOp .Add) (rCatT X.K):=by
 intro lH s σ H x y v u Q I rx ry h;obtain⟨a,b,xs,ys,rfl,rfl,ha,hb,hx,hz,q1,q2⟩:=h;cases rx;cases ry;obtain⟨its,r1,p1,_⟩:=I.tuple ha;obtain⟨its2,r2,p2,_⟩:=I.tuple hb;refine HT.cat_tup p1 p2 (fun z=>hx (r1.nil_iff.mp z)) (fun z=>⟨.ref a,H,I,rfl,q1 (r2.nil_iff.mp z)⟩) (fun z=>?_) (by rw[<- r1.length,<- r2.length]; exact hz);refine⟨.ref s.heap.objs.size,_,I.laid (t':=s.toks) (o:= .tup (xs++ys)) (fun b ob q=>ah _ q) (aA _) ?_,rfl,q2 (fun w=>z (r2.nil_iff.mpr w)) _ (I.hok.fresh (aA _))⟩;exact⟨by rw[aL]; exact hz,_,r1.append r2,TupO.new _ _⟩
end
def ixN (n:Nat)(i:Int):Option Nat:=if 0<=i then (if i<n then some i.toNat else none) else if -(n:Int)<=i then some (i+n).toNat else none
def atI {α:Type}(xs:List α)(i:Int):Option α:=(ixN xs.length i).bind fun j=>xs[j]?
theorem jOW {n:Nat}{i:Int}{j:Nat}(h:ixN n i=some j):seqIndex? i n=some j/\j<n/\ -(n:Int)<=i/\i<n:=by
 unfold ixN at h;by_cases h0:0<=i
 ·rw[aq h0] at h;by_cases h1:i<n
  ·rw[aq h1] at h;have e:i.toNat=j:=bD h;exact⟨by rw[seqIndex_of h0 h1,e],Aa,Aa,h1⟩
  ·rw[ak h1] at h; cases h
 ·rw[ak h0] at h;by_cases h1: -(n:Int)<=i
  ·rw[aq h1] at h;have e:(i+n).toNat=j:=bD h;exact⟨by rw[seqIndex_neg Aa h1,e],Aa,h1,Aa⟩
  ·rw[ak h1] at h; cases h
theorem jPX {α:Type}{xs:List α}{i:Int}{v:α}(h:atI xs i=some v):∃ j,seqIndex? i xs.length=some j/\xs[j]?=some v/\j<xs.length/\ -(xs.length:Int)<=i/\i<xs.length:=by
 unfold atI at h;cases e:ixN xs.length i with
 | none=>rw[e] at h; cases h
 | some j=>
  rw[e] at h;obtain⟨h1,h2,h3,h4⟩:=jOW e;exact⟨j,h1,h,h2,h3,h4⟩
theorem qB {α:Type}{xs:List α}{j:Nat}{v:α}(h:xs[j]?=some v):atI xs (j:Int)=some v:=by
 have hj:j<xs.length:=(ao.mp h).1;have e:ixN xs.length (j:Int)=some j:=by
  unfold ixN;rw[aq Aa,aq Aa]; simp
 unfold atI; rw[e]; exact h
def jB2 (b:Expr):Prop:=∀ o i,subscripted b false o i=operate [o,i] (getItem o i)
def IxR (X:Cx)(r:R2):Prop:=
 ∀ (value slice:Expr) (lH:Ai) (s:Shared) (σ:St) (H:Hp) (x y:V) (v u:Value) (Q:VK),Inv X lH σ H s->RelV x v->RelV y u->r x y H Q->
  subscripted slice false v u=operate [v,u] (getItem v u)->wpAny (model X.prog X.w) X.A (subscriptTail value slice v u) (EP X lH σ Q) X.xe s
def MtR (X:Cx)(id:String)(r:V->List V->Hp->VK->Prop):Prop:=
 ∀ (lH:Ai) (s:Shared) (σ:St) (H:Hp) (x:V) (xs:List V) (v:Value) (us:Am) (Q:VK),Inv X lH σ H s->RelV x v->Vals xs us->r x xs H Q->
  wpAny (model X.prog X.w) X.A (call (.builtin id) (v::us)) (EP X lH σ Q) X.xe s
section
variable {a b:Expr}{ta tb:TE}
theorem pe_ix {r:R2}(hr:IxR X r)(ha:PE X a ta)(hb:PE X b tb)(hs:jB2 b):PE X (.Subscript a b pos) (tOp r ta tb):=by
 intro lH s σ H Q I h;exact Subscript_ (binT ha hb I h fun v u s2 x y H2 I2 rx ry q=>hr a b lH s2 σ H2 x y v u Q I2 rx ry q (hs _ _))
def rIxL (K:W.Frag):R2:=fun x y H Q=>∃ p xs i v,x= .ref p/\y= .int i/\SqL K H p xs/\atI xs i=some v/\Q v H
def rIxT (K:W.Frag):R2:=fun x y H Q=>∃ p xs i v,x= .ref p/\y= .int i/\SqT K H p xs/\atI xs i=some v/\Q v H
theorem jC6:IxR X (rIxL X.K):=by
 intro value slice lH s σ H x y v u Q I rx ry h hs;obtain⟨p,xs,i,z,rfl,rfl,hq,he,q⟩:=h;cases rx;obtain⟨t,rfl⟩:=ry;obtain⟨its,r,pl,hz⟩:=I.list hq;obtain⟨j,h1,h2,h3,h4,h5⟩:=jPX he;obtain⟨w,ew,rw'⟩:=r.get h2;have hl:=r.length;have hn:=jI0;have fin:EP X lH σ Q w s:=⟨z,H,I,rw',q⟩;by_cases h0:0<=i
 ·have hj:i.toNat=j:=by
   rw[seqIndex_of h0 h5] at h1;exact bD h1
  exact item_listR pl.isList h0 Aa (by rw[hj]; simpa using ew) fin hs
 ·have hj:(i+(its.toArray.size:Int)).toNat=j:=by
   rw[seqIndex_neg Aa h4] at h1;rw[az,<- hl];exact bD h1
  exact subscriptTail_builtinR (x:=w) pl.isList.typeIs slot_list_getitem.lookup
   (wpAny_getItem_list_neg (Q:=fun r s'=>r=w/\EP X lH σ Q r s') pl.isList Aa (by rw[az] <;> lia) Aa (by rw[hj]; simpa using ew) ⟨rfl,fin⟩) hs
theorem jJ:IxR X (rIxT X.K):=by
 intro value slice lH s σ H x y v u Q I rx ry h hs;obtain⟨p,xs,i,z,rfl,rfl,hq,he,q⟩:=h;cases rx;obtain⟨t,rfl⟩:=ry;obtain⟨its,r,pl,hz⟩:=I.tuple hq;obtain⟨j,h1,h2,h3,h4,h5⟩:=jPX he;obtain⟨w,ew,rw'⟩:=r.get h2;have hl:=r.length;have hn:=jI0;have fin:EP X lH σ Q w s:=⟨z,H,I,rw',q⟩;exact subscriptTail_builtinR (x:=w) pl.typeIs slot_tuple_getitem.lookup
  (getItem_tuple (j:=j) (Q:=fun r s'=>r=w/\EP X lH σ Q r s') pl Aa Aa (by rw[az,<- hl]; exact h1) (by simpa using ew) ⟨rfl,fin⟩) hs
theorem jM3 (its:Am)(n j:Nat)(u:Value):Obj.mapSeq (·.setIfInBounds j u) { cls:= .type "list",data:= .seq its.toArray n} = { cls:= .type "list",data:= .seq (its.set j u).toArray n} :=by
 simp [Obj.mapSeq]
theorem Inv.lst {lH:Ai}{σ:St}{H:Hp}{s:Shared}{p:Addr}{xs:List V}(I:Inv X lH σ H s)(h:H p=some (.lst xs)):
  ∃ (its:Am) (n:Nat),Vals xs its/\s.heap.get? p=some { cls:= .type "list",data:= .seq its.toArray n} /\xs.length<=sizeLine:=by
 obtain⟨z,its,n,r,e⟩:=I.hok p _ h;exact⟨its,n,r,e,z⟩
theorem Inv.lstUpd {lH:Ai}{σ:St}{H:Hp}{s:Shared}{p:Addr}{xs ys:List V}{its its':Am}{n n':Nat}{f:Obj->Obj}(I:Inv X lH σ H s)(h:H p=some (.lst xs))
  (ho:s.heap.get? p=some { cls:= .type "list",data:= .seq its.toArray n}) (hf:f { cls:= .type "list",data:= .seq its.toArray n} = { cls:= .type "list",data:= .seq its'.toArray n'}) (r:Vals ys its') (hz:ys.length<=sizeLine) (t:Nat):
  Inv X lH σ (upd H p (.lst ys)) { s with heap:=s.heap.update p f,toks:=t} :=by
 have e:(s.heap.update p f).get? p=some { cls:= .type "list",data:= .seq its'.toArray n'} :=by
  rw[dZ f ho (by rw[hf] <;> rfl),hf]
 refine I.write (x:=p) (e:=p) (by rw[h]; trivial) (.inl rfl) (fun b u hb q=>(bE _ _ (ev hb)).trans q) ⟨_,e⟩ ?_;exact⟨hz,its',n',r,e⟩
def rSetL:V->V->V->Hp->(Hp->Prop)->Prop:=fun o i v H Q=>∃ p xs k j,o= .ref p/\i= .int k/\H p=some (.lst xs)/\ixN xs.length k=some j/\Q (upd H p (.lst (xs.set j v)))
theorem jQA:PSet X rSetL:=by
 intro lH s σ H o i v ov iv u Q I ro ri rv h;obtain⟨p,xs,k,j,rfl,rfl,hp,hj,q⟩:=h;cases ro;obtain⟨t,rfl⟩:=ri;obtain⟨its,n,r,ho,hz⟩:=I.lst hp;obtain⟨h1,h2,h3,h4⟩:=jOW hj;have hl:=r.length;have hn:=jI0;have I':Inv X lH σ (upd H p (.lst (xs.set j v))) { s with heap:=s.heap.update p (Obj.mapSeq (·.setIfInBounds j u))} :=
  I.lstUpd hp ho (jM3 its n j u) (r.set rv j) (by rw[List.length_set]; exact hz) s.toks
 by_cases h0:0<=k
 ·have hk:k.toNat=j:=by
   rw[seqIndex_of h0 h4] at h1;exact bD h1
  exact PySem.W.ki_setAt ho h0 Aa (by rw[az,<- hl]; exact h4) (by rw[hk]; exact⟨_,I',q⟩)
 ·have hk:(k+(its.toArray.size:Int)).toNat=j:=by
   rw[seqIndex_neg Aa h3] at h1;rw[az,<- hl];exact bD h1
  exact PySem.W.ki_setBack ho Aa (by rw[az,<- hl]; exact h3) Aa (by rw[hk]; exact⟨_,I',q⟩)
theorem jHF (lo hi:Option Int)(n:Nat):(sliceBounds lo hi none n).1=((HT.sIx n 0 lo:Nat):Int)/\(sliceBounds lo hi none n).2.1=((HT.sIx n n hi:Nat):Int)/\(sliceBounds lo hi none n).2.2=1:=by
 refine⟨?_,?_,rfl⟩
 ·cases lo with
  | none=>simp [sliceBounds,HT.sIx]
  | some i=>
   simp only [sliceBounds,HT.sIx,getD_none,show (1:Int)>0 by decide,g5];by_cases h:i<0
   ·simp only [h,g5] <;> lia
   ·simp only [h,ja] <;> lia
 ·cases hi with
  | none=>simp [sliceBounds,HT.sIx]
  | some i=>
   simp only [sliceBounds,HT.sIx,getD_none,show (1:Int)>0 by decide,g5];by_cases h:i<0
   ·simp only [h,g5] <;> lia
   ·simp only [h,ja] <;> lia
theorem jG3 (its:Am)(lo hi:Option Int):slicePick its.toArray lo hi none=((its.drop (HT.sIx its.length 0 lo)).take (HT.sIx its.length its.length hi - HT.sIx its.length 0 lo)).toArray:=by
 obtain⟨h1,h2,h3⟩:=jHF lo hi its.toArray.size;unfold slicePick;rw[h1,h2,h3];simp only [sliceRange_one,pick_run,az] <;> rfl
def rSlL (K:W.Frag):V->Option Int->Option Int->Hp->VK->Prop:=fun x lo hi H Q=>∃ a xs,x= .ref a/\SqL K H a xs/\∀ p,H p=none->Q (.ref p) (upd H p (.lst (cutV xs lo hi)))
theorem jG4:SlR X (rSlL X.K):=by
 intro lH s σ H x v vl vu lo hi sl Q I rx hs pl pu h;obtain⟨a,xs,rfl,hx,q⟩:=h;cases rx;obtain⟨its,r,ht,hz⟩:=I.list hx;have hlen:=r.length;refine⟨"list",_,slot_list_getitem.lookup,ht.isList.typeIs,?_⟩;refine wpAny_getItem_list_slice ht.isList hs pl pu .none Ad ?_ (by rw[az] <;> lia);rw[jG3,<- hlen];refine⟨.ref s.heap.objs.size,_,I.laid (t':=s.toks) (o:= .lst (cutV xs lo hi)) (fun b ob q=>ah _ q) (aA _) ?_,rfl,q _ (I.hok.fresh (aA _))⟩;exact⟨bv (jJR xs lo hi) hz,_,0,(r.drop (HT.sIx xs.length 0 lo)).take (HT.sIx xs.length xs.length hi - HT.sIx xs.length 0 lo),aF _ rfl⟩
def qR:V->Bool
 | .non=>true
 | .bl _=>true
 | .int _=>true
 | .str _=>true
 | _=>false
def eqV:V->V->Bool
 | .non, .non=>true
 | .bl a, .bl b=>a==b
 | .bl a, .int b=>(if a then 1 else 0)==b
 | .int a, .bl b=>a==(if b then 1 else 0)
 | .int a, .int b=>a==b
 | .str a, .str b=>a==b
 | _,_=>false
theorem jSY {A:Around}{s:Shared}{y x:V}{u v:Value}(ry:RelV y u)(rx:RelV x v)(fy:qR y=true)(fx:qR x=true):SeqAt.EqAt A s u v (eqV y x):=by
 cases y with
 | non=>
  cases ry;cases x with
  | non=>cases rx; exact SeqAt.EqAt.same _
  | bl b=>cases rx; exact SeqAt.EqAt.none_bool b
  | int b=>obtain⟨t,rfl⟩:=rx; exact SeqAt.EqAt.none_int b t
  | str b=>obtain⟨t,rfl⟩:=rx; exact SeqAt.EqAt.none_str b t
  | _=>exact absurd (show false=true from fx) ay
 | bl a=>
  cases ry;cases x with
  | non=>cases rx; exact SeqAt.EqAt.bool_none a
  | bl b=>cases rx; exact SeqAt.EqAt.bool_bool a b
  | int b=>obtain⟨t,rfl⟩:=rx; exact SeqAt.EqAt.bool_int a b t
  | str b=>obtain⟨t,rfl⟩:=rx; exact SeqAt.EqAt.bool_str a b t
  | _=>exact absurd (show false=true from fx) ay
 | int a=>
  obtain⟨t',rfl⟩:=ry;cases x with
  | non=>cases rx; exact SeqAt.EqAt.int_none a t'
  | bl b=>cases rx; exact SeqAt.EqAt.int_bool a t' b
  | int b=>obtain⟨t,rfl⟩:=rx; exact eW a t' b t
  | str b=>obtain⟨t,rfl⟩:=rx; exact SeqAt.EqAt.int_str a t' b t
  | _=>exact absurd (show false=true from fx) ay
 | str a=>
  obtain⟨t',rfl⟩:=ry;cases x with
  | non=>cases rx; exact SeqAt.EqAt.str_none a t'
  | bl b=>cases rx; exact SeqAt.EqAt.str_bool a t' b
  | int b=>obtain⟨t,rfl⟩:=rx; exact SeqAt.EqAt.str_int a t' b t
  | str b=>obtain⟨t,rfl⟩:=rx; exact SeqAt.EqAt.str_str a t' b t
  | _=>exact absurd (show false=true from fx) ay
 | _=>exact absurd (show false=true from fy) ay
def eqU (x:V)(u:Value):Bool:=match u with
 | .none=>eqV .non x
 | .bool b=>eqV (.bl b) x
 | .int i _=>eqV (.int i) x
 | .str z _=>eqV (.str z) x
 | _=>false
theorem jPE {x y:V}{u:Value}(r:RelV y u)(f:qR y=true):eqU x u=eqV y x:=by
 cases y with
 | non=>cases r; rfl
 | bl b=>cases r; rfl
 | int i=>obtain⟨t,rfl⟩:=r; rfl
 | str z=>obtain⟨t,rfl⟩:=r; rfl
 | _=>exact absurd (show false=true from f) ay
theorem jJX {x:V} :∀ {xs:List V}{us:Am},Vals xs us->xs.all qR=true->us.any (eqU x)=xs.any fun y=>eqV y x
 | _,_, .nil,_=>rfl
 | y::xs,u::us, .cons r t,f=>by
  rw[ff,bL] at f;rw[g6,g6,jPE r f.1,jJX t f.2]
theorem jDX {A:Around}{s:Shared}{x:V}{v:Value}(rx:RelV x v)(fx:qR x=true):∀ {xs:List V}{us:Am},Vals xs us->xs.all qR=true->∀ u∈us,SeqAt.EqAt A s u v (eqU x u)
 | _,_, .nil,_=>fun u hu=>by cases hu
 | y::xs,u::us, .cons r t,f=>fun u' hu=>by
  rw[ff,bL] at f;rcases aI.mp hu with rfl | hu
  ·rw[jPE r f.1]; exact jSY r rx f.1 fx
  ·exact jDX rx fx t f.2 u' hu
def inV (x:V)(xs:List V):Bool:=xs.any fun y=>eqV y x
def rIn (K:W.Frag)(neg:Bool):R2:=fun x y H Q=>∃ p xs,y= .ref p/\(SqL K H p xs\/SqT K H p xs)/\qR x=true/\xs.all qR=true/\Q (.bl (if neg then !inV x xs else inV x xs)) H
theorem jEC:OpR X (compareOp .In) (rIn X.K false):=by
 intro lH s σ H x y v u Q I rx ry h;obtain⟨p,xs,rfl,hq,fx,fs,q⟩:=h;cases ry;rcases hq with hq | hq
 ·obtain⟨its,r,pl,hz⟩:=I.list hq;refine SeqAt.in_listAt (eqU x) pl.isList (fun w hw=>jDX rx fx r fs w (by simpa using hw)) ⟨.bl _,H,I,rfl,?_⟩;rw[show its.toArray.any (eqU x)=its.any (eqU x) by simp,jJX r fs];exact q
 ·obtain⟨its,r,pl,hz⟩:=I.tuple hq;refine SeqAt.in_tupleAt (eqU x) pl (fun w hw=>jDX rx fx r fs w (by simpa using hw)) ⟨.bl _,H,I,rfl,?_⟩;rw[show its.toArray.any (eqU x)=its.any (eqU x) by simp,jJX r fs];exact q
theorem jT:yV X (.builtin "len") (fun xs H Q=>∃ p ys,xs=[.ref p]/\(SqL X.K H p ys\/SqT X.K H p ys)/\Q (.int ys.length) H):=by
 intro lH s σ H xs us Q I r h;obtain⟨p,ys,rfl,hq,q⟩:=h;obtain⟨u,rfl,rx⟩:=vals1 r;cases rx;have hn:=jI0;rcases hq with hq | hq
 ·obtain⟨its,r',pl,hz⟩:=I.list hq;have hlen:=r'.length;exact Calls.call_len_list pl.isList (by simp only [az] <;> lia) ⟨.int ys.length,H,I.tok _,⟨s.toks+1,by rw[az,hlen]⟩,q⟩
 ·obtain⟨its,r',pl,hz⟩:=I.tuple hq;have hlen:=r'.length;exact len_tuple pl (by simp only [az] <;> lia) ⟨.int ys.length,H,I.tok _,⟨s.toks+1,by rw[az,hlen]⟩,q⟩
theorem jP:yV X (.type "tuple") (fun xs H Q=>∃ p ys,xs=[.ref p]/\((SqL X.K H p ys/\∀ l,H l=none->Q (.ref l) (upd H l (.tup ys)))\/(SqT X.K H p ys/\Q (.ref p) H))):=by
 intro lH s σ H xs us Q I r h;obtain⟨p,ys,rfl,h⟩:=h;obtain⟨u,rfl,rx⟩:=vals1 r;cases rx;rcases h with ⟨hq,q⟩ | ⟨hq,q⟩
 ·obtain⟨its,r',pl,hz⟩:=I.list hq;have hlen:=r'.length;refine call_tuple_list pl.isList (fun h' kp=>?_) (by simp only [az] <;> lia);have I1:Inv X lH σ H { s with heap:=h'} :=I.kept (t':=s.toks) kp;have I2:Inv X lH σ (upd H h'.objs.size (.tup ys)) { s with heap:=h'.push { cls:= .type "tuple",data:= .seq its.toArray}} :=
   I1.laid (t':=s.toks) (fun b o e=>ah _ e) (aA _) (show ObjOk X.prog X.w _ _ _ (.tup ys) from ⟨hz,its,r',TupO.new _ _⟩)
  exact⟨.ref h'.objs.size,_,I2,rfl,q _ (I1.hok.fresh (aA _))⟩
 ·obtain⟨its,r',pl,hz⟩:=I.tuple hq;exact call_tuple_same pl ⟨.ref p,H,I,rfl,q⟩
def tyV (K:W.Frag)(T:String)(x:V)(H:Hp):Prop:=match x with
 | .str _=>T= "str"
 | .int _=>T= "int"
 | .ref p=>(T= "list" /\∃ xs,SqL K H p xs)\/(T= "tuple" /\∃ o,K.lookup p=some o/\o.cls= .type "tuple" /\o.dict=none)\/
   (T= "dict" /\((∃ kvs,H p=some (.dK kvs))\/∃ kvs,H p=some (.dT kvs)))\/(T= "set" /\∃ S n,H p=some (.set S n))
 | _=>False
theorem jRX {lH:Ai}{σ:St}{H:Hp}{s:Shared}{T:String}{x:V}{v:Value}(I:Inv X lH σ H s)(r:RelV x v)(ty:tyV X.K T x H):
  s.TypeIs v T/\∀ a,v= .ref a->∃ ob,s.heap.get? a=some ob/\ob.dict=none:=by
 cases x with
 | str z=>
  obtain⟨t,rfl⟩:=r;cases (show T= "str" from ty);exact⟨typeIs_str s z t,fun _ e=>nomatch e⟩
 | int i=>
  obtain⟨t,rfl⟩:=r;cases (show T= "int" from ty);exact⟨typeIs_int s i t,fun _ e=>nomatch e⟩
 | ref p=>
  cases r;rcases ty with ⟨rfl,xs,hq⟩ | ⟨rfl,o,hk,hc,hd⟩ | ⟨rfl,hk⟩ | ⟨rfl,S,n,hk⟩
  ·obtain⟨its,_,pl,_⟩:=I.list hq;refine⟨pl.isList.typeIs,fun a e=>?_⟩;cases e;obtain⟨o,n,e,c,hd,_⟩:=pl;exact⟨o,e,hd⟩
  ·refine⟨⟨o,I.kIn p o hk,hc⟩,fun a e=>?_⟩;cases e;exact⟨o,I.kIn _ o hk,hd⟩
  ·have z:∃ o,s.heap.get? p=some o/\o.ExactDict:=by
    rcases hk with ⟨kvs,hk⟩ | ⟨kvs,hk⟩
    ·obtain⟨_,_,_,_,o,_,_,e,ex,_⟩:=I.hok p _ hk;exact⟨o,e,ex⟩
    ·obtain⟨_,_,_,_,o,_,_,e,ex,_⟩:=I.hok p _ hk;exact⟨o,e,ex⟩
   obtain⟨o,e,ex⟩:=z;refine⟨⟨o,e,ex.1⟩,fun a e2=>?_⟩;cases e2;exact⟨o,e,ex.2.1⟩
  ·obtain⟨o,_,_,_,e,ex,_⟩:=I.hok p _ hk;refine⟨⟨o,e,ex.1⟩,fun a e2=>?_⟩;cases e2;exact⟨o,e,ex.2.1⟩
 | _=>exact False.elim ty
def tBM0 (K:W.Frag)(T:String)(r:V->List V->Hp->VK->Prop)(to:TE):TE:=fun σ H Q=>to σ H fun x H1=>tyV K T x H1/\r x [] H1 Q
def tBM (K:W.Frag)(T:String)(r:V->List V->Hp->VK->Prop)(to:TE)(t:TA):TE:=fun σ H Q=>to σ H fun x H1=>tyV K T x H1/\t σ H1 fun xs H2=>r x xs H2 Q
variable {o:Expr}{es:List Expr}{to:TE}{t:TA}{name:Str}{apos cpos:Pos}{T id:String}{r:V->List V->Hp->VK->Prop}
theorem jW7 (pa:PlainAttrs T)(slot:Slot T name id)(hty:typeOf (.builtin id)=pure (.type "method_descriptor"))(hm:MtR X id r)(ho:PE X o to)
  (hbase:attributeBase o name X.env (eval o X.env)=eval o X.env:=by rfl) (hline:(apos.endLine==cpos.line)=true:=by rfl):PE X (.Call (.Attribute o name apos) [] [] cpos) (tBM0 X.K T r to):=by
 intro lH s σ H Q I h;refine wpAny_Call_method0_late hbase hline (lJ (ho lH s σ H _ I h) fun v s1 ⟨x,H1,I1,r1,ty,q1⟩=>?_);obtain⟨h1,h2⟩:=jRX I1 r1 ty;exact⟨T,id,pa,slot,hty,h1,h2,Calls.callWith_builtin rfl (PySem.evalArgs_none (hm lH s1 σ H1 x [] v [] Q I1 r1 .nil q1))⟩
theorem pe_bm (pa:PlainAttrs T)(slot:Slot T name id)(hty:typeOf (.builtin id)=pure (.type "method_descriptor"))(hm:MtR X id r)(ho:PE X o to)(ha:PA X (e::es) t)
  (hbase:attributeBase o name X.env (eval o X.env)=eval o X.env:=by rfl)
  (hfew:((backTo cpos (starEach (e::es) X.env)).all (fun x=>!x.1)&&(backToKw cpos (keywordEach [] X.env)).all (fun x=>x.1.isSome)
   &&decide ((e::es).length+([]:List Keyword).length+(if ([]:List Keyword).isEmpty then 0 else 1)<30))=true:=by rfl)
  (hline:(apos.endLine==cpos.line)=true:=by rfl) (hs:starEach (e::es) X.env=(false,eval e X.env)::starEach es X.env:=by rfl) (hplain:(backTo cpos (starEach es X.env)).any (·.1)=false:=by rfl):
  PE X (.Call (.Attribute o name apos) (e::es) [] cpos) (tBM X.K T r to t):=by
 intro lH s σ H Q I h;refine wpAny_Call_method_late hbase hfew hline rfl (lJ (ho lH s σ H _ I h) fun v s1 ⟨x,H1,I1,r1,ty,q1⟩=>?_);obtain⟨h1,h2⟩:=jRX I1 r1 ty;refine⟨T,id,pa,slot,hty,h1,h2,?_⟩;have hA:=ha cpos lH s1 σ H1 _ I1 q1;rw[hs] at hA ⊢;refine Calls.callWith_builtin (by show (false || (backTo cpos (starEach es X.env)).any (·.1))=false; rw[hplain] <;> rfl) (fm ?_);exact lJ hA fun us s2 ⟨vs,H2,I2,r2,q2⟩=>hm lH s2 σ H2 x vs v us Q I2 r1 r2 q2
/- xs.append(e),list.index on a module's tuple .. are MtR facts of 06m -/
end
def MtM (X:Cx)(id:String)(r:V->List V->Hp->VK->Prop):Prop:=
 ∀ (lH:Ai) (s:Shared) (σ:St) (H:Hp) (x:V) (xs:List V) (v:Value) (us:Am) (Q:VK),Inv X lH σ H s->RelV x v->Vals xs us->r x xs H Q->
  wpAny (model X.prog X.w) X.A (call (.builtin id) (v::us)) (EP X lH σ Q) X.xe s
theorem Vals.one:∀ {x:V}{us:Am},Vals [x] us->∃ u,us=[u]/\RelV x u
 | _,_, .cons r .nil=>⟨_,rfl,r⟩
theorem Vals.two:∀ {x y:V}{us:Am},Vals [x,y] us->∃ u v,us=[u,v]/\RelV x u/\RelV y v
 | _,_,_, .cons r (.cons q .nil)=>⟨_,_,rfl,r,q⟩
theorem Vals.zero:∀ {us:Am},Vals [] us->us=[]
 | _, .nil=>rfl
theorem Vals.dropLast {xs:List V}{us:Am}(h:Vals xs us):Vals xs.dropLast us.dropLast:=by
 induction h with
 | nil=>exact .nil
 | cons r t ih=>
  cases t with
  | nil=>exact .nil
  | cons q t'=>exact .cons r ih
theorem jME {α:Type}(l:List α):l.eraseIdx (l.length - 1)=l.dropLast:=by
 induction l with
 | nil=>rfl
 | cons a r ih=>
  cases r with
  | nil=>rfl
  | cons b r=>
   have e:(a::b::r).length - 1=((b::r).length - 1)+1:=by
    have h1:(a::b::r).length=r.length+2:=rfl;have h2:(b::r).length=r.length+1:=rfl;lia
   rw[e,List.eraseIdx_cons_succ,ih]
   all_goals rfl
variable {s:Shared}
section
variable {lH:Ai}{σ:St}{H:Hp}{l b:Addr}{xs ys zs:List V}
theorem Inv.lset {its its':Am}{n:Nat}{f:Ao->Ao}{t':Nat}(I:Inv X lH σ H s)(hH:H l=some (.lst xs))
  (e:s.heap.get? l=some { cls:= .type "list",data:= .seq its.toArray n}) (hf:f its.toArray=its'.toArray) (hv:Vals ys its') (hz:ys.length<=sizeLine):
  Inv X lH σ (upd H l (.lst ys)) { s with heap:=s.heap.update l (Obj.mapSeq f),toks:=t'} :=by
 have q:=PySem.IsL.update e f;rw[hf] at q;refine I.write (x:=l) (e:=l) (by rw[hH]; exact trivial) (.inl rfl) (fun b' u hb hu=>(bE s.heap (Obj.mapSeq f) (ev hb)).trans hu) ⟨_,q⟩ ?_;exact⟨hz,its',_,hv,q⟩
theorem Inv.lnew {its:Am}{t':Nat}(I:Inv X lH σ H s)(hv:Vals ys its)(hz:ys.length<=sizeLine):
  Inv X lH σ (upd H s.heap.objs.size (.lst ys)) { s with heap:=s.heap.push { cls:= .type "list",data:= .seq its.toArray},toks:=t'} :=
 I.laid (fun _ _ q=>ah _ q) (aA _) ⟨hz,its,0,hv,aF _ rfl⟩
theorem Inv.fresh (I:Inv X lH σ H s):H s.heap.objs.size=none:=I.hok.fresh (aA _)
theorem Inv.lstM (I:Inv X lH σ H s)(hH:H l=some (.lst xs)):xs.length<=sizeLine/\∃ (its:Am) (n:Nat),Vals xs its/\xs.length=its.length/\s.heap.get? l=some { cls:= .type "list",data:= .seq its.toArray n} :=by
 obtain⟨z,its,n,r,e⟩:=I.hok l _ hH;exact⟨z,its,n,r,r.length,e⟩
theorem jQU {n:Nat}(h:n<=sizeLine):Builtin.List.listTooLong n=false:=by
 unfold Builtin.List.listTooLong;exact aM Aa
end
def jTE:V->List V->Hp->VK->Prop:=fun x vs H Q=>∃ l xs y,x= .ref l/\vs=[y]/\H l=some (.lst xs)/\xs.length<sizeLine/\Q .non (upd H l (.lst (xs++[y])))
theorem jCH:MtM X "list.append" jTE:=by
 intro lH s σ H x vs v us Q I rx rv h;obtain⟨l,xs,y,rfl,rfl,hH,hz,q⟩:=h;cases rx;obtain⟨u,rfl,ru⟩:=rv.one;obtain⟨z,its,n,r,hl,e⟩:=I.lstM hH;refine gX F.slot_list_append ⟨_,e,rfl⟩ F.entry_list_append (F.args_list_append_2 _ _) (PySem.list_append l its.toArray n u (by rw[az]; lia)) ⟨e,?_⟩;refine⟨.non,_,I.lset (its':=its++[u]) hH e Ad (r.append (.cons ru .nil)) ?_,rfl,q⟩;rw[aL,gR];lia
def rPop:V->List V->Hp->VK->Prop:=fun x vs H Q=>∃ l xs y,x= .ref l/\vs=[]/\H l=some (.lst xs)/\xs[xs.length - 1]?=some y/\Q y (upd H l (.lst xs.dropLast))
theorem jWM:MtM X "list.pop" rPop:=by
 intro lH s σ H x vs v us Q I rx rv h;obtain⟨l,xs,y,rfl,rfl,hH,hy,q⟩:=h;cases rx;have hus:=rv.zero;subst hus;obtain⟨z,its,n,r,hl,e⟩:=I.lstM hH;obtain⟨u,hu,ru⟩:=r.get hy;have hy':its.toArray[its.toArray.size - 1]?=some u:=by
  show its.toArray[its.length - 1]?=some u;rw[<- bY,<- hl];exact hu
 refine gX F.slot_list_pop ⟨_,e,rfl⟩ F.entry_list_pop (F.args_list_pop_1 _) (MeetsSeq.list_pop_last l its.toArray n u hy' (by rw[az]; lia)) ⟨e,?_⟩;refine⟨y,_,I.lset (its':=its.dropLast) hH e ?_ r.dropLast ?_,ru,q⟩
 ·show its.toArray.eraseIdxIfInBounds (its.toArray.size - 1)=its.dropLast.toArray;rw[az,List.eraseIdxIfInBounds_toArray,jME]
 ·rw[List.length_dropLast];lia
def rCat:R2:=fun x y H Q=>∃ l b xs zs,x= .ref l/\y= .ref b/\H l=some (.lst xs)/\H b=some (.lst zs)/\xs.length+zs.length<=sizeLine/\∀ p,H p=none->Q (.ref p) (upd H p (.lst (xs++zs)))
theorem jWC:OpR X (binaryOp .Add) rCat:=by
 intro lH s σ H x y v u Q I rx ry h;obtain⟨l,b,xs,zs,rfl,rfl,hH,hB,hz,q⟩:=h;cases rx;cases ry;obtain⟨z,its,n,r,hl,e⟩:=I.lstM hH;obtain⟨z2,its2,n2,r2,hl2,e2⟩:=I.lstM hB;refine PySem.P.add_list e e2 ?_ (by rw[az,az]; lia);have ea:its.toArray++its2.toArray=(its++its2).toArray:=Ad;rw[ea];exact⟨.ref _,_,I.lnew (t':=s.toks) (r.append r2) (by rw[aL]; lia),rfl,q _ I.fresh⟩
section
variable {prog:Program}{w:World}{A:Around}{E:Ah}
set_option maxRecDepth 100000 in
end
end L2
namespace Att
open PySem PySem.W PySem.Calls PyProof.Rows
theorem jER {P:Params}{h:Heap} :∀ (ns:Ag) (vs:Am),WellAll P h vs (ns.map WData.int)->IntsAre vs ns:=by
 intro ns
 induction ns with
 | nil=>
  intro vs w;rw[iu] at w;cases w;exact .nil
 | cons n ns ih=>
  intro vs w;rw[bg] at w;cases w with
  | cons a b=>
   cases a;exact .cons _ _ (ih _ b)
theorem jN6 {l:OpenLaw}{n:Nat}(hn:l.most=some n){P:Params}{h:Heap}{args:List WData}{vals:Am}
  (hpre:l.row.toRowW.claim.pre args=true) (hwl:WellAll P h vals args):
  ∃ a vs ns,vals=[Value.ref a]/\args=[WData.list (ns.map WData.int)]/\h.get? a=some { cls:= .type "list",data:= .seq vs.toArray} /\IntsAre vs ns/\ns.length<=n:=by
 have hsh:WShape.hasAll [] args [.list .int]=true:=(pre_splitW hpre).1;have hc:l.pre.holds [] { args:=args} =true:=(pre_splitW hpre).2;obtain⟨d,r,rfl,h1,h2⟩:=hasAllW_cons hsh;obtain rfl:=hasAllW_nil h2;obtain⟨xs,rfl,h3⟩:=hasW_list h1;obtain⟨ns,rfl⟩:=items_int h3;have hlen:ns.length<=n:=by
  unfold OpenLaw.pre at hc;have h4:(WTm.not (.lt (.lit (.int (n:Int))) (.len (.arg 0)))).holds [] { args:=[.list (ns.map .int)]} =true:=by
   have h4:=(holds_andW hc).1;rw[hn] at h4;exact h4
  have h5:=condW_of h4 (w_not (w_lt w_lit (w_len_list (w_arg rfl))));rw[af] at h5;refine Nat.le_of_not_lt fun q=>?_;have q':(n:Int)<((ns.length:Nat):Int):=Aa
  first
   | (rw[ar q'] at h5; exact absurd h5 Ac)
   | (simp at h5; lia)
 cases hwl with
 | cons w1 w2=>
  cases w2;cases w1 with
  | list ho hall=>exact⟨_,_,ns,rfl,rfl,ho,jER ns _ hall,hlen⟩
theorem jNB (l:OpenLaw)(args:List WData):l.row.toRowW.claim.post args (.bool true) args=true:=
 postW_of (r:=l.row.toRowW) (X:=(true==true))
  (show WShape.has [] (.bool true) .bool=true by first | rfl | decide | simp [WShape.has,WShape.arms,WShape.armsAll])
  (show (WTm.eq .res (.lit (.bool true))).value [] { args:=args,res:=some (.bool true),after:=args} =some (.bool (true==true)) from w_eq_bool (w_res rfl) w_lit) rfl
theorem attach_call {l:OpenLaw}{n:Nat}{q:Program}{loose:An}{XP:(Ak)->Heap->Prop}{YP:World->Heap->Prop}{d:DefRec}
  (hn:l.most=some n) (hdf:d.params.defaults=[])
  (call:∀ (w:World) (s₀ s₁:Shared) (mg mb:Ak) (fa:Addr) (o:Obj) (pm cd doc:Value) (a:Addr) (vs:Am) (ns:Ag),
   Ground q loose [] XP w s₀ mg mb s₁.heap->YP w s₁.heap->
   s₁.heap.get? fa=some o->o.data= .func (docDef d.name d.params d.body d.scope pm cd doc)->s₁.heap.CodeRec cd d.name->mg d.name=some (.ref fa)->
   s₁.heap.get? a=some { cls:= .type "list",data:= .seq vs.toArray} ->IntsAre vs ns->ns.length<=n->s₁.gens=#[]->
   codeAny (model l.prog w) callerA (.call (.ref fa) ⟨[.ref a],[]⟩) (fun r s'=>r= .ok (.ret (.bool true))/\OldK s₁.heap s'.heap/\s'.os=s₁.os/\AllBare s'.gens) s₁):
  WalkO q loose XP YP l.row.toRowW d [] (fun f vs=>PySem.call f vs):=by
 intro w s₀ s₁ mg mb G Y fa o pm cd doc dV kV ho hd hcd hD hmg hg args vals as hpre hlay hrd hwl hlo;obtain rfl:dV= .none:=Dflts.none hD hdf;obtain rfl:kV= .none:=Dflts.noKw hD;obtain⟨a,vs,ns,rfl,rfl,hobj,hints,hlen⟩:=jN6 hn hpre hwl;refine enter_call (dS (call w s₀ s₁ mg mb fa o pm cd doc a vs ns G Y ho (fd_plain hd) hcd hmg hobj hints hlen hg) fun r s' hq=>?_);obtain⟨rfl,h2,h3,h4⟩:=hq;exact⟨.inl ⟨.bool true, .bool true,[],rfl,fun _=>rfl, .bool true,jNB l _,fun _=>⟨List.Pairwise.nil,fun _ hm=>(nomatch hm)⟩⟩,h2,h3,h4⟩
section
variable {prog:Program}{w:World}{A:Around}{E:Ah}{s:Shared}{K:Frag}
end
end Att
namespace L2
open PySem PySem.Spec PyProof.Rows
theorem jH6:∀ {vs:Am}{ns:Ag},IntsAre vs ns->Vals (ns.map V.int) vs
 | _,_, .nil=> .nil
 | _,_, .cons n t h=> .cons ⟨t,rfl⟩ (jH6 h)
end L2
/- THE LAST THEOREM (shape; LID,My.* are yours):
  My.Adr:a structure of the addresses that your layer names (classes,functions); My.Txt K t:a structure (Prop) of the equations over K;
  My.txt_mk: {K} {implicit addresses ..} (e1:nsIn K mainGlobals "law" =some (some (.ref f))) (e2:K.lookup f=some ⟨oc,od, .func (fnOf "law" "law" params body scope dV kV doc pm an lI ct),sl⟩) (e3:codeIn K lI "law" =true) .. :∃ t,My.Txt K t
set_option maxRecDepth 100000 in
set_option maxHeartbeats 0 in
theorem PySem.Challenge.cw_LID_holds : PySem.Challenge.rw_LID.Holds := by
 w_on; o_law; k_head; (case hw=>w_witness2)
 k_fill
 refine L2.walk_of (l:=PySem.Challenge.rw_LID) (n:=63) (k:=40) (x:= "script") (CX:=fun w=> ..) (sp:=fun _=>My.sp_law) rfl Ac rfl ⟨rfl,Ac,Ac⟩ (fun w h Y=>PySem.W.kIn_of Y) ?F ?S ?C
 case F=>
  intro w mg fa h KX G hmg;have T:∃ t,My.Txt (L2.KOf KX) t:=by
   dsimp only [L2.KOf] -- K must stand as «<heap const>w.params» for k_is
   refine' My.txt_mk ?e1 ?e2 ?e3 ..
   (case e1=>PySem.W.k_is) -- in the order:a name->its address->its object->its parts
   (case e2=>PySem.W.k_is)
   ..
  obtain⟨t,T⟩:=T;have e0:=hmg.symm.trans (g7 KX G T.law);cases e0 -- fa is the law's own address;exact⟨_,fun s u=> .of_eq rfl,fun Ar kb nb=>My.law_fn T kb nb⟩ -- if «.of_eq rfl» comes too early:refine' ⟨_,?b,fun Ar kb nb=>My.law_fn T kb nb⟩; exact fun s u=> .of_eq rfl
 case S=>exact fun w H a ns hl hO hS=> ..
 case C=>exact ..
(the tactic k_is has no namespace:write k_is) -/
namespace L2
open PySem PySem.Spec PyProof.Rows
abbrev CX0:CXT:=fun _ _ _ _ _ _=>False
abbrev E0:XK:=fun _ _ _=>False
theorem pass0 {X:Cx} :jQ0 CX0 X E0:=fun _ _ _ _ _ _ _ h=>h.elim
structure Fun (K:W.Frag)(x qual:Str)(st:Stmt)(f:Addr)(fd:FuncData):Prop where
 ex:∃ (oc:Value) (od:Option Addr) (kV doc pm:Value) (an:Option Addr) (lI ct:Value) (osl:Array (Ap)),
  fd=PySem.W.fnOf x qual (y8 st) (jC st) (j7 st) .none kV doc pm an lI ct/\K.lookup f=some ⟨oc,od, .func fd,osl⟩/\PySem.W.codeIn K lI qual=true
 kp:keepIn K (.ref f)=true
variable {w:World}
section
variable {P:Program}{K:W.Frag}{mg:Ak}{Ar:Heap}
theorem Fun.ok {x qual:Str}{st:Stmt}{f:Addr}{fd:FuncData}{N ps:An}{k:Nat}{sp:Sp}(F:Fun K x qual st f fd)(S:FnScope N ps (j7 st))(len:∀ vs H Q E,sp vs H Q E->vs.length=ps.length)
  (hbody:∀ (lI:Value) (A:Around) (Aq:List Env) (s:Shared) (H:Hp) (vs:List V) (Q:VK) (E:XK),Room k (A.deeper (envOfC qual (j7 st) s.heap.objs.size f lI))->sp vs H Q E->
   ∃ t,PSs (cxOf CX0 P w K mg Ar N qual (j7 st) f lI A Aq s H E).nox (jC st) t/\t { nx:=fun _ H'=>Q .non H',rt:=Q} (yC N vs) H):FnOk P w K mg Ar CX0 (k+1) f fd ps sp:=by
 obtain⟨oc,od,kV,doc,pm,an,lI,ct,osl,rfl,lk,hcd⟩:=F.ex;refine fn_of lk hcd S len fun A Aq s H vs Q E hr hsp=>?_;obtain⟨t,h,q⟩:=hbody lI A Aq s H vs Q E hr hsp;exact⟨t,h.nox,q⟩
theorem Fun.binds {x qual:Str}{st:Stmt}{f:Addr}{fd:FuncData}{ps:An}(F:Fun K x qual st f fd)
  (h:∀ (kV doc pm:Value) (an:Option Addr) (lI ct:Value) (us:Am),us.length=ps.length->bindArgs (PySem.W.fnOf x qual (y8 st) (jC st) (j7 st) .none kV doc pm an lI ct) ⟨us,[]⟩=pure (ps.zip us)):Binds K fd ps []:=by
 obtain⟨oc,od,kV,doc,pm,an,lI,ct,osl,rfl,lk,hcd⟩:=F.ex;exact .all (h kV doc pm an lI ct)
theorem kG {x qual:Str}{st:Stmt}{f:Addr}{oc:Value}{od an:Option Addr}{osl:Array (Ap)}{kV doc pm lI ct:Value}(l:K.lookup f=some ⟨oc,od, .func (PySem.W.fnOf x qual (y8 st) (jC st) (j7 st) .none kV doc pm an lI ct),osl⟩)
  (c:PySem.W.codeIn K lI qual=true) (k:keepIn K (.ref f)=true):Fun K x qual st f (PySem.W.fnOf x qual (y8 st) (jC st) (j7 st) .none kV doc pm an lI ct):=⟨⟨oc,od,kV,doc,pm,an,lI,ct,osl,rfl,l,c⟩,k⟩
end
theorem hu_of {A:Around}{k:Nat}(hr:Room k A):A.units+1<cLine:=ly (Nat.add_le_add_left (by decide:1<=64) _) hr.units
variable {X:Cx}
theorem pv (i:Nat){x:Str}{pos:Pos}(hN:X.N[i]?=some x:=by rfl)(hv:Vis X.env.scope x:=by first | exact Or.inl rfl | exact Or.inr (Or.inl rfl) | exact Or.inr (Or.inr rfl))(hd:(x==("__debug__" :Str))=false:=by decide)
  (hcd:(x==("__classdict__" :Str))=false:=by decide):PE X (.Name x pos) (tVar i):=jHQ hN hv hd hcd
theorem iteF {A B:Prop}(h:B):if false=true then A else B:=by
 rw[ak ay];exact h
theorem iteT {A B:Prop}(h:A):if true=true then A else B:=by
 rw[aq rfl];exact h
theorem ite2 {c A B:Prop} [Decidable c](h1:c->A)(h2:¬ c->B):if c then A else B:=by
 by_cases h:c
 ·rw[aq h];exact h1 h
 ·rw[ak h];exact h2 h
def jR (cells:Aj):List (Str×NameKind)->Aj->Aj
 | [],acc=>acc
 | (n,k)::r,acc=>if k= .free then jR cells r ((n,(cells.lookup n).getD 0)::acc) else jR cells r acc
theorem jD9 {env:Env} :∀ (l:List (Str×NameKind)) (acc:Aj),(∀ y∈l,y.2= .free->∃ c,env.cells.lookup y.1=some c)->
  (forIn l acc fun (x:Str×NameKind) (cs:Aj)=>(if (x.2==NameKind.free)=true then (do let a <- cellOf env x.1; pure (ForInStep.yield ((x.1,a)::cs))) else pure (ForInStep.yield cs):Sem (ForInStep (Aj))))=pure (jR env.cells l acc)
 | [],acc,_=>rfl
 | (n,k)::r,acc,h=>by
  have hr:∀ y∈r,y.2= .free->∃ c,env.cells.lookup y.1=some c:=fun y hy=>h y (ag _ hy);rw[List.forIn_cons];by_cases hk:k= .free
  ·subst hk;obtain⟨c,hc⟩:=h (n, .free) ai rfl;have e:cellOf env n=pure c:=by unfold cellOf; rw[hc]
   have e2:jR env.cells ((n,NameKind.free)::r) acc=jR env.cells r ((n,c)::acc):=by
    show (if NameKind.free=NameKind.free then jR env.cells r ((n,(env.cells.lookup n).getD 0)::acc) else _)=_;rw[aq rfl,hc]; rfl
   rw[e2,<- jD9 r ((n,c)::acc) hr];show ((do let a <- cellOf env n; pure (ForInStep.yield ((n,a)::acc))) >>= _)=_;rw[e]; rfl
  ·have hb:(k==NameKind.free)=false:=by cases k <;> first | rfl | exact absurd rfl hk
   have e2:jR env.cells ((n,k)::r) acc=jR env.cells r acc:=by
    show (if k=NameKind.free then _ else jR env.cells r acc)=_;rw[ak hk]
   rw[e2,<- jD9 r acc hr];show ((if (k==NameKind.free)=true then _ else pure (ForInStep.yield acc)) >>= _)=_;rw[hb]; rfl
theorem jJV {env:Env}{sc:Scope}(h:∀ y∈sc.names,y.2= .free->∃ c,env.cells.lookup y.1=some c):closureFor sc env=pure (jR env.cells sc.names []):=by
 unfold closureFor;show (forIn sc.names [] _ >>= fun cs=>pure cs)=_;rw[show (forIn sc.names ([]:Aj) _:Sem _)=_ from jD9 sc.names [] h];rfl
theorem jAE {cells:Aj} :∀ (l:List (Str×NameKind)) (acc:Aj),(∀ y∈l,y.2= .free->∃ c,cells.lookup y.1=some c)->
  (∀ x c,acc.lookup x=some c->cells.lookup x=some c)->∀ x c,(jR cells l acc).lookup x=some c->cells.lookup x=some c
 | [],acc,_,ha=>ha
 | (n,k)::r,acc,h,ha=>by
  have hr:∀ y∈r,y.2= .free->∃ c,cells.lookup y.1=some c:=fun y hy=>h y (ag _ hy);unfold jR;by_cases hk:k= .free
  ·rw[aq hk];obtain⟨c0,hc⟩:=h (n,k) ai hk;refine jAE r _ hr fun x c e=>?_;rw[bP] at e;cases hx:x==n with
   | true=>
    rw[hx] at e;have exn:x=n:=eq_of_beq hx;subst exn;have hc':cells.lookup x=some c0:=hc;rw[hc'] at e ⊢;exact e
   | false=>rw[hx] at e; exact ha x c e
  ·rw[ak hk]; exact jAE r acc hr ha
theorem jAT {cells:Aj}{x:Str} :∀ (l:List (Str×NameKind)) (acc:Aj),((x,NameKind.free)∈l\/∃ c,acc.lookup x=some c)->∃ c,(jR cells l acc).lookup x=some c
 | [],acc,h=>by
  rcases h with h | h
  ·cases h
  ·exact h
 | (n,k)::r,acc,h=>by
  unfold jR;by_cases hk:k= .free
  ·rw[aq hk];refine jAT r _ ?_;by_cases e:x=n
   ·subst e;exact .inr ⟨_,by rw[bP,beq_self_eq_true]⟩
   ·rcases h with h | ⟨c,h⟩
    ·rcases aI.mp h with q | q
     ·cases q; exact absurd rfl e
     ·exact .inl q
    ·refine .inr ⟨c,?_⟩;rw[bP,cG.mpr e];exact h
  ·rw[ak hk];refine jAT r _ ?_;rcases h with h | h
   ·rcases aI.mp h with q | q
    ·cases q; exact absurd rfl hk
    ·exact .inl q
   ·exact .inr h
theorem jAS {x:Str}{k:NameKind} :∀ {l:List (Str×NameKind)},l.lookup x=some k->(x,k)∈l
 | [],h=>by cases h
 | (n,k')::r,h=>by
  rw[bP] at h;cases hx:x==n with
  | true=>rw[hx] at h; cases h; rw[eq_of_beq hx]; exact ai
  | false=>rw[hx] at h; exact ag _ (jAS h)
theorem jCX {env:Env}{x:Str}{k:NameKind}(hk:k= .cell\/k= .free):∀ {l:List (Str×NameKind)},(∀ y∈l,y.2≠ .cell)->
  (l.map fun (n,k)=>if (k==NameKind.free&&env.scope.kind== .function&&env.kindOf n==some .cell) then (n,NameKind.cell) else (n,k)).lookup x=some k->l.lookup x=some .free
 | [],_,h=>by simp at h
 | (n,k')::r,hc,h=>by
  have ih:= @jCX env x k hk r (fun y hy=>hc y (ag _ hy));have hc0:k'≠ .cell:=hc (n,k') ai;rw[bP];rw[bg] at h;dsimp only at h;by_cases hb:(k'==NameKind.free&&env.scope.kind== .function&&env.kindOf n==some .cell)=true
  ·rw[aq hb,bP] at h;cases hx:x==n with
   | true=>
    have:k'= .free:=by
     simp only [bL] at hb;exact eq_of_beq hb.1.1
    rw[this]
   | false=>rw[hx] at h; exact ih h
  ·rw[ak hb,bP] at h;cases hx:x==n with
   | true=>
    rw[hx] at h;have e:k'=k:=bD h;rcases hk with q | q
    ·exact absurd (e.trans q) hc0
    ·rw[e,q]
   | false=>rw[hx] at h; exact ih h
theorem jBL {env:Env}{x:Str} :∀ {l:List (Str×NameKind)},l.lookup x=some .free->
  (l.map fun (n,k)=>if (k==NameKind.free&&env.scope.kind== .function&&env.kindOf n==some .cell) then (n,NameKind.cell) else (n,k)).lookup x=some .cell\/
  (l.map fun (n,k)=>if (k==NameKind.free&&env.scope.kind== .function&&env.kindOf n==some .cell) then (n,NameKind.cell) else (n,k)).lookup x=some .free
 | [],h=>by cases h
 | (n,k')::r,h=>by
  have ih:= @jBL env x r;rw[bP] at h;rw[bg];dsimp only;by_cases hb:(k'==NameKind.free&&env.scope.kind== .function&&env.kindOf n==some .cell)=true
  ·rw[aq hb,bP];cases hx:x==n with
   | true=>exact .inl rfl
   | false=>rw[hx] at h; exact ih h
  ·rw[ak hb,bP];cases hx:x==n with
   | true=>rw[hx] at h; exact .inr h
   | false=>rw[hx] at h; exact ih h
section
variable {prog:Program}{A:Around}{R:Result->Shared->Prop}{s:Shared}
abbrev jMT (ifs:List Expr)(env:Env):Sem Bool:=forIn ifs true fun c r=>if r=true then do let ok <- isTrue c env (eval c env); pure (ForInStep.yield ok) else pure (ForInStep.yield r)
theorem jMF {elt tg iter:Expr}{ifs:List Expr}{sc:Scope}{pos:Pos}{it acc:Value}{env:Env}(J:Nat->Shared->Prop)
  (turn:∀ n z,J n z->wpAny (model prog w) A (pyNext it) (fun r z1=>match r with
   | none=>R (.ok .next) z1
   | some v=>wpAny (model prog w) A (letOwnedTupleGo tg it v) (fun _ z2=>wpAny (model prog w) A (assign tg env v) (fun _ z3=>wpAny (model prog w) A (jMT ifs env) (fun ok z4=>
     if ok=true then wpAny (model prog w) A (eval elt env) (fun x z5=>wpAny (model prog w) A (call (.builtin "list.append") [acc,x]) (fun _ z6=>∃ k,k<n/\J k z6) (fun _ _=>False) z5) (fun _ _=>False) z4
     else ∃ k,k<n/\J k z4) (fun _ _=>False) z3) (fun _ _=>False) z2) (fun _ _=>False) z1) (fun _ _=>False) z)
  (n:Nat) (h:J n s):codeAny (model prog w) A (.compLoop (.ListComp elt [⟨tg,iter,ifs,0⟩] sc pos) 0 it acc env) R s:=by
 refine codeAny_loop rfl J (fun k z hJ=>?_) n h;have noE:∀ {α:Type}{t:Sem α}{Q:α->Shared->Prop}{E:Ah}{z:Shared},wpAny (model prog w) A t Q (fun _ _=>False) z->wpAny (model prog w) A t Q E z:=
  fun q=>cm q (fun _ _ a=>a) fun _ _ f=>f.elim
 show wpAny _ A ((compTurn (.ListComp elt [⟨tg,iter,ifs,0⟩] sc pos) 0 it acc env).onRaise (fun x=>do noteFrame x env; theTreesLotGoes x)) _ _ z;refine wpAny_noted ?_;rw[compTurn_list];refine ae (fe (ae (cm (turn k z hJ) (fun r z1 q1=>?_) fun _ _ f=>f.elim)));cases r with
 | none=>exact aj q1
 | some v=>
  refine ae (cm q1 (fun _ z2 q2=>?_) fun _ _ f=>f.elim);refine ae (cm q2 (fun _ z3 q3=>?_) fun _ _ f=>f.elim);refine ae (cm q3 (fun ok z4 q4=>?_) fun _ _ f=>f.elim);cases ok with
  | false=>exact aj ⟨rfl,q4⟩
  | true=>
   refine ae (ae (cm q4 (fun x z5 q5=>?_) fun _ _ f=>f.elim));exact ae (cm q5 (fun _ z6 q6=>aj (aj ⟨rfl,q6⟩)) fun _ _ f=>f.elim)
end
def blk (X:Cx)(sc:Scope)(cl:Aj)(C:Addr)(Nc:An)(fp:List Addr)(s:Shared)(H:Hp):Cx where
 prog:=X.prog
 w:=X.w
 K:=X.K
 mg:=X.mg
 Ar:=X.Ar
 A:=X.A
 N:=Nc
 s₀:=s
 H₀:=H
 env:=compEnvC sc cl C X.env
 Aq:=X.stack
 stack:=X.stack
 ex:=fp
 fn:=fun _=>false
 calm:=X.calm
 pn:=[]
 xe:=fun _ _=>False
def blkσ (m:List (Option Nat))(σ:St):St:=m.map fun o=>match o with
 | none=>none
 | some i=>(σ[i]?).getD none
def PTs (X:Cx)(ifs:List Expr)(t:TT):Prop:=
 ∀ (lH:Ai) (s:Shared) (σ:St) (H:Hp) (Q:Bool->Hp->Prop),Inv X lH σ H s->t σ H Q->wpAny (model X.prog X.w) X.A (jMT ifs X.env) (TP X lH σ Q) X.xe s
def yK:TT:=fun _ H Q=>Q true H
theorem jN8 {X:Cx} :PTs X [] yK:=fun _ _ _ H _ I h=>wpAny_tests_nil ⟨H,I,h⟩
theorem jN7 {X:Cx}{c:Expr}{t:TT}(h:PT X c t):PTs X [c] t:=fun lH s σ H Q I q=>wpAny_tests_one (h lH s σ H Q I q)
def qL (m:List (Option Nat))(g:TG)(tt:TT)(te:TE)(σ:St)(Q:VK)(J:It)(H1:Hp):Prop:=∀ D,H1 D=none->∃ W:Nat->Nat->St->Hp->List V->Prop,
  (∃ n,W 0 n (blkσ m σ) (upd H1 D (.lst [])) [])/\∀ i n σ' H' ys,W i n σ' H' ys->H' D=some (.lst ys)/\ys.length<sizeLine/\
   ((J.stop i H'/\Q (.ref D) H')\/(J.go i H'/\∃ N:St->Hp->List V->Prop,(∀ σ2 H2 zs,N σ2 H2 zs->∃ n',n'<n/\W (i+1) n' σ2 H2 zs)/\∀ x H'',J.yld i H' x H''->g x σ' H'' fun σ2 H2=>tt σ2 H2 fun b H3=>
    if b=true then te σ2 H3 fun v H4=>H4 D=some (.lst ys)/\N σ2 (upd H4 D (.lst (ys++[v]))) (ys++[v])
    else N σ2 H3 ys))
def tComp (m:List (Option Nat))(wi:TI)(g:TG)(tt:TT)(te:TE):TE:=fun σ H Q=>wi σ H (qL m g tt te σ Q)
theorem Un.sameBut {fs ex:List Addr}{H H':Hp}{h h1 h2:Heap}{C:Addr}(u:Un fs ex H H' h h1)(sb:Heap.SameBut C h1 h2)(hC:h.objs.size<=C):Un fs ex H H' h h2:=by
 have ne:∀ {b:Addr}{o:Obj},h.get? b=some o->b≠C:=fun e=>aW (aX (aK e) hC);refine⟨fun b o e n hf hx=>(sb.2 b (ne e)).trans (u.keep b o e n hf hx),fun b o e n hf hx=>?_,u.free,fun b o e hx=>?_,u.tups,u.frzs,u.tbls⟩
 ·obtain⟨sl,q⟩:=u.slot b o e n hf hx;exact⟨sl,(sb.2 b (ne e)).trans q⟩
 ·obtain⟨o',q⟩:=u.there b o e hx;exact⟨o',(sb.2 b (ne e)).trans q⟩
theorem HOk.sameBut {P:Program}{w:World}{H:Hp}{h1 h2:Heap}{C:Addr}(x:HOk P w H h1)(sb:Heap.SameBut C h1 h2)(hC:H C=none):HOk P w H h2:=fun a o e=>
 (x a o e).stay (fun b u hb q=>(sb.2 b (by
  rintro rfl;rcases hb with rfl | hb
  ·rw[hC] at e; cases e
  ·rw[hC] at hb; cases hb)).trans q) (fun _ q=>q) fun _ _ q=>q
variable {g:TG}{tt:TT}{te:TE}{m:List (Option Nat)}
section
variable {tg iter elt:Expr}{ifs:List Expr}{sc:Scope}{pos:Pos}{wi:TI}{Nc:An}
def jBZ (X:Cx)(sc:Scope)(Nc:An)(m:List (Option Nat)):Prop:=
 m.length=Nc.length/\∀ (k i:Nat),m[k]?=some (some i)->∃ x,Nc[k]?=some x/\X.N[i]?=some x/\sc.names.lookup x=some .free
theorem jPU {lH:Ai}{s:Shared}{σ:St}{H:Hp}{fp:List Addr}(I:Inv X lH σ H s)(hkind:sc.kind= .function)(hcell:∀ y∈sc.names,y.2≠ .cell)
  (hfree:∀ y∈sc.names,y.2= .free->X.env.scope.names.lookup y.1=some .cell\/X.env.scope.names.lookup y.1=some .free) (hm:jBZ X sc Nc m) (hfp:∀ b∈fp,FpOk X lH H b) (hlt:∀ b∈fp,b<s.heap.objs.size)
  {h1:Heap}{tk:Nat}{md:Ak}(hns:h1.Ns s.heap.objs.size md) (old:∀ b o,s.heap.get? b=some o->h1.get? b=some o):
  Inv (blk X sc (jR X.env.cells sc.names []) s.heap.objs.size Nc fp s H) [] (blkσ m σ) H { s with heap:=h1,toks:=tk} :=by
 have hcl:∀ y∈sc.names,y.2= .free->∃ c,X.env.cells.lookup y.1=some c:=fun y hy hf=>I.ok.has y.1 (hfree y hy hf);have sub:∀ x c,(jR X.env.cells sc.names []).lookup x=some c->X.env.cells.lookup x=some c:=jAE sc.names [] hcl (fun x c e=>by cases e);have isfree:∀ x,(compEnvC sc (jR X.env.cells sc.names []) s.heap.objs.size X.env).kindOf x=some .cell\/(compEnvC sc (jR X.env.cells sc.names []) s.heap.objs.size X.env).kindOf x=some .free->sc.names.lookup x=some .free:=fun x h=>by
  rcases h with h | h
  ·exact jCX (.inl rfl) hcell h
  ·exact jCX (.inr rfl) hcell h
 refine⟨⟨I.ok.mod,hkind,I.ok.glob,I.ok.blt,aA _,fun x y c h1 h2=>I.ok.inj x y c (sub x c h1) (sub y c h2),fun x hx=>?_,fun x c hf _=>?_,I.ok.hd,I.ok.frames, .inl rfl,fun b hb=>?_,I.bs,bv I.ok.bsz I.sz,fun b o e hb=>?_,fun b hb hz=>?_,I.stack,I.stkFree⟩,
  rfl,I.bare,Un.kept old,⟨md,hns,fun k x v e1 e2 e3=>?_⟩,fun x c e=>?_,I.hok.fresh (aA _),fun x c e=>I.freeC x c (sub x c e),fun p hp=>absurd (show p∈([]:Ai) from hp) Ad,I.hok.kept old,?_⟩
 ·exact jAT sc.names [] (.inl (jAS (isfree x hx)))
 ·exact absurd (show false=true from hf) ay
 ·obtain⟨f0,f1,f2,f3,f4,f5⟩:=hfp b hb;exact⟨aW (hlt b hb),fun x c e=>f4 x c (sub x c e)⟩
 ·obtain⟨f0,f1,f2,f3,f4,f5⟩:=hfp b hb;rcases f3 with q | q
  ·exact I.ok.noex b o e q
  ·exact absurd (aX (aK (I.ok.bs b o e).1) q) (dz _)
 ·obtain⟨f0,f1,f2,f3,f4,f5⟩:=hfp b hb;rcases aI.mp (I.stkSub b hz) with q | q
  ·exact f1 q
  ·exact f2 q
 ·have e2':∃ i,m[k]?=some (some i)/\σ[i]?=some (some v):=by
   unfold blkσ at e2;rw[aV] at e2;cases q:m[k]? with
   | none=>rw[q] at e2; cases e2
   | some o=>
    rw[q] at e2;cases o with
    | none=>cases e2
    | some i=>
     refine⟨i,rfl,?_⟩;have e2:(σ[i]?).getD none=some v:=bD e2;cases r:σ[i]? with
     | none=>rw[r] at e2; cases e2
     | some z=>rw[r] at e2; exact bW some e2
  obtain⟨i,q1,q2⟩:=e2';obtain⟨x',a1,a2,a3⟩:=hm.2 k i q1;have e1':Nc[k]?=some x:=e1;rw[e1'] at a1;cases a1;have vis:=hfree (x, .free) (jAS a3) rfl;obtain⟨m0,hn0,hl0⟩:=I.loc;obtain⟨u,r,l⟩:=hl0 i x v a2 q2 (.inr vis);refine⟨u,r, .inr ⟨jBL a3,?_⟩⟩;obtain⟨c,hc⟩:=jAT (cells:=X.env.cells) (x:=x) sc.names [] (.inl (jAS a3));rcases l with ⟨lk,_⟩ | ⟨_,c',hc',o,ho,hd⟩
  ·have lk':X.env.scope.names.lookup x=some .local:=lk;rcases vis with z | z
   ·rw[lk'] at z; cases z
   ·rw[lk'] at z; cases z
  ·have:=sub x c hc;rw[hc'] at this;cases this;exact⟨c,hc,o,old _ _ ho,hd⟩
 ·obtain⟨v,o,ho,hd⟩:=I.cell x c (sub x c e);exact⟨v,o,old _ _ ho,hd⟩
 ·show (blkσ m σ).length=Nc.length;unfold blkσ;rw[af];exact hm.1
theorem jGX {tf:St->TE}(hc:X.calm=true)(hi:PI X tg iter wi)(hkind:sc.kind= .function)(hcell:∀ y∈sc.names,y.2≠ .cell)(hnames:∀ y∈sc.names,y.2= .local->sc.names.lookup y.1=some .local)
  (hfree:∀ y∈sc.names,y.2= .free->X.env.scope.names.lookup y.1=some .cell\/X.env.scope.names.lookup y.1=some .free) (hm:jBZ X sc Nc m)
  (hg:∀ cl C fp s H,PG (blk X sc cl C Nc fp s H) tg g) (ht:∀ cl C fp s H,PTs (blk X sc cl C Nc fp s H) ifs tt) (he:∀ cl C fp s H lH σ,Inv X lH σ H s->(∀ b∈fp,FpOk X lH H b)->PE (blk X sc cl C Nc fp s H) elt (tf σ))
  (hs:∀ x,foldedSetIterable iter X.env x=pure x) {fpos:Pos}{use:Option (Value->Sem Unit)}{R:Ah}{lH:Ai}{s:Shared}{σ:St}{H:Hp}{Q:VK}(I:Inv X lH σ H s) (h:tComp m wi g tt (tf σ) σ H Q)
  (fin:∀ (D C:Addr) (H5:Hp) (z1:Shared) (r:Flow),(∃ mm,z1.heap.Ns C mm)->FpOk X lH H5 C->(∀ h',Heap.SameBut C z1.heap h'->Inv X lH σ H5 { z1 with heap:=h'})->Q (.ref D) H5->compPost (model X.prog X.w) X.A X.xe use R (.ref D) C (.ok r) z1):
  wpAny (model X.prog X.w) X.A (comprehension (.ListComp elt [⟨tg,iter,ifs,0⟩] sc pos) sc X.env fpos (newList []) false (eval iter X.env) use) R X.xe s:=by
 have hcl:∀ y∈sc.names,y.2= .free->∃ c,X.env.cells.lookup y.1=some c:=fun y hy hf=>I.ok.has y.1 (hfree y hy hf);refine wpAny_comprehension_free (use:=use) rfl hs (jJV hcl) hkind hnames (lJ (hi lH s σ H _ I h) fun v s1 h1=>lJ h1 fun itv s2 h2=>?_);obtain⟨it,fp,tn,J,H2,e,I2,T,st2,f2,hQ⟩:=h2;subst e;have hlt:∀ b∈fp,b<s2.heap.objs.size:=fun b hb=>by
  obtain⟨o,e,_⟩:=T.obj 0 _ st2 b hb;exact aK e
 refine cZ (wpAny_newFunctionEnv hcell (by intro y hy; simp at hy) (fun h₁ hns₁ hsb₁=>?_) hkind);have I3:Inv X lH σ (upd H2 s2.heap.objs.size (.lst [])) { s2 with heap:=s2.heap.push { cls:= .type "list",data:= .seq ([]:Am).toArray}} :=I2.lnew (t':=s2.toks) .nil (bw _);obtain⟨W,⟨n0,w0⟩,turn⟩:=hQ s2.heap.objs.size I2.fresh;have hD3:∀ b∈fp,b≠s2.heap.objs.size:=fun b hb=>aW (hlt b hb);have f3:∀ b∈fp,FpOk X lH (upd H2 s2.heap.objs.size (.lst [])) b:=fun b hb=>by
  obtain⟨a0,a1⟩:=f2 b hb;exact⟨by rw[j9 (hD3 b hb)]; exact a0,a1⟩
 generalize hE:({ s2 with heap:=s2.heap.push { cls:= .type "list",data:= .seq ([]:Am).toArray}} :Shared)=s3 at I3 hns₁ hsb₁ ⊢;generalize hH3:upd H2 s2.heap.objs.size (.lst [])=H3 at I3 f3 w0;have hsz3:s3.heap.objs.size=s2.heap.objs.size+1:=by rw[<- hE]; exact eR _ _
 have old:∀ b o,s3.heap.get? b=some o->h₁.get? b=some o:=fun b o e=>hsb₁.extBut b o (aW (aK e)) (ah _ e);have old2:∀ b o,s2.heap.get? b=some o->h₁.get? b=some o:=fun b o e=>old b o (by rw[<- hE]; exact ah _ e);have I4:=jPU (fp:=fp) (tk:=s3.toks+([]:List (Str×Value)).length) I3 hkind hcell hfree hm f3 (fun b hb=>show b<s3.heap.objs.size by rw[hsz3]; exact da (hlt b hb)) hns₁ old;have st4:tn 0 h₁:=T.keep _ _ _ st2 fun b hb o e=>old2 b o e;have loop:codeAny (model X.prog X.w) X.A (.compLoop (.ListComp elt [⟨tg,iter,ifs,0⟩] sc pos) 0 (.ref it) (.ref s2.heap.objs.size) (compEnvC sc (jR X.env.cells sc.names []) s3.heap.objs.size X.env))
   (compPost (model X.prog X.w) X.A X.xe use R (.ref s2.heap.objs.size) s3.heap.objs.size) { s3 with heap:=h₁,toks:=s3.toks+([]:List (Str×Value)).length} :=by
  generalize hX:blk X sc (jR X.env.cells sc.names []) s3.heap.objs.size Nc fp s3 H3=Xb at I4;have eP:Xb.prog=X.prog:=by rw[<- hX]; rfl
  have ew:Xb.w=X.w:=by rw[<- hX]; rfl
  have eK:Xb.K=X.K:=by rw[<- hX]; rfl
  have eA:Xb.A=X.A:=by rw[<- hX]; rfl
  have ec:Xb.calm=true:=by rw[<- hX]; exact hc
  have ee:Xb.env=compEnvC sc (jR X.env.cells sc.names []) s3.heap.objs.size X.env:=by rw[<- hX]; rfl
  have ex:Xb.xe=fun _ _=>False:=by rw[<- hX]; rfl
  have hgb:PG Xb tg g:=by rw[<- hX]; exact hg _ _ _ _ _
  have htb:PTs Xb ifs tt:=by rw[<- hX]; exact ht _ _ _ _ _
  have heb:PE Xb elt (tf σ):=by rw[<- hX]; exact he _ _ _ _ _ _ _ I3 f3
  have stat:∀ {H':Hp},(∀ b∈fp,H' b=none)->∀ b∈fp,FpOk Xb [] H' b:=fun {H'} hn b hb=>by
   obtain⟨o,eo,_⟩:=T.obj _ _ st4 b hb;have q:=I4.ok.exf b (by rw[<- hX]; exact hb);exact⟨hn b hb,q.1,I4.ok.exfs b (by rw[<- hX]; exact hb), .inl (by rw[<- hX]; exact hb),q.2,fun p hp=>absurd hp (by rw[<- hX]; simp [blk])⟩
  have fr4:∀ b∈fp,H3 b=none:=fun b hb=>(f3 b hb).1;unfold PG at hgb;unfold PTs at htb;unfold PE at heb;rw[eP,ew,eA,ee,ex] at hgb htb heb;refine jMF (fun n z=>∃ i σ' H' ys,Inv Xb [] σ' H' z/\tn i z.heap/\(∀ b∈fp,H' b=none)/\W i n σ' H' ys) ?_ n0 ⟨0,_,H3,[],I4,st4,fr4,w0⟩;rintro n z ⟨i,σ5,H5,ys,I5,st5,fr5,w5⟩;obtain⟨hD,hlen,way⟩:=turn i n σ5 H5 ys w5;rcases way with ⟨stop,q⟩ | ⟨go,N,hN,step⟩
  ·have RR:=T.done Xb eP ew eK ec i [] z σ5 H5 (fun _ _=>False) I5 (stat fr5) st5 stop;rw[eA] at RR;refine lJ RR fun r z1 ⟨hr,I6⟩=>?_;subst hr;obtain⟨mm,hn6,_⟩:=I6.loc;rw[ee] at hn6;have u6:Un (frs X.stack) fp H3 H5 s3.heap z1.heap:=by
    have:=I6.Ar;rw[<- hX] at this;exact this
   have fC:H5 s3.heap.objs.size=none:=by
    have:=I6.free;rw[ee] at this;exact this
   have hok6:HOk X.prog X.w H5 z1.heap:=by
    have:=I6.hok;rw[eP,ew] at this;exact this
   have os6:z1.os=s3.os:=by
    have:=I6.os;rw[<- hX] at this;exact this
   refine fin s2.heap.objs.size s3.heap.objs.size H5 z1 .next ⟨mm,hn6⟩ (I3.fpOk (aA _) fC) (fun h' sb=>?_) q;refine I3.call' (s':= { z1 with heap:=h'}) (ch:=fp) os6 (u6.sameBut sb (aA _)) (hok6.sameBut sb fC) I6.bare (fun b hb=>?_);obtain⟨a0,a1,a2,a3,a4,a5⟩:=f3 b hb;exact⟨a3,a1,a4,a5⟩
  ·have RR:=T.item Xb eP ew eK ec i [] z σ5 H5 (fun _ _=>False) I5 (stat fr5) st5 go;rw[eA] at RR;refine lJ RR fun r z1 ⟨u,hr,h6⟩=>?_;subst hr;refine lJ h6 fun _ z2 ⟨x,H7,I7,r7,y7,st7,fr7⟩=>?_;have I7':=I7.pinned (stat fr7) (T.obj _ _ st7);refine lJ (hgb _ z2 σ5 H7 x u _ I7' r7 (step x H7 y7)) fun _ z3 ⟨σ8,H8,I8,q8⟩=>?_;refine lJ (htb _ z3 σ8 H8 _ I8 q8) fun ok z4 ⟨H9,I9,q9⟩=>?_;have again:∀ {σ7:St}{Hz:Hp}{zz:Shared}{yy:List V}{n':Nat},Inv Xb ([]++jHN fp z2.heap) σ7 Hz zz->n'<n->W (i+1) n' σ7 Hz yy->∃ k,k<n/\∃ i σ' H' ys,Inv Xb [] σ' H' zz/\tn i zz.heap/\(∀ b∈fp,H' b=none)/\W i k σ' H' ys:=fun {σ7 Hz zz yy n'} Iz hn wz=>by
    refine⟨n',hn,i+1,σ7,Hz,yy,Iz.unpinned,T.keep _ _ _ st7 fun b hb o e=>(Iz.pin (b,o) (aB _ (aB _ (jBG hb e)))).1,fun b hb=>?_,wz⟩;obtain⟨o,e,d⟩:=T.obj _ _ st7 b hb;exact(Iz.pin (b,o) (aB _ (aB _ (jBG hb e)))).2.1
   cases ok with
   | false=>
    obtain⟨n',hn,w9⟩:=hN _ _ _ (show N σ8 H9 ys from q9);exact again I9 hn w9
   | true=>
    refine lJ (heb _ z4 σ8 H9 _ I9 q9) fun xv z5 ⟨vv,H10,I10,r10,hD10,n10⟩=>?_;obtain⟨n',hn,w10⟩:=hN _ _ _ n10;have RR:=jCH (X:=Xb) _ z5 σ8 H10 (.ref s2.heap.objs.size) [vv] (.ref s2.heap.objs.size) [xv] (fun _ H'=>H'=upd H10 s2.heap.objs.size (.lst (ys++[vv]))) I10 rfl (.cons r10 .nil) ⟨_,ys,vv,rfl,rfl,hD10,hlen,rfl⟩;rw[eP,ew,eA,ex] at RR;refine lJ RR fun _ z6 ⟨_,H11,I11,_,e11⟩=>?_;subst e11;exact again I11 hn w10
 exact codeAny_compStart_list loop (T.self _ 0 _ _ _ st4 loop)
theorem jJ3 (hc:X.calm=true)(hi:PI X tg iter wi)(hkind:sc.kind= .function)(hcell:∀ y∈sc.names,y.2≠ .cell)(hnames:∀ y∈sc.names,y.2= .local->sc.names.lookup y.1=some .local)
  (hfree:∀ y∈sc.names,y.2= .free->X.env.scope.names.lookup y.1=some .cell\/X.env.scope.names.lookup y.1=some .free) (hm:jBZ X sc Nc m)
  (hg:∀ cl C fp s H,PG (blk X sc cl C Nc fp s H) tg g) (ht:∀ cl C fp s H,PTs (blk X sc cl C Nc fp s H) ifs tt) (he:∀ cl C fp s H,PE (blk X sc cl C Nc fp s H) elt te)
  (hs:∀ x,foldedSetIterable iter X.env x=pure x:=by intro _; rfl):PE X (.ListComp elt [⟨tg,iter,ifs,0⟩] sc pos) (tComp m wi g tt te):=by
 intro lH s σ H Q I h;rw[eval_ListComp];exact jGX (tf:=fun _=>te) (use:=none) hc hi hkind hcell hnames hfree hm hg ht (fun cl C fp s H _ _ _ _=>he cl C fp s H) hs I h (fun D C H5 z1 r ⟨mm,hn⟩ fC sb q=>⟨mm,hn,fun h' s2=>⟨.ref D,H5,sb h' s2,rfl,q⟩⟩)
end
theorem jM {X:Cx}{sc psc:Scope}(h:(sc.names.all fun y=>decide (y.2= .free->psc.names.lookup y.1=some .cell\/psc.names.lookup y.1=some .free))=true:=by decide+kernel)(e:X.env.scope=psc:=by rfl):
  ∀ y∈sc.names,y.2= .free->X.env.scope.names.lookup y.1=some .cell\/X.env.scope.names.lookup y.1=some .free:=by
 rw[e];intro y hy;exact aG (bU.mp h y hy)
def jP7 (sc:Scope)(N Nc:An)(m:List (Option Nat))(k:Nat):Bool:=match m[k]? with
 | some (some i)=>match Nc[k]? with
  | some x=>decide (N[i]?=some x)&&decide (sc.names.lookup x=some .free)
  | none=>false
 | _=>true
theorem jH {X:Cx}{sc:Scope}{N Nc:An}{m:List (Option Nat)}(e:X.N=N)(hl:m.length=Nc.length)(h:((List.range m.length).all (jP7 sc N Nc m))=true):jBZ X sc Nc m:=by
 refine⟨hl,fun k i hk=>?_⟩;have hlt:k<m.length:=(ao.mp hk).1;have q:=bU.mp h k (bK.mpr hlt);unfold jP7 at q;rw[hk] at q;cases e2:Nc[k]? with
 | none=>rw[e2] at q; cases q
 | some x=>
  rw[e2] at q;have q:(decide (N[i]?=some x)&&decide (sc.names.lookup x=some .free))=true:=q;rw[bL] at q;exact⟨x,rfl,by rw[e]; exact aG q.1,aG q.2⟩
section
variable {σ:St}{H1:Hp}{Q:VK}
theorem jBO {lo:Int}{n:Nat}(hn:n<sizeLine)(Pv:Addr->Nat->St->Hp->List V->Prop)(h0:∀ D,H1 D=none->Pv D 0 (blkσ m σ) (upd H1 D (.lst [])) [])
  (hD:∀ D i σ' H' ys,H1 D=none->i<=n->Pv D i σ' H' ys->H' D=some (.lst ys)/\ys.length<=i)
  (hs:∀ D i σ' H' ys,H1 D=none->i<n->Pv D i σ' H' ys->g (.int (lo+i)) σ' H' fun σ2 H2=>tt σ2 H2 fun b H3=>if b=true then te σ2 H3 fun v H4=>H4 D=some (.lst ys)/\Pv D (i+1) σ2 (upd H4 D (.lst (ys++[v]))) (ys++[v]) else Pv D (i+1) σ2 H3 ys)
  (hd:∀ D σ' H' ys,H1 D=none->Pv D n σ' H' ys->Q (.ref D) H'):qL m g tt te σ Q (Itr lo n) H1:=by
 intro D hDn;refine⟨fun i k σ' H' ys=>k=n - i/\i<=n/\Pv D i σ' H' ys,⟨n,rfl,bw _,h0 D hDn⟩,?_⟩;rintro i k σ' H' ys ⟨rfl,hi,p⟩;obtain⟨q1,q2⟩:=hD D i σ' H' ys hDn hi p;refine⟨q1,Aa,?_⟩;by_cases hlt:i<n
 ·refine .inr ⟨hlt,Pv D (i+1),fun σ2 H2 zs z=>⟨n - (i+1),Aa,rfl,hlt,z⟩,fun x H'' y=>?_⟩;obtain⟨e1,e2⟩:=y;subst e1 e2;exact hs D i σ' _ ys hDn hlt p
 ·have e:i=n:=Aa;subst e;exact .inl ⟨aA _,hd D σ' H' ys hDn p⟩
end
end L2
end
namespace SS
open PySem PySem.SetTable
abbrev Ris (xs:Array Nat):Prop:=xs.toList.Pairwise (· < ·)
theorem jCW {xs:Array Nat}(h:Ris xs){a b:Nat}(hab:a<b)(hb:b<xs.size):xs.getD a 0<xs.getD b 0:=by
 have h1:a<xs.size:=eX hab hb;have:=bQ.mp h a b (by simpa using h1) (by simpa using hb) hab;simpa [Array.getD,h1,hb] using this
theorem jUW {xs:Array Nat}{j:Nat}(hr:Ris xs):∀ (fuel lo hi:Nat),hi - lo<=fuel->lo<=hi->hi<=xs.size->(∀ a,a<lo->xs.getD a 0<j)->(∀ a,hi<=a->a<xs.size->j<=xs.getD a 0)->
  (below.go xs j fuel lo hi<=xs.size/\(∀ a,a<below.go xs j fuel lo hi->xs.getD a 0<j)/\(∀ a,below.go xs j fuel lo hi<=a->a<xs.size->j<=xs.getD a 0)):=by
 intro fuel
 induction fuel with
 | zero=>
  intro lo hi h1 h2 h3 h4 h5;have e:lo=hi:=Aa;subst e;exact⟨h3,h4,h5⟩
 | succ fuel ih=>
  intro lo hi h1 h2 h3 h4 h5;unfold below.go;by_cases hlt:lo<hi
  ·rw[aq hlt];have hm:(lo+hi) / 2<xs.size:=Aa;have e:xs.getD ((lo+hi) / 2) j=xs.getD ((lo+hi) / 2) 0:=by simp [Array.getD,hm]
   dsimp only;rw[e];by_cases hc:xs.getD ((lo+hi) / 2) 0<j
   ·rw[aq hc];refine ih _ _ Aa Aa h3 (fun a ha=>?_) h5;by_cases e2:a=(lo+hi) / 2
    ·rw[e2]; exact hc
    ·exact eX (jCW hr Aa hm) hc
   ·rw[ak hc];refine ih _ _ Aa Aa Aa h4 (fun a ha hs=>?_);by_cases e2:a=(lo+hi) / 2
    ·rw[e2]; lia
    ·have:=jCW hr (show (lo+hi) / 2<a by lia) hs;lia
  ·rw[ak hlt];have e:lo=hi:=Aa;subst e;exact⟨h3,h4,h5⟩
theorem jFV {xs:Array Nat}(hr:Ris xs)(j:Nat):below xs j<=xs.size/\(∀ a,a<below xs j->xs.getD a 0<j)/\(∀ a,below xs j<=a->a<xs.size->j<=xs.getD a 0):=
 jUW hr xs.size 0 xs.size Aa (bw _) (aA _) (fun a h=>absurd h (eZ _)) (fun a h1 h2=>absurd h2 Aa)
theorem jGZ {xs:Array Nat}(hr:Ris xs){j i:Nat}(hi:i<=xs.size)(h1:∀ a,a<i->xs.getD a 0<j)(h2:∀ a,i<=a->a<xs.size->j<=xs.getD a 0):below xs j=i:=by
 obtain⟨b1,b2,b3⟩:=jFV hr j;rcases gC (below xs j) i with h | h | h
 ·have q1:=h1 _ h;have q2:=b3 _ (aA _) Aa;lia
 ·exact h
 ·have q1:=b2 _ h;have q2:=h2 _ (aA _) Aa;lia
theorem jAF {α:Type}(xs:Array α)(p:Nat)(x:α):(insertAt xs p x).toList=xs.toList.take p++x::xs.toList.drop p:=by
 unfold insertAt;simp [fo,List.extract];rw[b9 Ad]
theorem jCB {α:Type}(xs:Array α)(p:Nat)(x:α):(insertAt xs p x).size=xs.size+1:=by
 rw[<- aP,jAF];simp;lia
theorem jLV {xs:Array Nat}{j:Nat}(hr:Ris xs)(hj:j∉xs.toList):Ris (insertAt xs (below xs j) j):=by
 obtain⟨b1,b2,b3⟩:=jFV hr j;show (insertAt xs (below xs j) j).toList.Pairwise (· < ·);rw[jAF,cg,cR];have hl:∀ a∈xs.toList.take (below xs j),a<j:=by
  intro a ha;obtain⟨i,hi,e⟩:=List.mem_take_iff_getElem.mp ha;have:=b2 i Aa;have hs:i<xs.size:=by simp at hi; lia
  simp [Array.getD,hs] at this;simp at e;lia
 have hg:∀ a∈xs.toList.drop (below xs j),j<a:=by
  intro a ha;obtain⟨i,hi,e⟩:=List.mem_drop_iff_getElem.mp ha;have hs:i+below xs j<xs.size:=by simpa [jm] using hi
  have:=b3 (i+below xs j) Aa hs;simp [Array.getD,hs] at this;have e':xs[i+below xs j]=a:=by simpa [jm] using e
  have hne:a≠j:=by
   intro z;apply hj;rw[<- z];exact cy ha
  lia
 refine⟨hr.sublist (eC _ _),⟨hg,hr.sublist (iS _ _)⟩,?_⟩;intro a ha b hb;rcases aI.mp hb with rfl | hb
 ·exact hl a ha
 ·exact eX (hl a ha) (hg b hb)
theorem jEE {t:SetTable}{j:Nat}(hr:Ris t.place)(h:t.slot j= .empty):j∉t.place.toList:=by
 intro hm;obtain⟨i,hi,e⟩:=eQ hm;have hs:i<t.place.size:=by simpa using hi
 have e0:t.place[i]=j:=by simpa using e
 have eb:below t.place j=i:=by
  refine jGZ hr (cY hs) (fun a ha=>?_) (fun a h1 h2=>?_)
  ·have:=jCW hr ha hs;simp only [Array.getD,hs] at this ⊢;simp [e0] at this ⊢;exact this
  ·by_cases e2:a=i
   ·subst e2;simp [Array.getD,hs,e0]
   ·have:=jCW hr (show i<a by lia) h2;simp only [Array.getD,hs] at this;simp [e0] at this;simp [Array.getD];lia
 unfold SetTable.slot at h;dsimp only at h;rw[eb] at h;rw[aq (by simp [hs,e0])] at h;cases h
theorem jJK (j:Nat):has #[] j=false:=by
 unfold has;simp
theorem jKH {t:SetTable}(hd:t.dummies=#[]){f:Nat->Int}{h:Int} :∀ (fuel:Nat) (p:Probe) (m:Met),p.dummy=none->probe.go t f h fuel p=some m->
  (∃ j,m= .empty j none/\t.slot j= .empty)\/(∃ j i n,m= .candidate j i n):=by
 intro fuel
 induction fuel with
 | zero=>intro p m _ e; simp [probe.go] at e
 | succ fuel ih=>
  intro p m hp e;unfold probe.go at e;cases hs:t.slot p.j with
  | empty=>
   rw[hs] at e;simp only [gE] at e;subst e;exact .inl ⟨p.j,by rw[hp],hs⟩
  | dummy=>
   unfold SetTable.slot at hs;dsimp only at hs;rw[hd,jJK] at hs;split at hs
   ·cases hs
   ·simp at hs
  | live i=>
   rw[hs] at e;dsimp only at e;split at e
   ·simp only [gE] at e;subst e;exact .inr ⟨_,_,_,rfl⟩
   ·refine ih _ _ ?_ e;unfold advance;split
    ·exact hp
    ·exact hp
theorem jGQ {t:SetTable}(hr:Ris t.place)(hd:t.dummies=#[]){h:Int}{slot:Nat}{d:Bool}(e:t.freeSlot h=some (slot,d)):slot∉t.place.toList:=by
 unfold SetTable.freeSlot at e;split at e
 ·rename_i j dummy hp;simp only [gE,Prod.mk.injEq] at e;have hp':probe.go t (fun _=>h+1) h (10*turns t.mask) (t.probeStart h)=some (.empty j dummy):=hp;rcases jKH hd _ _ _ (by unfold probeStart; rfl) hp' with ⟨j',em,hs⟩ | ⟨_,_,_,em⟩
  ·cases em;have:slot=j:=by rw[<- e.1]; rfl
   rw[this];exact jEE hr hs
  ·cases em
 ·cases e
theorem jLS {t:SetTable}{j:Nat}(hd:t.dummies=#[])(h:t.slot j≠ .empty):(∃ i,t.slot j= .live i)/\j∈t.place.toList:=by
 unfold SetTable.slot at h ⊢;dsimp only at h ⊢;by_cases q:(t.place[below t.place j]?==some j)=true
 ·rw[aq q];refine⟨⟨_,rfl⟩,?_⟩;have e:t.place[below t.place j]?=some j:=eq_of_beq q;obtain⟨hi,e⟩:=Array.getElem?_eq_some_iff.mp e;rw[<- e];exact Array.getElem_mem_toList hi
 ·rw[ak q,hd,jJK] at h;exact absurd rfl h
theorem run7 (i:Nat):runEnd 7 i=i:=by unfold runEnd; rw[ak Aa]
theorem jN9 {t:SetTable}(hm:t.mask=7)(hd:t.dummies=#[]){h:Int} :∀ (k fuel:Nat) (p:Probe),p.j=p.i->p.more=0->p.i<8->p.perturb<32->k<=fuel->
  probe.go t (fun _=>h+1) h fuel p=none->∀ r,r<k->Nat.repeat (fun i=>(i*5+1) % 8) r p.i∈t.place.toList:=by
 intro k
 induction k with
 | zero=>intro fuel p _ _ _ _ _ _ r hr; lia
 | succ k ih=>
  intro fuel p h1 h2 h3 h4 h5 h6 r hr;obtain⟨f,rfl⟩:∃ f,fuel=f+1:=⟨fuel - 1,Aa⟩;unfold probe.go at h6;by_cases he:t.slot p.j= .empty
  ·rw[he] at h6; cases h6
  ·obtain⟨⟨i,hl⟩,hmem⟩:=jLS hd he;rw[hl] at h6;dsimp only at h6;rw[ak (by simp; lia)] at h6;have hz:p.perturb / 32=0:=Aa;have ea:t.advance p= { p with j:=(p.i*5+1) % 8,more:=0,i:=(p.i*5+1) % 8,perturb:=0} :=by
    unfold advance leap;rw[ak Aa,hm,hz];simp [run7]
   rw[ea] at h6;cases r with
   | zero=>show p.i∈_; rw[<- h1]; exact hmem
   | succ r=>
    have q:=ih f _ (by rfl) (by rfl) (by show (p.i*5+1) % 8<8; lia) (by show 0<32; lia) Aa h6 r Aa;have e:∀ (r i:Nat),Nat.repeat (fun i=>(i*5+1) % 8) (r+1) i=Nat.repeat (fun i=>(i*5+1) % 8) r ((i*5+1) % 8):=by
     intro r
     induction r with
     | zero=>intro i; rfl
     | succ r ihr=>
      intro i;show ((Nat.repeat _ (r+1) i)*5+1) % 8=((Nat.repeat _ r ((i*5+1) % 8))*5+1) % 8;rw[ihr]
    rw[e];exact q
theorem jPY:∀ i,i<8->∀ j,j<8->∃ r,r<8/\Nat.repeat (fun i=>(i*5+1) % 8) r i=j:=by decide+kernel
theorem jGP {t:SetTable}(hm:t.mask=7)(hd:t.dummies=#[])(hz:t.place.size<8){h:Int}(h0:0<=h)(h1:h<32):∃ q,t.freeSlot h=some q:=by
 unfold SetTable.freeSlot;have hb:bits h<32:=by unfold bits; lia
 have hps:t.probeStart h= { j:=bits h % 8,more:=0,i:=bits h % 8,perturb:=bits h,dummy:=none} :=by
  unfold probeStart;rw[hm];simp [run7]
 cases e:t.probe (fun _=>h+1) h (t.probeStart h) with
 | none=>
  exfalso;have e':probe.go t (fun _=>h+1) h (10*turns t.mask) (t.probeStart h)=none:=e;rw[hps] at e';have q:=jN9 hm hd 8 _ _ (by rfl) (by rfl) (by show bits h % 8<8; lia) (by exact hb) (by rw[hm]; decide) e';have sub:List.range 8 ⊆ t.place.toList:=by
   intro j hj;obtain⟨r,hr,er⟩:=jPY (bits h % 8) Aa j (bK.mp hj);rw[<- er];exact q r hr
  have:=List.Nodup.length_le_of_subset (List.nodup_range (n:=8)) sub;simp at this;lia
 | some m=>
  rcases jKH hd _ _ _ (by rw[hps]) (show probe.go t (fun _=>h+1) h (10*turns t.mask) (t.probeStart h)=some m from e) with ⟨j,rfl,_⟩ | ⟨j,i,n,rfl⟩
  ·exact⟨_,rfl⟩
  ·exfalso;have nc:∀ (fuel:Nat) (p:Probe) (j i:Nat) (n:Probe),probe.go t (fun _=>h+1) h fuel p≠some (.candidate j i n):=by
    intro fuel
    induction fuel with
    | zero=>intro p j i n; simp [probe.go]
    | succ f ih=>
     intro p j i n;unfold probe.go;cases t.slot p.j with
     | empty=>simp
     | dummy=>exact ih _ _ _ _
     | live i'=>
      dsimp only;rw[ak (by simp; lia)];exact ih _ _ _ _
   exact nc _ _ _ _ _ e
structure Tab (t:SetTable)(n:Nat)(led:Bool):Prop where
 ris:Ris t.place
 sz:t.place.size=n
 dm:t.dummies=#[]
 msk:t.mask=7
 pl:t.plain=true
 ld:t.led=led
theorem Tab.fits {t:SetTable}{n:Nat}{led:Bool}(T:Tab t n led)(hn:n<=4):t.fits n=true:=by
 unfold SetTable.fits fill;simp [T.sz,T.dm,T.msk];lia
theorem Tab.full {t:SetTable}{n:Nat}{led:Bool}(T:Tab t n led)(hn:n<=4):t.tooFull=false:=by
 unfold tooFull fill;simp [T.sz,T.dm,T.msk];lia
theorem jMU (led:Bool):Tab (fresh 0 0 led) 0 led:=⟨List.Pairwise.nil,rfl,rfl,rfl,rfl,rfl⟩
theorem jM8 {t:SetTable}{n:Nat}{led:Bool}(T:Tab t n led)(hn:n+1<=4)(es:Array (Int×Value))(he:es.size=n){h:Int}(h0:0<=h)(h1:h<32)(x:Value):
  Tab (layNew t es h x).2.1 (n+1) led/\∃ p,(layNew t es h x).1.toList=es.toList.take p++(h,x)::es.toList.drop p:=by
 obtain⟨⟨slot,d⟩,hf⟩:=jGP T.msk T.dm (by rw[T.sz]; lia) h0 h1;unfold layNew;rw[hf];dsimp only [SetTable.put];have hnm:=jGQ T.ris T.dm hf;have T2:Tab { t with place:=insertAt t.place (below t.place slot) slot,dummies:=if has t.dummies slot then eraseAt t.dummies (below t.dummies slot) else t.dummies} (n+1) led:=by
  refine⟨jLV T.ris hnm,by rw[jCB,T.sz],?_,T.msk,T.pl,T.ld⟩;rw[T.dm,jJK];rfl
 refine⟨?_,_,jAF _ _ _⟩;unfold SetTable.orStandIn;rw[jCB,he,T2.fits hn];exact T2
def jK9 (xs:Array Nat):Nat->Nat
 | 0=>0
 | i+1=>xs.getD i 0+1
theorem jIQ {xs:Array Nat}(hr:Ris xs){i:Nat}(hi:i<=xs.size):below xs (jK9 xs i)=i:=by
 cases i with
 | zero=>exact jGZ hr (bw _) (fun a h=>absurd h (eZ _)) (fun a _ _=>bw _)
 | succ i=>
  refine jGZ hr hi (fun a ha=>?_) (fun a h1 h2=>?_)
  ·show _<xs.getD i 0+1;by_cases e:a=i
   ·rw[e]; lia
   ·have:=jCW hr (show a<i by lia) (show i<xs.size by lia);lia
  ·show xs.getD i 0+1<=_;exact jCW hr (show i<a by lia) h2
theorem jMD {α:Type}{l:List α}{i:Nat}(h:i<l.length):(l[i]::l.eraseIdx i).Perm l:=by
 rw[List.eraseIdx_eq_take_drop_succ];have e:l=l.take i++l[i]::l.drop (i+1):=by rw[<- List.drop_eq_getElem_cons h,bM]
 conv=>rhs; rw[e]
 exact List.perm_middle.symm
theorem jTQ {α:Type}(next:Nat->Nat):∀ (fuel k:Nat) (left:List α) (out:Array α),fuel=left.length->(pickOrder.go next fuel k left out).toList.Perm (out.toList++left):=by
 intro fuel
 induction fuel with
 | zero=>
  intro k left out h;have:left=[]:=gy.mp h.symm;subst this;simp [pickOrder.go]
 | succ f ih=>
  intro k left out h;have hl:next k % left.length<left.length:=Nat.mod_lt _ Aa;unfold pickOrder.go;rw[aC hl];dsimp only;refine(ih _ _ _ (by rw[List.length_eraseIdx_of_lt hl]; lia)).trans ?_;rw[eD,aZ];exact dq _ (jMD hl)
theorem jHP {α:Type}(next:Nat->Nat)(xs:Array α):(pickOrder next xs).toList.Perm xs.toList:=by
 unfold pickOrder;have:=jTQ next xs.size 0 xs.toList #[] Ad;simpa using this
end SS
namespace SS
open PySem
abbrev ledW (w:World):Bool:=!(w.params.followText "set-order")
def El (e:Int×Value)(k:Int):Prop:=e.1=hashInt k/\∃ t,e.2= .int k t
theorem jC1 {α β:Type}{F:α->β->Prop} :∀ {l:List α}{r:List β},Paired F l r->∀ a∈l,∃ b∈r,F a b
 | _,_, .nil=>fun a h=>by cases h
 | _,_, .cons f t=>fun a h=>by
  rcases aI.mp h with rfl | h
  ·exact⟨_,ai,f⟩
  ·obtain⟨b,hb,q⟩:=jC1 t a h;exact⟨b,ag _ hb,q⟩
theorem jDK {α β:Type}{F:α->β->Prop} :∀ {l:List α}{r:List β},Paired F l r->∀ b∈r,∃ a∈l,F a b
 | _,_, .nil=>fun a h=>by cases h
 | _,_, .cons f t=>fun b h=>by
  rcases aI.mp h with rfl | h
  ·exact⟨_,ai,f⟩
  ·obtain⟨a,ha,q⟩:=jDK t b h;exact⟨a,ag _ ha,q⟩
theorem jFK {α β:Type}{F:α->β->Prop}{a:α}{b:β}(f:F a b):∀ {l:List α}{r:List β}(p:Nat),Paired F l r->Paired F (l.take p++a::l.drop p) (r.take p++b::r.drop p)
 | _,_,0,q=>by simpa using Paired.cons f q
 | _,_,p+1, .nil=>by simpa using Paired.cons f .nil
 | _,_,p+1, .cons g t=>by
  simp only [List.take_succ_cons,List.drop_succ_cons,jc];exact .cons g (jFK f p t)
theorem jTH {α:Type}(l:List α)(p:Nat)(x z:α):z∈l.take p++x::l.drop p↔z=x\/z∈l:=by
 conv=>rhs; rw[<- bM p l]
 simp only [aJ,aI];constructor
 ·rintro (h | h | h)
  ·exact .inr (.inl h)
  ·exact .inl h
  ·exact .inr (.inr h)
 ·rintro (h | h | h)
  ·exact .inr (.inl h)
  ·exact .inl h
  ·exact .inr (.inr h)
theorem jG6 {α:Type}(l:List α)(p:Nat)(x:α):(l.take p++x::l.drop p).Perm (x::l):=by
 have h:(l.take p++x::l.drop p).Perm (x::(l.take p++l.drop p)):=List.perm_middle;rw[bM] at h;exact h
structure SetG (w:World)(h:Heap)(a:Addr)(ks:Ag):Prop where
 ex:∃ o es ep t,h.get? a=some o/\o.ExactSet/\o.data= .set es ep t/\Paired El es.toList ks/\Tab t es.size (ledW w)
 nd:ks.Nodup
 len:ks.length<=4
variable {prog:Program}{w:World}{A:Around}{E:Ah}{s:Shared}{a:Addr}
section
variable {ks:Ag}{k:Int}{tk:Tok}
theorem elems {es:List (Int×Value)}(h:Paired El es ks):ElemsOf (intKind prog w) es:=fun e he=>by
 obtain⟨k,_,h1,t,h2⟩:=jC1 h e he;rw[h2];exact⟨⟨k,by show Value.isInt k (.int k t)=true; simp [Value.isInt],h1⟩,rfl⟩
theorem SetG.at {h h':Heap}(S:SetG w h a ks)(e:∀ o,h.get? a=some o->h'.get? a=some o):SetG w h' a ks:=by
 obtain⟨⟨o,es,ep,t,ho,r⟩,nd,len⟩:=S;exact⟨⟨o,es,ep,t,e _ ho,r⟩,nd,len⟩
theorem jCL (k0:0<=k)(k1:k<32):hashInt k=k:=by
 obtain⟨n,rfl⟩:=Int.eq_ofNat_of_zero_le k0;have e:∀ n:Nat,n<32->hashInt (n:Int)=(n:Int):=Ab;exact e n Aa
theorem jXF {Q:Bool->Shared->Prop}(S:SetG w s.heap a ks)(hl:ks.length+1<=4)(k0:0<=k)(k1:k<32)
  (h:∀ b h' ks',Heap.SameBut a s.heap h'->SetG w h' a ks'->(∀ z,z∈ks'↔z=k\/z∈ks)->ks'.length<=ks.length+1->Q b { s with heap:=h'}):
  wpAny (model prog w) A (setAddHashed a (.int k tk) (hashInt k)) Q E s:=by
 obtain⟨o,es,ep,t,ho,hex,hd,hp,T⟩:=id S.ex;have hn:es.size=ks.length:=by rw[<- aP]; exact gc hp
 have hf:=T.fits Aa;have hel:ElemsOf (intKind prog w) es.toList:=elems hp;have hb:es.size<scanBound:=by unfold scanBound; lia
 have hi:∀ (j:Int) (t:Tok),Value.isInt k (.int j t)=true->j=k:=fun j t e=>by simpa [Value.isInt] using e
 unfold setAddHashed setAddHashedIn;refine bX (ae (dL ho hd hf ?_));dsimp only;rw[byScan_of (knd:=intKind prog w) rfl hb hel,aq rfl];unfold setAddByScan;refine ae (ae (db (ae ?_)));refine wpAny_setScan_of (knd:=intKind prog w) (k:=k) (by show Value.isInt k (.int k tk)=true; simp [Value.isInt]) ho hd hf hel ?_;have es0:s= { s with heap:=s.heap} :=by cases s; rfl
 cases hr:List.findIdx? (fun e=>(intKind prog w).is k e.2) es.toList with
 | some j=>
  obtain⟨hj,hpj,_⟩:=List.findIdx?_eq_some_iff_getElem.mp hr;obtain⟨k',hk',_,t',e'⟩:=jC1 hp _ (cU hj);have hkk:k'=k:=hi k' t' (by rw[<- e']; exact hpj);subst hkk;refine aj (aj ?_);rw[es0];exact h false s.heap ks (Heap.SameBut.refl a s.heap) S (fun z=>⟨.inr,fun q=>q.elim (fun e=>e ▸ hk') id⟩) Aa
 | none=>
  have hnk:k∉ks:=fun hm=>by
   obtain⟨e,he,_,t',e'⟩:=jDK hp k hm;have q:=List.findIdx?_eq_none_iff.mp hr e he;rw[e'] at q;have q':Value.isInt k (.int k t')=false:=q;simp [Value.isInt] at q'
  obtain⟨T1,p,hp1⟩:=jM8 T Aa es rfl (h:=hashInt k) (by rw[jCL k0 k1]; exact k0) (by rw[jCL k0 k1]; exact k1) (.int k tk);dsimp only;show wpAny _ A (match layNew t es (hashInt k) (Value.int k tk) with | (es,t,wasDummy,gave)=>_) _ E s;generalize layNew t es (hashInt k) (Value.int k tk)=L at T1 hp1 ⊢;obtain⟨es1,t1,wd,gv⟩:=L;dsimp only at T1 hp1 ⊢;have hp2:Paired El es1.toList (ks.take p++k::ks.drop p):=by
   rw[hp1];exact jFK ⟨rfl,tk,rfl⟩ p hp
  have hz1:es1.size=es.size+1:=by
   rw[<- aP,hp1,(jG6 es.toList p (hashInt k,Value.int k tk)).length_eq];simp
  have hlen:(ks.take p++k::ks.drop p).length=ks.length+1:=(jG6 ks p k).length_eq;have T1':Tab t1 es1.size (ledW w):=by rw[hz1]; exact T1
  have hg:(s.heap.update a (Obj.putSet es1 t1)).get? a=some { o with data:= .set es1 (ep+1) t1} :=by
   have q:=dZ (Obj.putSet es1 t1) ho (by rw[putSet_of es1 t1 hd]; rfl);rw[putSet_of es1 t1 hd] at q;exact q
  have fin:Q true { s with heap:=s.heap.update a (Obj.putSet es1 t1)} :=
   h true _ _ (iq ..) ⟨⟨_,es1,ep+1,t1,hg,hex,rfl,hp2,T1'⟩,(jG6 ks p k).nodup_iff.mpr (ce.mpr ⟨hnk,S.nd⟩),Aa⟩ (fun z=>jTH ks p k z) Aa
  have hfull:t1.tooFull=false:=T1'.full Aa;refine ae (show wpAny _ A (match gv with | true=>rule "set.scan.the-table-gave-way" | false=>pure ()) _ E s from ?_);have hzl:es1.size<=sizeLine:=by rw[hz1,show sizeLine=2 ^ 24 from rfl]; lia
  cases gv with
  | true=>
   refine db ?_;split
   all_goals
    refine ae (show wpAny _ A (pure true:Sem Bool) _ E s from aj ?_);simp only [g5];refine ae (wpAny_storeSet_of ho hd ?_ hzl);rw[hfull,dD,ak ay];exact aj (aj fin)
  | false=>
   refine aj ?_;split
   all_goals
    refine ae (show wpAny _ A (pure true:Sem Bool) _ E s from aj ?_);simp only [g5];refine ae (wpAny_storeSet_of ho hd ?_ hzl);rw[hfull,dD,ak ay];exact aj (aj fin)
end
theorem jBY:entryFor table "set.update.loop" =some Builtin.«set.update.loop»:=entryFor_of_fast (by kernel_rfl)
theorem jAO:plainId "set.update.loop" =true:=by decide+kernel
variable {I:Addr}
section
variable {R:Result->Shared->Prop}{fp wr:List Addr}{n:Nat}{P:Nat->Value->Prop}{St:Nat->Shared->Prop}
theorem jQ6 (W:WalksS prog w A.in1 I fp wr (fun a b=>b=a) n P St)(S:Addr)(hSf:S∉fp)(val:Nat->Int)(hval:∀ i v,P i v->∃ t,v= .int (val i) t)(hv:∀ i,i<n->0<=val i/\val i<32)(hn:n<=4):
  ∀ (k i:Nat) (s:Shared) (ks:Ag),n - i=k->i<=n->St i s->SetG w s.heap S ks->ks.length<=i->(∀ z,z∈ks↔∃ j,j<i/\val j=z)->
   (∀ s' ks',Moved (S::wr) (fun a b=>b=a) s s'->SetG w s'.heap S ks'->(∀ z,z∈ks'↔∃ j,j<n/\val j=z)->R (.ok (.ret .none)) s')->
   codeAny (model prog w) A (.builtin "set.update.loop" ⟨[.ref S, .ref I],[]⟩) R s:=by
 have hSw:S∉wr:=fun h=>hSf (W.sub _ h);have sub1:∀ b∈wr,b∈S::wr:=fun b hb=>ag _ hb;intro k
 induction k with
 | zero=>
  intro i s ks hk hi hst hS hl hm hR;obtain rfl:i=n:=by lia
  refine cB jBY ?_;rw[cz jAO _];show wpAny _ A.in1 (pyNext (.ref I) >>= _) _ _ s;refine ae (W.done s _ _ hst fun s' mv=>?_);show wpAny _ A.in1 (ret Value.none) _ _ s';exact aj (hR s' ks (mv.mono sub1) (hS.at fun o e=>mv.heap S o hSw e) hm)
 | succ k ih=>
  intro i s ks hk hi hst hS hl hm hR;have hlt:i<n:=Aa;refine cB jBY ?_;rw[cz jAO _];show wpAny _ A.in1 (pyNext (.ref I) >>= _) _ _ s;refine ae (W.item i s _ _ hlt hst fun v s' hP hst' mv=>?_);obtain⟨t,rfl⟩:=hval i v hP;have hS':=hS.at (h':=s'.heap) fun o e=>mv.heap S o hSw e;show wpAny _ A.in1 (holding [Value.int (val i) t] (setAdd S (.int (val i) t)) >>= _) _ _ s';refine ae (bX ?_);unfold setAdd;refine bX (ae (wpAny_pyHash_int ?_));refine jXF (s:= { s' with toks:=s'.toks+1}) hS' Aa (hv i hlt).1 (hv i hlt).2 fun b h' ks' sb hS2 hm2 hl2=>?_;refine aj ⟨fg jAO _,ih (i+1) _ ks' Aa hlt (W.frame _ s' _ _ hst' (dE _) fun b hb o e=>?_) hS2 Aa (fun z=>?_) fun s'' ks'' mv2 hS3 hm3=>?_⟩
  ·rw[sb.2 b (fun h:b=S=>hSf (by rw[<- h]; exact hb))];exact e
  ·rw[hm2,hm];constructor
   ·rintro (h | ⟨j,hj,e⟩)
    ·exact⟨i,Aa,h.symm⟩
    ·exact⟨j,Aa,e⟩
   ·rintro ⟨j,hj,e⟩;by_cases hji:j=i
    ·exact .inl (by rw[<- e,hji])
    ·exact .inr ⟨j,Aa,e⟩
  ·refine hR s'' ks'' (Moved.trans W.gtrans ((mv.mono sub1).then_heap (dE _) fun b o hb e=>?_) mv2) hS3 hm3;rw[sb.2 b (fun h:b=S=>hb (by rw[h]; exact ai))];exact e
end
section
theorem jUH (a:Value){Q:Ah}
  (h:Q (.ref s.heap.objs.size) { s with heap:=s.heap.push { cls:= .type "set",dict:=none,data:= .set #[] 0 (.fresh 0 0 (ledW w))}}):
  codeAny (model prog w) A (.call (.builtin "set.__new__") ⟨[.type "set",a],[]⟩) (wants Q E) s:=by
 refine codeAny_of_tree (show wpAny _ A.in1 (do checkBuiltinCall "set.__new__" ⟨[.type "set",a],[]⟩; again (.builtin "set.__new__" ⟨[.type "set",a],[]⟩)) _ _ s from ?_);refine ae (wpAny_of_eq (F.newCall_set_1 a) (aj ⟨fg F.plain_set_new _,cB F.entry_set_new ?_⟩));rw[cz F.plain_set_new _];unfold Builtin.«set.__new__» Builtin.Frozenset.newClass;have q:=sub_set_self;obtain⟨hp,g,d,tk,os⟩:=s;dsimp only
 wp_walk
 refine fz (aj ?_);dsimp only;simp only [newObj];exact ae (wpAny_alloc (aj (aj h)))
set_option maxHeartbeats 3200000 in
theorem set_of_list {l:Addr}{items:Ao}{ns:Ag}{Q:Ah}(hh:A.handled=none)(hl:s.heap.IsList l items)(hi:PyProof.Rows.IntsAre items.toList ns)
  (hn:items.size<=4) (hv:∀ z∈ns,0<=z/\z<32)
  (h:∀ (h':Heap) (tk:Nat) (ks:Ag),SetG w h' s.heap.objs.size ks->(∀ z,z∈ks↔z∈ns)->(∀ b o,s.heap.get? b=some o->h'.get? b=some o)->Q (.ref s.heap.objs.size) { s with heap:=h',toks:=tk}):
  wpAny (model prog w) A (call (.type "set") [.ref l]) Q E s:=by
 obtain⟨c,tl,hmro⟩:=F.called_set.mro;have hmade:=F.called_set.made;have hsub:=F.called_set.sub;have g1:=F.called_set.notType;have g2:=F.called_set.canCreate;have g3:=F.typeCall_set_1 (.ref l);refine iI (codeAny_of_tree (show wpAny _ _ (callAny (.type "set") _) _ _ _ from ?_));refine aj ⟨Code.quiet_builtin _ Ab,cB F.entry_type_call ?_⟩;rw[Around.under_plain (weight_type_call_type "set" [.ref l] []) rfl]
 repeat (any_goals (first | assumption | wp_step))
 have hlen:items.size=ns.length:=by rw[<- aP]; exact hi.length
 refine dS (jUH (.ref l) (E:=E) (Q:=fun obj z=>obj= .ref s.heap.objs.size/\z= { s with heap:=s.heap.push { cls:= .type "set",dict:=none,data:= .set #[] 0 (.fresh 0 0 (ledW w))}}) ⟨rfl,rfl⟩) fun r z hr=>?_;cases r with
 | error e=>exact hr
 | ok fl=>
  cases fl with
  | ret obj=>
   obtain⟨rfl,rfl⟩:=hr;generalize hO:({ cls:= .type "set",dict:=none,data:= .set #[] 0 (.fresh 0 0 (ledW w))} :Obj)=oS;have hS:(s.heap.push oS).get? s.heap.objs.size=some oS:=aF _ (by rw[<- hO]; rfl);have hT:Shared.TypeIs { s with heap:=s.heap.push oS} (.ref s.heap.objs.size) "set" :=⟨_,hS,by rw[<- hO]⟩;have hli:=F.called_set.init.lookup;have hbi:=F.called_set.init.bind (.ref s.heap.objs.size)
   repeat (any_goals (first | assumption | wp_step))
   refine dS (codeAny_call_builtin (R:=wants (fun r z2=>r= .none/\∃ h' tk ks,z2= { s with heap:=h',toks:=tk} /\SetG w h' s.heap.objs.size ks/\(∀ z,z∈ks↔z∈ns)/\(∀ b o,s.heap.get? b=some o->h'.get? b=some o)) E)
    F.called_set.init.plain F.entry_set_init (check_set_init_1 hT ?_)) fun r2 z2 hr2=>?_
   ·obtain⟨ol,hol,hcl,nl,hdl⟩:=hl;obtain⟨ocls,odict,odata,oslots⟩:=ol;simp only at hcl hdl;subst hcl; subst hdl;have hol':(s.heap.push oS).get? l=some { cls:= .type "list",dict:=odict,data:= .seq items nl,slots:=oslots} :=ah _ hol;have y1:=F.sub_list_set;have y2:=F.sub_list_frozenset;have y3:(Value.type "list" ==Value.type "dict")=false:=Ac;have hl1:(s.heap.push oS).IsList l items:=⟨_,hol',rfl,nl,rfl⟩;subst hO;unfold Builtin.«set.__init__» noKeywords Builtin.Frozenset.updateFrom;generalize hPI:pyIter=PI
    wp_walk
    subst hPI;refine dJ hl1 (ae (iK ?_));have hlS:l<s.heap.objs.size:=aK hol;have hz1:(s.heap.push { cls:= .type "set",dict:=none,data:= .set #[] 0 (.fresh 0 0 (ledW w))}).objs.size=s.heap.objs.size+1:=eR _ _;have nI:l≠(s.heap.push { cls:= .type "set",dict:=none,data:= .set #[] 0 (.fresh 0 0 (ledW w))}).objs.size:=by
     rw[hz1];exact aW (da hlS)
    have nS:s.heap.objs.size∉ [(s.heap.push { cls:= .type "set",dict:=none,data:= .set #[] 0 (.fresh 0 0 (ledW w))}).objs.size,l]:=by
     rw[hz1];simp only [aI,bH,dr,lz];exact⟨aW (Nat.lt_succ_self _),cP hlS⟩
    have hget:((s.heap.push { cls:= .type "set",dict:=none,data:= .set #[] 0 (.fresh 0 0 (ledW w))}).push { cls:= .type "list_iterator",data:= .fields #[.ref l, .int 0 0]}).get? s.heap.objs.size
      =some { cls:= .type "set",dict:=none,data:= .set #[] 0 (.fresh 0 0 (ledW w))} :=ah _ hS
    refine jQ6 ((jn (by simp [hh]) _ l nI items).toS) s.heap.objs.size nS (fun i=>ns.getD i 0) (fun i v q=>PyProof.Rows.IntsAre.int_at hi i v (by rw[bY]; exact q))
     (fun i q=>hv _ ?_) hn (items.size - 0) 0 _ [] rfl (bw _) ⟨⟨_,aF _ rfl,rfl,rfl⟩,hl1.push _⟩ ⟨⟨_,#[],0,_,hget,⟨rfl,rfl,rfl⟩,rfl, .nil,jMU _⟩,ko,bw _⟩ (aA _) (fun z=>⟨fun q=>by(cases q),fun ⟨j,q,_⟩=>absurd q (eZ _)⟩) ?_
    ·have q':i<ns.length:=by rw[<- hlen]; exact q
     simp [List.getD,q']
    ·intro s' ks mv S' hm;obtain⟨h',g',d',tk',os'⟩:=s';have e1:g'=s.gens:=mv.gens;have e2:d'=s.drawn:=mv.drawn;have e3:os'=s.os:=mv.os;subst e1; subst e2; subst e3;refine aj (aj ⟨rfl,h',tk',ks,rfl,S',fun z=>?_,fun b o e=>?_⟩)
     ·rw[hm];constructor
      ·rintro ⟨j,hj,e⟩;have hj':j<ns.length:=by rw[<- hlen]; exact hj
       rw[<- e];simp [List.getD,hj']
      ·intro hz;obtain⟨j,hj,e⟩:=eQ hz;exact⟨j,by rw[hlen]; exact hj,by simp [List.getD,hj,e]⟩
     ·have hb:=aK e;refine mv.heap b o ?_ (ah _ (ah _ e));rw[hz1];simp only [aI,bH,dr,lz];exact⟨aW hb,aW (da hb)⟩
   ·cases r2 with
    | error e=>exact hr2
    | ok fl2=>
     cases fl2 with
     | ret r=>
      obtain⟨rfl,h',tk,ks,rfl,hS',hm,hk⟩:=hr2
      repeat (any_goals (first | assumption | wp_step))
      exact h _ _ _ hS' hm hk
     | _=>exact hr2.elim
  | _=>exact hr.elim
end
theorem slot_si_next:Slot "set_iterator" "__next__" "set_iterator.__next__" :=
 .of (owner:= "set_iterator") (n:= "__next__") (by
   rw[jw,gS]
   kernel_rfl) Ab Ab
  Ab
  (by first
   | exact .inl Ab
   | exact .inr Ab)
  (by
   rw[kq]
   kernel_rfl)
theorem jDE:Slot "set_iterator" "__iter__" "set_iterator.__iter__" :=
 .of (owner:= "set_iterator") (n:= "__iter__") (by
   rw[jw,gS]
   kernel_rfl) Ab Ab
  Ab
  (by first
   | exact .inl Ab
   | exact .inr Ab)
  (by
   rw[kq]
   kernel_rfl)
theorem jCN:entryFor table "set_iterator.__next__" =some Builtin.«set_iterator.__next__»:=entryFor_of_tree (by kernel_rfl)
theorem jF7:entryFor table "set.__iter__" =some Builtin.«frozenset.__iter__»:=
 entryFor_alias (id':= "frozenset.__iter__") (by kernel_rfl) rfl Ab (by kernel_rfl)
theorem jGT:entryFor table "set_iterator.__iter__" =some Builtin.«dict_keyiterator.__iter__»:=
 entryFor_alias (id':= "dict_keyiterator.__iter__") (by kernel_rfl) (by first | rfl | decide+kernel | (unfold String.splitOn; simp+decide [String.splitOnAux])) Ab
  (by kernel_rfl)
theorem jDO (a:Value):argsOk "set_iterator.__next__" ⟨[a],[]⟩:=by unfold argsOk; kernel_rfl
theorem jIR (a:Value):argsOk "set_iterator.__iter__" ⟨[a],[]⟩:=by unfold argsOk; kernel_rfl
theorem jH2 (a:Value):argsOk "set.__iter__" ⟨[a],[]⟩:=by unfold argsOk; kernel_rfl
abbrev byTxt (w:World):Bool:=w.params.followText "set-order"
abbrev IsSI (h:Heap)(I:Addr)(slot i:Nat)(a:Addr)(n ep:Nat):Prop:=
 h.get? I=some { cls:= .type "set_iterator",dict:=none,data:= .fields #[rawInt slot,rawInt i, .ref a,rawInt n,rawInt ep],slots:=#[]}
def qE (w:World)(t:SetTable)(i:Nat):Nat:=if byTxt w=true then 0 else jK9 t.place i
def told (w:World)(a:Addr)(ep:Nat)(es:Array (Int×Value)):Am:=(if byTxt w=true then (pickOrder (w.params.setOrder a ep) es).toList else es.toList).map (·.2)
theorem jAV (w:World)(a:Addr)(ep:Nat)(es:Array (Int×Value)):(told w a ep es).length=es.size:=by
 unfold told;rw[af];split
 ·rw[(jHP _ es).length_eq]; simp
 ·simp
theorem jMS (w:World)(a:Addr)(ep:Nat)(es:Array (Int×Value)):(told w a ep es).Perm (es.toList.map (·.2)):=by
 unfold told;split
 ·exact(jHP _ es).map _
 ·exact .refl _
variable {o:Obj}{es:Array (Int×Value)}{ep:Nat}{t:SetTable}
theorem jNV {i:Nat}{Q:Option (Value×Nat)->Shared->Prop}(ho:s.heap.get? a=some o)(hd:o.data= .set es ep t)(T:Tab t es.size (ledW w))(hn:es.size<=4)(hi:i<=es.size)
  (h:Q ((told w a ep es)[i]?.map fun v=>(v,qE w t (i+1))) s):wpAny (model prog w) A (setNext a (qE w t i) i ep) Q E s:=by
 unfold setNext;refine ae (dL ho hd (T.fits hn) ?_);dsimp only;unfold setsByText;refine ae (ae (fz (aj ?_)));show wpAny _ A (if byTxt w=true then _ else _) Q E s;have hl:=jAV w a ep es;by_cases hb:byTxt w=true
 ·rw[aq hb,ak Ad];unfold setWalk;refine ae (ae (dL ho hd (T.fits hn) ?_));dsimp only;unfold setsByText;refine ae (ae (fz (aj ?_)));show wpAny _ A (if byTxt w=true then _ else _) _ E s;rw[aq hb];refine ae (fz (aj (aj ?_)));have e:(told w a ep es)[i]?.map (fun v=>(v,qE w t (i+1)))=(pickOrder (w.params.setOrder a ep) es)[i]?.map (fun e=>(e.snd,qE w t i)):=by
   unfold told qE;rw[aq hb,aq hb,aq hb,aV,bY,Option.map_map];rfl
  rw[e] at h;exact h
 ·rw[ak hb];have hb':byTxt w=false:=by simpa using hb
  have hld:t.led=true:=by rw[T.ld]; show (!byTxt w)=true; rw[hb']; rfl
  show wpAny _ A (if (!t.plain&&decide (es.size>1))=true then _ else _) Q E s;rw[T.pl,lh,dC,ak ay];refine ae ?_;show wpAny _ A (if (!t.led&&!es.isEmpty)=true then _ else pure ()) _ E s;rw[hld,lh,dC,ak ay];refine aj (aj ?_);have eb:SetTable.below t.place (qE w t i)=i:=by
   unfold qE;rw[ak hb];exact jIQ T.ris (by rw[T.sz]; exact hi)
  rw[eb];have et:(told w a ep es)[i]?=es[i]?.map (·.2):=by
   unfold told;rw[ak hb,aV,bY]
  rw[et] at h;by_cases hlt:i<es.size
  ·have h1:es[i]?=some es[i]:=by simp [hlt]
   have hlt2:i<t.place.size:=by rw[T.sz]; exact hlt
   have h2:t.place[i]?=some t.place[i]:=by simp [hlt2]
   have h3:qE w t (i+1)=t.place[i]+1:=by
    unfold qE jK9;rw[ak hb];simp [Array.getD,hlt2]
   rw[h1,h3] at h;rw[h1,h2];exact h
  ·have h1:es[i]?=none:=by simp; lia
   rw[h1] at h;rw[h1];exact h
theorem jHG {i:Nat}{v:Value}{Q:Ap->Shared->Prop}(ho:s.heap.get? a=some o)(hd:o.data= .set es ep t)(T:Tab t es.size (ledW w))(hn:es.size<=4)
  (hit:IsSI s.heap I (qE w t i) i a es.size ep) (hv:(told w a ep es)[i]?=some v)
  (hQ:∀ h',IsSI h' I (qE w t (i+1)) (i+1) a es.size ep->Heap.SameBut I s.heap h'->Q (some v) { s with heap:=h'}):wpAny (model prog w) A (pyNext (.ref I)) Q E s:=by
 have hT:s.TypeIs (.ref I) "set_iterator" :=⟨_,hit,rfl⟩;have hi:i<es.size:=by
  rw[<- jAV w a ep es];exact(ao.mp hv).1
 unfold pyNext;refine ae (eG (cV (name:=Str.ofString "__next__") hT slot_si_next (cE slot_si_next hT jCN ?_ (jDO _))));unfold Builtin.«set_iterator.__next__»;refine ae (m:=slotArgs "__next__" 0 _) (aj ?_);dsimp only;unfold fieldsOf;refine ae (ae (gU hit ?_));refine aj ?_;dsimp only [rawInt];unfold setEntries;refine ae (ae (dL ho hd (T.fits hn) (aj ?_)));rw[ak Ad];simp only [bz];refine ae (jNV ho hd T hn (cY hi) ?_);rw[hv];dsimp only [Option.map];refine ae (cS hit Ad fun h1 hit1 sb1=>?_);refine ae (cS hit1 Ad fun h2 hit2 sb2=>?_);refine aj ⟨v,rfl,aj (hQ h2 ?_ (sb1.trans sb2))⟩;show h2.get? I=_;rw[hit2];simp [rawInt]
theorem jJ1 {Q:Ap->Shared->Prop}(hh:A.handled=none)(ho:s.heap.get? a=some o)(hd:o.data= .set es ep t)(T:Tab t es.size (ledW w))(hn:es.size<=4)
  (hit:IsSI s.heap I (qE w t es.size) es.size a es.size ep)
  (hQ:∀ h',Heap.ExtBut I s.heap h'->Q none { s with heap:=h'}):wpAny (model prog w) A (pyNext (.ref I)) Q E s:=by
 have hT:s.TypeIs (.ref I) "set_iterator" :=⟨_,hit,rfl⟩;unfold pyNext;refine ae (eG (cV (name:=Str.ofString "__next__") hT slot_si_next (cE slot_si_next hT jCN ?_ (jDO _))));unfold Builtin.«set_iterator.__next__»;refine ae (m:=slotArgs "__next__" 0 _) (aj ?_);dsimp only;unfold fieldsOf;refine ae (ae (gU hit ?_));refine aj ?_;dsimp only [rawInt];unfold setEntries;refine ae (ae (dL ho hd (T.fits hn) (aj ?_)));rw[ak Ad];simp only [bz];refine ae (jNV ho hd T hn (aA _) ?_);rw[dv (by rw[jAV]; exact aA _)];dsimp only [Option.map];refine ae (cS hit Ad fun h1 hit1 sb1=>?_);refine ae ?_;simp only [newExc,newTuple];refine ae (cZ ?_ (by size_fits));refine ae (m:=firstArgMember _ _) (wpAny_of_eq (a:=Value.none) (by first | rfl | (simp only [firstArgMember]; rfl)) ?_);refine cZ ?_ (by size_fits);simp only [raiseNew];refine ae (wpAny_handled ?_);rw[show A.in1.handled=none from hh];refine ae (aj (wpAny_throw ?_));refine ae (jd (T:= "StopIteration") (b:=true) ⟨_,aF _ rfl,rfl⟩ isSubtype_stop ?_);exact aj (hQ _ ((sb1.extBut.push _).push _))
theorem jTA {i:Nat}{slot n:Nat}{Q:Ah}(hit:IsSI s.heap I slot i a n ep)(h:Q (.ref I) s):wpAny (model prog w) A (pyIter (.ref I)) Q E s:=by
 have hT:s.TypeIs (.ref I) "set_iterator" :=⟨_,hit,rfl⟩;refine wpAny_pyIter_slot hT jDE (cE jDE hT jGT ?_ (jIR _));show wpAny _ _ (ret (.ref I)) _ _ s;exact aj ⟨_,rfl,"set_iterator",_,hT,slot_si_next.lookup,h⟩
theorem jQB {Q:Ah}(hx:o.ExactSet)(ho:s.heap.get? a=some o)(hd:o.data= .set es ep t)(T:Tab t es.size (ledW w))(hn:es.size<=4)
  (hQ:∀ h',h'.get? s.heap.objs.size=some { cls:= .type "set_iterator",dict:=none,data:= .fields #[rawInt (qE w t 0),rawInt 0, .ref a,rawInt es.size,rawInt ep],slots:=#[]} ->(∀ b u,s.heap.get? b=some u->h'.get? b=some u)->
   h'.objs.size=s.heap.objs.size+1->Q (.ref s.heap.objs.size) { s with heap:=h'}):wpAny (model prog w) A (pyIter (.ref a)) Q E s:=by
 have hT:s.TypeIs (.ref a) "set" :=⟨o,ho,hx.1⟩;refine wpAny_pyIter_slot hT ki (cE ki hT jF7 ?_ (jH2 _));unfold Builtin.«frozenset.__iter__»;refine ae (show wpAny _ _ (pure a:Sem Addr) _ _ s from aj ?_);unfold Builtin.Frozenset.sizeOf setEntries;refine ae (ae (ae (dL ho hd (T.fits hn) (aj (aj ?_)))));dsimp only;unfold setDrawn;refine ae (ae (dL ho hd (T.fits hn) ?_));dsimp only;unfold setsByText;refine ae (ae (fz (aj (aj ?_))));show wpAny _ _ (if (!byTxt w&&(!t.plain&&decide (es.size>1)))=true then _ else _) _ _ s;rw[T.pl,lh,dC,dD,ak ay];refine ae (aj ?_);refine ae (wpAny_setEpoch_of ho hd (T.fits hn) ?_);refine ae (cZ (aj ⟨_,rfl,"set_iterator",_,⟨_,aF _ rfl,rfl⟩,slot_si_next.lookup,hQ _ ?_ (fun b u e=>ah _ e) (eR _ _)⟩) (by size_fits));have e0:qE w t 0=0:=by unfold qE jK9; split <;> rfl
 rw[e0];exact aF _ rfl
theorem jMO (hh:A.handled=none)(hne:a≠I)(hd:o.data= .set es ep t)(T:Tab t es.size (ledW w))(hn:es.size<=4):
  Walks prog w A I [I,a] [I] es.size (fun i v=>(told w a ep es)[i]?=some v) (fun i h=>IsSI h I (qE w t i) i a es.size ep/\h.get? a=some o) where
 sub:=fun b hb=>by simp at hb; simp [hb]
 frame:=fun _ _ _ st hk=>⟨hk I Ad _ st.1,hk a Ad _ st.2⟩
 item:=fun i s Q E hi st hQ=>by
  obtain⟨v,hv⟩:∃ v,(told w a ep es)[i]?=some v:=⟨_,aC (by rw[jAV]; exact hi)⟩;exact jHG st.2 hd T hn st.1 hv fun h' hit' sb=>hQ v h' s.toks hv ⟨hit',(sb.2 a hne).trans st.2⟩ fun b o hb e=>(sb.2 b (fun z=>hb (by simp [z]))).trans e
 done:=fun s Q E st hQ=>jJ1 hh st.2 hd T hn st.1 fun h' eb=>hQ h' s.toks fun b o hb e=>eb b o (fun z=>hb (by simp [z])) e
 self:=fun _ _ _ _ st hQ=>jTA st.1 hQ
theorem jHE:typeLookup (.type "set") "__len__" =pure (some (.builtin "set.__len__")):=by rw[jw,gS]; kernel_rfl
theorem jRC {Q:Bool->Shared->Prop}(hT:s.TypeIs (.ref a) "set")(h:Q false s):wpAny (model prog w) A (Builtin.List.listLengthHint (.ref a)) Q E s:=by
 unfold Builtin.List.listLengthHint;refine ae (wpAny_specialOf hT jHE ?_);generalize hid:("set.__len__" :String)=id0
 wp_delta
 rw[show splitId id0=some ("set","__len__") from by subst hid; decide+kernel];subst hid;refine ae (jd (b:=true) hT (by rw[kq]; kernel_rfl) ?_);refine wpAny_ite_split (fun q=>absurd q Ac) (fun _=>?_);refine wpAny_ite_split (fun _=>?_) (fun q=>absurd Ab q);exact ae (jo hT (aj h))
theorem jJU {Q:Am->Shared->Prop}(hh:A.handled=none)(hx:o.ExactSet)(ho:s.heap.get? a=some o)(hd:o.data= .set es ep t)(T:Tab t es.size (ledW w))(hn:es.size<=4)
  (hQ:∀ s',(∀ b u,s.heap.get? b=some u->s'.heap.get? b=some u)->s'.gens=s.gens->s'.drawn=s.drawn->s'.os=s.os->s.heap.objs.size<s'.heap.objs.size->Q (told w a ep es) s'):wpAny (model prog w) A (collect (.ref a)) Q E s:=by
 have ha:a<s.heap.objs.size:=aK ho;have hSa:s.heap.objs.size≠a:=cP ha;unfold collect;refine ae (iK (cB PySem.F.entry_proto_collect ?_));rw[cz iw _];show wpAny _ A.in1 (newList [] >>= fun l=>again (.builtin "list.__iadd__" ⟨[l, .ref a],[]⟩)) _ _ s;refine ae (cZ (aj ⟨fg eS _,cB PySem.F.entry_list_iadd ?_⟩));rw[cz eS _];generalize hE:({ s with heap:=s.heap.push { cls:= .type "list",dict:=none,data:= .seq ([]:Am).toArray}} :Shared)=s1;have ho1:s1.heap.get? a=some o:=by rw[<- hE]; exact ah _ ho
 have hL1:s1.heap.get? s.heap.objs.size=some { cls:= .type "list",dict:=none,data:= .seq ([]:Am).toArray} :=by rw[<- hE]; exact aF _ rfl
 have hz1:s1.heap.objs.size=s.heap.objs.size+1:=by rw[<- hE]; exact eR _ _
 have hT1:s1.TypeIs (.ref a) "set" :=⟨o,ho1,hx.1⟩;show wpAny _ A.in1 (Builtin.List.listExtendWith (.ref s.heap.objs.size) (.ref a) (.ref s.heap.objs.size)) _ _ _;unfold Builtin.List.listExtendWith;refine ae (jo hT1 ?_);have q1:Builtin.List.listSameRef (.ref s.heap.objs.size) (.ref a)=false:=by simp [Builtin.List.listSameRef,hSa]
 rw[ak (by rw[q1]; decide)];refine ae (jQB hx ho1 hd T hn fun h2 hI2 k2 z2=>?_);refine ae (bX ?_);have ho2:h2.get? a=some o:=k2 _ _ ho1;have hT2:Shared.TypeIs { s1 with heap:=h2} (.ref a) "set" :=⟨o,ho2,hx.1⟩;have hL2:=k2 _ _ hL1;refine jRC hT2 ?_;rw[aq Ab];refine ae (db ?_);have hne:s.heap.objs.size≠s1.heap.objs.size:=Aa;refine ae ?_;show wpAny _ A.in1 (updateSeq s.heap.objs.size (·.push .none) >>= fun _=>updateSeq s.heap.objs.size (·.pop)) _ _ _;refine ae (wpAny_updateSeq hL2 rfl ?_);have hL3:=dZ (Obj.mapSeq (·.push Value.none)) hL2 rfl;refine wpAny_updateSeq hL3 rfl ?_;have hL4:=dZ (Obj.mapSeq (·.pop)) hL3 rfl;have oth:∀ b u,b≠s.heap.objs.size->h2.get? b=some u->((h2.update s.heap.objs.size (Obj.mapSeq (·.push Value.none))).update s.heap.objs.size (Obj.mapSeq (·.pop))).get? b=some u:=
  fun b u hb e=>(bE _ _ (ev hb)).trans ((bE _ _ (ev hb)).trans e)
 have W:=(jMO (prog:=prog) (A:=A.in1) (a:=a) (I:=s1.heap.objs.size) hh (aW (show a<s1.heap.objs.size by rw[hz1]; exact da ha)) hd T hn).toS;have z24:es.size<=sizeLine:=by rw[show sizeLine=2 ^ 24 from rfl]; lia
 refine aj ⟨fg PySem.F.plain_extend_loop _,codeAny_extend_loopS W z24 s.heap.objs.size (by simp [hne,hSa]) _ es.size 0 _ _ _ rfl (bw _) ⟨oth _ _ (ev hne) hI2,oth _ _ (ev hSa) ho2⟩ hL4 (ItemsOf.nil _) fun s' acc' c' hm hS' hacc=>?_⟩;show wpAny _ A (load s.heap.objs.size >>= _) _ _ s';refine ae (gU hS' ?_);have eacc:acc'.toList=told w a ep es:=by
  apply List.ext_getElem?;intro i;by_cases hi:i<es.size
  ·have hi':i<acc'.size:=by rw[hacc.1]; exact hi
   have:=hacc.2 i acc'[i] (by simp [hi']);rw[this];simp [hi']
  ·rw[dv (by rw[aP,hacc.1]; lia),dv (by rw[jAV]; lia)]
 refine aj ?_;rw[eacc];refine hQ s' (fun b u e=>?_) ?_ ?_ ?_ (aK hS')
 ·have hb:b≠s.heap.objs.size:=aW (aK e);have hb1:b≠s1.heap.objs.size:=aW (show b<s1.heap.objs.size by rw[hz1]; exact da (aK e));exact hm.heap b u (by simp [hb,hb1]) (oth b u hb (k2 b u (by rw[<- hE]; exact ah _ e)))
 ·have:=hm.gens; rw[<- hE] at this; exact this
 ·have:=hm.drawn; rw[<- hE] at this; exact this
 ·have:=hm.os; rw[<- hE] at this; exact this
end SS
namespace SS
open PySem PyProof.Rows
section
variable {prog:Program}{w:World}{A:Around}{E:Ah}{s:Shared}{a:Addr}{ks:Ag}
theorem jOZ:∀ {vs:Am}{ks:Ag},Paired (fun v k=>∃ t,v=Value.int k t) vs ks->IntsAre vs ks
 | _,_, .nil=> .nil
 | _,_, .cons ⟨t,e⟩ r=>by subst e; exact .cons _ t (jOZ r)
theorem jFL {es:List (Int×Value)} :∀ {ks:Ag},Paired El es ks->Paired (fun v k=>∃ t,v=Value.int k t) (es.map (·.2)) ks
 | _, .nil=> .nil
 | _, .cons ⟨_,q⟩ r=> .cons q (jFL r)
theorem jJ4 {α β:Type}{F:α->β->Prop}{l l':List α}(p:l'.Perm l):∀ {r:List β},Paired F l r->∃ r',Paired F l' r'/\r'.Perm r:=by
 induction p with
 | nil=>intro r h; cases h; exact⟨[], .nil, .nil⟩
 | cons x _ ih=>
  intro r h;cases h with
  | cons f t=>
   obtain⟨r',h1,h2⟩:=ih t;exact⟨_::r', .cons f h1,h2.cons _⟩
 | swap x y l=>
  intro r h;cases h with
  | cons f t=>
   cases t with
   | cons g t=>exact⟨_, .cons g (.cons f t), .swap _ _ _⟩
 | trans _ _ ih1 ih2=>
  intro r h;obtain⟨r1,h1,h2⟩:=ih2 h;obtain⟨r2,h3,h4⟩:=ih1 h1;exact⟨r2,h3,h4.trans h2⟩
theorem sorted_set {Q:Ah}(hh:A.handled=none)(S:SetG w s.heap a ks)
  (h:∀ (s':Shared) (l:Addr) (vs:Am) (ns:Ag) (e:Nat),s.heap.objs.size<=l->(∀ b u,s.heap.get? b=some u->s'.heap.get? b=some u)->s'.gens=s.gens->s'.drawn=s.drawn->s'.os=s.os->
   s'.heap.get? l=some { cls:= .type "list",data:= .seq vs.toArray e} ->IntsAre vs ns->ns.Perm ks->ns.Pairwise (· <= ·)->Q (.ref l) s'):
  wpAny (model prog w) A (call (.builtin "sorted") [.ref a]) Q E s:=by
 obtain⟨o,es,ep,t,ho,hex,hd,hp,T⟩:=S.ex;have hn:es.size<=4:=by
  have:=gc hp;rw[aP] at this;have:=S.len;lia
 refine fU iT ix iy (args_sorted1 _) ?_;unfold Builtin.«sorted»;refine ae (m:=checkCount "sorted" 1 1 _) (aj ?_);refine ae (jJU (A:=A.in1) hh hex ho hd T hn fun s1 k1 g1 d1 o1 z1=>?_);refine ae (eI ?_ (by rw[jAV,show sizeLine=2 ^ 24 from rfl]; lia));obtain⟨ks1,hp1,pm1⟩:=jJ4 (jMS w a ep es) (jFL hp);have hI:=jOZ hp1;have hl:(told w a ep es).length<64:=by rw[jAV]; lia
 have hL:(s1.heap.push (seqObj "list" (told w a ep es).toArray 0)).get? s1.heap.objs.size=some (seqObj "list" (told w a ep es).toArray 0):=aF _ rfl;show wpAny _ _ _ _ _ { s1 with heap:=s1.heap.push (seqObj "list" (told w a ep es).toArray 0)};refine ae (bX (cE gF ⟨_,hL,rfl⟩ gj (list_sort_tree hL hI hl fun out ns' a1 a2 a3=>⟨_,rfl,?_⟩) (args_list_sort _)));obtain⟨e,he⟩:=sortedHeap_at (out:=out) hL;have kept:∀ b u,s.heap.get? b=some u->(sortedHeap (s1.heap.push (seqObj "list" (told w a ep es).toArray 0)) s1.heap.objs.size (told w a ep es) out).get? b=some u:=fun b u q=>by
  have q1:=k1 b u q;have hb:b<s1.heap.objs.size:=aK q1;rw[sortedHeap_old (aW hb) (by rw[gY]; exact da hb)];exact ah _ q1
 generalize sortedHeap (s1.heap.push (seqObj "list" (told w a ep es).toArray 0)) s1.heap.objs.size (told w a ep es) out=hf at he kept ⊢;exact aj ⟨_,rfl,h { s1 with heap:=hf} s1.heap.objs.size out.toList ns' e (cY z1) kept g1 d1 o1 (by rw[cW]; exact he) a1 (a2.trans pm1) a3⟩
end
end SS
namespace L2
open PySem PySem.Spec PyProof.Rows
variable {es xs:List Expr}{env:Env}{a b:Expr}{pos:Pos}
section
variable {ys:List Expr}
theorem yB {op:Operator} :starEach (.BinOp a op b pos::es) env=(false,eval (.BinOp a op b pos) env)::starEach es env:=rfl
theorem se_un {op:UnaryOp} :starEach (.UnaryOp op a pos::es) env=(false,eval (.UnaryOp op a pos) env)::starEach es env:=rfl
theorem jS9 {ops:List CmpOp} :starEach (.Compare a ops xs pos::es) env=(false,eval (.Compare a ops xs pos) env)::starEach es env:=rfl
theorem jG {kw:List Keyword} :starEach (.Call a xs kw pos::es) env=(false,eval (.Call a xs kw pos) env)::starEach es env:=rfl
theorem jN:starEach (.Subscript a b pos::es) env=(false,eval (.Subscript a b pos) env)::starEach es env:=rfl
theorem jF {gs sc} :starEach (.ListComp a gs sc pos::es) env=(false,eval (.ListComp a gs sc pos) env)::starEach es env:=rfl
theorem jDF {x1} :starEach (.Tuple xs x1 pos::es) env=(false,eval (.Tuple xs x1 pos) env)::starEach es env:=rfl
theorem kO {c k} :starEach (.Constant c k pos::es) env=(false,eval (.Constant c k pos) env)::starEach es env:=rfl
theorem j4 {x:Str} :starEach (.Name x pos::es) env=(false,eval (.Name x pos) env)::starEach es env:=rfl
end
variable {X:Cx}
def CDivL (i j:Int):Prop:=0<j/\j<2 ^ 64
theorem jKL:OpR X (binaryOp .FloorDiv) (rI CDivL fun i j=> .int (i / j)):=opI fun i j _ _ _ _ _ hc q=>by
 have h1:(0:Int)<j:=hc.1;have h2:j<2 ^ 64:=hc.2;refine floordiv_int Aa (by rw[iH i Aa]; exact q) (.inl (PyProof.noPylong_of_log2 ?_));have h3:j.natAbs<2 ^ 64:=Aa;have h4:j.natAbs≠0:=Aa;have:=(Nat.log2_lt h4).mpr h3;lia
theorem jC8:yV X (.builtin "isinstance") (fun xs H Q=>∃ x T t b,xs=[x, .ty T]/\TyOf X.K H x t/\kitOne X.K t (.type T)=some b/\Q (.bl b) H):=by
 intro lH s σ H xs us Q I r h;obtain⟨x,T,t,b,rfl,ty,e,q⟩:=h;obtain⟨u,v,rfl,ru,rv⟩:=r.two;cases rv;exact jOY I ru ty e fun tk=>⟨.bl b,H,I.tok tk,rfl,q⟩
def jTC:V->List V->Hp->VK->Prop:=fun x vs H Q=>∃ l xs i y,x= .ref l/\vs=[.int i,y]/\H l=some (.lst xs)/\0<=i/\i<=xs.length/\xs.length<sizeLine/\Q .non (upd H l (.lst (xs.take i.toNat++y::xs.drop i.toNat)))
theorem Vals.put {y:V}{v:Value}(r:RelV y v){xs:List V}{us:Am}(h:Vals xs us)(k:Nat):Vals (xs.take k++y::xs.drop k) (us.take k++v::us.drop k):=(h.take k).append (.cons r (h.drop k))
theorem jO0:MtM X "list.insert" jTC:=by
 intro lH s σ H x vs v us Q I rx rv h;obtain⟨l,xs,i,y,rfl,rfl,hH,h0,h1,hz,q⟩:=h;cases rx;obtain⟨a,b,rfl,ra,rb⟩:=rv.two;obtain⟨t,rfl⟩:=ra;obtain⟨z,its,n,r,hl,e⟩:=I.lstM hH;have line:=jI0;have hf:Builtin.List.listFitsIndex i=true:=fitsIndex_both Aa Aa;refine gX F.slot_list_insert ⟨_,e,rfl⟩ F.entry_list_insert (F.args_list_insert_3 _ _ _) (AutoSeq1.list_insert_list_int_val_1 l its.toArray n i t b (by simp [hf]) (by rw[az]; lia)) ⟨e,?_⟩;refine⟨.non,_,I.lset (its':=its.take i.toNat++b::its.drop i.toNat) hH e ?_ (Vals.put rb r i.toNat) ?_,rfl,q⟩
 ·have hk:(if i<0 then (i+(its.toArray.size:Int)).toNat else min i.toNat its.toArray.size)=i.toNat:=by
   rw[ak Aa,az];lia
  show (its.toArray.extract 0 (if i<0 then (i+(its.toArray.size:Int)).toNat else min i.toNat its.toArray.size)).push b++its.toArray.extract (if i<0 then (i+(its.toArray.size:Int)).toNat else min i.toNat its.toArray.size)=_;rw[hk];apply Array.ext';simp [eg,b9]
 ·rw[aL,aU,bO,gW];lia
theorem jFS {x:V} :∀ {xs:List V}{us:Am},Vals xs us->xs.all qR=true->us.countP (eqU x)=xs.countP fun y=>eqV y x
 | _,_, .nil,_=>rfl
 | y::xs,u::us, .cons r t,f=>by
  rw[ff,bL] at f;rw[cF,cF,jPE r f.1,jFS t f.2]
def rEqE (K:W.Frag):R2:=fun x y H Q=>∃ p q xs,x= .ref p/\y= .ref q/\SqT K H p xs/\SqT K H q []/\Q (.bl (decide (xs=[]))) H
theorem jWB (hu:X.A.units<cLine):OpR X (compareOp .Eq) (rEqE X.K):=by
 intro lH s σ H x y v u Q I rx ry h;obtain⟨p,q,xs,rfl,rfl,hp,hq,k⟩:=h;cases rx;cases ry;obtain⟨its,r,t1,_⟩:=I.tuple hp;obtain⟨its2,r2,t2,_⟩:=I.tuple hq;have e2:its2=[]:=r2.zero;subst e2;refine SeqAt.eq_tupleAt (e:=fun _=>true) (show s.heap.IsTuple p its.toArray from t1) (show s.heap.IsTuple q ([]:Am).toArray from t2) hu (fun j h1 h2=>absurd h2 Ad) ⟨.bl _,H,I,rfl,?_⟩;have hl:=r.length;have e:((List.range (min its.toArray.size ([]:Am).toArray.size)).all (fun _=>true)&&its.toArray.size==([]:Am).toArray.size)=decide (xs=[]):=by
  cases xs with
  | nil=>
   have:its=[]:=by simpa using hl.symm
   subst this;rfl
  | cons a b=>
   have:its.length≠0:=by rw[<- hl]; simp
   simp [this]
 rw[e];exact k
theorem jCP (hc:X.calm=true):yV X (.builtin "all") (fun xs H Q=>∃ (p:Addr) (bs:List Bool),xs=[.ref p]/\SqL X.K H p (bs.map V.bl)/\Q (.bl (bs.all id)) H):=by
 intro lH s σ H xs us Q I r h;obtain⟨p,bs,rfl,hq,q⟩:=h;obtain⟨u,rfl,rx⟩:=r.one;cases rx;obtain⟨its,r',pl,hz⟩:=I.list hq;have hlen:=r'.length;rw[af] at hlen;refine call_all_walk (dJ pl.isList ?_);have hne:p≠s.heap.objs.size:=by
  obtain⟨o,ho,_⟩:=pl.isList;exact aW (aK ho)
 refine⟨s.heap.objs.size,_,_,_,_,_,fun i=>bs.getD i true,rfl,jn (by simpa using I.ok.hd hc) _ p hne its.toArray,⟨⟨_,aF _ rfl,rfl,rfl⟩,pl.isList.push _⟩,fun i v z Q' E' hP hQ'=>?_,fun h' tk hk=>?_⟩
 ·have hi:its[i]?=some v:=by simpa using hP
  have hb:i<bs.length:=by
   rw[hlen];exact(ao.mp hi).1
  obtain⟨u,hu,ru⟩:=r'.get (i:=i) (x:= .bl (bs[i])) (by simp [hb]);rw[hi] at hu;cases hu;cases ru;have e:bs.getD i true=bs[i]:=by simp [List.getD,hb]
  have hQ2:Q' (bs.getD i true) z:=hQ';rw[e] at hQ2;exact aj hQ2
 ·have e:(List.range its.toArray.size).all (fun i=>bs.getD i true)=bs.all id:=by
   rw[az,<- hlen];rw[bZ,bU,bU];constructor
   ·intro a b hb;obtain⟨i,hi,rfl⟩:=eQ hb;have:=a i (bK.mpr hi);simpa [List.getD,hi] using this
   ·intro a i hi;have hi:=bK.mp hi;have:=a bs[i] (cU hi);simpa [List.getD,hi] using this
  rw[e];exact⟨.bl _,H,I.kept (t':=tk) fun b o e=>hk b o (by
   intro z;have z:b=s.heap.objs.size:=by simpa using z
   exact absurd (aK e) (by rw[z]; exact dz _)) (ah _ e),rfl,q⟩
def jES (n:Nat):List V:=(List.range n).map fun (i:Nat)=>V.int (i:Int)
theorem jLJ {n:Nat}{acc:Ao}(h:ItemsOf (fun i v=>∃ t,v=Value.int (0+(i:Int)*1) t) acc n):Vals (jES n) acc.toList:=by
 have key:∀ (l:Am) (k:Nat),(∀ j v,l[j]?=some v->∃ t,v=Value.int ((k+j:Nat):Int) t)->Vals ((List.range' k l.length).map fun (i:Nat)=>V.int (i:Int)) l:=by
  intro l
  induction l with
  | nil=>intro k _; exact .nil
  | cons v l ih=>
   intro k hk;rw[aU,List.range'_succ,bg];refine .cons ?_ (ih (k+1) fun j u hj=>?_)
   ·obtain⟨t,e⟩:=hk 0 v rfl;exact⟨t,by simpa using e⟩
   ·obtain⟨t,e⟩:=hk (j+1) u (by simpa using hj);exact⟨t,by rw[e]; congr 1; lia⟩
 have:=key acc.toList 0 fun j v hj=>by
  obtain⟨t,e⟩:=h.2 j v (by simpa using hj);exact⟨t,by rw[e]; congr 1; lia⟩
 rw[aP,h.1] at this;unfold jES;rw[List.range_eq_range'];exact this
theorem jJW:yV X (.type "range") (fun xs H Q=>∃ j:Int,xs=[.int j]/\∀ p,H p=none->Q (.ref p) (upd H p (.rng 0 j))):=by
 intro lH s σ H xs us Q I r h;obtain⟨j,rfl,q⟩:=h;obtain⟨u,rfl,t,rfl⟩:=r.one;refine call_range_1 ⟨.ref s.heap.objs.size,_,I.laid (o:= .rng 0 j) (fun b o e=>ah _ e) (aA _) ?_,rfl,q _ I.fresh⟩;exact⟨_,_,_,aF _ rfl⟩
theorem jIH (hc:X.calm=true):yV X (.type "list") (fun xs H Q=>∃ p j,xs=[.ref p]/\H p=some (.rng 0 j)/\0<=j/\j<=1000/\∀ l,H l=none->Q (.ref l) (upd H l (.lst (jES j.toNat)))):=by
 intro lH s σ H xs us Q I r h;obtain⟨p,j,rfl,hp,h0,h1,q⟩:=h;obtain⟨u,rfl,rx⟩:=r.one;cases rx;obtain⟨t,u,v,e⟩:=I.hok p _ hp;have en:Builtin.Range.rangeSize 0 j 1=(j.toNat:Int):=by
  rw[rangeSize_one];split <;> lia
 refine call_list_range (I.ok.hd hc) (show IsRange s.heap p 0 j 1 t u v from e) (small_one Aa Aa Aa Aa) en Aa fun h' tk acc' c' kp hS hacc=>?_;refine⟨.ref s.heap.objs.size,_,I.laid (t':=tk) (o:= .lst (jES j.toNat)) kp (aA _) ?_,rfl,q _ I.fresh⟩;refine⟨?_,acc'.toList,c',jLJ hacc,by rw[cW]; exact hS⟩;unfold jES;rw[af,cx,eV];lia
def SetO (w:World)(a:Addr)(ks:Ag):HO:= .ext fun h=>SS.SetG w h a ks
theorem jB3 {ns:Ag} :∀ {us:Am},Vals (ns.map V.int) us->IntsAre us ns:=by
 induction ns with
 | nil=>intro us h; cases h; exact .nil
 | cons n ns ih=>
  intro us h;cases h with
  | cons r t=>
   obtain⟨k,rfl⟩:=r;exact .cons n k (ih t)
theorem jAA:∀ {us:Am}{ns:Ag},IntsAre us ns->Vals (ns.map V.int) us
 | _,_, .nil=> .nil
 | _,_, .cons n t r=> .cons ⟨t,rfl⟩ (jAA r)
theorem jPQ (hc:X.calm=true):yV X (.type "set") (fun xs H Q=>∃ (p:Addr) (ns:Ag),xs=[.ref p]/\SqL X.K H p (ns.map V.int)/\ns.length<=4/\(∀ z∈ns,0<=z/\z<32)/\
  ∀ (l:Addr) (ks:Ag),H l=none->(∀ z,z∈ks↔z∈ns)->Q (.ref l) (upd H l (SetO X.w l ks))):=by
 intro lH s σ H xs us Q I r h;obtain⟨p,ns,rfl,hq,hl,hv,q⟩:=h;obtain⟨u,rfl,rx⟩:=r.one;cases rx;obtain⟨its,r',pl,hz⟩:=I.list hq;have hlen:=r'.length;rw[af] at hlen;refine SS.set_of_list (I.ok.hd hc) pl.isList (jB3 r') (by rw[az]; lia) hv fun h' tk ks S hm kp=>?_;have hg:∃ o,h'.get? s.heap.objs.size=some o:=let ⟨o,_,_,_,e,_⟩:=S.ex; ⟨o,e⟩;exact⟨.ref s.heap.objs.size,_,I.laid (t':=tk) (o:=SetO X.w s.heap.objs.size ks) kp (aA _) ⟨S,hg,fun h1 h2 a b=>a.at b⟩,rfl,q _ ks I.fresh hm⟩
theorem jF8 (hc:X.calm=true):yV X (.builtin "sorted") (fun xs H Q=>∃ (p:Addr) (ks:Ag),xs=[.ref p]/\H p=some (SetO X.w p ks)/\
  ∀ (l:Addr) (ns:Ag),H l=none->ns.Pairwise (· < ·)->(∀ z,z∈ns↔z∈ks)->Q (.ref l) (upd H l (.lst (ns.map V.int)))):=by
 intro lH s σ H xs us Q I r h;obtain⟨p,ks,rfl,hp,q⟩:=h;obtain⟨u,rfl,rx⟩:=r.one;cases rx;obtain⟨S,_,_⟩:=I.hok p _ hp;refine SS.sorted_set (I.ok.hd hc) S fun s' l vs ns e hl kp g d o he hi pm srt=>?_;obtain⟨h',g',d',t',o'⟩:=s';have g:g'=s.gens:=g;have o:o'=s.os:=o;have d:d'=s.drawn:=d;subst g; subst o; subst d;have nd:ns.Nodup:=pm.nodup_iff.mpr S.nd;have lt:ns.Pairwise (· < ·):=by
  have:=List.Pairwise.and srt nd;exact this.imp fun {a b} ⟨x,y⟩=>by lia
 have hz:(ns.map V.int).length<=sizeLine:=by
  rw[af,pm.length_eq,eV];have:=S.len;lia
 have I2:Inv X lH σ (upd H l (.lst (ns.map V.int))) { s with heap:=h',toks:=t'} :=I.laid (t':=t') kp hl ⟨hz,vs,e,jAA hi,he⟩;exact⟨.ref l,_,I2,rfl,q l ns (I.hok.fresh hl) lt fun z=>pm.mem_iff⟩
variable {p2:Pos}
section
variable {p1 p3 p4 p5 p6 p7:Pos}{k1 k2 k3 k4:Nat}
theorem jTX {i j r:Int}(hj:0<=j)(hj2:j<=1000000)(hi:i.natAbs<2 ^ 64)(e:i ^ j.toNat=r):PE X (.BinOp (.Constant (.int i) k2 p2) .Pow (.Constant (.int j) k3 p3) p4) (tC (.int r)):=fun lH s σ H Q I h=>
 (kW (X:=X) jNF jU jU) lH s σ H Q I ⟨_,_,rfl,rfl,⟨hj,hj2,hi⟩,by subst e; exact h⟩
theorem jTY {a b:Expr}{i j r:Int}(ha:PE X a (tC (.int i)))(hb:PE X b (tC (.int j)))(hc:CMul i j)(e:i*j=r):PE X (.BinOp a .Mult b p1) (tC (.int r)):=fun lH s σ H Q I h=>
 (kW (X:=X) jCG ha hb) lH s σ H Q I ⟨_,_,rfl,rfl,hc,by subst e; exact h⟩
theorem jU1 {a b:Expr}{i j r:Int}(ha:PE X a (tC (.int i)))(hb:PE X b (tC (.int j)))(e:i+j=r):PE X (.BinOp a .Add b p1) (tC (.int r)):=fun lH s σ H Q I h=>
 (kW (X:=X) kU ha hb) lH s σ H Q I ⟨_,_,rfl,rfl,by subst e; exact h⟩
theorem jW8:PE X (.BinOp (.BinOp (.Constant (.int 2) k1 p1) .Mult (.BinOp (.Constant (.int 10) k2 p2) .Pow (.Constant (.int 12) k3 p3) p4) p5) .Add (.Constant (.int 1) k4 p6) p7) (tC (.int 2000000000001)):=
 jU1 (i:=2000000000000) (jTY (j:=1000000000000) jU (jTX Ac Ac Ac Ac) (.inl ⟨Ac,Ac⟩) Ac) jU Ac
end
def ItAt (tp:Bool)(h:Heap)(it a:Addr)(i:Nat):Prop:=match tp with
 | false=>h.IsListIter it a i
 | true=>h.IsTupleIter it a i
def ObAt (tp:Bool)(h:Heap)(a:Addr)(xs:Ao):Prop:=match tp with
 | false=>h.IsList a xs
 | true=>h.IsTuple a xs
theorem ItAt.but {tp:Bool}{h h':Heap}{it a b:Addr}{i:Nat}(x:ItAt tp h it a i)(e:Heap.ExtBut b h h')(n:it≠b):ItAt tp h' it a i:=by
 cases tp with
 | false=>exact Heap.IsListIter.extBut x e n
 | true=>exact Heap.IsTupleIter.extBut x e n
theorem ItAt.at {tp:Bool}{h h':Heap}{it a:Addr}{i:Nat}(x:ItAt tp h it a i)(e:∀ o,h.get? it=some o->h'.get? it=some o):ItAt tp h' it a i:=by
 cases tp with
 | false=>exact Heap.IsListIter.at x e
 | true=>exact Heap.IsTupleIter.at x e
theorem ItAt.obj {tp:Bool}{h:Heap}{it a:Addr}{i:Nat}(x:ItAt tp h it a i):∃ o,h.get? it=some o/\∀ v,o.data≠ .cell v:=by
 cases tp with
 | false=>obtain⟨o,e,_,d⟩:=x; exact⟨o,e,fun v q=>by rw[d] at q; cases q⟩
 | true=>obtain⟨o,e,_,d⟩:=x; exact⟨o,e,fun v q=>by rw[d] at q; cases q⟩
variable {w:World}{A:Around}{s:Shared}
section
variable {prog:Program}{E:Ah}
theorem next1 {tp:Bool}{it a:Addr}{i:Nat}{xs:Ao}{x:Value}{Q:Ah}(hi:ItAt tp s.heap it a i)(ha:ObAt tp s.heap a xs)(hx:xs[i]?=some x)
  (k:∀ h',ItAt tp h' it a (i+1)->Heap.SameBut it s.heap h'->Q x { s with heap:=h'}):wpAny (model prog w) A (Builtin.SmallTypes.nextOf (.ref it)) Q E s:=by
 cases tp with
 | false=>exact wpAny_nextOf_list_item hi ha hx k
 | true=>
  obtain⟨o,e,c,d⟩:=id (show s.heap.IsTupleIter it a i from hi);obtain⟨u,eu,_,n,du⟩:=(show s.heap.IsTuple a xs from ha);have ty:=Heap.IsTupleIter.typeIs (show s.heap.IsTupleIter it a i from hi);unfold Builtin.SmallTypes.nextOf;refine ae (cV (name:=Str.ofString "__next__") ty F.slot_tuple_iterator_next (cE F.slot_tuple_iterator_next ty F.entry_tuple_iterator_next (?_:wpAny (model prog w) _ (field (.ref it) 0 >>= _) _ _ s) (F.args_tuple_iterator_next_1 _)));refine ae (eE e d (x:= .ref a) rfl (?_:wpAny (model prog w) _ (if (Value.ref a==Value.none)=true then _ else _) _ _ s));rw[ak (by exact ay)];show wpAny (model prog w) _ (field (.ref it) 1 >>= _) _ _ s;refine ae (eE e d (x:= .int i 0) rfl ?_);show wpAny (model prog w) _ (seqItems? (.ref a) >>= _) _ _ s;refine ae (wpAny_seqItems eu du ?_);simp only [bz,hx];refine ae (wpAny_setField e d Ad (aj ⟨x,rfl,aj (k _ ⟨_,dZ _ e (Obj.isFreed_of_fields (Obj.data_mapFields d _)),(Obj.cls_mapFields ..).trans c,?_⟩ (iq ..))⟩));rw[Obj.data_mapFields d];simp [rawInt]
theorem next0 {tp:Bool}{it a:Addr}{i:Nat}{xs:Ao}{Q:Ah}(hh:A.handled=none)(hi:ItAt tp s.heap it a i)(ha:ObAt tp s.heap a xs)(hx:xs[i]?=none)
  (k:∀ h' e,Heap.ExtBut it s.heap h'->(∃ o,h'.get? e=some o/\o.cls= .type "StopIteration")->E (.ref e) { s with heap:=h'}):wpAny (model prog w) A (Builtin.SmallTypes.nextOf (.ref it)) Q E s:=by
 cases tp with
 | false=>exact wpAny_nextOf_list_end hh hi ha hx k
 | true=>
  obtain⟨o,e,c,d⟩:=id (show s.heap.IsTupleIter it a i from hi);obtain⟨u,eu,_,n,du⟩:=(show s.heap.IsTuple a xs from ha);have ty:=Heap.IsTupleIter.typeIs (show s.heap.IsTupleIter it a i from hi);unfold Builtin.SmallTypes.nextOf;refine ae (cV (name:=Str.ofString "__next__") ty F.slot_tuple_iterator_next (cE F.slot_tuple_iterator_next ty F.entry_tuple_iterator_next (?_:wpAny (model prog w) _ (field (.ref it) 0 >>= _) _ _ s) (F.args_tuple_iterator_next_1 _)));refine ae (eE e d (x:= .ref a) rfl (?_:wpAny (model prog w) _ (if (Value.ref a==Value.none)=true then _ else _) _ _ s));rw[ak (by exact ay)];show wpAny (model prog w) _ (field (.ref it) 1 >>= _) _ _ s;refine ae (eE e d (x:= .int i 0) rfl ?_);show wpAny (model prog w) _ (seqItems? (.ref a) >>= _) _ _ s;refine ae (wpAny_seqItems eu du ?_);simp only [bz,hx];refine ae (db (ae (wpAny_setField e d Ad (?_:wpAny (model prog w) _ (newExc (.type "StopIteration") [] >>= _) _ _ _))));refine ae (by
   simp only [newExc,newTuple];refine ae (cZ (ae (m:=firstArgMember _ _) (wpAny_of_eq (a:=Value.none) (by first | rfl | (simp only [firstArgMember]; rfl)) (cZ ?_ (by size_fits)))) (by size_fits));simp only [raiseNew];refine ae (wpAny_handled ?_)
   first | rw[show A.in1.handled=none from hh] | rw[hh]
   exact ae (aj (wpAny_throw (k _ _ (((iq ..).extBut.push _).push _) ⟨_,aF _ rfl,rfl⟩))))
end
def iterO (tp:Bool)(a:Addr):Obj:=match tp with
 | false=> { cls:= .type "list_iterator",data:= .fields #[.ref a, .int 0 0]}
 | true=> { cls:= .type "tuple_iterator",data:= .fields #[.ref a, .int 0 0]}
theorem jMA (tp:Bool)(a:Addr):(iterO tp a).isFreed=false:=by cases tp <;> rfl
theorem jG5 {prog:Program}{w:World}{A:Around}{E:Ah}{s:Shared}{tp:Bool}{a:Addr}{xs:Ao}{Q:Ah}(h:ObAt tp s.heap a xs)(q:Q (.ref s.heap.objs.size) { s with heap:=s.heap.push (iterO tp a)}):
  wpAny (model prog w) A (pyIter (.ref a)) Q E s:=by
 cases tp with
 | false=>exact dJ h q
 | true=>exact wpAny_pyIter_tuple h q
theorem ItAt.new (tp:Bool){h:Heap}{it a:Addr}(e:h.get? it=some (iterO tp a)):ItAt tp h it a 0:=by
 cases tp with
 | false=>exact⟨_,e,rfl,rfl⟩
 | true=>exact⟨_,e,rfl,rfl⟩
def Sq (tp:Bool)(K:W.Frag)(H:Hp)(a:Addr)(xs:List V):Prop:=match tp with
 | false=>SqL K H a xs
 | true=>SqT K H a xs
theorem Inv.sq {X:Cx}{lH:Ai}{σ:St}{H:Hp}{s:Shared}{tp:Bool}{a:Addr}{xs:List V}(I:Inv X lH σ H s)(h:Sq tp X.K H a xs):∃ its:Am,Vals xs its/\ObAt tp s.heap a its.toArray/\xs.length<=sizeLine:=by
 cases tp with
 | false=>
  obtain⟨its,r,p,z⟩:=I.list h;exact⟨its,r,p.isList,z⟩
 | true=>exact I.tuple h
theorem Inv.sq_inj {X:Cx}{lH:Ai}{σ:St}{H:Hp}{s:Shared}{tp:Bool}{a:Addr}{xs ys:List V}(I:Inv X lH σ H s)(h:Sq tp X.K H a xs)(h':Sq tp X.K H a ys):xs=ys:=by
 cases tp with
 | false=>exact I.list_inj h h'
 | true=>exact I.tuple_inj h h'
structure JE (X:Cx)(e:Expr)(t:TE):Prop where
 h:PE X e t
structure JA (X:Cx)(es:List Expr)(t:TA):Prop where
 h:PA X es t
structure JT (X:Cx)(e:Expr)(t:TT):Prop where
 h:PT X e t
structure JTs (X:Cx)(e:List Expr)(t:TT):Prop where
 h:PTs X e t
structure JS (X:Cx)(e:Stmt)(t:TS):Prop where
 h:PS X e t
structure JSs (X:Cx)(e:List Stmt)(t:TS):Prop where
 h:PSs X e t
structure JG (X:Cx)(e:Expr)(t:TG):Prop where
 h:PG X e t
structure JGs (X:Cx)(e:List Expr)(t:TGs):Prop where
 h:PGs X e t
structure JI (X:Cx)(tg e:Expr)(t:TI):Prop where
 h:PI X tg e t
structure JO (X:Cx)(e:Option Expr)(t:TO):Prop where
 h:PO X e t
structure Loc1 (X:Cx)(x:Str):Prop where
 a:Loc X.env.scope x
 b:X.fn x=true\/X.env.scope.names.lookup x=some .local
structure Vis1 (X:Cx)(x:Str):Prop where
 a:Vis X.env.scope x
structure Gl1 (X:Cx)(x:Str):Prop where
 a:Gl X x
section
variable {o:Option Expr}{l:Nat}
structure SwOk (e:Expr)(o:Option Expr):Prop where
 h:∀ l env,swapsWith e o l env=pure false
theorem jFD {op:Operator} :SwOk (.BinOp a op b pos) o:=⟨fun _ _=>rfl⟩
theorem jY {kw:List Keyword} :SwOk (.Call a xs kw pos) o:=⟨fun _ _=>rfl⟩
theorem jK3:SwOk (.Subscript a b pos) o:=⟨fun _ _=>rfl⟩
theorem jS6 {x1} :SwOk (.Tuple xs x1 pos) o:=⟨fun _ _=>rfl⟩
theorem jFC:SwOk (.List xs pos) o:=⟨fun _ _=>rfl⟩
theorem jK4 {c k} :SwOk (.Constant c k pos) o:=⟨fun _ _=>rfl⟩
theorem jSA {op:Operator} :jB2 (.BinOp a op b pos):=fun _ _=>rfl
theorem jTF {kw:List Keyword} :jB2 (.Call a xs kw pos):=fun _ _=>rfl
theorem jD {i:Int}{k} :jB2 (.Constant (.int i) k pos):=fun _ _=>rfl
theorem jB6 {x:Str} :jB2 (.Name x pos):=fun _ _=>rfl
theorem jVS:jB2 (.Subscript a b pos):=fun _ _=>rfl
structure FoOk (iter:Expr):Prop where
 h:∀ env x,foldedSetIterable iter env x=pure x
theorem y6 {kw:List Keyword} :FoOk (.Call a xs kw pos):=⟨fun _ _=>rfl⟩
theorem yM {x:Str} :FoOk (.Name x pos):=⟨fun _ _=>rfl⟩
theorem jI8:FoOk (.Subscript a b pos):=⟨fun _ _=>rfl⟩
structure TvOk (e:Expr):Prop where
 h:∀ env whole,isTrue e env whole=(do let v <- whole; standAt e.pos; holding [v] (truthy v))
theorem jAJ {kw:List Keyword} :TvOk (.Call a xs kw pos):=⟨fun _ _=>rfl⟩
end
variable {te:TE}{x:Str}
section
variable {e o:Expr}{ta tb to:TE}{t:TA}{p cpos apos:Pos}{T:String}{id:String}
theorem jv (i:Nat)(hN:X.N[i]?=some x)(hv:Vis1 X x)(hd:(x==("__debug__" :Str))=false:=by decide)(hcd:(x==("__classdict__" :Str))=false:=by decide):JE X (.Name x pos) (tVar i):=⟨jHQ hN hv.a hd hcd⟩
theorem je_int {i j} :JE X (.Constant (.int i) j pos) (tC (.int i)):=⟨jU⟩
theorem je_bl {i j} :JE X (.Constant (.bool i) j pos) (tC (.bl i)):=⟨pe_bl⟩
theorem jFN {j} :JE X (.Constant .none j pos) (tC .non):=⟨jW6⟩
theorem jJI {v:V}{u:Value}(hg:Gl1 X x)(hm:X.mg x=none)(hv:bootBuiltins x=some u)(r:RelV v u)(hn:x≠ "__name__" :=by decide)(hd:(x==("__debug__" :Str))=false:=by decide):JE X (.Name x pos) (tC v):=⟨jU2 hg.a hm hv r hn hd⟩
theorem jZ {op:Operator}{r:R2}(ho:OpR X (binaryOp op) r)(ha:JE X a ta)(hb:JE X b tb):JE X (.BinOp a op b pos) (tOp r ta tb):=⟨kW ho ha.h hb.h⟩
theorem je_un {op:UnaryOp}{r:V->Hp->VK->Prop}(ho:UnR X (unaryOp op) r)(ha:JE X a ta):JE X (.UnaryOp op a pos) (tUn r ta):=⟨pe_un ho ha.h⟩
theorem jWZ (ha:JE X a ta):JE X (.UnaryOp .Not a pos) (tNotV ta):=⟨jW5 ha.h⟩
theorem yQ {op:CmpOp}{r:R2}(ho:OpR X (compareOp op) r)(ha:JE X a ta)(hb:JE X b tb)(hm:behindInMarks op b=false):JE X (.Compare a [op] [b] pos) (tOp r ta tb):=⟨jTZ ho ha.h hb.h hm⟩
theorem jOU {rest:List Expr}(ha:JE X a ta)(hb:JE X (.BoolOp .And (b::rest) pos) tb):JE X (.BoolOp .And (a::b::rest) pos) (tAndV ta tb):=⟨jW9 ha.h hb.h⟩
theorem je_or {rest:List Expr}(ha:JE X a ta)(hb:JE X (.BoolOp .Or (b::rest) pos) tb):JE X (.BoolOp .Or (a::b::rest) pos) (tOrV ta tb):=⟨pe_or ha.h hb.h⟩
theorem jI3 {op}(ha:JE X a ta):JE X (.BoolOp op [a] pos) ta:=⟨jW4 ha.h⟩
theorem jOO (h:JA X es t):JE X (.List es pos) (tLst t):=⟨jKK h.h⟩
theorem jL1 {x1}(h:JA X es t):JE X (.Tuple es x1 pos) (tTup t):=⟨jW3 h.h⟩
theorem jE0 {lo hi:Option Expr}{tl th:TO}{r:V->Option Int->Option Int->Hp->VK->Prop}(hr:SlR X r)(he:JE X e te)(hl:JO X lo tl)(hu:JO X hi th):JE X (.Subscript e (.Slice lo hi none p2) pos) (tSl r te tl th):=⟨jQK hr he.h hl.h hu.h⟩
theorem jI {r:R2}(hr:IxR X r)(ha:JE X a ta)(hb:JE X b tb)(hs:jB2 b):JE X (.Subscript a b pos) (tOp r ta tb):=⟨pe_ix hr ha.h hb.h hs⟩
theorem kI {T}{r:List V->Hp->VK->Prop}(hc:yV X (.type T) r)(hg:Gl1 X x)(hm:X.mg x=none)(hv:bootBuiltins x=some (.type T))(ha:JA X (e::es) t)(he:starEach (e::es) X.env=(false,eval e X.env)::starEach es X.env)(hn:x≠ "__name__" :=by decide)(hdb:(x==("__debug__" :Str))=false:=by decide)
  (hpl:(backTo pos (starEach es X.env)).any (·.1)=false:=by rfl):JE X (.Call (.Name x p) (e::es) [] pos) (tCB r t):=⟨jCF hc hg.a hm hv ha.h hn hdb he hpl⟩
theorem jK {id}{r:List V->Hp->VK->Prop}(hc:yV X (.builtin id) r)(hg:Gl1 X x)(hm:X.mg x=none)(hv:bootBuiltins x=some (.builtin id))(ha:JA X (e::es) t)(he:starEach (e::es) X.env=(false,eval e X.env)::starEach es X.env)(hn:x≠ "__name__" :=by decide)(hdb:(x==("__debug__" :Str))=false:=by decide)
  (hpl:(backTo pos (starEach es X.env)).any (·.1)=false:=by rfl):JE X (.Call (.Name x p) (e::es) [] pos) (tCB r t):=⟨jG9 hc hg.a hm hv ha.h hn hdb he hpl⟩
theorem j8:JA X [] tNil:=⟨yO⟩
theorem j3 (ha:JE X e te)(hr:JA X es t)(hs:starEach (e::es) X.env=(false,eval e X.env)::starEach es X.env):JA X (e::es) (tCons te t):=⟨kL ha.h hr.h hs⟩
theorem jW {op:CmpOp}{r:R2}(ho:OpR X (compareOp op) r)(ha:JE X a ta)(hb:JE X b tb)(hm:behindInMarks op b=false):JT X (.Compare a [op] [b] pos) (tTest (tOp r ta tb)):=⟨jE7 ho ha.h hb.h hm⟩
theorem jBW (h:JE X e te)(he:TvOk e):JT X e (tB te):=⟨jVV h.h (he.h _)⟩
theorem jDM {tA:TT}(ha:JT X a tA):JT X (.UnaryOp .Not a pos) (tNot tA):=⟨jVW ha.h⟩
theorem kP:JTs X [] yK:=⟨jN8⟩
theorem jEP {t:TT}(h:JT X e t):JTs X [e] t:=⟨jN7 h.h⟩
theorem jL {i:Nat}(hN:X.N.Nodup)(hi:X.N[i]?=some x)(hx:Loc1 X x):JG X (.Name x pos) (kR i):=⟨jG8 hN hi hx.a hx.b⟩
theorem jAG {tg:Expr}(hg:Gl1 X "range")(hm:X.mg "range" =none)(ha:JA X [a] t)(hs:starEach [a] X.env=(false,eval a X.env)::starEach [] X.env):JI X tg (.Call (.Name "range" p) [a] [] pos) (iRng1 t):=⟨jCE hg.a hm ha.h hs⟩
theorem yL {tg:Expr}(hl:JE X a ta):JI X tg a (iList X.K ta):=⟨jTR hl.h⟩
theorem qC {tg:Expr}(hl:JE X a ta):JI X tg a (iTup X.K ta):=⟨jW0 hl.h⟩
theorem jGN:JO X none jMW:=⟨jTN⟩
theorem jGM (h:JE X e te):JO X (some e) (tPart te):=⟨jTM h.h⟩
theorem jO {i:Nat}{pos':Pos}(hN:X.N.Nodup)(hi:X.N[i]?=some x)(hx:Loc1 X x)(he:JE X e te)(hs:SwOk e (some (.Name x pos'))):JS X (.Assign [.Name x pos'] e pos) (tAsg te (kR i)):=⟨qG hN hi hx.a he.h (hs.h _ _) hx.b⟩
theorem jQ (he:JE X e te):JS X (.Return (some e) pos) (tRet te):=⟨jDJ he.h⟩
theorem jEQ (he:JE X e te)(hs:SwOk e none):JS X (.Expr e pos) (tDrop te):=⟨jTJ he.h (hs.h _ _)⟩
theorem kN:JSs X [] tNext:=⟨jG7⟩
theorem jE {st:Stmt}{t:TS}(h1:JS X st t):JSs X [st] t:=⟨jAX h1.h⟩
theorem jB {st:Stmt}{rest:List Stmt}{t u:TS}(h1:JS X st t)(h2:JSs X rest u):JSs X (st::rest) (tSeq t u):=⟨kZ h1.h h2.h⟩
theorem yF {c:Expr}{a b:List Stmt}{tc:TT}{t u:TS}(hc:JT X c tc)(ha:JSs X a t)(hb:JSs X b u):JS X (.If c a b pos) (tIfS tc t u):=⟨ps_if hc.h ha.h hb.h⟩
theorem jBX {tg iter:Expr}{body:List Stmt}{wi:TI}{g:TG}{tb:TS}(hp:PassesOwn (model X.prog X.w) X.A X.env X.xe)(hc:X.calm=true)(hi:JI X tg iter wi)(hg:JG X tg g)(hb:JSs X body tb)(hs:FoOk iter):JS X (.For tg iter body [] pos) (tFor wi g tb):=⟨jSC hp hc hi.h hg.h hb.h (hs.h _)⟩
theorem je_bm {T:String}{name:Str}{r}(pa:PlainAttrs T)(slot:Slot T name id)(hty:typeOf (.builtin id)=pure (.type "method_descriptor"))(hm:MtR X id r)(ho:JE X o to)(ha:JA X (e::es) t)
  (hs:starEach (e::es) X.env=(false,eval e X.env)::starEach es X.env)
  (hbase:attributeBase o name X.env (eval o X.env)=eval o X.env:=by rfl)
  (hfew:((backTo cpos (starEach (e::es) X.env)).all (fun x=>!x.1)&&(backToKw cpos (keywordEach [] X.env)).all (fun x=>x.1.isSome)
   &&decide ((e::es).length+([]:List Keyword).length+(if ([]:List Keyword).isEmpty then 0 else 1)<30))=true:=by rfl)
  (hline:(apos.endLine==cpos.line)=true:=by rfl) (hplain:(backTo cpos (starEach es X.env)).any (·.1)=false:=by rfl):
  JE X (.Call (.Attribute o name apos) (e::es) [] cpos) (tBM X.K T r to t):=⟨pe_bm pa slot hty hm ho.h ha.h hbase hfew hline hs hplain⟩
theorem kE {tg iter elt:Expr}{ifs:List Expr}{sc:Scope}{wi:TI}{g:TG}{tt:TT}{m:List (Option Nat)}{Nc:An}(hc:X.calm=true)(hi:JI X tg iter wi)(hkind:sc.kind= .function)(hcell:∀ y∈sc.names,y.2≠ .cell)(hnames:∀ y∈sc.names,y.2= .local->sc.names.lookup y.1=some .local)
  (hfree:∀ y∈sc.names,y.2= .free->X.env.scope.names.lookup y.1=some .cell\/X.env.scope.names.lookup y.1=some .free) (hm:jBZ X sc Nc m)
  (hg:∀ cl C fp s H,JG (blk X sc cl C Nc fp s H) tg g) (ht:∀ cl C fp s H,JTs (blk X sc cl C Nc fp s H) ifs tt) (he:∀ cl C fp s H,JE (blk X sc cl C Nc fp s H) elt te)
  (hs:FoOk iter):JE X (.ListComp elt [⟨tg,iter,ifs,0⟩] sc pos) (tComp m wi g tt te):=⟨jJ3 hc hi.h hkind hcell hnames hfree hm (fun cl C fp s H=>(hg cl C fp s H).h) (fun cl C fp s H=>(ht cl C fp s H).h) (fun cl C fp s H=>(he cl C fp s H).h) (hs.h _)⟩
theorem jX1 {p1 p2 p3 p4 p5 p6 p7:Pos}{k1 k2 k3 k4:Nat} :JE X (.BinOp (.BinOp (.Constant (.int 2) k1 p1) .Mult (.BinOp (.Constant (.int 10) k2 p2) .Pow (.Constant (.int 12) k3 p3) p4) p5) .Add (.Constant (.int 1) k4 p6) p7) (tC (.int 2000000000001)):=⟨jW8⟩
end
variable {P:Program}{mg:Ak}{Ar:Heap}{N:An}{qual:Str}{sc:Scope}{f:Addr}{lI:Value}{Aq:List Env}{H:Hp}{E:XK}
section
variable {K:W.Frag}
theorem gl_d (h:sc.names.lookup x=some .globalImplicit):Gl1 (cxOf CX0 P w K mg Ar N qual sc f lI A Aq s H E).nox x:=⟨h⟩
theorem gD (h:sc.names.lookup x=some .globalImplicit:=by decide+kernel):Gl1 (cxOf CX0 P w K mg Ar N qual sc f lI A Aq s H E).nox x:=gl_d h
theorem vis_l (h:sc.names.lookup x=some .local):Vis1 (cxOf CX0 P w K mg Ar N qual sc f lI A Aq s H E).nox x:=⟨.inl h⟩
theorem vL (h:sc.names.lookup x=some .local:=by decide+kernel):Vis1 (cxOf CX0 P w K mg Ar N qual sc f lI A Aq s H E).nox x:=vis_l h
theorem vis_c (h:sc.names.lookup x=some .cell):Vis1 (cxOf CX0 P w K mg Ar N qual sc f lI A Aq s H E).nox x:=⟨.inr (.inl h)⟩
theorem vC (h:sc.names.lookup x=some .cell:=by decide+kernel):Vis1 (cxOf CX0 P w K mg Ar N qual sc f lI A Aq s H E).nox x:=vis_c h
end
theorem jAD {env:Env}{x:Str}{k:NameKind}(hk:k≠ .free):∀ {l:List (Str×NameKind)},l.lookup x=some k->
  (l.map fun (n,k)=>if (k==NameKind.free&&env.scope.kind== .function&&env.kindOf n==some .cell) then (n,NameKind.cell) else (n,k)).lookup x=some k
 | [],h=>by cases h
 | (n,k')::r,h=>by
  have ih:= @jAD env x k hk r;rw[bP] at h;rw[bg];dsimp only;by_cases hb:(k'==NameKind.free&&env.scope.kind== .function&&env.kindOf n==some .cell)=true
  ·rw[aq hb,bP];cases hx:x==n with
   | true=>
    rw[hx] at h;have e:k'=k:=bD h;simp only [bL] at hb;exact absurd (e.symm.trans (eq_of_beq hb.1.1)) hk
   | false=>rw[hx] at h; exact ih h
  ·rw[ak hb,bP];cases hx:x==n with
   | true=>rw[hx] at h; exact h
   | false=>rw[hx] at h; exact ih h
variable {cl:Aj}{C:Addr}{Nc:An}{fp:List Addr}
theorem gl_b (h:sc.names.lookup x=some .globalImplicit:=by decide+kernel):Gl1 (blk X sc cl C Nc fp s H) x:=⟨jAD Ac h⟩
theorem jS (h:sc.names.lookup x=some .local:=by decide+kernel):Vis1 (blk X sc cl C Nc fp s H) x:=⟨.inl (jAD Ac h)⟩
theorem kQ (h:sc.names.lookup x=some .free:=by decide+kernel):Vis1 (blk X sc cl C Nc fp s H) x:=⟨.inr (jBL h)⟩
theorem yI (h:sc.names.lookup x=some .local:=by decide+kernel):Loc1 (blk X sc cl C Nc fp s H) x:=⟨.inl (jAD Ac h), .inr (jAD Ac h)⟩
section
variable {K:W.Frag}
theorem loc_l (h:sc.names.lookup x=some .local):Loc1 (cxOf CX0 P w K mg Ar N qual sc f lI A Aq s H E).nox x:=⟨.inl h, .inl rfl⟩
theorem lL (h:sc.names.lookup x=some .local:=by decide+kernel):Loc1 (cxOf CX0 P w K mg Ar N qual sc f lI A Aq s H E).nox x:=loc_l h
theorem loc_c (h:sc.names.lookup x=some .cell:=by decide+kernel):Loc1 (cxOf CX0 P w K mg Ar N qual sc f lI A Aq s H E).nox x:=⟨.inr h, .inl rfl⟩
end
structure JW (X:Cx)(e:Expr)(t:TT):Prop where
 h:PW X e t
section
variable {rest:List Expr}{tA tB':TT}
theorem jOJ (ha:JT X a tA):JW X (.BoolOp .And [a] pos) tA:=⟨jTG ha.h⟩
theorem jOI (ha:JT X a tA):JW X (.BoolOp .Or [a] pos) tA:=⟨jVT ha.h⟩
theorem jSR (ha:JT X a tA)(hb:JW X (.BoolOp .And (b::rest) pos) tB'):JW X (.BoolOp .And (a::b::rest) pos) (tAnd tA tB'):=⟨jVU ha.h hb.h⟩
theorem jw_or (ha:JT X a tA)(hb:JW X (.BoolOp .Or (b::rest) pos) tB'):JW X (.BoolOp .Or (a::b::rest) pos) (tOr tA tB'):=⟨pw_or ha.h hb.h⟩
theorem jt_w (h:JW X a tA):JT X a tA:=⟨h.h.pt⟩
theorem jJG:JGs X [] gNil:=⟨jTT⟩
structure AsOk (e:Expr):Prop where
 h:∀ es env,assignEach (e::es) env=(false,assign e env)::assignEach es env
theorem jDB {x:Str} :AsOk (.Name x pos):=⟨fun _ _=>rfl⟩
theorem jBJ {e:Expr}{es:List Expr}{t:TG}{u:TGs}(h1:JG X e t)(h2:JGs X es u)(hs:AsOk e):JGs X (e::es) (gCons t u):=⟨jQJ h1.h h2.h (by rw[hs.h]; rfl)⟩
theorem jON {es:List Expr}{k:Nat}{t:TGs}{n:Nat}(hc:X.calm=true)(h:JGs X es t)(hn:(assignEach es X.env).length=n:=by rfl)(hst:(assignEach es X.env).findIdx? (·.1)=none:=by rfl):JG X (.Tuple es k pos) (gTup X.K n t):=⟨jW1 hc h.h hn hst⟩
theorem jGB {op:CmpOp}{x:Str} :behindInMarks op (.Name x pos)=false:=by cases op <;> rfl
end
theorem jCJ {X:Cx}{sc:Scope}{cl:Aj}{C:Addr}{Nc:An}{fp:List Addr}{s:Shared}{H:Hp}{x y:Str}{p1 p2 pos:Pos}{k:Nat}{i j:Nat}(hc:X.calm=true)(hN:Nc.Nodup)(hi:Nc[i]?=some x)(hj:Nc[j]?=some y)(hx:sc.names.lookup x=some .local)(hy:sc.names.lookup y=some .local):
  JG (blk X sc cl C Nc fp s H) (.Tuple [.Name x p1, .Name y p2] k pos) (gTup X.K 2 (gCons (kR i) (gCons (kR j) gNil))):=
 jON (X:=blk X sc cl C Nc fp s H) hc (jBJ (jL hN hi (yI hx)) (jBJ (jL hN hj (yI hy)) jJG jDB) jDB)
variable {m:List (Option Nat)}{g:TG}{tt:TT}{H1:Hp}{Q:VK}
section
variable {K:W.Frag}{σ:St}
end
theorem jED:OpR (blk X sc cl C Nc fp s H) (compareOp .In) (rIn X.K false):=jEC
theorem y0:IxR (blk X sc cl C Nc fp s H) (rIxT X.K):=jJ
def Ext (H H':Hp):Prop:=∀ b o,H b=some o->H' b=some o
theorem Ext.refl (H:Hp):Ext H H:=fun _ _ h=>h
theorem Ext.trans {H H1 H2:Hp}(a:Ext H H1)(b:Ext H1 H2):Ext H H2:=fun c o h=>b c o (a c o h)
theorem Ext.new {H H1:Hp}{l:Addr}(a:Ext H H1)(hl:H1 l=none)(o:HO):Ext H (upd H1 l o):=fun c u h=>by
 have:=a c u h;rw[j9 (jA this hl)];exact this
theorem Ext.updNew {H H1:Hp}{l:Addr}(a:Ext H H1)(hl:H l=none)(o:HO):Ext H (upd H1 l o):=fun c u h=>by
 rw[j9 (jA h hl)];exact a c u h
def TupR (H:Hp)(xs:List V)(Q:VK):Prop:=∀ r H',H' r=some (.tup xs)->Ext H H'->Q (.ref r) H'
theorem TupR.new {H:Hp}{xs:List V}{Q:VK}(q:TupR H xs Q){p:Addr}(hp:H p=none):Q (.ref p) (upd H p (.tup xs)):=q p _ j5 ((Ext.refl H).new hp _)
theorem TupR.old {H:Hp}{xs:List V}{Q:VK}(q:TupR H xs Q){p:Addr}(hp:H p=some (.tup xs)):Q (.ref p) H:=q p H hp (Ext.refl H)
def rCatU:R2:=fun x y H Q=>∃ a b xs ys,x= .ref a/\y= .ref b/\H a=some (.tup xs)/\H b=some (.tup ys)/\xs.length+ys.length<=sizeLine/\TupR H (xs++ys) Q
theorem jC2:OpR X (binaryOp .Add) rCatU:=by
 intro lH s σ H x y v u Q I rx ry h;obtain⟨a,b,xs,ys,rfl,rfl,ha,hb,hz,q⟩:=h;by_cases hx:xs=[]
 ·subst hx;cases rx;cases ry;obtain⟨_,its,r1,n1,e1⟩:=I.hok a _ ha;obtain⟨_,its2,r2,n2,e2⟩:=I.hok b _ hb;cases r1;exact concat_meets ⟨_,e1,rfl⟩ ⟨_,e2,rfl⟩ i9 seq_tuple_add gB gx (gd _ _) (AutoSeq1.tuple___add___tuple_tuple_0 a _ n1 b its2.toArray n2 Ad) ⟨e1,e2, .ref b,H,I,rfl,q.old hb⟩
 ·refine jU4 lH s σ H _ _ v u Q I rx ry ⟨a,b,xs,ys,rfl,rfl,SqT.of ha,SqT.of hb,hx,hz,fun e=>?_,fun _ p hp=>q.new hp⟩;subst e;rw[bf] at q;exact q.old ha
section
variable (l:Addr)(items:Ao)(n:Nat)(x:Int)(u:Tok)(h1:¬ (decide (x< -(2 ^ 63)) || decide (x ≥ 2 ^ 63))=true)
include h1
end
theorem Inv.big' {lH:Ai}{σ:St}{H:Hp}{s:Shared}(I:Inv X lH σ H s):sysModules<s.heap.objs.size:=eX Ac (I.mod.glob.keeps I.bk).lt
def jVL:TE:=fun _ H Q=>∀ p,H p=none->Q (.ref p) (upd H p (.dK []))
theorem jRA {pos:Pos} :JE X (.Dict [] [] pos) jVL:=⟨fun lH s σ H Q I h=>
 wpAny_Dict_empty ⟨.ref s.heap.objs.size,_,I.laid (a:=s.heap.objs.size) (o:= .dK []) (t':=s.toks) (fun _ _ q=>ah _ q) (aA _)
  ⟨bw _,cG.mpr (ev (aW I.big')),[], .nil,jx s.heap⟩,rfl,h _ (I.hok.fresh (aA _))⟩⟩
theorem jJH {x:Str}{v:V}{u:Value}{pos:Pos}(hg:Gl1 X x)(hm:X.mg x=some u)(r:RelV v u)(hd:(x==("__debug__" :Str))=false:=by decide):JE X (.Name x pos) (tC v):=⟨jTU hg.a hm r hd⟩
theorem jOM {tg a b:Expr}{t:TA}{p pos:Pos}(hg:Gl1 X "range")(hm:X.mg "range" =none)(ha:JA X [a,b] t)(hs:starEach [a,b] X.env=(false,eval a X.env)::starEach [b] X.env)(hs2:starEach [b] X.env=(false,eval b X.env)::starEach [] X.env):
  JI X tg (.Call (.Name "range" p) [a,b] [] pos) (iRng2 t):=⟨jND hg.a hm ha.h (by rw[hs,hs2]; rfl) hs2⟩
section
variable {K:W.Frag}{σ:St}
theorem jAH {a:Addr}{xs:List V}(hn:xs.length<sizeLine)(Pv:Addr->Nat->St->Hp->List V->Prop)(h0:∀ D,H1 D=none->Pv D 0 (blkσ m σ) (upd H1 D (.lst [])) [])
  (hD:∀ D i σ' H' zs,H1 D=none->Pv D i σ' H' zs->H' a=some (.tup xs)/\H' D=some (.lst zs)/\zs.length<=i)
  (hs:∀ D i σ' H' zs x,H1 D=none->xs[i]?=some x->Pv D i σ' H' zs->g x σ' H' fun σ2 H2=>tt σ2 H2 fun b H3=>if b=true then te σ2 H3 fun v H4=>H4 D=some (.lst zs)/\Pv D (i+1) σ2 (upd H4 D (.lst (zs++[v]))) (zs++[v]) else Pv D (i+1) σ2 H3 zs)
  (hd:∀ D σ' H' zs,H1 D=none->Pv D xs.length σ' H' zs->Q (.ref D) H'):qL m g tt te σ Q (Itt K a) H1:=by
 intro D hDn;refine⟨fun i k σ' H' zs=>k=xs.length - i/\i<=xs.length/\Pv D i σ' H' zs,⟨_,rfl,bw _,h0 D hDn⟩,?_⟩;rintro i k σ' H' zs ⟨rfl,hi,p⟩;obtain⟨s1,q1,q2⟩:=hD D i σ' H' zs hDn p;refine⟨q1,Aa,?_⟩;by_cases hlt:i<xs.length
 ·refine .inr ⟨⟨xs,xs[i],SqT.of s1,by simp [hlt]⟩,Pv D (i+1),fun σ2 H2 zs z=>⟨xs.length - (i+1),Aa,rfl,hlt,z⟩,fun v H'' y=>?_⟩;obtain⟨e1,e2⟩:=y;subst e1;exact hs D i σ' _ zs v hDn (e2 xs (SqT.of s1)) p
 ·have e:i=xs.length:=Aa;subst e;exact .inl ⟨⟨xs,SqT.of s1,aA _⟩,hd D σ' H' zs hDn p⟩
end
inductive Tr where
 | non
 | bl (b:Bool)
 | int (i:Int)
 | str (x:Str)
 | lst (ts:List Tr)
 | tup (ts:List Tr)
mutual
def TAt (H:Hp):Tr->V->Prop
 | .non,v=>v= .non
 | .bl b,v=>v= .bl b
 | .int i,v=>v= .int i
 | .str x,v=>v= .str x
 | .lst ts,v=>∃ a vs,v= .ref a/\H a=some (.lst vs)/\TsAt H ts vs
 | .tup ts,v=>∃ a vs,v= .ref a/\H a=some (.tup vs)/\TsAt H ts vs
def TsAt (H:Hp):List Tr->List V->Prop
 | [],vs=>vs=[]
 | t::ts,vs=>∃ v r,vs=v::r/\TAt H t v/\TsAt H ts r
end
mutual
def dep:Tr->Nat
 | .lst ts=>deps ts+1
 | .tup ts=>deps ts+1
 | _=>0
def deps:List Tr->Nat
 | []=>0
 | t::ts=>max (dep t) (deps ts)
end
mutual
def eqT:Tr->Tr->Bool
 | .non, .non=>true
 | .bl a, .bl b=>a==b
 | .bl a, .int b=>(if a then 1 else 0)==b
 | .int a, .bl b=>a==(if b then 1 else 0)
 | .int a, .int b=>a==b
 | .str a, .str b=>a==b
 | .lst a, .lst b=>eqTs a b
 | .tup a, .tup b=>eqTs a b
 | _,_=>false
def eqTs:List Tr->List Tr->Bool
 | [],[]=>true
 | a::as,b::bs=>eqT a b&&eqTs as bs
 | _,_=>false
end
mutual
theorem jGS:∀ t:Tr,eqT t t=true
 | .non=>by simp [eqT]
 | .bl b=>by simp [eqT]
 | .int i=>by simp [eqT]
 | .str x=>by simp [eqT]
 | .lst ts=>by rw[eqT]; exact jB7 ts
 | .tup ts=>by rw[eqT]; exact jB7 ts
theorem jB7:∀ ts:List Tr,eqTs ts ts=true
 | []=>by simp [eqTs]
 | t::ts=>by rw[eqTs,jGS t,jB7 ts]; rfl
end
mutual
theorem TAt.ext {H H':Hp}(e:Ext H H'):∀ {t:Tr}{v:V},TAt H t v->TAt H' t v
 | .non,_,h=>h
 | .bl _,_,h=>h
 | .int _,_,h=>h
 | .str _,_,h=>h
 | .lst ts,_,⟨a,vs,q,h,r⟩=>⟨a,vs,q,e _ _ h,TsAt.ext e r⟩
 | .tup ts,_,⟨a,vs,q,h,r⟩=>⟨a,vs,q,e _ _ h,TsAt.ext e r⟩
theorem TsAt.ext {H H':Hp}(e:Ext H H'):∀ {ts:List Tr}{vs:List V},TsAt H ts vs->TsAt H' ts vs
 | [],_,h=>h
 | t::ts,_,⟨v,r,q,h,s⟩=>⟨v,r,q,TAt.ext e h,TsAt.ext e s⟩
end
mutual
theorem TAt.inj {H:Hp} :∀ {t u:Tr}{v:V},TAt H t v->TAt H u v->t=u
 | .non,u,_,h,h'=>by
  cases (show _=V.non from h);cases u with
  | non=>rfl
  | bl b=>cases (show V.non=_ from h')
  | int b=>cases (show V.non=_ from h')
  | str b=>cases (show V.non=_ from h')
  | lst ts=>obtain⟨_,_,q,_⟩:=h'; cases q
  | tup ts=>obtain⟨_,_,q,_⟩:=h'; cases q
 | .bl b,u,_,h,h'=>by
  cases (show _=V.bl b from h);cases u with
  | non=>cases (show V.bl b=_ from h')
  | bl b=>cases (show V.bl _=V.bl b from h'); rfl
  | int i=>cases (show V.bl b=V.int i from h')
  | str i=>cases (show V.bl b=V.str i from h')
  | lst ts=>obtain⟨_,_,q,_⟩:=h'; cases q
  | tup ts=>obtain⟨_,_,q,_⟩:=h'; cases q
 | .int b,u,_,h,h'=>by
  cases (show _=V.int b from h);cases u with
  | non=>cases (show V.int b=_ from h')
  | bl i=>cases (show V.int b=V.bl i from h')
  | int b=>cases (show V.int _=V.int b from h'); rfl
  | str i=>cases (show V.int b=V.str i from h')
  | lst ts=>obtain⟨_,_,q,_⟩:=h'; cases q
  | tup ts=>obtain⟨_,_,q,_⟩:=h'; cases q
 | .str b,u,_,h,h'=>by
  cases (show _=V.str b from h);cases u with
  | non=>cases (show V.str b=_ from h')
  | bl i=>cases (show V.str b=V.bl i from h')
  | int i=>cases (show V.str b=V.int i from h')
  | str b=>cases (show V.str _=V.str b from h'); rfl
  | lst ts=>obtain⟨_,_,q,_⟩:=h'; cases q
  | tup ts=>obtain⟨_,_,q,_⟩:=h'; cases q
 | .lst ts,u,_,⟨a,vs,q,h,r⟩,h'=>by
  subst q;cases u with
  | non=>cases (show V.ref a=_ from h')
  | bl i=>cases (show V.ref a=V.bl i from h')
  | int i=>cases (show V.ref a=V.int i from h')
  | str i=>cases (show V.ref a=V.str i from h')
  | lst us=>
   obtain⟨a',vs',q',h2,r'⟩:=h';cases q';rw[h] at h2;cases h2;rw[TsAt.inj r r']
  | tup us=>
   obtain⟨a',vs',q',h2,r'⟩:=h';cases q';rw[h] at h2;cases h2
 | .tup ts,u,_,⟨a,vs,q,h,r⟩,h'=>by
  subst q;cases u with
  | non=>cases (show V.ref a=_ from h')
  | bl i=>cases (show V.ref a=V.bl i from h')
  | int i=>cases (show V.ref a=V.int i from h')
  | str i=>cases (show V.ref a=V.str i from h')
  | lst us=>
   obtain⟨a',vs',q',h2,r'⟩:=h';cases q';rw[h] at h2;cases h2
  | tup us=>
   obtain⟨a',vs',q',h2,r'⟩:=h';cases q';rw[h] at h2;cases h2;rw[TsAt.inj r r']
theorem TsAt.inj {H:Hp} :∀ {ts us:List Tr}{vs:List V},TsAt H ts vs->TsAt H us vs->ts=us
 | [],us,_,h,h'=>by
  cases (show _=[] from h);cases us with
  | nil=>rfl
  | cons u us=>obtain⟨_,_,q,_⟩:=h'; cases q
 | t::ts,us,_,⟨v,r,q,h,s⟩,h'=>by
  subst q;cases us with
  | nil=>cases (show v::r=[] from h')
  | cons u us=>
   obtain⟨v',r',q,h2,s2⟩:=h';cases q;rw[TAt.inj h h2,TsAt.inj s s2]
end
theorem TsAt.len {H:Hp} :∀ {ts:List Tr}{vs:List V},TsAt H ts vs->vs.length=ts.length
 | [],_,h=>by cases (show _=[] from h); rfl
 | t::ts,_,⟨v,r,q,_,s⟩=>by rw[q,aU,aU,TsAt.len s]
theorem TsAt.get {H:Hp} :∀ {ts:List Tr}{vs:List V},TsAt H ts vs->∀ {i:Nat}{v:V},vs[i]?=some v->∃ t,ts[i]?=some t/\TAt H t v
 | [],_,h,i,v,e=>by cases (show _=[] from h); cases e
 | t::ts,_,⟨v,r,q,h,s⟩,0,v',e=>by subst q; cases e; exact⟨t,rfl,h⟩
 | t::ts,_,⟨v,r,q,h,s⟩,i+1,v',e=>by subst q; exact TsAt.get s (i:=i) e
theorem jEZ:∀ ts us:List Tr,eqTs ts us=((List.range (min ts.length us.length)).all (fun j=>eqT (ts.getD j .non) (us.getD j .non))&&ts.length==us.length)
 | [],[]=>by simp [eqTs]
 | [],u::us=>by simp [eqTs]
 | t::ts,[]=>by simp [eqTs]
 | t::ts,u::us=>by
  rw[eqTs,jEZ ts us,aU,aU,show min (ts.length+1) (us.length+1)=min ts.length us.length+1 by lia,List.range_succ_eq_map,ff,iA];have e:(ts.length+1==us.length+1)=(ts.length==us.length):=by
   rw[bZ];simp
  rw[e,Bool.and_assoc];rfl
theorem jJP {ts:List Tr}{t:Tr}(h:t∈ts):dep t<=deps ts:=by
 induction ts with
 | nil=>cases h
 | cons a r ih=>
  rw[deps];rcases aI.mp h with q | q
  ·subst q; lia
  ·have:=ih q; lia
def flatT:Tr->Bool
 | .lst _=>false
 | .tup _=>false
 | _=>true
theorem jPB {H:Hp}{t:Tr}{x:V}(h:TAt H t x)(f:flatT t=true):qR x=true:=by
 cases t with
 | non=>cases (show x=_ from h); rfl
 | bl b=>cases (show x=V.bl b from h); rfl
 | int b=>cases (show x=V.int b from h); rfl
 | str b=>cases (show x=V.str b from h); rfl
 | lst ts=>cases f
 | tup ts=>cases f
theorem jV0 {H:Hp}{t u:Tr}{x y:V}(h:TAt H t x)(h':TAt H u y)(f:flatT t=true)(f':flatT u=true):eqV x y=eqT t u:=by
 cases t with
 | non=>
  cases (show x=_ from h);cases u with
  | non=>cases (show y=_ from h'); simp [eqV,eqT]
  | bl b=>cases (show y=V.bl b from h'); simp [eqV,eqT]
  | int b=>cases (show y=V.int b from h'); simp [eqV,eqT]
  | str b=>cases (show y=V.str b from h'); simp [eqV,eqT]
  | lst ts=>cases f'
  | tup ts=>cases f'
 | bl c=>
  cases (show x=V.bl c from h);cases u with
  | non=>cases (show y=_ from h'); simp [eqV,eqT]
  | bl b=>cases (show y=V.bl b from h'); simp [eqV,eqT]
  | int b=>cases (show y=V.int b from h'); simp [eqV,eqT]
  | str b=>cases (show y=V.str b from h'); simp [eqV,eqT]
  | lst ts=>cases f'
  | tup ts=>cases f'
 | int c=>
  cases (show x=V.int c from h);cases u with
  | non=>cases (show y=_ from h'); simp [eqV,eqT]
  | bl b=>cases (show y=V.bl b from h'); simp [eqV,eqT]
  | int b=>cases (show y=V.int b from h'); simp [eqV,eqT]
  | str b=>cases (show y=V.str b from h'); simp [eqV,eqT]
  | lst ts=>cases f'
  | tup ts=>cases f'
 | str c=>
  cases (show x=V.str c from h);cases u with
  | non=>cases (show y=_ from h'); simp [eqV,eqT]
  | bl b=>cases (show y=V.bl b from h'); simp [eqV,eqT]
  | int b=>cases (show y=V.int b from h'); simp [eqV,eqT]
  | str b=>cases (show y=V.str b from h'); simp [eqV,eqT]
  | lst ts=>cases f'
  | tup ts=>cases f'
 | lst ts=>cases f
 | tup ts=>cases f
section
variable {lH:Ai}{σ:St}
theorem TsAt.both {ts us:List Tr}{vs ws:List V}{its its2:Am}(h1:TsAt H ts vs)(h2:TsAt H us ws)(r1:Vals vs its)(r2:Vals ws its2){j:Nat}(a1:j<its.toArray.size)(a2:j<its2.toArray.size):
  ∃ t u x y,ts.getD j .non=t/\us.getD j .non=u/\t∈ts/\TAt H t x/\TAt H u y/\RelV x its.toArray[j]/\RelV y its2.toArray[j]:=by
 have l1:=r1.length;have l2:=r2.length;rw[az] at a1 a2;obtain⟨x,hx⟩:∃ x,vs[j]?=some x:=⟨vs[j]' Aa,by simp [show j<vs.length by lia]⟩;obtain⟨y,hy⟩:∃ y,ws[j]?=some y:=⟨ws[j]' Aa,by simp [show j<ws.length by lia]⟩;obtain⟨t,ht,hxt⟩:=h1.get hx;obtain⟨u,hu,hyu⟩:=h2.get hy;obtain⟨v,hv,rv⟩:=r1.get hx;obtain⟨w,hw,rw'⟩:=r2.get hy;have e1:its.toArray[j]=v:=by
  have:its[j]?=some its[j]:=by simp [a1]
  rw[hv] at this;simpa using (bD this).symm
 have e2:its2.toArray[j]=w:=by
  have:its2[j]?=some its2[j]:=by simp [a2]
  rw[hw] at this;simpa using (bD this).symm
 refine⟨t,u,x,y,by rw[am,ht]; rfl,by rw[am,hu]; rfl,aH ht,hxt,hyu,by rw[e1]; exact rv,by rw[e2]; exact rw'⟩
theorem jX6 (I:Inv X lH σ H s):∀ (n:Nat) (t u:Tr) (x y:V) (vx vy:Value) (A:Around),dep t=n->TAt H t x->TAt H u y->RelV x vx->RelV y vy->A.units+n<cLine->SeqAt.EqAt A s vx vy (eqT t u):=by
 intro n
 induction n using strongRecOn with
 | ind n ih=>
  intro t u x y vx vy A hn ht hu rx ry hc;have hcu:A.units<cLine:=Aa;cases ft:flatT t with
  | true=>
   cases fu:flatT u with
   | true=>
    rw[<- jV0 ht hu ft fu];exact jSY rx ry (jPB ht ft) (jPB hu fu)
   | false=>
    cases u with
    | lst us=>
     obtain⟨b,ws,rfl,hb,_⟩:=hu;cases ry;obtain⟨its,_,pl,_⟩:=I.list (SqL.of hb);cases t with
     | non=>cases (show x=_ from ht); cases rx; rw[show eqT .non (.lst us)=false by simp [eqT]]; exact .none_list pl.isList hcu
     | bl c=>cases (show x=V.bl c from ht); cases rx; rw[show eqT (.bl c) (.lst us)=false by simp [eqT]]; exact .bool_list c pl.isList hcu
     | int c=>cases (show x=V.int c from ht); obtain⟨k,rfl⟩:=rx; rw[show eqT (.int c) (.lst us)=false by simp [eqT]]; exact .int_list c k pl.isList hcu
     | str c=>cases (show x=V.str c from ht); obtain⟨k,rfl⟩:=rx; rw[show eqT (.str c) (.lst us)=false by simp [eqT]]; exact .str_list c k pl.isList hcu
     | lst ts=>cases ft
     | tup ts=>cases ft
    | tup us=>
     obtain⟨b,ws,rfl,hb,_⟩:=hu;cases ry;obtain⟨its,_,pl,_⟩:=I.tuple (SqT.of hb);cases t with
     | non=>cases (show x=_ from ht); cases rx; rw[show eqT .non (.tup us)=false by simp [eqT]]; exact .none_tuple pl hcu
     | bl c=>cases (show x=V.bl c from ht); cases rx; rw[show eqT (.bl c) (.tup us)=false by simp [eqT]]; exact .bool_tuple c pl hcu
     | int c=>cases (show x=V.int c from ht); obtain⟨k,rfl⟩:=rx; rw[show eqT (.int c) (.tup us)=false by simp [eqT]]; exact .int_tuple c k pl hcu
     | str c=>cases (show x=V.str c from ht); obtain⟨k,rfl⟩:=rx; rw[show eqT (.str c) (.tup us)=false by simp [eqT]]; exact .str_tuple c k pl hcu
     | lst ts=>cases ft
     | tup ts=>cases ft
    | non=>cases fu
    | bl c=>cases fu
    | int c=>cases fu
    | str c=>cases fu
  | false=>
   cases t with
   | non=>cases ft
   | bl c=>cases ft
   | int c=>cases ft
   | str c=>cases ft
   | lst ts=>
    have ht0:=ht;obtain⟨a,vs,rfl,ha,hts⟩:=ht;cases rx;obtain⟨its,r1,pl,_⟩:=I.list (SqL.of ha);cases u with
    | non=>cases (show y=_ from hu); cases ry; rw[show eqT (.lst ts) .non=false by simp [eqT]]; exact .list_none pl.isList hcu
    | bl c=>cases (show y=V.bl c from hu); cases ry; rw[show eqT (.lst ts) (.bl c)=false by simp [eqT]]; exact .list_bool c pl.isList hcu
    | int c=>cases (show y=V.int c from hu); obtain⟨k,rfl⟩:=ry; rw[show eqT (.lst ts) (.int c)=false by simp [eqT]]; exact .list_int c k pl.isList hcu
    | str c=>cases (show y=V.str c from hu); obtain⟨k,rfl⟩:=ry; rw[show eqT (.lst ts) (.str c)=false by simp [eqT]]; exact .list_str c k pl.isList hcu
    | tup us=>
     obtain⟨b,ws,rfl,hb,_⟩:=hu;cases ry;obtain⟨its2,_,pl2,_⟩:=I.tuple (SqT.of hb);rw[show eqT (.lst ts) (.tup us)=false by simp [eqT]];exact .list_tuple pl.isList pl2 hcu
    | lst us=>
     have hu0:=hu;obtain⟨b,ws,rfl,hb,hus⟩:=hu;cases ry;by_cases e:a=b
     ·subst e;rw[<- TAt.inj ht0 hu0,jGS];exact .same _
     ·obtain⟨its2,r2,pl2,_⟩:=I.list (SqL.of hb);refine .of_refs e ?_;have l1:=r1.length;have l2:=r2.length;have m1:=hts.len;have m2:=hus.len;rw[eqT,jEZ];by_cases hl:ts.length=us.length
      ·have key:=SeqAt.RcAt.lists (e:=fun j=>eqT (ts.getD j .non) (us.getD j .non)) pl.isList pl2.isList (by rw[az,az]; lia) hcu fun j a1 a2=>by
        obtain⟨t',u',x',y',e1,e2,hm,q1,q2,q3,q4⟩:=TsAt.both hts hus r1 r2 a1 a2;rw[e1,e2];have hd:=jJP hm;have hn':deps ts+1=n:=by rw[<- hn,dep]
        exact ih (dep t') Aa t' u' x' y' _ _ _ rfl q1 q2 q3 q4 (by rw[dw]; lia)
       have ez:its.toArray.size=min ts.length us.length:=by rw[az]; lia
       rw[ez] at key;rw[show (ts.length==us.length)=true by simp [hl],Bool.and_true];exact key
      ·rw[show (ts.length==us.length)=false by simp [hl],dD];refine SeqAt.RcAt.lists_lengths pl.isList pl2.isList ?_ hcu;rw[az,az];simp;lia
   | tup ts=>
    have ht0:=ht;obtain⟨a,vs,rfl,ha,hts⟩:=ht;cases rx;obtain⟨its,r1,pl,_⟩:=I.tuple (SqT.of ha);cases u with
    | non=>cases (show y=_ from hu); cases ry; rw[show eqT (.tup ts) .non=false by simp [eqT]]; exact .tuple_none pl hcu
    | bl c=>cases (show y=V.bl c from hu); cases ry; rw[show eqT (.tup ts) (.bl c)=false by simp [eqT]]; exact .tuple_bool c pl hcu
    | int c=>cases (show y=V.int c from hu); obtain⟨k,rfl⟩:=ry; rw[show eqT (.tup ts) (.int c)=false by simp [eqT]]; exact .tuple_int c k pl hcu
    | str c=>cases (show y=V.str c from hu); obtain⟨k,rfl⟩:=ry; rw[show eqT (.tup ts) (.str c)=false by simp [eqT]]; exact .tuple_str c k pl hcu
    | lst us=>
     obtain⟨b,ws,rfl,hb,_⟩:=hu;cases ry;obtain⟨its2,_,pl2,_⟩:=I.list (SqL.of hb);rw[show eqT (.tup ts) (.lst us)=false by simp [eqT]];exact .tuple_list pl pl2.isList hcu
    | tup us=>
     have hu0:=hu;obtain⟨b,ws,rfl,hb,hus⟩:=hu;cases ry;by_cases e:a=b
     ·subst e;rw[<- TAt.inj ht0 hu0,jGS];exact .same _
     ·obtain⟨its2,r2,pl2,_⟩:=I.tuple (SqT.of hb);refine .of_refs e ?_;have l1:=r1.length;have l2:=r2.length;have m1:=hts.len;have m2:=hus.len;rw[eqT,jEZ];have key:=SeqAt.RcAt.tuples (e:=fun j=>eqT (ts.getD j .non) (us.getD j .non)) pl pl2 hcu fun j a1 a2=>by
       obtain⟨t',u',x',y',e1,e2,hm,q1,q2,q3,q4⟩:=TsAt.both hts hus r1 r2 a1 a2;rw[e1,e2];have hd:=jJP hm;have hn':deps ts+1=n:=by rw[<- hn,dep]
       exact ih (dep t') Aa t' u' x' y' _ _ _ rfl q1 q2 q3 q4 (by rw[dw]; lia)
      have z1:its.toArray.size=ts.length:=by rw[az]; lia
      have z2:its2.toArray.size=us.length:=by rw[az]; lia
      rw[z1,z2] at key;exact key
theorem jOX (I:Inv X lH σ H s){ts us:List Tr}{vs ws:List V}{its its2:Am}(h1:TsAt H ts vs)(h2:TsAt H us ws)(r1:Vals vs its)(r2:Vals ws its2){A:Around}(hc:A.units+deps ts<cLine):
  ∀ j (a1:j<its.toArray.size) (a2:j<its2.toArray.size),SeqAt.EqAt A s its.toArray[j] its2.toArray[j] (eqT (ts.getD j .non) (us.getD j .non)):=fun j a1 a2=>by
 obtain⟨t',u',x',y',e1,e2,hm,q1,q2,q3,q4⟩:=TsAt.both h1 h2 r1 r2 a1 a2;rw[e1,e2];have hd:=jJP hm;exact jX6 I (dep t') t' u' x' y' _ _ _ rfl q1 q2 q3 q4 Aa
theorem jU3 (hu:X.A.units+101<cLine):OpR X (compareOp .NotEq) (fun x y H Q=>∃ ts us,TAt H (.tup ts) x/\TAt H (.tup us) y/\deps ts<=100/\Q (.bl (!eqTs ts us)) H):=by
 intro lH s σ H x y v u Q I rx ry h;obtain⟨ts,us,⟨a,vs,rfl,ha,hts⟩,⟨b,ws,rfl,hb,hus⟩,hd,q⟩:=h;cases rx;cases ry;obtain⟨its,r1,p1,_⟩:=I.tuple (SqT.of ha);obtain⟨its2,r2,p2,_⟩:=I.tuple (SqT.of hb);have l1:=r1.length;have l2:=r2.length;have m1:=hts.len;have m2:=hus.len;refine SeqAt.RcNeAt.tuples (e:=fun j=>eqT (ts.getD j .non) (us.getD j .non)) p1 p2 Aa (jOX I hts hus r1 r2 (by rw[dw]; lia)) _ _ _ _ ⟨.bl _,H,I,rfl,?_⟩;have z1:its.toArray.size=ts.length:=by rw[az]; lia
 have z2:its2.toArray.size=us.length:=by rw[az]; lia
 rw[z1,z2,<- jEZ];exact q
theorem jJ5 (hu:X.A.units+101<cLine):OpR X (compareOp .Eq) (fun x y H Q=>∃ ts us,TAt H (.lst ts) x/\TAt H (.lst us) y/\deps ts<=100/\Q (.bl (eqTs ts us)) H):=by
 intro lH s σ H x y v u Q I rx ry h;obtain⟨ts,us,⟨a,vs,rfl,ha,hts⟩,⟨b,ws,rfl,hb,hus⟩,hd,q⟩:=h;cases rx;cases ry;obtain⟨its,r1,p1,_⟩:=I.list (SqL.of ha);obtain⟨its2,r2,p2,_⟩:=I.list (SqL.of hb);have l1:=r1.length;have l2:=r2.length;have m1:=hts.len;have m2:=hus.len;rw[jEZ] at q;by_cases hl:ts.length=us.length
 ·refine SeqAt.eq_listAt (e:=fun j=>eqT (ts.getD j .non) (us.getD j .non)) p1.isList p2.isList (by rw[az,az]; lia) Aa (jOX I hts hus r1 r2 (by rw[dw]; lia)) ⟨.bl _,H,I,rfl,?_⟩;have ez:its.toArray.size=min ts.length us.length:=by rw[az]; lia
  rw[ez];rw[show (ts.length==us.length)=true by simp [hl],Bool.and_true] at q;exact q
 ·rw[show (ts.length==us.length)=false by simp [hl],dD] at q;refine SeqAt.eq_list_lengthsAt p1.isList p2.isList ?_ Aa ⟨.bl _,H,I,rfl,q⟩;rw[az,az];simp;lia
theorem Room.units101 {k:Nat}{A:Around}(r:Room k A):A.units+101<cLine:=by have:=r.un; lia
end
section
variable {tg iter elt:Expr}{ifs:List Expr}{wi:TI}
end
section
variable {sc2:Scope}{cl2:Aj}{C2:Addr}{Nc2:An}{fp2:List Addr}{s2:Shared}{H2:Hp}
end
def jQC:V->List V->Hp->VK->Prop:=fun x vs H Q=>∃ l b xs zs,x= .ref l/\vs=[.ref b]/\H l=some (.lst xs)/\H b=some (.tup zs)/\xs.length+zs.length<=sizeLine/\Q .non (upd H l (.lst (xs++zs)))
theorem jM0:MtM X "list.extend" jQC:=by
 intro lH s σ H x vs v us Q I rx rv h;obtain⟨l,b,xs,zs,rfl,rfl,hH,hB,hz,q⟩:=h;cases rx;obtain⟨u,rfl,ru⟩:=rv.one;cases ru;obtain⟨z,its,n,r,hl,e⟩:=I.lstM hH;obtain⟨_,its2,r2,n2,e2⟩:=I.hok b _ hB;have hl2:=r2.length;have hsz:its.toArray.size+its2.toArray.size<=sizeLine:=by rw[az,az]; lia
 have hlong:¬ (!its.toArray.isEmpty&&Builtin.List.listTooLong (its.toArray.size+its2.toArray.size))=true:=by
  rw[jQU hsz,dD];exact ay
 refine gX F.slot_list_extend ⟨_,e,rfl⟩ F.entry_list_extend (F.args_list_extend_2 _ _)
  (AutoSeq1.list_extend_list_tuple_0 l its.toArray n b its2.toArray n2 hlong (by rw[az]; lia) Aa) ⟨e,e2,?_⟩
 refine⟨.non,_,I.lset (its':=its++its2) hH e Ad (r.append r2) ?_,rfl,q⟩;rw[aL];lia
def jTD:V->List V->Hp->VK->Prop:=fun x vs H Q=>∃ p xs y,x= .ref p/\vs=[y]/\H p=some (.lst xs)/\qR y=true/\xs.all qR=true/\Q (.int ((xs.countP fun z=>eqV z y:Nat):Int)) H
theorem jHV:MtM X "list.count" jTD:=by
 intro lH s σ H x vs v us Q I rx rv h;obtain⟨p,xs,y,rfl,rfl,hp,fy,fs,q⟩:=h;cases rx;obtain⟨u,rfl,ru⟩:=rv.one;obtain⟨z,its,n,r,hl,e0⟩:=I.lstM hp;refine gX F.slot_list_count ⟨_,e0,rfl⟩ F.entry_list_count (F.args_list_count_2 _ _) (SeqAt.list_countAt p its.toArray n none #[] u (eqU y)) ⟨e0,fun w hw=>jDX ru fy r fs w (by simpa using hw),?_⟩;refine⟨.int _,H,I.tok _,⟨s.toks,rfl⟩,?_⟩;rw[show its.toArray.toList.countP (eqU y)=xs.countP (fun z=>eqV z y) from jFS r fs];exact q
def rAny (K:W.Frag):List V->Hp->VK->Prop:=fun xs H Q=>∃ (p:Addr) (bs:List Bool),xs=[.ref p]/\SqL K H p (bs.map V.bl)/\Q (.bl (bs.any id)) H
theorem jF3 (hc:X.calm=true):yV X (.builtin "any") (rAny X.K):=by
 intro lH s σ H xs us Q I r h;obtain⟨p,bs,rfl,hq,q⟩:=h;obtain⟨u,rfl,rx⟩:=r.one;cases rx;obtain⟨its,r',pl,hz⟩:=I.list hq;have hlen:=r'.length;rw[af] at hlen;refine call_any_walk (dJ pl.isList ?_);have hne:p≠s.heap.objs.size:=by
  obtain⟨o,ho,_⟩:=pl.isList;exact aW (aK ho)
 refine⟨s.heap.objs.size,_,_,_,_,_,fun i=>bs.getD i true,rfl,jn (by simpa using I.ok.hd hc) _ p hne its.toArray,⟨⟨_,aF _ rfl,rfl,rfl⟩,pl.isList.push _⟩,fun i v z Q' E' hP hQ'=>?_,fun h' tk hk=>?_⟩
 ·have hi:its[i]?=some v:=by simpa using hP
  have hb:i<bs.length:=by
   rw[hlen];exact(ao.mp hi).1
  obtain⟨u,hu,ru⟩:=r'.get (i:=i) (x:= .bl (bs[i])) (by simp [hb]);rw[hi] at hu;cases hu;cases ru;have e:bs.getD i true=bs[i]:=by simp [List.getD,hb]
  have hQ2:Q' (bs.getD i true) z:=hQ';rw[e] at hQ2;exact aj hQ2
 ·have e:(List.range its.toArray.size).any (fun i=>bs.getD i true)=bs.any id:=by
   rw[az,<- hlen];rw[bZ,dW,dW];constructor
   ·rintro ⟨i,hi,hb⟩;have hi:=bK.mp hi;exact⟨bs[i],cU hi,by simpa [List.getD,hi] using hb⟩
   ·rintro ⟨b,hb,hq⟩;obtain⟨i,hi,rfl⟩:=eQ hb;exact⟨i,bK.mpr hi,by simpa [List.getD,hi] using hq⟩
  rw[e];exact⟨.bl _,H,I.kept (t':=tk) fun b o e=>hk b o (by
   intro z;have z:b=s.heap.objs.size:=by simpa using z
   exact absurd (aK e) (by rw[z]; exact dz _)) (ah _ e),rfl,q⟩
theorem jIF:yV X (.builtin "sorted") (fun xs H Q=>∃ (p:Addr) (ks:Ag),xs=[.ref p]/\SqL X.K H p (ks.map V.int)/\ks.length<64/\
  ∀ (l:Addr) (ns:Ag),H l=none->ns.Pairwise (· <= ·)->ns.Perm ks->Q (.ref l) (upd H l (.lst (ns.map V.int)))):=by
 intro lH s σ H xs us Q I r h;obtain⟨p,ks,rfl,hp,hn,q⟩:=h;obtain⟨u,rfl,rx⟩:=r.one;cases rx;obtain⟨its,r',pl,hz⟩:=I.list hp;have hlen:=r'.length;rw[af] at hlen;refine sorted_ints pl.isList (jB3 r') Aa fun out ns' a1 a2 a3=>?_;obtain⟨e,he⟩:=sortedAll_at s.heap its out;have hz:(ns'.map V.int).length<=sizeLine:=by
  rw[af,a2.length_eq,eV];lia
 have I2:Inv X lH σ (upd H (s.heap.objs.size+1) (.lst (ns'.map V.int))) { s with heap:=sortedAll s.heap its out} :=I.laid (t':=s.toks) (fun b o e=>sortedAll_old e) (dE _) ⟨hz,out.toList,e,jAA a1,by rw[cW]; exact he⟩;exact⟨.ref _,_,I2,rfl,q _ ns' (I.hok.fresh (dE _)) a3 a2⟩
theorem jR5 {c:Expr}{body:List Stmt}{tc:TT}{tb:TS}{pos:Pos}(hp:PassesOwn (model X.prog X.w) X.A X.env X.xe)(hc:JT X c tc)(hb:JSs X body tb):JS X (.While c body [] pos) (jS4 tc tb):=⟨jQD hp hc.h hb.h⟩
theorem jNU {op:CmpOp}{a b:Expr}{pos:Pos} :behindInMarks op (.Subscript a b pos)=false:=by cases op <;> rfl
theorem jOS {o e:Expr}{es:List Expr}{to:TE}{t:TA}{cpos apos:Pos}{id:String}{T:String}{name:Str}{r}(pa:PlainAttrs T)(slot:Slot T name id)(hty:typeOf (.builtin id)=pure (.type "method_descriptor"))(hm:MtR (blk X sc cl C Nc fp s H) id r)(ho:JE (blk X sc cl C Nc fp s H) o to)(ha:JA (blk X sc cl C Nc fp s H) (e::es) t)
  (hs:starEach (e::es) (blk X sc cl C Nc fp s H).env=(false,eval e (blk X sc cl C Nc fp s H).env)::starEach es (blk X sc cl C Nc fp s H).env)
  (hbase:attributeBase o name (blk X sc cl C Nc fp s H).env (eval o (blk X sc cl C Nc fp s H).env)=eval o (blk X sc cl C Nc fp s H).env:=by rfl)
  (hfew:((backTo cpos (starEach (e::es) (blk X sc cl C Nc fp s H).env)).all (fun x=>!x.1)&&(backToKw cpos (keywordEach [] (blk X sc cl C Nc fp s H).env)).all (fun x=>x.1.isSome)
   &&decide ((e::es).length+([]:List Keyword).length+(if ([]:List Keyword).isEmpty then 0 else 1)<30))=true:=by rfl)
  (hline:(apos.endLine==cpos.line)=true:=by rfl) (hplain:(backTo cpos (starEach es (blk X sc cl C Nc fp s H).env)).any (·.1)=false:=by rfl):
  JE (blk X sc cl C Nc fp s H) (.Call (.Attribute o name apos) (e::es) [] cpos) (tBM X.K T r to t):=je_bm pa slot hty hm ho ha hs hbase hfew hline hplain
end L2
namespace L2
open PySem
def LstR (H:Hp)(xs:List V)(Q:VK):Prop:=∀ r H',H' r=some (.lst xs)->Ext H H'->H r=none->Q (.ref r) H'
theorem LstR.new {H:Hp}{xs:List V}{Q:VK}(q:LstR H xs Q){p:Addr}(hp:H p=none):Q (.ref p) (upd H p (.lst xs)):=q p _ j5 ((Ext.refl H).new hp _) hp
def tTupU (t:TA):TE:=fun σ H Q=>t σ H fun xs H1=>xs.length<=sizeLine/\TupR H1 xs Q
def tLstU (t:TA):TE:=fun σ H Q=>t σ H fun xs H1=>xs.length<=sizeLine/\LstR H1 xs Q
section
variable {X:Cx}{es:List Expr}{t:TA}{pos:Pos}
theorem y4 {x1}(h:JA X es t):JE X (.Tuple es x1 pos) (tTupU t):=⟨fun lH s σ H Q I hq=>by
 refine wpAny_Tuple_spliced (lJ (h.h pos lH s σ H _ I hq) fun us s1 ⟨xs,H1,I1,r,z,q⟩=>⟨by rw[<- r.length]; exact z,?_⟩);have hf:H1 s1.heap.objs.size=none:=I1.hok.fresh (aA _);exact⟨.ref s1.heap.objs.size,upd H1 s1.heap.objs.size (.tup xs),I1.laid (t':=s1.toks) (fun b u e=>ah _ e) (aA _) ⟨z,us,r,TupO.new _ _⟩,rfl,q.new hf⟩⟩
theorem jB0 (h:JA X es t):JE X (.List es pos) (tLstU t):=⟨fun lH s σ H Q I hq=>by
 refine wpAny_List_spliced (lJ (h.h pos lH s σ H _ I hq) fun us s1 ⟨xs,H1,I1,r,z,q⟩=>⟨by rw[<- r.length]; exact z,?_⟩);have hf:H1 s1.heap.objs.size=none:=I1.hok.fresh (aA _);exact⟨.ref s1.heap.objs.size,upd H1 s1.heap.objs.size (.lst xs),I1.laid (t':=s1.toks) (fun b u e=>ah _ e) (aA _) ⟨z,us,0,r,aF _ rfl⟩,rfl,q.new hf⟩⟩
theorem jKM:OpR X (binaryOp .Add) (fun x y H Q=>∃ l b xs zs,x= .ref l/\y= .ref b/\H l=some (.lst xs)/\H b=some (.lst zs)/\xs.length+zs.length<=sizeLine/\LstR H (xs++zs) Q):=by
 intro lH s σ H x y v u Q I rx ry h;obtain⟨l,b,xs,zs,rfl,rfl,h1,h2,h3,q⟩:=h;exact jWC lH s σ H _ _ v u Q I rx ry ⟨l,b,xs,zs,rfl,rfl,h1,h2,h3,fun p hp=>q.new hp⟩
end
end L2
namespace L2
open PySem PySem.Spec PyProof.Rows
variable {X:Cx}
theorem jJS {prog:Program}{w:World}{A:Around}{E:Ah}{s:Shared}{l:Addr}{vs:Am}{n:Nat}{Q:Am->Shared->Prop}(ho:s.heap.get? l=some { cls:= .type "tuple",data:= .seq vs.toArray n})
  (h:Q vs { s with heap:=(s.heap.push (seqObj "list" #[] 0)).update s.heap.objs.size (Obj.mapSeq (· ++vs.toArray))}) (hsz:vs.length<=sizeLine):
  wpAny (model prog w) A (collect (.ref l)) Q E s:=by
 unfold collect;refine ae (iK (cB entry_proto_collect' ?_));show wpAny _ _ (do again (.builtin "list.__iadd__" ⟨[<- newList [], .ref l],[]⟩)) _ _ s;refine ae (eI (aj ⟨Code.quiet_builtin _ Ab,cB entry_list_iadd' ?_⟩));show wpAny _ _ (Builtin.List.listExtendWith (.ref s.heap.objs.size) (.ref l) (.ref s.heap.objs.size)) _ _ { s with heap:=s.heap.push (seqObj "list" #[] 0)};unfold Builtin.List.listExtendWith;have ho':(s.heap.push (seqObj "list" #[] 0)).get? l=some { cls:= .type "tuple",data:= .seq vs.toArray n} :=ah _ ho;refine ae (jo (T:= "tuple") ⟨_,ho',rfl⟩ ?_);have ht:(Value.type "tuple" ==Value.type "tuple")=true:=by rfl
 rw[aq (by rw[ht,gG])];refine ae (gH ho' rfl ?_);refine ae (gH (xs:=#[]) (n:=0) (aF _ rfl) rfl ?_);rw[ak Ad];refine ae (eJ (xs:=#[]) (n:=0) (aF _ rfl) rfl ?_ (bw _) (by show (#[]++vs.toArray).size<=sizeLine+1; simp only [Array.size_append,az,cA]; lia));refine aj ?_;show wpAny (model prog w) A (do
   let o <- load s.heap.objs.size
   match o.data with
   | .seq xs _=>pure xs.toList
   | _=>unsupported "internal:collect") Q E { s with heap:=(s.heap.push (seqObj "list" #[] 0)).update s.heap.objs.size (Obj.mapSeq (· ++vs.toArray))}
 refine ae (gU (gm (aF _ rfl) _) ?_);show wpAny _ _ (pure ((#[]:Ao)++vs.toArray).toList) Q E _;rw[show ((#[]:Ao)++vs.toArray).toList=vs by simp];exact aj h
theorem jLR {prog:Program}{w:World}{A:Around}{E:Ah}{s:Shared}{l:Addr}{vs:Am}{ns:Ag}{n:Nat}{Q:Ah}(ho:s.heap.get? l=some { cls:= .type "tuple",data:= .seq vs.toArray n})(hI:IntsAre vs ns)(h64:vs.length<64)
  (h:∀ (out:Ao) (ns':Ag),IntsAre out.toList ns'->ns'.Perm ns->ns'.Pairwise (· <= ·)->Q (.ref (s.heap.objs.size+1)) { s with heap:=sortedAll s.heap vs out}):
  wpAny (model prog w) A (call (.builtin "sorted") [.ref l]) Q E s:=by
 refine fU iT ix iy (args_sorted1 _) ?_;unfold Builtin.«sorted»;refine ae (m:=checkCount "sorted" 1 1 _) (aj ?_);refine ae (jJS ho ?_ (by rw[eV]; lia));refine ae (eI ?_ (by rw[eV]; lia));have hsz:((s.heap.push (seqObj "list" #[] 0)).update s.heap.objs.size (Obj.mapSeq (· ++vs.toArray))).objs.size=s.heap.objs.size+1:=by
  rw[gZ,gY]
 have hoL:(((s.heap.push (seqObj "list" #[] 0)).update s.heap.objs.size (Obj.mapSeq (· ++vs.toArray))).push (seqObj "list" vs.toArray 0)).get? (s.heap.objs.size+1)=some (seqObj "list" vs.toArray 0):=by
  rw[<- hsz]; exact aF _ rfl
 show wpAny _ _ _ _ _ { s with heap:=((s.heap.push (seqObj "list" #[] 0)).update s.heap.objs.size (Obj.mapSeq (· ++vs.toArray))).push (seqObj "list" vs.toArray 0)};rw[hsz];refine ae (bX (cE gF ⟨_,hoL,rfl⟩ gj (list_sort_tree hoL hI h64 fun out ns' a1 a2 a3=>⟨_,rfl,?_⟩) (args_list_sort _)));exact aj ⟨_,rfl,h out ns' a1 a2 a3⟩
theorem jDN:yV X (.builtin "sorted") (fun xs H Q=>∃ (p:Addr) (ks:Ag),xs=[.ref p]/\H p=some (.tup (ks.map V.int))/\ks.length<64/\
  ∀ (l:Addr) (ns:Ag),H l=none->ns.Pairwise (· <= ·)->ns.Perm ks->Q (.ref l) (upd H l (.lst (ns.map V.int)))):=by
 intro lH s σ H xs us Q I r h;obtain⟨p,ks,rfl,hp,hn,q⟩:=h;obtain⟨u,rfl,rx⟩:=r.one;cases rx;obtain⟨_,its,r',n,e0⟩:=I.hok p _ hp;have hlen:=r'.length;rw[af] at hlen;refine jLR e0 (jB3 r') Aa fun out ns' a1 a2 a3=>?_;obtain⟨e,he⟩:=sortedAll_at s.heap its out;have hz:(ns'.map V.int).length<=sizeLine:=by
  rw[af,a2.length_eq,eV];lia
 have I2:Inv X lH σ (upd H (s.heap.objs.size+1) (.lst (ns'.map V.int))) { s with heap:=sortedAll s.heap its out} :=I.laid (t':=s.toks) (fun b o e=>sortedAll_old e) (dE _) ⟨hz,out.toList,e,jAA a1,by rw[cW]; exact he⟩;exact⟨.ref _,_,I2,rfl,q _ ns' (I.hok.fresh (dE _)) a3 a2⟩
theorem jE8 (ns:Ag):∀ j,preSum (fun i=>ns.getD i 0) j=(ns.take j).sum
 | 0=>rfl
 | j+1=>by
  rw[preSum,jE8 ns j,be,List.sum_append];congr 1;rw[am];cases ns[j]? with
  | none=>rfl
  | some z=>simp
section
def rSum (K:W.Frag):List V->Hp->VK->Prop:=fun xs H Q=>∃ (p:Addr) (ns:Ag),xs=[.ref p]/\(SqL K H p (ns.map V.int))/\Q (.int ns.sum) H
theorem jIE (hc:X.calm=true):yV X (.builtin "sum") (rSum X.K):=by
 intro lH s σ H xs us Q I r h;obtain⟨p,ns,rfl,hq,q⟩:=h;obtain⟨u,rfl,rx⟩:=r.one;cases rx;obtain⟨its,r',pl,hz⟩:=I.list hq;have hlen:=r'.length;rw[af] at hlen;refine call_sum_walkG (dJ pl.isList ?_);have hne:p≠s.heap.objs.size:=by
  obtain⟨o,ho,_⟩:=pl.isList;exact aW (aK ho)
 refine⟨s.heap.objs.size,_,_,_,_,_,fun i=>ns.getD i 0,rfl,jn (by simpa using I.ok.hd hc) _ p hne its.toArray,⟨⟨_,aF _ rfl,rfl,rfl⟩,pl.isList.push _⟩,(fun b hb=>?_),(fun i v hP=>?_),fun h' tk t' hk=>?_⟩
 ·show b<(s.heap.push _).objs.size;rw[eR];obtain⟨o,ho,_⟩:=pl.isList;have:=aK ho;rcases aI.mp hb with rfl | hb
  ·exact Nat.lt_succ_self _
  ·rcases aI.mp hb with rfl | hb
   ·exact da this
   ·cases hb
 ·have hi:its[i]?=some v:=by simpa using hP
  have hb:i<ns.length:=by
   rw[hlen];exact(ao.mp hi).1
  obtain⟨u,hu,ru⟩:=r'.get (i:=i) (x:= .int (ns[i])) (by simp [hb]);rw[hi] at hu;cases hu;obtain⟨t,rfl⟩:=ru;exact⟨t,by simp [List.getD,hb]⟩
 ·have e:preSum (fun i=>ns.getD i 0) its.toArray.size=ns.sum:=by
   rw[jE8,az,<- hlen,bq]
  rw[e];exact⟨.int _,H,I.kept (t':=tk) fun b o e=>hk b o (by
   intro z;have z:b=s.heap.objs.size:=by simpa using z
   exact absurd (aK e) (by rw[z]; exact dz _)) (ah _ e),⟨_,rfl⟩,q⟩
variable {sc:Scope}{cl:Aj}{C:Addr}{Nc:An}{fp:List Addr}{s:Shared}{H:Hp}
end
theorem jFU (a b:Nat):Builtin.bitAnd (a:Int) (b:Int)=((a&&&b:Nat):Int):=by
 unfold Builtin.bitAnd;rw[ar (gq a),ar (gq b)];rfl
theorem jCQ (a b:Nat):Builtin.bitOr (a:Int) (b:Int)=((a|||b:Nat):Int):=by
 unfold Builtin.bitOr;have ha:Builtin.bitNot (a:Int)= -(a:Int) - 1:=by unfold Builtin.bitNot; lia
 have hb:Builtin.bitNot (b:Int)= -(b:Int) - 1:=by unfold Builtin.bitNot; lia
 have na:¬ (0<=Builtin.bitNot (a:Int)):=by rw[ha]; lia
 have nb:¬ (0<=Builtin.bitNot (b:Int)):=by rw[hb]; lia
 unfold Builtin.bitAnd;rw[aM na,aM nb];have ea:Builtin.bitNot (Builtin.bitNot (a:Int))=(a:Int):=by rw[ha]; unfold Builtin.bitNot; lia
 have eb:Builtin.bitNot (Builtin.bitNot (b:Int))=(b:Int):=by rw[hb]; unfold Builtin.bitNot; lia
 show Builtin.bitNot (Builtin.bitNot _)=_;rw[ea,eb];unfold Builtin.bitNot;simp;lia
def maskN (ts:Ag):Nat:=(ts.map fun t=>2 ^ t.toNat).sum
theorem jKW:∀ (ts:Ag) (lo:Nat),ts.Pairwise (· < ·)->(∀ t∈ts,(lo:Int)<=t)->maskN ts % 2 ^ lo=0
 | [],_,_,_=>by simp [maskN]
 | t::r,lo,hp,hl=>by
  have ih:=jKW r lo (cR.mp hp).2 fun x hx=>hl x (ag _ hx);have h0:=hl t (ai ..);have e:maskN (t::r)=2 ^ t.toNat+maskN r:=by simp [maskN]
  have d:2 ^ t.toNat % 2 ^ lo=0:=Nat.mod_eq_zero_of_dvd (Nat.pow_dvd_pow 2 Aa);rw[e,Nat.add_mod,ih,d];simp
theorem jA2:∀ (ts:Ag) (n:Nat),ts.Pairwise (· < ·)->(∀ t∈ts,0<=t)->(maskN ts).testBit n=decide ((n:Int)∈ts)
 | [],n,_,_=>by simp [maskN]
 | t::r,n,hp,h0=>by
  obtain⟨h1,h2⟩:=cR.mp hp;have ih:=jA2 r n h2 fun x hx=>h0 x (ag _ hx);have ht:=h0 t (ai ..);obtain⟨k,rfl⟩:∃ k:Nat,t=(k:Int):=⟨t.toNat,Aa⟩;have e:maskN ((k:Int)::r)=2 ^ k+maskN r:=by simp [maskN]
  have m0:maskN r % 2 ^ (k+1)=0:=jKW r (k+1) h2 fun x hx=>by have:=h1 x hx; lia
  obtain⟨c,hc⟩:∃ c,maskN r=2 ^ (k+1)*c:=(Nat.dvd_of_mod_eq_zero m0);have hor:2 ^ k+maskN r=maskN r|||2 ^ k:=by
   rw[hc,Nat.mul_comm,<- Nat.shiftLeft_eq,Nat.shiftLeft_add_eq_or_of_lt (b:=2 ^ k) (i:=k+1) (hV Ac Aa) c |>.symm,jm]
  rw[e,hor,b8,ih,cO];by_cases hk:k=n
  ·subst hk;simp
  ·have:¬ ((n:Int)=(k:Int)):=by lia
   simp [hk,this]
end L2
namespace L2
open PySem
variable {X:Cx}
section
variable {tg iter elt:Expr}{ifs:List Expr}{sc:Scope}{pos:Pos}{wi:TI}{g:TG}{tt:TT}{te:TE}{m:List (Option Nat)}{Nc:An}
theorem jRK (hc:X.calm=true)(hi:PI X tg iter wi)(hkind:sc.kind= .function)(hcell:∀ y∈sc.names,y.2≠ .cell)(hnames:∀ y∈sc.names,y.2= .local->sc.names.lookup y.1=some .local)
  (hfree:∀ y∈sc.names,y.2= .free->X.env.scope.names.lookup y.1=some .cell\/X.env.scope.names.lookup y.1=some .free) (hm:jBZ X sc Nc m)
  (hg:∀ cl C fp s H,PG (blk X sc cl C Nc fp s H) tg g) (ht:∀ cl C fp s H,PTs (blk X sc cl C Nc fp s H) ifs tt) (he:∀ cl C fp s H,PE (blk X sc cl C Nc fp s H) elt te)
  (hs:∀ x,foldedSetIterable iter X.env x=pure x) {fpos:Pos}{use:Option (Value->Sem Unit)}{R:Ah}{lH:Ai}{s:Shared}{σ:St}{H:Hp}{Q:VK}(I:Inv X lH σ H s) (h:tComp m wi g tt te σ H Q)
  (fin:∀ (D C:Addr) (H5:Hp) (z1:Shared) (r:Flow),(∃ mm,z1.heap.Ns C mm)->FpOk X lH H5 C->(∀ h',Heap.SameBut C z1.heap h'->Inv X lH σ H5 { z1 with heap:=h'})->Q (.ref D) H5->compPost (model X.prog X.w) X.A X.xe use R (.ref D) C (.ok r) z1):
  wpAny (model X.prog X.w) X.A (comprehension (.ListComp elt [⟨tg,iter,ifs,0⟩] sc pos) sc X.env fpos (newList []) false (eval iter X.env) use) R X.xe s:=
 jGX (tf:=fun _=>te) hc hi hkind hcell hnames hfree hm hg ht (fun cl C fp s H _ _ _ _=>he cl C fp s H) hs I h fin
theorem jTI {i:Nat}{x:Str}{pos' spos:Pos}(hN:X.N.Nodup)(hi':X.N[i]?=some x)(hx:Loc X.env.scope x)(hf:X.fn x=true\/X.env.scope.names.lookup x=some .local)(hsw:swapsWith (.ListComp elt [⟨tg,iter,ifs,0⟩] sc pos) (some (.Name x pos')) spos.line X.env=pure true)
  (hc:X.calm=true) (hi:PI X tg iter wi) (hkind:sc.kind= .function) (hcell:∀ y∈sc.names,y.2≠ .cell) (hnames:∀ y∈sc.names,y.2= .local->sc.names.lookup y.1=some .local)
  (hfree:∀ y∈sc.names,y.2= .free->X.env.scope.names.lookup y.1=some .cell\/X.env.scope.names.lookup y.1=some .free) (hm:jBZ X sc Nc m)
  (hg:∀ cl C fp s H,PG (blk X sc cl C Nc fp s H) tg g) (ht:∀ cl C fp s H,PTs (blk X sc cl C Nc fp s H) ifs tt) (he:∀ cl C fp s H,PE (blk X sc cl C Nc fp s H) elt te)
  (hs:∀ x,foldedSetIterable iter X.env x=pure x):PS X (.Assign [.Name x pos'] (.ListComp elt [⟨tg,iter,ifs,0⟩] sc pos) spos) (tAsg (tComp m wi g tt te) (kR i)):=by
 intro lH s σ H D I h;rw[exec_Assign_Name_used _ _ _ _ hsw];refine ae (fe (ae ?_));show wpAny _ _ (do let _ <- comprehension (.ListComp elt [⟨tg,iter,ifs,0⟩] sc pos) sc X.env _ (newList []) false (eval iter X.env) (some (assign (.Name x pos') X.env))) _ _ _;refine ae (cm (jRK (R:=fun _ s'=>SP X lH D .next s') hc hi hkind hcell hnames hfree hm hg ht he hs ⟨I.ok,I.os,I.bare,I.Ar,I.loc,I.cell,I.free,I.freeC,I.pin,I.hok,I.len⟩ h ?_) (fun _ s' hq=>aj (aj hq)) fun _ _ e=>e);intro D' C H5 z1 r ⟨mm,hn⟩ fC sb q;have I1:=sb _ (Heap.SameBut.refl C z1.heap);refine wpAny_assign_Name (jH9 (v:= .ref D') I1 hN hi' hx rfl (fun s2 I2 ⟨a,sa,ha⟩=>?_) hf);obtain⟨f0,f1,f2,f3,f4,f5⟩:=fC;have hCa:C≠a:=by
  rcases ha with rfl | ha
  ·exact f1
  ·exact(f4 _ _ ha).symm
 refine⟨mm,hn.sameBut sa hCa,fun h' sb2=>⟨_,H5,?_,q⟩⟩;refine I2.call' (s':= { s2 with heap:=h'}) (ch:=[C]) rfl ?_ (I2.hok.sameBut sb2 f0) I2.bare (fun b hb=>?_)
 ·have ne:∀ {b:Addr},b∉ [C]->b≠C:=fun h e=>h (by rw[e]; exact aN.mpr rfl);refine⟨fun b o e n hf hx=>(sb2.2 b (ne hx)).trans e,fun b o e n hf hx=>⟨o.slots,(sb2.2 b (ne hx)).trans e⟩,fun b o e n hx=>n,fun b o e hx=>⟨o,(sb2.2 b (ne hx)).trans e⟩,fun b xs e=>e,fun b o u e=>e,fun b ps e=>⟨#[],by rw[Array.append_empty]; exact e⟩⟩
 ·cases aN.mp hb;exact⟨f3,f1,f4,f5⟩
end
structure SwC (e:Expr)(x:Str)(pos' spos:Pos)(X:Cx):Prop where
 h:swapsWith e (some (.Name x pos')) spos.line X.env=pure true
theorem jUQ {i:Nat}{x:Str}{pos' spos pos:Pos}{tg iter elt:Expr}{ifs:List Expr}{sc:Scope}{wi:TI}{g:TG}{tt:TT}{te:TE}{m:List (Option Nat)}{Nc:An}(hN:X.N.Nodup)(hi':X.N[i]?=some x)(hx:Loc1 X x)(hsw:SwC (.ListComp elt [⟨tg,iter,ifs,0⟩] sc pos) x pos' spos X)
  (hc:X.calm=true) (hi:JI X tg iter wi) (hkind:sc.kind= .function) (hcell:∀ y∈sc.names,y.2≠ .cell) (hnames:∀ y∈sc.names,y.2= .local->sc.names.lookup y.1=some .local)
  (hfree:∀ y∈sc.names,y.2= .free->X.env.scope.names.lookup y.1=some .cell\/X.env.scope.names.lookup y.1=some .free) (hm:jBZ X sc Nc m)
  (hg:∀ cl C fp s H,JG (blk X sc cl C Nc fp s H) tg g) (ht:∀ cl C fp s H,JTs (blk X sc cl C Nc fp s H) ifs tt) (he:∀ cl C fp s H,JE (blk X sc cl C Nc fp s H) elt te)
  (hs:FoOk iter):JS X (.Assign [.Name x pos'] (.ListComp elt [⟨tg,iter,ifs,0⟩] sc pos) spos) (tAsg (tComp m wi g tt te) (kR i)):=
 ⟨jTI hN hi' hx.a hx.b hsw.h hc hi.h hkind hcell hnames hfree hm (fun cl C fp s H=>(hg cl C fp s H).h) (fun cl C fp s H=>(ht cl C fp s H).h) (fun cl C fp s H=>(he cl C fp s H).h) (hs.h _)⟩
end L2
namespace L2
open PySem PySem.Spec PyProof.Rows
variable {prog:Program}{w:World}{A:Around}{E:Ah}
variable {X:Cx}
variable {s:Shared}
variable {x:Str}{C:Addr}{e:Expr}{t:TA}{np cpos pos:Pos}
section
variable {W:Hp->Prop}
end
variable {M:Model}{h:Heap}
section
variable {g:Array GenState}{d:Drawn}{tk:Nat}{os:OsState}
end
variable {lH:Ai}{H H':Hp}
section
variable {σ:List (Option V)}{h':Heap}
end
variable {T:Addr}
section
variable {σ:St}{h2:Heap}{x T':Addr}
end
section
variable {σ:St}{x:Addr}
end
section
variable {x:Addr}{Q:Unit->Shared->Prop}
end
variable {n c:Str}{i j:Nat}{f B:Addr}{fd:FuncData}{ps:An}{sp:Sp}{es:List Expr}{yp gp cp ap rp hp tp:Pos}
section
variable {y g:Str}{k:Nat}{r:Expr}{te:Addr->TE}
end
variable {tg:Expr}
variable {g:TG}{iter elt:Expr}{ifs:List Expr}{sc:Scope}{wi:TI}{tt:TT}{te:TE}{m:List (Option Nat)}{Nc:An}
variable {a:Addr}{p:Pos}
section
variable {k:Nat}{sp:Addr->Sp}
end
variable {P:Program}{mg:Ak}{Ar:Heap}{N:An}{qual:Str}{Aq:List Env}
section
variable {CX:CXT}{K:W.Frag}{lI:Value}{E:XK}
end
section
variable {y g:Str}{k:Nat}{te t1:TEX}
end
def nfP (x q:Str)(args:Arguments)(body:List Stmt)(scope:Scope)(cl:Aj)(a c:Addr):Heap->Prop:=fun h=>∃ doc pm ctv,h.get? a=some (fnMade x q args body scope cl doc pm c ctv)
def ncP (q:Str)(c:Addr):Heap->Prop:=fun h=>h.CodeRec (.ref c) q
abbrev onePs (pos:Pos)(c:Addr):Ao:=#[rawInt pos.line,rawInt pos.col, .ref c]
def TabOk (H:Hp)(T:Addr)(pos:Pos)(q:Str):Prop:=H T=some (.tbl #[])\/∃ c,H T=some (.tbl (onePs pos c))/\H c=some (.ext (ncP q c))
def ExtT (T:Addr)(H H':Hp):Prop:=∀ b o,H b=some o->b≠T->H' b=some o
def qN (Ar:Heap)(mg:Ak):Prop:=∃ bm o,mg "__builtins__" =some (.ref bm)/\bm≠builtinsNs/\bm≠mainGlobals/\Ar.get? bm=some o/\o.cls= .type "module" /\o.dict=some builtinsNs/\o.data= .plain
theorem nfP.stay {x q:Str}{args:Arguments}{body:List Stmt}{scope:Scope}{cl:Aj}{a c:Addr}(h1 h2:Heap)(p:nfP x q args body scope cl a c h1)(k:∀ o,h1.get? a=some o->h2.get? a=some o):nfP x q args body scope cl a c h2:=by
 obtain⟨d,m,t,e⟩:=p;exact⟨d,m,t,k _ e⟩
theorem ncP.stay {q:Str}{c:Addr}(h1 h2:Heap)(p:ncP q c h1)(k:∀ o,h1.get? c=some o->h2.get? c=some o):ncP q c h2:=by
 obtain⟨c',o,vs,t,e,g,r⟩:=p;cases e;exact⟨c,o,vs,t,rfl,k _ g,r⟩
theorem ncP.is {q:Str}{c:Addr}{h:Heap}(p:ncP q c h):∃ o,h.get? c=some o:=by
 obtain⟨c',o,vs,t,e,g,r⟩:=p;cases e;exact⟨o,g⟩
def tDef (x q:Str)(args:Arguments)(body:List Stmt)(scope:Scope)(cl:Aj)(T:Addr)(pos:Pos)(j:Nat):TS:=fun D σ H=>TabOk H T pos q/\∀ a c H',H' a=some (.ext (nfP x q args body scope cl a c))->H' c=some (.ext (ncP q c))->H' T=some (.tbl (onePs pos c))->ExtT T H H'->H a=none->D.nx (σ.set j (some (.ref a))) H'
section
variable {σ:St}
theorem Inv.laidX {h':Heap}{t':Nat}{φ:Heap->Prop}{a:Addr}(I:Inv X lH σ H s)(k:∀ b u,s.heap.get? b=some u->h'.get? b=some u)(hp:s.heap.objs.size<=a)(p:φ h')(ho:∃ o,h'.get? a=some o)(st:∀ h1 h2:Heap,φ h1->(∀ o,h1.get? a=some o->h2.get? a=some o)->φ h2):Inv X lH σ (upd H a (.ext φ)) { s with heap:=h',toks:=t'} :=
 I.laid k hp ⟨p,ho,st⟩
theorem Inv.grown {h':Heap}{t':Nat}{T c:Addr}{ps more:Ao}{φ:Heap->Prop}(I:Inv X lH σ H s)(hT:H T=some (.tbl ps))(k:Heap.ExtBut T s.heap h')(e:h'.get? T=some { cls:= .none,data:= .fields (ps++more)})
  (hc:s.heap.objs.size<=c) (p:φ h') (ho:∃ o,h'.get? c=some o) (st:∀ h1 h2:Heap,φ h1->(∀ o,h1.get? c=some o->h2.get? c=some o)->φ h2):Inv X lH σ (upd (upd H T (.tbl (ps++more))) c (.ext φ)) { s with heap:=h',toks:=t'} :=by
 have hcn:H c=none:=I.hok.fresh hc;have nT:∀ {b:Addr},H b=none->b≠T:=fun n z=>by rw[z,hT] at n; cases n
 have cT:T≠c:=fun z=>by rw[z,hcn] at hT; cases hT
 have nc:∀ {b:Addr}{o:Obj},s.heap.get? b=some o->b≠c:=fun q z=>absurd (aK q) (by rw[z]; exact Nat.not_lt.mpr hc);have mc:∀ {b:Addr}{o:HO},H b=some o->b≠c:=fun q=>jA q hcn;refine I.un ⟨fun b o q n _ _=>k b o (nT n) q,fun b o q n _ _=>⟨o.slots,k b o (nT n) q⟩,fun b o q n _=>by rw[j9 (nc q),j9 (nT n)]; exact n,fun b o q _=>?_,fun b xs q=>?_,fun b o u q=>?_,fun b qs q=>?_⟩ fun b o q=>?_
 ·by_cases hb:b=T
  ·rw[hb]; exact⟨_,e⟩
  ·exact⟨o,k b o hb q⟩
 ·rw[j9 (mc q),j9 (fun z=>by rw[z,hT] at q; cases q)]; exact q
 ·rw[j9 (mc q),j9 (fun z=>by rw[z,hT] at q; cases q)]; exact q
 ·by_cases hb:b=T
  ·subst hb;rw[hT] at q;cases q;exact⟨more,by rw[j9 cT,j5]⟩
  ·exact⟨#[],by rw[j9 (mc q),j9 hb,q]; simp⟩
 ·by_cases hb1:b=c
  ·subst hb1;rw[j5] at q;cases q;exact⟨p,ho,st⟩
  rw[j9 hb1] at q;by_cases hb:b=T
  ·subst hb;rw[j5] at q;cases q;exact e
  ·rw[j9 hb] at q;refine(I.hok b o q).stay (fun d u hd z=>k d u ?_ z) (fun d z=>?_) fun d xs z=>?_
   ·rcases hd with rfl | hd
    ·exact hb
    ·exact fun y=>by rw[y,hT] at hd; cases hd
   ·rw[j9 (mc z),j9 (fun y=>by rw[y,hT] at z; cases z)]; exact z
   ·rw[j9 (mc z),j9 (fun y=>by rw[y,hT] at z; cases z)]; exact z
theorem jVX {x:Str}{args:Arguments}{body:List Stmt}{scope:Scope}{pos:Pos}{c0 T:Addr}{j:Nat}(hN:X.N.Nodup)(hj:X.N[j]?=some x)(lx:Loc X.env.scope x)(hcode:X.env.code= .ref c0)(CH:PySem.W.CodeHd X.Ar c0 T)(hbm:qN X.Ar X.mg)
  (hfree:∀ y∈scope.names,y.2= .free->X.env.scope.names.lookup y.1=some .cell\/X.env.scope.names.lookup y.1=some .free) (hdf:defaultsOf args X.env=([],[])) (han:annTrees args none X.env=[])
  (hf:X.fn x=true\/X.env.scope.names.lookup x=some .local:=by first | exact .inl rfl | exact .inr rfl | assumption):
  PS X (.FunctionDef x args body [] none [] scope none x pos) (tDef x (qualnameIn X.env x x) args body scope (jR X.env.cells scope.names []) T pos j):=by
 intro lH s σ H D I h;obtain⟨tab,h⟩:=h;rw[exec_def,hdf,han];refine ae (fe (ae (bX ?_)));refine ae (aj (ae (bX (aj (bX (ae (aj ?_)))))));have hcl:closureFor scope X.env=pure (jR X.env.cells scope.names []):=jJV fun y hy hz=>I.ok.has y.1 (hfree y hy hz);have hg:s.heap.Ns mainGlobals X.mg:=I.mod.glob.keeps I.bk;have C:=CH.keeps I.bk;have gT:∀ {ps:Ao},H T=some (.tbl ps)->mainGlobals≠T:=fun hT z=>by
  obtain⟨o,es,ep,e,_⟩:=I.mod.glob;have:=(I.bs _ _ e).2;rw[z,hT] at this;cases this
 have bT:∀ {ps:Ao},H T=some (.tbl ps)->s.heap.BuiltinsAt X.mg T:=fun hT=>by
  obtain⟨bm,o,h1,h2,h3,h4,h5,h6,h7⟩:=hbm;refine⟨bm,o,h1,h2,h3,fun z=>?_,(I.bs _ _ h4).1,h5,h6,h7⟩;have:=(I.bs _ _ h4).2;rw[z,hT] at this;cases this
 rcases tab with hT | ⟨c,hT,hc⟩
 ·refine PySem.W.makeFunction_K hcl I.ok.glob hg hcode C (I.hok T _ hT) trivial rfl (gT hT) (bT hT) fun c ctv doc h' tk k1 k2 k3 k4 k5=>?_;obtain⟨oc,hoc⟩:=ncP.is (q:=qualnameIn X.env x x) k4;have I1:Inv X lH σ (upd (upd H T (.tbl (#[]++onePs pos c))) c (.ext (ncP (qualnameIn X.env x x) c))) { s with heap:=h',toks:=tk} :=I.grown hT k1 k5 k2 k4 ⟨oc,hoc⟩ ncP.stay;have I2:=I1.laidX (t':=tk) (a:=h'.objs.size) (φ:=nfP x (qualnameIn X.env x x) args body scope (jR X.env.cells scope.names []) h'.objs.size c) (h':=h'.push (fnMade x (qualnameIn X.env x x) args body scope (jR X.env.cells scope.names []) doc ((X.mg "__name__").getD .none) c ctv)) (fun b u q=>ah _ q) (aA _) ⟨doc,_,ctv,aF _ rfl⟩ ⟨_,aF _ rfl⟩ nfP.stay;have hcn:H c=none:=I.hok.fresh k2;have han:H h'.objs.size=none:=I.hok.fresh (bv k2 (cY k3));have ca:c≠h'.objs.size:=aW k3;have Tc:T≠c:=fun z=>by rw[z,hcn] at hT; cases hT
  have Ta:T≠h'.objs.size:=fun z=>by rw[z,han] at hT; cases hT
  refine ae (fe (ae (wpAny_bindName (jDQ (v:= .ref h'.objs.size) I2 hN hj lx rfl (fun s' I'=>aj ⟨_,_,I',?_⟩) hf))));refine h _ c _ j5 (by rw[j9 ca,j5]) (by rw[j9 Ta,j9 Tc,j5,lA]) (fun b o e n=>?_) han;rw[j9 (jA e han),j9 (jA e hcn),j9 n];exact e
 ·refine PySem.W.makeFunction_hit (cv:= .ref c) hcl I.ok.glob hg hcode C (I.hok T _ hT) (by exact trivial) (by simp [codeAmong,rawInt]) (bT hT) fun ctv doc h' tk k1 k2=>?_;have I2:=I.laidX (t':=tk) (a:=h'.objs.size) (φ:=nfP x (qualnameIn X.env x x) args body scope (jR X.env.cells scope.names []) h'.objs.size c) (h':=h'.push (fnMade x (qualnameIn X.env x x) args body scope (jR X.env.cells scope.names []) doc ((X.mg "__name__").getD .none) c ctv)) (fun b u q=>ah _ (k1 b u q)) k2 ⟨doc,_,ctv,aF _ rfl⟩ ⟨_,aF _ rfl⟩ nfP.stay;have han:H h'.objs.size=none:=I.hok.fresh k2;refine ae (fe (ae (wpAny_bindName (jDQ (v:= .ref h'.objs.size) I2 hN hj lx rfl (fun s' I'=>aj ⟨_,_,I',?_⟩) hf))));refine h _ c _ j5 (by rw[j9 (jA hc han)]; exact hc) (by rw[j9 (jA hT han)]; exact hT) (fun b o e n=>?_) han;rw[j9 (jA e han)];exact e
end
theorem jHY {β:Type}{x:Str} :∀ {l:List (Str×β)},(∀ v,(x,v)∉l)->l.lookup x=none
 | [],_=>rfl
 | (y,v)::r,h=>by
  rw[bP,cG.mpr (fun e=>h v (by rw[e]; exact ai))];exact jHY fun w hw=>h w (ag _ hw)
theorem jD3 {β:Type}{x:Str} :∀ {l m:List (Str×β)},(l++m).lookup x=(l.lookup x).or (m.lookup x)
 | [],_=>rfl
 | (y,v)::r,m=>by
  rw[jc,bP,bP,jD3];cases x==y <;> rfl
theorem jFI:∀ {ps:An}{us:Am}{i:Nat}{x:Str}{u:Value},ps.Nodup->ps[i]?=some x->us[i]?=some u->(ps.zip us).reverse.lookup x=some u
 | [],_,_,_,_,_,h,_=>by simp at h
 | _::_,[],_,_,_,_,_,h=>by simp at h
 | p::ps,w::us,0,x,u,nd,h1,h2=>by
  simp at h1 h2;subst h1 h2;rw[dX,List.reverse_cons,jD3,jHY fun v hv=>(ce.mp nd).1 (dN (List.mem_reverse.mp hv)).1,bP,beq_self_eq_true];rfl
 | p::ps,w::us,i+1,x,u,nd,h1,h2=>by
  rw[dX,List.reverse_cons,jD3,jFI (i:=i) (ce.mp nd).2 (by simpa using h1) (by simpa using h2)];rfl
def cxN (P:Program)(w:World)(K:W.Frag)(mg:Ak)(Ar:Heap)(N:An)(qual:Str)(scope:Scope)(f:Addr)(cd:Value)(cl:Aj)(A:Around)(Aq:List Env)(s:Shared)(H:Hp):Cx where
 prog:=P
 w:=w
 K:=K
 mg:=mg
 Ar:=Ar
 A:=A.deeper (envX qual scope s.heap.objs.size f cd cl)
 N:=N
 s₀:=s
 H₀:=H
 env:=envX qual scope s.heap.objs.size f cd cl
 Aq:=Aq
 stack:=envX qual scope s.heap.objs.size f cd cl::Aq
 ex:=[]
 calm:=true
 fn:=fun _=>false
 pn:=[]
 xe:=fun _ _=>False
structure ClOk (cl:Aj)(s:Shared)(H:Hp):Prop where
 inj:∀ x y c,cl.lookup x=some c->cl.lookup y=some c->x=y
 cell:∀ x c,cl.lookup x=some c->(∃ v,s.heap.IsCell c v)/\H c=none
def FvOk (fs:An)(fv:List V)(cl:Aj)(s:Shared):Prop:=fv.length=fs.length/\∀ (i:Nat) (x:Str) (v:V),fs[i]?=some x->fv[i]?=some v->∃ c u,cl.lookup x=some c/\RelV v u/\s.heap.IsCell c (some u)
structure NScope (N ps fs:An)(sc:Scope):Prop where
 kind:sc.kind= .function
 co:sc.isCoroutine=false
 gen:sc.isGenerator=false
 nd:N.Nodup
 pre:N.take (ps.length+fs.length)=ps++fs
 par:∀ x∈ps,sc.names.lookup x=some .local
 fre:∀ x∈fs,sc.names.lookup x=some .free
 all:∀ x,sc.names.lookup x=some .free->x∈fs
 nocell:∀ y∈sc.names,y.2≠ .cell
def jBQ (N:An)(vs fv:List V):St:=yC N (vs++fv)
variable {scope:Scope}{cd:Value}{cl:Aj}{fv:List V}
section
variable {K:W.Frag}{fs:An}{us:Am}{vs:List V}
theorem jFO {h1:Heap}{tk:Nat}(S:NScope N ps fs scope)(hd:A.handled=none)(e0:Env0 P w K mg Ar A Aq s H)(hl:us.length=ps.length)(r:Vals vs us)(C:ClOk cl s H)(Fv:FvOk fs fv cl s)
  (ns:h1.Ns s.heap.objs.size fun x=>(ps.zip us).reverse.lookup x) (hk:∀ b o,s.heap.get? b=some o->h1.get? b=some o):
  Inv (cxN P w K mg Ar N qual scope f cd cl A Aq s H) [] (jBQ N vs fv) H { s with heap:=h1,toks:=tk} :=by
 have hpl:ps.length+fs.length<=N.length:=by have:=bW List.length S.pre; rw[bO,aL] at this; lia
 have noA:∀ b:Addr,b∉(cxN P w K mg Ar N qual scope f cd cl A Aq s H).ex:=fun b z=>absurd (show b∈([]:List Addr) from z) Ad;have vl:vs.length=ps.length:=r.length.trans hl;refine⟨⟨e0.mod,S.kind,rfl,rfl,aA _,C.inj,fun y hy=>?_,fun y c z=>(nomatch z),fun _=>hd,Around.frames_deeper e0.frames, .inr ⟨rfl,rfl⟩,fun b z=>absurd z (noA b),e0.bs,e0.bsz,fun b _ _=>noA b,fun b z=>absurd z (noA b),e0.funs,e0.frf⟩,
  rfl,e0.bare,Un.kept hk,⟨_,ns,fun i y v h1' h2 h3=>?_⟩,fun y c h=>?_,e0.hok.fresh (aA _),fun y c h=>(C.cell y c h).2,fun p hp=>absurd (show p∈([]:Ai) from hp) Ad,e0.hok.kept hk,?_⟩
 ·have hy:scope.names.lookup y=some .cell\/scope.names.lookup y=some .free:=hy;rcases hy with hy | hy
  ·exact absurd rfl (S.nocell _ (cf hy))
  ·have m:=S.all y hy;obtain⟨i,hi⟩:=bh m;have hi2:i<fv.length:=by rw[Fv.1]; exact(ao.mp hi).1
   obtain⟨c,u,e,_⟩:=Fv.2 i y fv[i] hi (by simp [hi2]);exact⟨c,e⟩
 ·have h1':N[i]?=some y:=h1';have hlen:(vs++fv).length=ps.length+fs.length:=by rw[aL,vl,Fv.1]
  have hi:i<(vs++fv).length:=by
   unfold jBQ yC at h2;by_cases hi:i<(vs++fv).length
   ·exact hi
   ·rw[bi (by simpa using hi)] at h2;rw[i7] at h2;split at h2 <;> cases h2
  have hv:(vs++fv)[i]?=some v:=by
   unfold jBQ yC at h2;rw[b7 (by simpa using hi),aV] at h2;cases e:(vs++fv)[i]? with
   | none=>rw[e] at h2; cases h2
   | some a=>rw[e] at h2; cases h2; rfl
  have hy:(ps++fs)[i]?=some y:=by
   rw[<- S.pre,cD Aa];exact h1'
  by_cases hi1:i<ps.length
  ·rw[b7 hi1] at hy;rw[b7 Aa] at hv;obtain⟨u,hu,rv⟩:=r.get hv;have ndP:ps.Nodup:=by
    have:(ps++fs).Nodup:=by rw[<- S.pre]; exact S.nd.sublist (eC _ _)
    exact(fh.mp this).1
   exact⟨u,rv, .inl ⟨S.par y (aH hy),jFI ndP hy hu⟩⟩
  ·rw[bi Aa] at hy;rw[bi Aa,vl] at hv;obtain⟨c,u,e,rv,o,ho,hd⟩:=Fv.2 _ y v hy hv;exact⟨u,rv, .inr ⟨.inr (S.fre y (aH hy)),c,e,o,hk _ _ ho,hd⟩⟩
 ·obtain⟨⟨v,o,ho,hd⟩,_⟩:=C.cell y c h;exact⟨v,o,hk _ _ ho,hd⟩
 ·unfold jBQ yC;show _=N.length;rw[aL,af,kh,aL,vl,Fv.1];lia
end
structure FnN (P:Program)(w:World)(K:W.Frag)(mg:Ak)(Ar:Heap)(k:Nat)(x q:Str)(args:Arguments)(body:List Stmt)(scope:Scope)(ps fs:An)(sp:List V->Sp):Prop where
 len:∀ fv vs H Q E,sp fv vs H Q E->vs.length=ps.length
 run:∀ (A:Around) (Aq:List Env) (s:Shared) (H:Hp) (a c:Addr) (cl:Aj) (us:Am) (vs fv:List V) (Q:VK) (E:XK),Room k A->Env0 P w K mg Ar A Aq s H->nfP x q args body scope cl a c s.heap->ncP q c s.heap->ClOk cl s H->FvOk fs fv cl s->Vals vs us->sp fv vs H Q E->
  codeAny (model P w) A (.call (.ref a) ⟨us,[]⟩) (CR CX0 Aq P w H s Q E) s
theorem jSW {P:Program}{w:World}{K:W.Frag}{mg:Ak}{Ar:Heap}{k:Nat}{x q:Str}{args:Arguments}{body:List Stmt}{scope:Scope}{N ps fs:An}{sp:List V->Sp}(S:NScope N ps fs scope)(len:∀ fv vs H Q E,sp fv vs H Q E->vs.length=ps.length)
  (hb:∀ cl doc pm c ctv (us:Am),us.length=ps.length->bindArgs (PySem.W.fnX x q args body scope cl .none .none doc pm none (.ref c) ctv) ⟨us,[]⟩=pure (ps.zip us))
  (hbody:∀ (A:Around) (Aq:List Env) (s:Shared) (H:Hp) (a c:Addr) (cl:Aj) (vs fv:List V) (Q:VK) (E:XK),Room k (A.deeper (envX q scope s.heap.objs.size a (.ref c) cl))->sp fv vs H Q E->
   ∃ t,PSs (cxN P w K mg Ar N q scope a (.ref c) cl A Aq s H) body t/\t { nx:=fun _ H'=>Q .non H',rt:=Q} (jBQ N vs fv) H):
  FnN P w K mg Ar (k+1) x q args body scope ps fs sp:=by
 refine⟨len,fun A Aq s H a c cl us vs fv Q E hr e0 hf hc C Fv r hsp=>?_⟩;have hl:us.length=ps.length:=r.length.symm.trans (len _ _ _ _ _ hsp);obtain⟨doc,pm,ctv,ho⟩:=hf;have lim:s.heap.NoLimit:=e0.mod.nolimit.keeps fun b o e=>(e0.bs b o e).1;refine codeAny_call_def (body:=body) (binds:=ps.zip us) hr.depth ho rfl lim hc rfl (.of_eq (hb cl doc pm c ctv us hl)) S.nocell (fun y hy=>S.par y.1 (dN hy).1) (fun h1 ns hk=>?_) S.co S.gen S.kind;obtain⟨t,ht,hq⟩:=hbody A Aq s H a c cl vs fv Q E (hr.deeper _) hsp;have I:Inv (cxN P w K mg Ar N q scope a (.ref c) cl A Aq s H) [] (jBQ N vs fv) H { s with heap:=h1,toks:=s.toks+(ps.zip us).length} :=jFO S hr.hd e0 hl r C Fv ns hk;refine cm (ht [] _ (jBQ N vs fv) H _ I hq) (fun fl s' hs=>?_) fun e s' hs=>False.elim hs;have fin:∀ {σ':St}{H':Hp}{v:V}{u:Value},Inv (cxN P w K mg Ar N q scope a (.ref c) cl A Aq s H) [] σ' H' s'->RelV v u->Q v H'->CE Aq P w H s Q u s':=
  fun {σ' H' v u} J rv q=>⟨v,H',J.os,J.bare,J.Ar,J.hok,rv,q⟩
 cases fl with
 | ret u=>
  obtain⟨v,σ',H',J,rv,q⟩:=hs;exact fin J rv q
 | next=>
  obtain⟨σ',H',J,q⟩:=hs;exact fin (v:=V.non) (u:=Value.none) J rfl q
 | brk=>
  obtain⟨_,_,_,q⟩:=hs;exact False.elim q
 | cont=>
  obtain⟨_,_,_,q⟩:=hs;exact False.elim q
def jDU (σ:St)(is:List Nat)(fv:List V):Prop:=is.map (fun i=>(σ[i]?).getD none)=fv.map some
def tNest (σ0:Option St)(j:Nat)(is:List Nat)(x q:Str)(args:Arguments)(body:List Stmt)(scope:Scope)(cl:Aj)(sp:List V->Sp)(t:TA):TE:=fun σ H Q=>∃ a,σ[j]?=some (some (.ref a))/\t σ H fun vs H1=>∃ c fv,H1 a=some (.ext (nfP x q args body scope cl a c))/\H1 c=some (.ext (ncP q c))/\jDU (σ0.getD σ) is fv/\sp fv vs H1 Q E0
section
variable {σ:St}{fs:An}{is:List Nat}
def FsAt (X:Cx)(fs:An)(is:List Nat):Prop:=is.length=fs.length/\∀ (k:Nat) (x:Str),fs[k]?=some x->∃ i,is[k]?=some i/\X.N[i]?=some x/\(X.env.scope.names.lookup x=some .cell\/X.env.scope.names.lookup x=some .free)
theorem Inv.clOk (I:Inv X lH σ H s)(hfree:∀ y∈scope.names,y.2= .free->X.env.scope.names.lookup y.1=some .cell\/X.env.scope.names.lookup y.1=some .free):ClOk (jR X.env.cells scope.names []) s H:=by
 have sub:∀ x c,(jR X.env.cells scope.names []).lookup x=some c->X.env.cells.lookup x=some c:=jAE scope.names [] (fun y hy hf=>I.ok.has y.1 (hfree y hy hf)) (fun x c e=>by cases e);exact⟨fun x y c h1 h2=>I.ok.inj x y c (sub x c h1) (sub y c h2),fun x c h=>⟨I.cell x c (sub x c h),I.freeC x c (sub x c h)⟩⟩
theorem Inv.fvOk (I:Inv X lH σ H s)(hfree:∀ y∈scope.names,y.2= .free->X.env.scope.names.lookup y.1=some .cell\/X.env.scope.names.lookup y.1=some .free)(hfs:∀ x∈fs,scope.names.lookup x=some .free)(ha:FsAt X fs is)(hs:jDU σ is fv):FvOk fs fv (jR X.env.cells scope.names []) s:=by
 have hl:fv.length=fs.length:=by
  have:=bW List.length hs;rw[af,af] at this;rw[<- this,ha.1]
 refine⟨hl,fun k x v h1 h2=>?_⟩;obtain⟨i,hi,hN,hk⟩:=ha.2 k x h1;have e:(σ[i]?).getD none=some v:=by
  have:=bW (fun l=>l[k]?) hs;simp only [aV,hi,h2,map_some] at this;exact bD this
 have e2:σ[i]?=some (some v):=by
  cases q:σ[i]? with
  | none=>rw[q] at e; cases e
  | some z=>rw[q] at e; exact bW some e
 obtain⟨m,hn,hl⟩:=I.loc;obtain⟨u,r,l⟩:=hl i x v hN e2 (.inr hk);obtain⟨c,hc⟩:=jAT (cells:=X.env.cells) (x:=x) scope.names [] (.inl (jAS (hfs x (aH h1))));have sub:=jAE (cells:=X.env.cells) scope.names [] (fun y hy hf=>I.ok.has y.1 (hfree y hy hf)) (fun x c e=>by cases e) x c hc;rcases l with ⟨lk,_⟩ | ⟨_,c',hc',z⟩
 ·have lk':X.env.scope.names.lookup x=some .local:=lk;rcases hk with z | z <;> rw[lk'] at z <;> cases z
 ·rw[sub] at hc';cases hc';exact⟨c,u,hc,r,z⟩
end
section
variable {k:Nat}{q:Str}{args:Arguments}{body:List Stmt}{fs:An}{is:List Nat}{sp:List V->Sp}
theorem jKC {Y:Cx}{lH:Ai}{σ:St}{H:Hp}{s:Shared}{Q:VK}{cl:Aj}{a c:Addr}{us:Am}{vs fv:List V}(F:FnN Y.prog Y.w Y.K Y.mg Y.Ar k x q args body scope ps fs sp)(hr:Room k Y.A)(I:Inv Y lH σ H s)(h1:H a=some (.ext (nfP x q args body scope cl a c)))(h2:H c=some (.ext (ncP q c)))(C:ClOk cl s H)(Fv:FvOk fs fv cl s)(r:Vals vs us)(hs:sp fv vs H Q E0):
  wpAny (model Y.prog Y.w) Y.A (call (.ref a) us) (EP Y lH σ Q) Y.xe s:=by
 obtain⟨p1,_,_⟩:=(show ObjOk Y.prog Y.w H s.heap a (.ext _) from I.hok a _ h1);obtain⟨p2,_,_⟩:=(show ObjOk Y.prog Y.w H s.heap c (.ext _) from I.hok c _ h2);refine iI (dS (F.run Y.A Y.stack s H a c cl us vs fv Q E0 hr I.env0 p1 p2 C Fv r hs) fun r s' hq=>?_);cases r with
 | error e=>exact hq.elim
 | ok fl=>
  cases fl with
  | ret u=>exact I.after hq
  | next=>exact False.elim hq
  | brk=>exact False.elim hq
  | cont=>exact False.elim hq
theorem jPA {Y:Cx}{lH:Ai}{σ:St}{H:Hp}{s:Shared}{cl:Aj}{a c:Addr}(I:Inv Y lH σ H s)(h1:H a=some (.ext (nfP x q args body scope cl a c))):PySem.W.FnAt a s.heap:=by
 obtain⟨⟨d,m,t,e⟩,_,_⟩:=(show ObjOk Y.prog Y.w H s.heap a (.ext _) from I.hok a _ h1);exact⟨_,_,_,_,e⟩
theorem jUR (F:FnN X.prog X.w X.K X.mg X.Ar k x q args body scope ps fs sp)(hr:Room k X.A)(hN:X.N[j]?=some x)(hv:Vis1 X x)(hfree:∀ y∈scope.names,y.2= .free->X.env.scope.names.lookup y.1=some .cell\/X.env.scope.names.lookup y.1=some .free)(hfs:∀ x∈fs,scope.names.lookup x=some .free)(hat:FsAt X fs is)
  (ha:JA X (e::es) t) (he:starEach (e::es) X.env=(false,eval e X.env)::starEach es X.env) (hdb:(x==("__debug__" :Str))=false:=by decide) (hcd:(x==("__classdict__" :Str))=false:=by decide) (hpl:(backTo pos (starEach es X.env)).any (·.1)=false:=by rfl):
  JE X (.Call (.Name x p) (e::es) [] pos) (tNest none j is x q args body scope (jR X.env.cells scope.names []) sp t):=by
 refine⟨fun lH s σ H Q I h=>?_⟩;obtain⟨a,hj,h⟩:=h;refine cQ (lJ (jHQ (pos:=p) hN hv.a hdb hcd lH s σ H (fun v H'=>v= .ref a/\H'=H) I ⟨_,hj,rfl,rfl⟩) fun v s1 ⟨v',H1,I1,r1,q1,q2⟩=>?_);subst q1 q2;cases (show v=Value.ref a from r1);have hX:=lJ (ha.h pos lH s1 σ H1 _ I1 h) fun us s2 (z:AP X lH σ _ us s2)=>show PySem.W.FnAt a s2.heap/\wpAny (model X.prog X.w) X.A (call (.ref a) ([]++us)) (EP X lH σ Q) X.xe s2 from by
  obtain⟨vs,H2,I2,r,c,fv,h1,h2,h3,h4⟩:=z;exact⟨jPA I2 h1,jKC F hr I2 h1 h2 (I2.clOk hfree) (I2.fvOk hfree hfs hat h3) r h4⟩
 rw[he] at hX ⊢;exact ir (by show ((false || (backTo pos (starEach es X.env)).any (·.1)) || false)=false; rw[hpl]; rfl) jy (fm hX)
theorem jR8 {sc:Scope}{cl:Aj}{C:Addr}{Nc:An}{fp:List Addr}{s0:Shared}{H0:Hp}{lH0:Ai}{σ0:St}(I0:Inv X lH0 σ0 H0 s0)(hfp:∀ b∈fp,FpOk X lH0 H0 b)
  (F:FnN X.prog X.w X.K X.mg X.Ar k x q args body scope ps fs sp) (hr:Room k X.A) (hN:Nc[j]?=some x) (hv:Vis1 (blk X sc cl C Nc fp s0 H0) x) (hfree:∀ y∈scope.names,y.2= .free->X.env.scope.names.lookup y.1=some .cell\/X.env.scope.names.lookup y.1=some .free) (hfs:∀ x∈fs,scope.names.lookup x=some .free) (hat:FsAt X fs is)
  (ha:JA (blk X sc cl C Nc fp s0 H0) (e::es) t) (he:starEach (e::es) (blk X sc cl C Nc fp s0 H0).env=(false,eval e (blk X sc cl C Nc fp s0 H0).env)::starEach es (blk X sc cl C Nc fp s0 H0).env) (hdb:(x==("__debug__" :Str))=false:=by decide) (hcd:(x==("__classdict__" :Str))=false:=by decide) (hpl:(backTo pos (starEach es (blk X sc cl C Nc fp s0 H0).env)).any (·.1)=false:=by rfl):
  JE (blk X sc cl C Nc fp s0 H0) (.Call (.Name x p) (e::es) [] pos) (tNest (some σ0) j is x q args body scope (jR X.env.cells scope.names []) sp t):=by
 have sub:∀ x c,(jR X.env.cells scope.names []).lookup x=some c->X.env.cells.lookup x=some c:=jAE scope.names [] (fun y hy hf=>I0.ok.has y.1 (hfree y hy hf)) (fun x c e=>by cases e);have nfp:∀ {x c},X.env.cells.lookup x=some c->c∉fp:=fun {x c} h z=>(hfp c z).2.2.2.2.1 x c h rfl;refine⟨fun lH s σ H Q I h=>?_⟩;obtain⟨a,hj,h⟩:=h;refine cQ (lJ (jHQ (pos:=p) (show (blk X sc cl C Nc fp s0 H0).N[j]?=some x from hN) hv.a hdb hcd lH s σ H (fun v H'=>v= .ref a/\H'=H) I ⟨_,hj,rfl,rfl⟩) fun v s1 ⟨v',H1,I1,r1,q1,q2⟩=>?_);subst q1 q2;cases (show v=Value.ref a from r1);have hX:=lJ (ha.h pos lH s1 σ H1 _ I1 h) fun us s2 (z:AP (blk X sc cl C Nc fp s0 H0) lH σ _ us s2)=>show PySem.W.FnAt a s2.heap/\wpAny (model X.prog X.w) X.A (call (.ref a) ([]++us)) (EP (blk X sc cl C Nc fp s0 H0) lH σ Q) (blk X sc cl C Nc fp s0 H0).xe s2 from by
  obtain⟨vs,H2,I2,r,c,fv,h1,h2,h3,h4⟩:=z;have un:Un (frs X.stack) fp H0 H2 s0.heap s2.heap:=I2.Ar;have cellK:∀ {y d v},X.env.cells.lookup y=some d->s0.heap.IsCell d v->s2.heap.IsCell d v:=fun {y d v} hd ⟨o,ho,hq⟩=>by
   obtain⟨sl,e⟩:=un.any ho (I0.freeC y d hd) (nfp hd);exact⟨_,e,hq⟩
  have C0:=I0.clOk hfree;obtain⟨f1,f2⟩:=I0.fvOk hfree hfs hat h3;refine⟨jPA I2 h1,jKC (Y:=blk X sc cl C Nc fp s0 H0) F hr I2 h1 h2 ⟨C0.inj,fun y d hd=>?_⟩ ⟨f1,fun i y v e1 e2=>?_⟩ r h4⟩
  ·obtain⟨⟨v,z⟩,n⟩:=C0.cell y d hd;obtain⟨o,ho,hq⟩:=id z;exact⟨⟨v,cellK (sub y d hd) z⟩,un.free d o ho n (nfp (sub y d hd))⟩
  ·obtain⟨d,u,g1,g2,g3⟩:=f2 i y v e1 e2;exact⟨d,u,g1,g2,cellK (sub y d g1) g3⟩
 rw[he] at hX ⊢;exact ir (by show ((false || (backTo pos (starEach es (blk X sc cl C Nc fp s0 H0).env)).any (·.1)) || false)=false; rw[hpl]; rfl) jy (fm hX)
end
def jS5 (m:List (Option Nat))(wi:TI)(g:TG)(tt:TT)(te:St->TE):TE:=fun σ H Q=>wi σ H (qL m g tt (te σ) σ Q)
section
variable {te:St->TE}
theorem jQM (hc:X.calm=true)(hi:PI X tg iter wi)(hkind:sc.kind= .function)(hcell:∀ y∈sc.names,y.2≠ .cell)(hnames:∀ y∈sc.names,y.2= .local->sc.names.lookup y.1=some .local)
  (hfree:∀ y∈sc.names,y.2= .free->X.env.scope.names.lookup y.1=some .cell\/X.env.scope.names.lookup y.1=some .free) (hm:jBZ X sc Nc m)
  (hg:∀ cl C fp s H,PG (blk X sc cl C Nc fp s H) tg g) (ht:∀ cl C fp s H,PTs (blk X sc cl C Nc fp s H) ifs tt) (he:∀ cl C fp s H lH σ,Inv X lH σ H s->(∀ b∈fp,FpOk X lH H b)->PE (blk X sc cl C Nc fp s H) elt (te σ))
  (hs:∀ x,foldedSetIterable iter X.env x=pure x:=by intro _; rfl):PE X (.ListComp elt [⟨tg,iter,ifs,0⟩] sc pos) (jS5 m wi g tt te):=by
 intro lH s σ H Q I h;rw[eval_ListComp];exact jGX (tf:=te) (use:=none) hc hi hkind hcell hnames hfree hm hg ht he hs I h (fun D C H5 z1 r ⟨mm,hn⟩ fC sb q=>⟨mm,hn,fun h' s2=>⟨.ref D,H5,sb h' s2,rfl,q⟩⟩)
theorem jRB (hc:X.calm=true)(hi:JI X tg iter wi)(hkind:sc.kind= .function)(hcell:∀ y∈sc.names,y.2≠ .cell)(hnames:∀ y∈sc.names,y.2= .local->sc.names.lookup y.1=some .local)
  (hfree:∀ y∈sc.names,y.2= .free->X.env.scope.names.lookup y.1=some .cell\/X.env.scope.names.lookup y.1=some .free) (hm:jBZ X sc Nc m)
  (hg:∀ cl C fp s H,JG (blk X sc cl C Nc fp s H) tg g) (ht:∀ cl C fp s H,JTs (blk X sc cl C Nc fp s H) ifs tt) (he:∀ cl C fp s H lH σ,Inv X lH σ H s->(∀ b∈fp,FpOk X lH H b)->JE (blk X sc cl C Nc fp s H) elt (te σ))
  (hs:FoOk iter):JE X (.ListComp elt [⟨tg,iter,ifs,0⟩] sc pos) (jS5 m wi g tt te):=⟨jQM hc hi.h hkind hcell hnames hfree hm (fun cl C fp s H=>(hg cl C fp s H).h) (fun cl C fp s H=>(ht cl C fp s H).h) (fun cl C fp s H lH σ I f=>(he cl C fp s H lH σ I f).h) (hs.h _)⟩
end
def jXG (Ts:List Addr)(H:Hp):Prop:=∀ b,H b=none\/(∃ o xs,H b=some (.frz o (.lst xs)))\/b∈Ts
theorem jM9 {cts:List (Addr×Addr)}{P:Program}{w:World}{K:W.Frag}{mg mb:Ak}{CX:CXT}{k:Nat}{fa a:Addr}{fd:FuncData}{x:Str}{sp:Sp}{s₁:Shared}{vs:Am}{ns:Ag}
  (KX:K.In s₁.heap) (hns:s₁.heap.Ns mainGlobals mg) (hb:s₁.heap.Ns builtinsNs mb) (hbb:∀ x:Str,x≠ "__name__" ->mb x=bootBuiltins x) (hlim:s₁.heap.NoLimit) (hg:s₁.gens=#[])
  (ha:s₁.heap.get? a=some { cls:= .type "list",data:= .seq vs.toArray}) (hi:IntsAre vs ns) (hl:ns.length<=sizeLine) (hr:Room k callerA) (hT:∀ T∈cts.map (·.2),s₁.heap.get? T=some (tabObj #[])) (CH:∀ p∈cts,PySem.W.CodeHd s₁.heap p.1 p.2) (hKT:∀ T∈cts.map (·.2),K.lookup T=none)
  (F:∀ Ar:Heap,K.In Ar->Ar.Ns mainGlobals mg->FnOk P w K mg Ar CX k fa fd [x] sp) (hbind:∀ (s:Shared) (u:Value),BindsTo s fd ⟨[u],[]⟩ [(x,u)])
  (hsp:∀ H:Hp,(∀ T∈cts.map (·.2),H T=some (.tbl #[]))->SqL K H a (ns.map V.int)->sp [.ref a] H (fun v _=>v= .bl true) fun _ _ _=>False)
  (hCX:∀ H e s',CX [] H s₁ (fun _ _ _=>False) e s'->False):
  codeAny (model P w) callerA (.call (.ref fa) ⟨[.ref a],[]⟩) (fun r s'=>r= .ok (.ret (.bool true))/\OldK s₁.heap s'.heap/\s'.os=s₁.os/\AllBare s'.gens) s₁:=by
 have rv:=jH6 hi;have lenV:=hi.length;have core:∀ H:Hp,jXG (cts.map (·.2)) H->(∀ T∈cts.map (·.2),H T=some (.tbl #[]))->SqL K H a (ns.map V.int)->HOk P w H s₁.heap->(∀ b,H b≠none->b=a\/b∈cts.map (·.2))->(H a≠none->K.lookup a=none)->
   codeAny (model P w) callerA (.call (.ref fa) ⟨[.ref a],[]⟩) (fun r s'=>r= .ok (.ret (.bool true))/\OldK s₁.heap s'.heap/\s'.os=s₁.os/\AllBare s'.gens) s₁:=by
  intro H hO hHT hS hok hA hK;have base_of:∀ {b:Addr}{o:Obj},s₁.heap.get? b=some o->H b=none->(hidT s₁.heap H).get? b=some o:=fun e n=>jRD e n;have noA:∀ {b:Addr}{o:Obj}{es:Array DictEntry}{ep:Nat},s₁.heap.get? b=some o->o.data= .dict es ep->H b=none:=fun {b o es ep} e d=>by
   cases q:H b with
   | none=>rfl
   | some u=>
    rcases hA b (by rw[q]; simp) with e' | e'
    ·subst e';rw[ha] at e; cases e;have d':Data.seq vs.toArray _=Data.dict es ep:=d;cases d'
    ·rw[hT b e'] at e; cases e;have d':Data.fields _=Data.dict es ep:=d;cases d'
  have nsK:∀ {b:Addr}{m:Ak},s₁.heap.Ns b m->(hidT s₁.heap H).Ns b m:=fun {b m} ⟨o,es,ep,e,d,r⟩=>⟨o,es,ep,base_of e (noA e d),d,r⟩;have hKb:K.In (hidT s₁.heap H):=fun b o e=>base_of (KX b o e) (by
   cases q:H b with
   | none=>rfl
   | some u=>
    rcases hA b (by rw[q]; simp) with e' | e'
    ·subst e';rw[hK (by rw[q]; simp)] at e; cases e
    ·rw[hKT b e'] at e; cases e)
  have hM:Mod K mg (hidT s₁.heap H):=⟨hKb,nsK hns,⟨mb,nsK hb,hbb⟩,let ⟨mc,h1,h2⟩:=hlim; ⟨mc,nsK h1,h2⟩⟩;have e0:Env0 P w K mg (hidT s₁.heap H) callerA [] s₁ H:=⟨rfl,hM,fun b o e=>jUG e,Nat.le_of_eq (jP2 _ _),trivial,fun b hb=>absurd (show b∈([]:List Addr) from hb) Ad,hok, .of_eq hg⟩;refine dS ((F _ hKb (nsK hns)).run callerA [] s₁ H ⟨[.ref a],[]⟩ [.ref a] [.ref a] _ _ hr e0 (hbind s₁ (.ref a)) (.cons rfl .nil) (hsp H hHT hS)) fun r s' h=>?_;cases r with
  | error e=>exact(hCX H e s' h).elim
  | ok fl=>
   cases fl with
   | next=>exact False.elim h
   | brk=>exact False.elim h
   | cont=>exact False.elim h
   | ret u=>
    obtain⟨v,H',os,bare,un,hok',r',q⟩:=h;have q':v= .bl true:=q;subst q';obtain rfl:u=Value.bool true:=r';have gr:∀ T∈cts.map (·.2),∃ more,s'.heap.get? T=some (tabObj (#[]++more)):=fun T hTm=>by
     obtain⟨more,z⟩:=un.tbls T _ (hHT T hTm);exact⟨more,hok' T _ z⟩
    have kp:∀ b o,b∉cts.map (·.2)->s₁.heap.get? b=some o->s'.heap.get? b=some o:=fun b o hbT e=>?_
    ·refine⟨rfl,⟨fun b o e=>?_,fun b o e=>?_⟩,os,bare⟩
     ·by_cases hb:b∈cts.map (·.2)
      ·obtain⟨p,hp,rfl⟩:=aw.mp hb;have q:=hT _ hb;rw[q] at e;cases e;obtain⟨more,z⟩:=gr _ hb;exact .inr (.inl ⟨((CH p hp).tab q).isCodeTable,rfl,#[],more,rfl,z⟩)
      ·exact .inl (kp b o hb e)
     ·by_cases hb:b∈cts.map (·.2)
      ·obtain⟨more,z⟩:=gr _ hb;exact⟨_,z⟩
      ·exact⟨o,kp b o hb e⟩
    cases q:H b with
    | none=>exact un.keep b o e q (by intro z; exact absurd (show b∈([]:List Addr) from z) Ad) Ad
    | some u=>
     rcases hO b with z | ⟨ob,xs,z⟩ | z
     ·rw[q] at z; cases z
     ·have z2:=un.frzs b ob _ z;obtain⟨e1,_⟩:=hok b _ z;obtain⟨e2,_⟩:=hok' b _ z2;rw[e] at e1; cases e1;exact e2
     ·exact absurd z hbT
 have aT:a∉cts.map (·.2):=fun z=>by rw[hT a z] at ha; cases ha
 cases hk:K.lookup a with
 | some o=>
  have e:=KX a o hk;rw[ha] at e;cases e;refine core (fun b=>if b∈cts.map (·.2) then some (.tbl #[]) else none) (fun b=>?_) (fun T hm=>aq hm) (.inr ⟨_,vs.toArray,_,hk,rfl,rfl,rfl,by rw[az,lenV]; exact hl,by simpa using rv⟩) (fun b u z=>?_) (fun b z=>?_) fun z=>absurd (ak aT) z
  ·by_cases hb:b∈cts.map (·.2)
   ·exact .inr (.inr hb)
   ·exact .inl (ak hb)
  ·by_cases hb:b∈cts.map (·.2)
   ·have z':=(aq hb).symm.trans z;cases z';exact hT b hb
   ·have z':=(ak hb).symm.trans z;cases z'
  ·by_cases hb:b∈cts.map (·.2)
   ·exact .inr hb
   ·exact absurd (ak hb) z
 | none=>
  refine core (fun b=>if b∈cts.map (·.2) then some (.tbl #[]) else if b=a then some (.frz { cls:= .type "list",data:= .seq vs.toArray} (.lst (ns.map V.int))) else none) (fun b=>?_) (fun T hm=>aq hm) (.inl (.inr ⟨{ cls:= .type "list",data:= .seq vs.toArray},by dsimp only; rw[ak aT,aq rfl]⟩)) (fun b u z=>?_) (fun b z=>?_) fun _=>hk
  ·by_cases hT':b∈cts.map (·.2)
   ·exact .inr (.inr hT')
   ·by_cases hb:b=a
    ·exact .inr (.inl ⟨_,_,by dsimp only; rw[ak hT',aq hb]⟩)
    ·exact .inl (by dsimp only; rw[ak hT',ak hb])
  ·dsimp only at z;by_cases hT':b∈cts.map (·.2)
   ·rw[aq hT'] at z;cases z;exact hT b hT'
   ·rw[ak hT'] at z;by_cases hb:b=a
    ·rw[aq hb] at z;cases z;subst hb;exact⟨ha,by rw[af]; exact hl,vs,_,rv,ha⟩
    ·rw[ak hb] at z;cases z
  ·replace z:(if b∈cts.map (·.2) then some (HO.tbl #[]) else if b=a then some (HO.frz { cls:= .type "list",data:= .seq vs.toArray} (.lst (ns.map V.int))) else none)≠none:=z;by_cases hT':b∈cts.map (·.2)
   ·exact .inr hT'
   ·by_cases hb:b=a
    ·exact .inl hb
    ·rw[ak hT',ak hb] at z;exact absurd rfl z
theorem walk_ofTs {cts:List (Addr×Addr)}{l:PySem.W.OpenLaw}{n k:Nat}{q:Program}{loose:An}{XP:(Ak)->Heap->Prop}{YP:World->Heap->Prop}{d:DefRec}{K:Params->W.Frag}{CX:World->CXT}{sp:World->Sp}{x:Str}
  (hn:l.most=some n) (hn2:n<=sizeLine) (hdf:d.params.defaults=[]) (hr:Room k callerA)
  (hY:∀ (w:World) (h:Heap),YP w h->(K w.params).In h/\∀ T∈cts.map (·.2),h.get? T=some (tabObj #[])) (hcd:∀ w:World,∀ p∈cts,codeHdIn (K w.params) p.1 p.2=true) (hKT:∀ w:World,∀ T∈cts.map (·.2),(K w.params).lookup T=none)
  (F:∀ (w:World) (mg:Ak) (fa:Addr) (h:Heap),(K w.params).In h->h.Ns mainGlobals mg->mg d.name=some (.ref fa)->
   ∃ fd:FuncData,(∀ (s:Shared) (u:Value),BindsTo s fd ⟨[u],[]⟩ [(x,u)])/\
    ∀ Ar:Heap,(K w.params).In Ar->Ar.Ns mainGlobals mg->FnOk l.prog w (K w.params) mg Ar (CX w) k fa fd [x] (sp w))
  (hsp:∀ (w:World) (H:Hp) (a:Addr) (ns:Ag),ns.length<=n->(∀ T∈cts.map (·.2),H T=some (.tbl #[]))->SqL (K w.params) H a (ns.map V.int)->sp w [.ref a] H (fun v _=>v= .bl true) fun _ _ _=>False)
  (hCX:∀ (w:World) (H:Hp) (s:Shared) (e:Value) (s':Shared),CX w [] H s (fun _ _ _=>False) e s'->False):
  PySem.W.WalkO q loose XP YP l.row.toRowW d [] (fun f vs=>PySem.call f vs):=by
 refine Att.attach_call hn hdf fun w s₀ s₁ mg mb fa o pm cd doc a vs ns G Y ho hd _ hmg hobj hints hlen hg=>?_;obtain⟨KX,hT⟩:=hY w _ Y;obtain⟨fd,hb,hF⟩:=F w mg fa _ KX G.T.g hmg;exact jM9 KX G.T.g G.T.b G.T.builtins G.T.nolimit hg hobj hints (bv hlen hn2) hr hT (fun p hp=>dO KX (hcd w p hp)) (hKT w) hF hb (fun H hO hS=>hsp w H a ns hlen hO hS) fun H e s'=>hCX w H s₁ e s'
open PySem.AutoSeq1 (wpAny_loadPart')
theorem jRI {tp:Bool}{e it l:Addr}{i:Nat}{xs:Ao}{x old:Value}{Q:Ah}(ee:IsEnum s.heap e it i old)(g1:ItAt tp s.heap it l i)(o1:ObAt tp s.heap l xs)(hx:xs[i]?=some x)(ne:e≠it)
  (k:∀ h',IsEnumOut h' e it ((i:Int)+1) x s.heap.objs.size->ItAt tp h' it l (i+1)->h'.get? s.heap.objs.size=some { cls:= .type "tuple",data:= .seq #[.int i s.toks,x]} ->h'.objs.size=s.heap.objs.size+1->
   (∀ c o,c≠e->c≠it->s.heap.get? c=some o->h'.get? c=some o)->Q (.ref s.heap.objs.size) { s with heap:=h',toks:=s.toks+1}):
  wpAny (model prog w) A (Builtin.«enumerate.__next__» ⟨[.ref e],[]⟩) (fun fin s'=>∃ v,fin= .done (.ret v)/\Q v s') E s:=by
 obtain⟨hp,g,d,tk,os⟩:=s;show wpAny (model prog w) A (field (.ref e) 2 >>= _) _ _ _;refine ae (eE ee rfl (x:= .ref it) rfl (ae (next1 g1 o1 hx fun p1 r1 q1=>?_)));have q1:Heap.SameBut it hp p1:=q1;have e1:IsEnum p1 e it i old:=(q1.2 e ne).trans ee;show wpAny (model prog w) A (field (.ref e) 3 >>= _) _ _ ⟨p1,g,d,tk,os⟩;refine ae (eE e1 rfl (x:=rawInt i) rfl (?_:wpAny (model prog w) A (field (.ref e) 4 >>= _) _ _ ⟨p1,g,d,tk,os⟩));refine ae (eE e1 rfl (x:= .none) rfl (?_:wpAny (model prog w) A (mkInt i >>= _) _ _ ⟨p1,g,d,tk,os⟩));refine ae (wpAny_mkInt (?_:wpAny (model prog w) A (setField (.ref e) 3 (rawInt ((i:Int)+1)) >>= _) _ _ ⟨p1,g,d,tk+1,os⟩));refine ae (cS e1 Ad fun p2 e2 q2=>?_);have q2:Heap.SameBut e p1 p2:=q2;have e2:IsEnum p2 e it ((i:Int)+1) old:=e2;show wpAny (model prog w) A (setField (.ref e) 4 .none >>= _) _ _ ⟨p2,g,d,tk+1,os⟩;refine ae (cS e2 Ad fun p3 e3 q3=>?_);have q3:Heap.SameBut e p2 p3:=q3;have e3:IsEnum p3 e it ((i:Int)+1) old:=e3;show wpAny (model prog w) A (newTuple [.int i tk,x] >>= _) _ _ ⟨p3,g,d,tk+1,os⟩;refine ae (ku ?_);have e4:IsEnum (p3.push { cls:= .type "tuple",data:= .seq #[.int i tk,x]}) e it ((i:Int)+1) old:=ah _ e3;have sz:p3.objs.size=hp.objs.size:=by rw[q3.1,q2.1,q1.1]
 have lt:e<hp.objs.size:=aK ee;have t4:(p3.push { cls:= .type "tuple",data:= .seq #[.int i tk,x]}).get? hp.objs.size=some { cls:= .type "tuple",data:= .seq #[.int i tk,x]} :=by rw[<- sz]; exact aF _ rfl
 have z4:(p3.push { cls:= .type "tuple",data:= .seq #[.int i tk,x]}).objs.size=hp.objs.size+1:=by rw[eR,sz]
 have k4:∀ c o,c≠e->c≠it->hp.get? c=some o->(p3.push { cls:= .type "tuple",data:= .seq #[.int i tk,x]}).get? c=some o:=fun c o n1 n2 v=>ah _ (q3.extBut c o n1 (q2.extBut c o n1 (q1.extBut c o n2 v)));have r4:ItAt tp (p3.push { cls:= .type "tuple",data:= .seq #[.int i tk,x]}) it l (i+1):=((r1.but q2.extBut ne.symm).but q3.extBut ne.symm).at fun o v=>ah _ v;generalize p3.push { cls:= .type "tuple",data:= .seq #[.int i tk,x]} =p4 at e4 t4 z4 k4 r4 ⊢;show wpAny (model prog w) A (Builtin.SmallTypes.ownedTupleIsFree (.ref e) >>= _) _ _ ⟨p4,g,d,tk+1,os⟩;rw[sz];refine ae (by
  unfold Builtin.SmallTypes.ownedTupleIsFree;refine ae (eE e4 rfl (x:= .none) rfl (aj ?_));simp only [g5];refine ae (db (ae (eE e4 rfl (x:=old) rfl (ae (cS e4 Ad fun p5 e5 q5=>?_)))));have q5:Heap.SameBut e p4 p5:=q5;have e5:IsEnum p5 e it ((i:Int)+1) x:=e5;refine ae (m:=Builtin.SmallTypes.ownedTupleHandOut (.ref e) (.ref hp.objs.size)) ?_;unfold Builtin.SmallTypes.ownedTupleHandOut;refine ae (cS e5 Ad fun p6 e6 q6=>?_);have q6:Heap.SameBut e p5 p6:=q6;have e6:IsEnumOut p6 e it ((i:Int)+1) x hp.objs.size:=e6;refine cS e6 Ad fun p7 e7 q7=>?_;have q7:Heap.SameBut e p6 p7:=q7;have e7:IsEnumOut p7 e it ((i:Int)+1) x hp.objs.size:=e7;have up:∀ c o,c≠e->p4.get? c=some o->p7.get? c=some o:=fun c o n v=>q7.extBut _ _ n (q6.extBut _ _ n (q5.extBut _ _ n v));exact ae (wpAny_letGo (aj ⟨_,rfl,k p7 e7 (r4.at fun o v=>up _ o ne.symm v) (up _ _ (cP lt) t4) (by rw[q7.1,q6.1,q5.1,z4]) fun c o n1 n2 v=>up c o n1 (k4 c o n1 n2 v)⟩)))
theorem jLW {tp:Bool}{e it l:Addr}{i:Nat}{xs:Ao}{x old:Value}{Q:Ap->Shared->Prop}(ee:IsEnum s.heap e it i old)(g1:ItAt tp s.heap it l i)(o1:ObAt tp s.heap l xs)(hx:xs[i]?=some x)(ne:e≠it)
  (k:∀ h',IsEnumOut h' e it ((i:Int)+1) x s.heap.objs.size->ItAt tp h' it l (i+1)->h'.get? s.heap.objs.size=some { cls:= .type "tuple",data:= .seq #[.int i s.toks,x]} ->h'.objs.size=s.heap.objs.size+1->
   (∀ c o,c≠e->c≠it->s.heap.get? c=some o->h'.get? c=some o)->Q (some (.ref s.heap.objs.size)) { s with heap:=h',toks:=s.toks+1}):
  wpAny (model prog w) A (pyNext (.ref e)) Q E s:=by
 have ty:s.TypeIs (.ref e) "enumerate" :=⟨_,ee,rfl⟩;unfold pyNext;exact ae (eG (cV (name:=Str.ofString "__next__") ty F.slot_enumerate_next (cE F.slot_enumerate_next ty F.entry_enumerate_next (jRI ee g1 o1 hx ne fun h' b1 b2 b3 b4 b5=>aj (k h' b1 b2 b3 b4 b5)) (F.args_enumerate_next_1 _))))
theorem jLX {tp:Bool}{e it l:Addr}{i:Nat}{xs:Ao}{old:Value}{Q:Ap->Shared->Prop}(hh:A.handled=none)(ee:IsEnum s.heap e it i old)(g1:ItAt tp s.heap it l i)(o1:ObAt tp s.heap l xs)(hx:xs[i]?=none)
  (k:∀ h',(∀ c o,c≠e->c≠it->s.heap.get? c=some o->h'.get? c=some o)->Q none { s with heap:=h'}):wpAny (model prog w) A (pyNext (.ref e)) Q E s:=by
 have ty:s.TypeIs (.ref e) "enumerate" :=⟨_,ee,rfl⟩;unfold pyNext;refine ae (eG (cV (name:=Str.ofString "__next__") ty F.slot_enumerate_next (cE F.slot_enumerate_next ty F.entry_enumerate_next (?_:wpAny (model prog w) _ (field (.ref e) 2 >>= _) _ _ _) (F.args_enumerate_next_1 _))));refine ae (eE ee rfl (x:= .ref it) rfl (ae (next0 hh g1 o1 hx fun h' x kp ⟨u,eu,cu⟩=>?_)));exact ae (jd (T:= "StopIteration") (b:=true) ⟨u,eu,cu⟩ isSubtype_stop (aj (k _ fun c o _ n v=>kp c o n v)))
set_option maxHeartbeats 2000000 in
theorem jO4 (tp:Bool)(l:Addr)(xs:Ao)(u:Obj):
  Meets (Builtin.«enumerate.__new__» ⟨[.type "enumerate", .ref l],[]⟩) (fun _ R s=>s.heap.get? l=some u/\ObAt tp s.heap l xs/\
   R (.ok (.ret (.ref (s.heap.push (iterO tp l)).objs.size))) { s with heap:=(s.heap.push (iterO tp l)).push { cls:= .type "enumerate",data:= .fields #[.none, .bool false, .ref s.heap.objs.size,rawInt 0, .none, .none]}}):=
 .of_wp fun prog w A R s h=>by
  obtain⟨hp,g,d,tk,os⟩:=s;obtain⟨a0,a1,q⟩:=h;have sub:=sub_enumerate;have e1:ObAt tp (Shared.heap ⟨hp,g,d,tk,os⟩) l xs:=a1;obtain⟨c,dct,dt,sl⟩:=u;obtain⟨n,hc,hd⟩:∃ n,c=(if tp then .type "tuple" else .type "list")/\dt= .seq xs n:=by
   cases tp with
   | false=>obtain⟨o,e,hc,n,hd⟩:=a1; cases (a0.symm.trans e); exact⟨n,hc,hd⟩
   | true=>obtain⟨o,e,hc,n,hd⟩:=a1; cases (a0.symm.trans e); exact⟨n,hc,hd⟩
  subst hd;cases tp with
  | false=>
   subst hc
   wp_walk using cL a0
   refine wpAny_stack_any fun _=>aj ?_;split
   ·rename_i c _ _ _ _ _;cases hcc:(c==Value.type "enumerate")
    all_goals (wp_walk using cL a0,jG5 e1; exact⟨_,rfl,q⟩)
   ·wp_walk using cL a0,jG5 e1
    exact⟨_,rfl,q⟩
  | true=>
   subst hc
   wp_walk using cL a0
   refine wpAny_stack_any fun _=>aj ?_;split
   ·rename_i c _ _ _ _ _;cases hcc:(c==Value.type "enumerate")
    all_goals (wp_walk using cL a0,jG5 e1; exact⟨_,rfl,q⟩)
   ·wp_walk using cL a0,jG5 e1
    exact⟨_,rfl,q⟩
theorem jRO {prog:Program}{w:World}{A:Around}{E:Ah}{s:Shared}{tp:Bool}{l:Addr}{xs:Ao}{Q:Ah}(a1:ObAt tp s.heap l xs)
  (k:∀ h',IsEnum h' (s.heap.objs.size+1) s.heap.objs.size 0 .none->ItAt tp h' s.heap.objs.size l 0->(∀ c o,s.heap.get? c=some o->h'.get? c=some o)->Q (.ref (s.heap.objs.size+1)) { s with heap:=h'}):
  wpAny (model prog w) A (call (.type "enumerate") [.ref l]) Q E s:=by
 obtain⟨u,eu⟩:∃ u,s.heap.get? l=some u:=by
  cases tp with
  | false=>obtain⟨o,e,_⟩:=a1; exact⟨o,e⟩
  | true=>obtain⟨o,e,_⟩:=a1; exact⟨o,e⟩
 refine callType_new F.called_enumerate Ac (F.typeCall_enumerate_1 _) (F.newCall_enumerate_1 _) (fun obj=>F.args_object_init_2 obj _) F.entry_enumerate_new (jO4 tp l xs u) ⟨eu,a1,?_⟩;have z1:(s.heap.push (iterO tp l)).objs.size=s.heap.objs.size+1:=eR ..;have y2:IsEnum ((s.heap.push (iterO tp l)).push { cls:= .type "enumerate",data:= .fields #[.none, .bool false, .ref s.heap.objs.size,rawInt 0, .none, .none]}) (s.heap.push (iterO tp l)).objs.size s.heap.objs.size 0 .none:=aF _ rfl;have y1:((s.heap.push (iterO tp l)).push { cls:= .type "enumerate",data:= .fields #[.none, .bool false, .ref s.heap.objs.size,rawInt 0, .none, .none]}).get? s.heap.objs.size=some (iterO tp l):=ah _ (aF _ (jMA _ _));show _/\_;rw[z1] at y2 ⊢;exact⟨⟨_,y2,rfl⟩,k _ y2 (.new tp y1) fun c o e=>ah _ (ah _ e)⟩
def Ite (tp:Bool)(K:W.Frag)(l:Addr):It:=
 ⟨fun i H=>∃ xs x,Sq tp K H l xs/\xs[i]?=some x,
  fun i H v H'=>∃ T x,H T=none/\v= .ref T/\H'=upd H T (.tup [.int (i:Int),x])/\∀ xs,Sq tp K H l xs->xs[i]?=some x,
  fun i H=>∃ xs,Sq tp K H l xs/\xs.length<=i⟩
theorem jMQ {P:Program}{w:World}{K:W.Frag}{elts:List Expr}{x1:Nat}{tps:Pos}(tp:Bool)(l e it:Addr)(ne:e≠it):
  Turn P w K (.Tuple elts x1 tps) (Ite tp K l) [e,it] e (fun i h=>(∃ old,IsEnum h e it ((i:Nat):Int) old)/\ItAt tp h it l i) where
 mem:=by simp
 obj:=fun i h st b hb=>by
  obtain⟨⟨old,he⟩,y1⟩:=st;simp only [aI,bH,dr] at hb;rcases hb with rfl | rfl
  ·exact⟨_,he,fun v q=>by cases q⟩
  ·exact y1.obj
 keep:=fun i h h' st k=>by
  obtain⟨⟨old,he⟩,h1⟩:=st;exact⟨⟨old,k e Ad _ he⟩,h1.at fun o z=>k it Ad o z⟩
 item:=by
  intro X hP hw hK hc i lH s σ H E I hf st hg;subst hP hw hK;obtain⟨xs,x,hq1,hx⟩:=hg;obtain⟨⟨old,he⟩,h1⟩:=st;obtain⟨its1,r1,p1,_⟩:=I.sq hq1;obtain⟨u,hu,ru⟩:=r1.get hx;refine jLW he h1 p1 (x:=u) (by simpa using hu) ne fun h' a1 a2 a3 a4 a5=>?_;refine⟨_,rfl,wpAny_letOwnedTupleGo_enum (s:= { s with heap:=h',toks:=s.toks+1}) a1 fun h'' b1 sb=>?_⟩;have fresh:H s.heap.objs.size=none:=I.fresh;have ntr:∀ b o,H b=some o->b∉([e,it]:List Addr):=fun b o z hb=>by
   have:=(hf b hb).1;rw[z] at this; cases this
  have kp:∀ b o,b∉([e,it]:List Addr)->s.heap.get? b=some o->h''.get? b=some o:=fun b o hb z=>by
   simp only [aI,bH,dr,lz] at hb;exact(sb.2 b hb.1).trans (a5 b o hb.1 hb.2 z)
  have nz:s.heap.objs.size≠e:=cP (aK he);have hT2:h''.get? s.heap.objs.size=some { cls:= .type "tuple",data:= .seq #[.int i s.toks,u]} :=(sb.2 _ nz).trans a3;have I2:Inv X lH σ (upd H s.heap.objs.size (.tup [.int (i:Int),x])) { s with heap:=h'',toks:=s.toks+1} :=by
   refine I.step (g':=s.gens) (d':=s.drawn) (t':=s.toks+1) (ch:=[e,it]) (fun b hb=>?_) (fun b o _ _ hb z _=>kp b o hb z) (fun b o _ _ hb z _=>⟨o.slots,kp b o hb z⟩)
    (fun b o _ z n=>by rw[j9 (aW (aK z))]; exact n) (fun b o hb z=>⟨o,kp b o hb z⟩) (fun b ws z=>by rw[j9 (jA z fresh)]; exact z) (fun b o ws z=>by rw[j9 (jA z fresh)]; exact z)
    (fun b ps z=>⟨#[],by rw[j9 (jA z fresh),z]; simp⟩) (fun m hm=>?_) (fun b o z=>?_) I.bare
   ·obtain⟨f0,f1,f2,f3,f4,f5⟩:=hf b hb;exact⟨f3,f1,f4,f5⟩
   ·obtain⟨o,es,ep,ho,r⟩:=hm;exact⟨o,es,ep,kp _ o (fun hb=>(hf _ hb).2.1 rfl) ho,r⟩
   ·by_cases hb:b=s.heap.objs.size
    ·subst hb;rw[j5] at z;cases z;exact⟨by rw[eV]; show 2<=_; decide,[.int i s.toks,u], .cons ⟨_,rfl⟩ (.cons ru .nil),0,hT2⟩
    ·rw[j9 hb] at z;refine(I.hok b o z).stay (fun c w hc q=>kp c w ?_ q) (fun c q=>by rw[j9 (jA q fresh)]; exact q) (fun c ws q=>by rw[j9 (jA q fresh)]; exact q);rcases hc with rfl | hc
     ·exact ntr _ _ z
     ·exact ntr _ _ hc
  refine⟨.ref s.heap.objs.size,_,I2,rfl,⟨_,x,fresh,rfl,rfl,fun xs' q1=>by rw[I.sq_inj q1 hq1]; exact hx⟩,⟨⟨_,b1⟩,?_⟩,fun b hb=>?_⟩
  ·exact a2.at fun o z=>(sb.2 it ne.symm).trans z
  ·rw[j9 (fun q=>by
    obtain⟨o,eo⟩:∃ o,s.heap.get? b=some o:=by
     simp only [aI,bH,dr] at hb;rcases hb with rfl | rfl
     ·exact⟨_,he⟩
     ·obtain⟨o,z,_⟩:=h1.obj; exact⟨o,z⟩
    exact absurd (aK eo) (by rw[q]; exact dz _))]
   exact(hf b hb).1
 done:=by
  intro X hP hw hK hc i lH s σ H E I hf st hg;subst hP hw hK;obtain⟨xs,hq1,hend⟩:=hg;obtain⟨⟨old,he⟩,h1⟩:=st;obtain⟨its1,r1,p1,_⟩:=I.sq hq1;have e1:=r1.length;refine jLX (I.ok.hd hc) he h1 p1 (by simp; lia) fun h' kp=>⟨rfl,?_⟩;have kp2:∀ b o,b∉([e,it]:List Addr)->s.heap.get? b=some o->h'.get? b=some o:=fun b o hb z=>by
   simp only [aI,bH,dr,lz] at hb;exact kp b o hb.1 hb.2 z
  have ntr:∀ b o,H b=some o->b∉([e,it]:List Addr):=fun b o z hb=>by
   have:=(hf b hb).1;rw[z] at this; cases this
  refine I.step (g':=s.gens) (d':=s.drawn) (t':=s.toks) (ch:=[e,it]) (fun b hb=>?_) (fun b o _ _ hb z _=>kp2 b o hb z) (fun b o _ _ hb z _=>⟨o.slots,kp2 b o hb z⟩)
   (fun b o _ z n=>n) (fun b o hb z=>⟨o,kp2 b o hb z⟩) (fun b ws z=>z) (fun b o ws z=>z) (fun b ps z=>⟨#[],by rw[z]; simp⟩) (fun m hm=>?_) (fun b o z=>?_) I.bare
  ·obtain⟨f0,f1,f2,f3,f4,f5⟩:=hf b hb;exact⟨f3,f1,f4,f5⟩
  ·obtain⟨o,es,ep,ho,r⟩:=hm;exact⟨o,es,ep,kp2 _ o (fun hb=>(hf _ hb).2.1 rfl) ho,r⟩
  ·refine(I.hok b o z).stay (fun c w hc q=>kp2 c w ?_ q) (fun _ q=>q) fun _ _ q=>q;rcases hc with rfl | hc
   ·exact ntr _ _ z
   ·exact ntr _ _ hc
 self:=fun _ _ _ _ _ st h=>wpAny_pyIter_enum st.1.choose_spec h
def iEnum (K:W.Frag)(ta:TA):TI:=fun σ H R=>ta σ H fun vs H1=>∃ tp l,vs=[.ref l]/\(∃ xs,Sq tp K H1 l xs)/\R (Ite tp K l) H1
theorem jTS {a:Expr}{ta:TA}{p pos:Pos}{elts:List Expr}{x1:Nat}{tp:Pos}(hg:Gl X "enumerate")(hm:X.mg "enumerate" =none)(ha:PA X [a] ta)(hv:bootBuiltins "enumerate" =some (.type "enumerate"):=by decide+kernel)
  (he:starEach [a] X.env=(false,eval a X.env)::starEach [] X.env:=by rfl) (hpl:(backTo pos (starEach [] X.env)).any (·.1)=false:=by rfl):
  PI X (.Tuple elts x1 tp) (.Call (.Name "enumerate" p) [a] [] pos) (iEnum X.K ta):=by
 intro lH s σ H R I h;refine Call_ (jEO I hg hm hv (dR (lJ (ha pos lH s σ H _ I h) fun us s1 ⟨vs,H1,I1,r1,q1⟩=>?_) he hpl));obtain⟨t1,l1,rfl,⟨xs,hq1⟩,q⟩:=q1;obtain⟨u,rfl,ru⟩:=r1.one;cases ru;obtain⟨its1,_,p1,_⟩:=I1.sq hq1;refine jRO p1 fun h' a1 a2 kp=>?_;have I2:Inv X lH σ H1 { s1 with heap:=h'} :=I1.kept (t':=s1.toks) kp;refine wpAny_pyIter_enum a1 ⟨s1.heap.objs.size+1,[s1.heap.objs.size+1,s1.heap.objs.size],_,Ite t1 X.K l1,H1,rfl,I2,jMQ t1 l1 _ _ (Nat.succ_ne_self _),⟨⟨_,a1⟩,a2⟩,fun b hb=>?_,q⟩;have hge:s1.heap.objs.size<=b:=by
  simp only [aI,bH,dr] at hb;rcases hb with rfl | rfl
  ·exact Nat.le_add_right _ 1
  ·exact aA _
 exact I1.fpOk hge (I1.hok.fresh hge)
theorem jJF {a:Expr}{t:TA}{p pos:Pos}{elts:List Expr}{x1:Nat}{tp:Pos}(hg:Gl1 X "enumerate")(hm:X.mg "enumerate" =none)(ha:JA X [a] t)(he:starEach [a] X.env=(false,eval a X.env)::starEach [] X.env)(hv:bootBuiltins "enumerate" =some (.type "enumerate"):=by decide+kernel)
  (hpl:(backTo pos (starEach [] X.env)).any (·.1)=false:=by rfl):JI X (.Tuple elts x1 tp) (.Call (.Name "enumerate" p) [a] [] pos) (iEnum X.K t):=⟨jTS hg.a hm ha.h hv he hpl⟩
variable {H1:Hp}{Q:VK}
section
variable {K:W.Frag}{σ:St}
theorem jIC {tp:Bool}{l:Addr}{xs:List V}(hn:xs.length<sizeLine)(Pv:Addr->Nat->St->Hp->List V->Prop)(h0:∀ D,H1 D=none->Pv D 0 (blkσ m σ) (upd H1 D (.lst [])) [])
  (hD:∀ D i σ' H' zs,H1 D=none->Pv D i σ' H' zs->Sq tp K H' l xs/\H' D=some (.lst zs)/\zs.length<=i)
  (hs:∀ D i σ' H' zs x T,H1 D=none->xs[i]?=some x->H' T=none->Pv D i σ' H' zs->g (.ref T) σ' (upd H' T (.tup [.int (i:Int),x])) fun σ2 H2=>tt σ2 H2 fun b H3=>if b=true then te σ2 H3 fun v H4=>H4 D=some (.lst zs)/\Pv D (i+1) σ2 (upd H4 D (.lst (zs++[v]))) (zs++[v]) else Pv D (i+1) σ2 H3 zs)
  (hd:∀ D σ' H' zs,H1 D=none->Pv D xs.length σ' H' zs->Q (.ref D) H'):qL m g tt te σ Q (Ite tp K l) H1:=by
 intro D hDn;refine⟨fun i k σ' H' zs=>k=xs.length - i/\i<=xs.length/\Pv D i σ' H' zs,⟨_,rfl,bw _,h0 D hDn⟩,?_⟩;rintro i k σ' H' zs ⟨rfl,hi,p⟩;obtain⟨s1,q1,q2⟩:=hD D i σ' H' zs hDn p;refine⟨q1,Aa,?_⟩;by_cases hlt:i<xs.length
 ·refine .inr ⟨⟨xs,xs[i],s1,by simp [hlt]⟩,Pv D (i+1),fun σ2 H2 zs z=>⟨xs.length - (i+1),Aa,rfl,hlt,z⟩,fun v H'' y=>?_⟩;obtain⟨T,x,e1,e2,e3,e4⟩:=y;subst e2 e3;exact hs D i σ' _ zs x T hDn (e4 xs s1) e1 p
 ·have e:i=xs.length:=Aa;subst e;exact .inl ⟨⟨xs,s1,aA _⟩,hd D σ' H' zs hDn p⟩
end
section
variable {κ:Type} [DecidableEq κ]
def valV (kvs:List (κ×V))(k:κ):Option V:=(kvs.find? fun kv=>decide (kv.1=k)).map (·.2)
def putK (kvs:List (κ×V))(k:κ)(v:V):List (κ×V):=
 if (kvs.any fun kv=>decide (kv.1=k))=true then kvs.map (fun kv=>if kv.1=k then (kv.1,v) else kv) else kvs++[(k,v)]
theorem jBB {p:κ×V}{r:List (κ×V)}{k:κ}(e:p.1=k):valV (p::r) k=some p.2:=by simp [valV,ek,e]
theorem jBC {p:κ×V}{r:List (κ×V)}{k:κ}(e:¬ p.1=k):valV (p::r) k=valV r k:=by simp [valV,ek,e]
theorem jFY (k:κ):∀ kvs:List (κ×V),(kvs.any fun kv=>decide (kv.1=k))=(valV kvs k).isSome
 | []=>rfl
 | p::r=>by
  rw[g6];by_cases e:p.1=k
  ·simp only [jBB e,ar e,Bool.true_or,Option.isSome_some]
  ·rw[jBC e,aM e,g8]; exact jFY k r
theorem jC5 (kvs:List (κ×V))(k:κ)(v:V):(putK kvs k v).length<=kvs.length+1:=by
 unfold putK;split
 ·rw[af]; lia
 ·rw[aL,aU,cA]; lia
theorem jKG {kvs:List (κ×V)}{k:κ}(v:V)(h:valV kvs k=none):putK kvs k v=kvs++[(k,v)]:=by
 unfold putK;rw[jFY,h];exact ak Ac
theorem RelO.isSome_eq {o:Option V}{u:Ap}(r:RelO o u):o.isSome=u.isSome:=by
 cases o with
 | none=>cases u with
  | none=>rfl
  | some _=>exact(show False from r).elim
 | some _=>cases u with
  | none=>exact(show False from r).elim
  | some _=>rfl
theorem KV.val {kvs:List (κ×V)}{vs:List (κ×Value)}(r:KV kvs vs)(k:κ):RelO (valV kvs k) (valueAt vs k):=by
 unfold KV at r
 induction r with
 | nil=>exact True.intro
 | @cons p q ps qs h t ih=>
  obtain⟨h1,h2⟩:=h;by_cases e:p.1=k
  ·have e':q.1=k:=h1.symm.trans e;have b:valueAt (q::qs) k=some q.2:=by simp [valueAt,ek,e']
   rw[jBB e,b]; exact h2
  ·have e':¬ q.1=k:=fun z=>e (h1.trans z);have b:valueAt (q::qs) k=valueAt qs k:=by simp [valueAt,ek,e']
   rw[jBC e,b]; exact ih
theorem KV.any {kvs:List (κ×V)}{vs:List (κ×Value)}(r:KV kvs vs)(k:κ):(kvs.any fun kv=>decide (kv.1=k))=vs.any fun kv=>decide (kv.1=k):=by
 unfold KV at r
 induction r with
 | nil=>rfl
 | cons h t ih=>rw[g6,g6,ih,h.1]
theorem KV.repl {kvs:List (κ×V)}{vs:List (κ×Value)}(r:KV kvs vs)(k:κ){y:V}{u:Value}(ry:RelV y u):
  KV (kvs.map fun kv=>if kv.1=k then (kv.1,y) else kv) (vs.map fun kv=>if kv.1=k then (kv.1,u) else kv):=by
 unfold KV at r ⊢
 induction r with
 | nil=>exact .nil
 | @cons p q ps qs h t ih=>
  rw[bg,bg];refine .cons ?_ ih;obtain⟨h1,h2⟩:=h;by_cases e:p.1=k
  ·rw[aq e,aq (h1.symm.trans e)]; exact⟨h1,ry⟩
  ·rw[ak e,ak (fun z=>e (h1.trans z))]; exact⟨h1,h2⟩
theorem KV.put {kvs:List (κ×V)}{vs:List (κ×Value)}(r:KV kvs vs)(k:κ){y:V}{u:Value}(ry:RelV y u):KV (putK kvs k y) (stored vs k u):=by
 unfold putK stored;rw[r.any k];by_cases e:(vs.any fun kv=>decide (kv.1=k))=true
 ·rw[aq e,aq e]; exact r.repl k ry
 ·rw[ak e,ak e]; exact Paired.snoc r ⟨rfl,ry⟩
theorem KV.keys {kvs:List (κ×V)}{vs:List (κ×Value)}(r:KV kvs vs):kvs.map (·.1)=vs.map (·.1):=by
 unfold KV at r
 induction r with
 | nil=>rfl
 | cons h t ih=>rw[bg,bg,ih,h.1]
theorem KV.length {kvs:List (κ×V)}{vs:List (κ×Value)}(r:KV kvs vs):kvs.length=vs.length:=gc r
end
theorem kV_is {P:Program}{w:World}{k:Key}{u:Value}(r:RelV (kV k) u):(kX P w).is k u=true:=by
 cases k with
 | inl i=>obtain⟨t,e⟩:=(show ∃ t,u=Value.int i t from r); subst e; exact jJA P w i t
 | inr x=>obtain⟨t,e⟩:=(show ∃ t,u=Value.str x t from r); subst e; exact jJ9 P w x t
theorem jI5 {P:Program}{w:World} :∀ {ks:List Key}{us:Am},Vals (ks.map kV) us->ItemsAre (kX P w) ks us
 | [],_,r=>by rw[iu] at r; cases r; exact .nil
 | k::ks,_,r=>by
  rw[bg] at r;cases r with
  | cons h t=>exact .cons (kV_is h) (jI5 t)
abbrev KT (H:Hp):List (List Key×V)->List (List Key×Addr×Value)->Prop:=Paired fun p q=>p.1=q.1/\H q.2.1=some (.tup (p.1.map kV))/\RelV p.2 q.2.2
theorem KT.val {H:Hp}{kvs:List (List Key×V)}{xs:List (List Key×Addr×Value)}(r:KT H kvs xs)(k:List Key):RelO (valV kvs k) ((atKey xs k).map (·.2)):=by
 induction r with
 | nil=>exact True.intro
 | @cons p q ps qs h t ih=>
  obtain⟨h1,_,h2⟩:=h;by_cases e:p.1=k
  ·have e':q.1=k:=h1.symm.trans e;have b:atKey (q::qs) k=some q.2:=by simp [atKey,ek,e']
   rw[jBB e,b]; exact h2
  ·have e':¬ q.1=k:=fun z=>e (h1.trans z);have b:atKey (q::qs) k=atKey qs k:=by simp [atKey,ek,e']
   rw[jBC e,b]; exact ih
theorem KT.repl {H:Hp}{kvs:List (List Key×V)}{xs:List (List Key×Addr×Value)}(r:KT H kvs xs)(k:List Key){y:V}{u:Value}(ry:RelV y u):
  KT H (kvs.map fun kv=>if kv.1=k then (kv.1,y) else kv) (xs.map (putAt k u)):=by
 induction r with
 | nil=>exact .nil
 | @cons p q ps qs h t ih=>
  rw[bg,bg];refine .cons ?_ ih;obtain⟨h1,h2,h3⟩:=h;unfold putAt;by_cases e:p.1=k
  ·rw[aq e,aq (h1.symm.trans e)]; exact⟨h1,h2,ry⟩
  ·rw[ak e,ak (fun z=>e (h1.trans z))]; exact⟨h1,h2,h3⟩
theorem KT.put {H:Hp}{kvs:List (List Key×V)}{xs:List (List Key×Addr×Value)}(r:KT H kvs xs)(k:List Key){b:Addr}{y:V}{u:Value}(hb:H b=some (.tup (k.map kV)))(ry:RelV y u):
  KT H (putK kvs k y) (storedH xs k b u):=by
 have e:(kvs.any fun kv=>decide (kv.1=k))=(atKey xs k).isSome:=by
  rw[jFY,(r.val k).isSome_eq,iU]
 unfold putK storedH;rw[e];by_cases q:(atKey xs k).isSome=true
 ·rw[aq q,aq q]; exact r.repl k ry
 ·rw[ak q,ak q]; exact Paired.snoc r ⟨rfl,hb,ry⟩
theorem KT.keeps {H H':Hp}{kvs:List (List Key×V)}{xs:List (List Key×Addr×Value)}(r:KT H kvs xs)(ht:∀ b ys,H b=some (.tup ys)->H' b=some (.tup ys)):KT H' kvs xs:=
 Paired.mapP r fun _ _ z=>⟨z.1,ht _ _ z.2.1,z.2.2⟩
theorem rd_of {u:HO}(ok:HOk P w H h)(e:Rd H a u):ObjOk P w H h a u:=e.ok ok
theorem dk_rd {kvs:List (Key×V)}(ok:HOk P w H h)(e:Rd H a (.dK kvs)):kvs.length<=sizeLine/\(a==sysModules)=false/\∃ vs,KV kvs vs/\h.DictOf (kX P w) a vs:=
 show ObjOk P w H h a (.dK kvs) from rd_of ok e
theorem dk_of {kvs:List (Key×V)}(ok:HOk P w H h)(e:H a=some (.dK kvs)):kvs.length<=sizeLine/\(a==sysModules)=false/\∃ vs,KV kvs vs/\h.DictOf (kX P w) a vs:=dk_rd ok (.inl e)
theorem jI1 {ks:List Key}(ok:HOk P w H h)(e:H a=some (.tup (ks.map kV))):(tupleKind (kX P w)).is h ks a:=by
 obtain⟨_,its,r,p⟩:=(show ObjOk P w H h a (.tup (ks.map kV)) from ok a _ e);obtain⟨o,h1,h2,n,h3⟩:=p.isTup;exact⟨o,its.toArray,n,h1,h2,h3,by simpa using jI5 r⟩
theorem dt_rd {kvs:List (List Key×V)}(ok:HOk P w H h)(e:Rd H a (.dT kvs)):kvs.length<=sizeLine/\(a==sysModules)=false/\
  ∃ xs,KT H kvs xs/\h.DictOfH (tupleKind (kX P w)) a xs:=by
 obtain⟨z,y,xs,r,o,es,ep,h1,h2,h3,h4,h5⟩:=(show ObjOk P w H h a (.dT kvs) from rd_of ok e);refine⟨z,y,xs,r,o,es,ep,h1,h2,h3,h4,fun x hx=>?_,h5⟩;have all:∀ {l:List (List Key×V)}{m:List (List Key×Addr×Value)},KT H l m->∀ x∈m,(tupleKind (kX P w)).is h x.1 x.2.1:=by
  intro l m q
  induction q with
  | nil=>intro x hx; exact nomatch hx
  | @cons p q ps qs hq t ih=>
   intro x hx;rcases aI.mp hx with e | hx
   ·subst e;exact jI1 ok (by rw[<- hq.1]; exact hq.2.1)
   ·exact ih x hx
 exact all r x hx
theorem dt_of {kvs:List (List Key×V)}(ok:HOk P w H h)(e:H a=some (.dT kvs)):kvs.length<=sizeLine/\(a==sysModules)=false/\
  ∃ xs,KT H kvs xs/\h.DictOfH (tupleKind (kX P w)) a xs:=dt_rd ok (.inl e)
def DGet (H:Hp)(a:Addr)(y:V)(r:Option V):Prop:=
 (∃ kvs k,Rd H a (.dK kvs)/\y=kV k/\r=valV kvs k)\/∃ kvs k b,Rd H a (.dT kvs)/\y= .ref b/\H b=some (.tup (k.map kV))/\r=valV kvs k
def DPut (H:Hp)(a:Addr)(y v:V)(H':Hp):Prop:=
 (∃ kvs k,H a=some (.dK kvs)/\y=kV k/\kvs.length<sizeLine/\H'=upd H a (.dK (putK kvs k v)))\/
 ∃ kvs k b,H a=some (.dT kvs)/\y= .ref b/\H b=some (.tup (k.map kV))/\kvs.length<sizeLine/\H'=upd H a (.dT (putK kvs k v))
theorem DGet.k {H:Hp}{a:Addr}{kvs:List (Key×V)}{k:Key}(e:H a=some (.dK kvs)):DGet H a (kV k) (valV kvs k):= .inl ⟨kvs,k, .inl e,rfl,rfl⟩
theorem DPut.k {H:Hp}{a:Addr}{kvs:List (Key×V)}{k:Key}{v:V}(e:H a=some (.dK kvs))(hl:kvs.length<sizeLine):DPut H a (kV k) v (upd H a (.dK (putK kvs k v))):= .inl ⟨kvs,k,e,rfl,hl,rfl⟩
variable {y:V}{u r:Value}
section
variable {σ:St}{v:V}{o:Option V}
theorem Inv.big (I:Inv X lH σ H s):sysModules<s.heap.objs.size:=by
 have h:mainGlobals<s.heap.objs.size:=(I.mod.glob.keeps I.bk).lt;exact eX Ac h
theorem jPI {Q:Ah}(hu:A.units+1<cLine)(I:Inv X lH σ H s)(g:DGet H a y (some v))(ry:RelV y u)(h:∀ w' s',Inv X lH σ H s'->RelV v w'->Q w' s'):
  wpAny (model X.prog X.w) A (getItem (.ref a) u) Q E s:=by
 rcases g with ⟨kvs,k,e,ey,l⟩ | ⟨kvs,k,b,e,ey,eb,l⟩
 ·subst ey;obtain⟨z,hd,vs,rel,dd⟩:=dk_rd I.hok e;obtain⟨w',hw,rw'⟩:=RelO.some_of (v:=v) (o:=valueAt vs k) (by rw[l]; exact rel.val k);exact wpAny_getItem_of (kV_is ry) dd.mapOf hw (h w' _ (I.tok _) rw')
 ·subst ey;cases (show u=Value.ref b from ry);obtain⟨z,hd,xs,rel,dd⟩:=dt_rd I.hok e;obtain⟨w',hw,rw'⟩:=RelO.some_of (v:=v) (o:=(atKey xs k).map (·.2)) (by rw[l]; exact rel.val k);obtain⟨p,hp,hp2⟩:=Option.map_eq_some_iff.mp hw;refine wpAny_getItem_heap (gt hu) (jI1 I.hok eb) dd hp ?_;rw[hp2];exact h w' _ (I.tok _) rw'
theorem d_in {Q:Ah}(hu:A.units+1<cLine)(I:Inv X lH σ H s)(g:DGet H a y o)(ry:RelV y u)(h:∀ s',Inv X lH σ H s'->Q (.bool o.isSome) s'):
  wpAny (model X.prog X.w) A (compareOp .In u (.ref a)) Q E s:=by
 rcases g with ⟨kvs,k,e,ey,l⟩ | ⟨kvs,k,b,e,ey,eb,l⟩
 ·subst ey;obtain⟨z,hd,vs,rel,dd⟩:=dk_rd I.hok e;refine wpAny_in_of (kV_is ry) hd dd.mapOf ?_;rw[<- (rel.val k).isSome_eq,<- l];exact h _ (I.tok _)
 ·subst ey;cases (show u=Value.ref b from ry);obtain⟨z,hd,xs,rel,dd⟩:=dt_rd I.hok e;refine wpAny_in_heap (gt hu) (jI1 I.hok eb) hd dd ?_;have q:=(rel.val k).isSome_eq;rw[iU] at q;rw[<- q,<- l];exact h _ (I.tok _)
theorem jV3 {Q:Ah}(hu:A.units+1<cLine)(I:Inv X lH σ H s)(g:DGet H a y o)(ry:RelV y u)(h:∀ s',Inv X lH σ H s'->Q (.bool (!o.isSome)) s'):
  wpAny (model X.prog X.w) A (compareOp .NotIn u (.ref a)) Q E s:=by
 rcases g with ⟨kvs,k,e,ey,l⟩ | ⟨kvs,k,b,e,ey,eb,l⟩
 ·subst ey;obtain⟨z,hd,vs,rel,dd⟩:=dk_rd I.hok e;refine wpAny_notIn_of (kV_is ry) hd dd.mapOf ?_;rw[<- (rel.val k).isSome_eq,<- l];exact h _ (I.tok _)
 ·subst ey;cases (show u=Value.ref b from ry);obtain⟨z,hd,xs,rel,dd⟩:=dt_rd I.hok e;refine wpAny_notIn_heap (gt hu) (jI1 I.hok eb) hd dd ?_;have q:=(rel.val k).isSome_eq;rw[iU] at q;rw[<- q,<- l];exact h _ (I.tok _)
theorem jJQ {h':Heap}{t':Nat}{ob:HO}(I:Inv X lH σ H s)(mu:Mut (H a))(hs:Heap.SameBut a s.heap h')(he:∃ q,h'.get? a=some q)(new:ObjOk X.prog X.w (upd H a ob) h' a ob):
  Inv X lH σ (upd H a ob) { s with heap:=h',toks:=t'} :=
 I.write (x:=a) (e:=a) mu (.inl rfl) (fun b q hb z=>(hs.2 b hb).trans z) he new
theorem jSZ {P:Program}{w:World}{H':Hp}{h':Heap}{kvs:List (Key×V)}{vs:List (Key×Value)}(z:kvs.length<=sizeLine)(hd:(a==sysModules)=false)(rel:KV kvs vs)(dd:h'.DictOf (kX P w) a vs):
  ObjOk P w H' h' a (.dK kvs):=⟨z,hd,vs,rel,dd⟩
theorem jPH {H':Hp}{Q:Unit->Shared->Prop}(hu:A.units+1<cLine)(I:Inv X lH σ H s)(g:DPut H a y v H')(ry:RelV y u)(rv:RelV v r)(h:∀ s',Inv X lH σ H' s'->Q () s'):
  wpAny (model X.prog X.w) A (setItem (.ref a) u r) Q E s:=by
 rcases g with ⟨kvs,k,e,ey,l,eH⟩ | ⟨kvs,k,b,e,ey,eb,l,eH⟩
 ·subst ey eH;obtain⟨z,hd,vs,rel,dd⟩:=dk_of I.hok e;have hz:vs.length<=sizeLine:=by rw[<- rel.length]; exact z
  have hl:(putK kvs k v).length<=sizeLine:=by have:=jC5 kvs k v; lia
  refine wpAny_setItem_pairs (hsz:=hz) (kV_is ry) dd fun h' dd' hs=>h _ ?_;have he:∃ q,h'.get? a=some q:=let ⟨q,_,_,hq,_⟩:=dd'; ⟨q,hq⟩;exact jJQ I (by rw[e]; exact True.intro) hs he (jSZ hl hd (rel.put k rv) dd')
 ·subst ey eH;cases (show u=Value.ref b from ry);obtain⟨z,hd,xs,rel,dd⟩:=dt_of I.hok e;have hz:xs.length<=sizeLine:=by rw[<- gc rel]; exact z
  have hl:(putK kvs k v).length<=sizeLine:=by have:=jC5 kvs k v; lia
  refine wpAny_setItem_heap (hsz:=hz) (gt hu) (jI1 I.hok eb) dd fun h' dd' hs=>h _ ?_;obtain⟨q,es,ep,hq,h2,h3,h4,_,h5⟩:=dd';refine jJQ I (by rw[e]; exact True.intro) hs ⟨q,hq⟩ ⟨hl,hd,_,(rel.put k eb rv).keeps fun c ys ec=>?_,q,es,ep,hq,h2,h3,h4,h5⟩;rw[j9 (ne_of ec e (fun z=>nomatch z))];exact ec
end
variable {kvs:List (Key×V)}
section
variable {σ:St}{k:Key}
end
def NoSl (i:Expr):Prop:=∀ ov iv,subscripted i false ov iv=operate [ov,iv] (getItem ov iv)
theorem jT9 {prog:Program}{w:World}{A:Around}{E:Ah}{s:Shared}{env:Env}{value slice:Expr}{pos:Pos}{T id:String}{Q:Ah}
  (hl:typeLookup (.type T) "__getitem__" =pure (some (.builtin id))) (hs:NoSl slice)
  (h:wpAny (model prog w) A (eval value env) (fun o s₁=>wpAny (model prog w) A (eval slice env) (fun i s₂=>s₂.TypeIs o T/\wpAny (model prog w) A (getItem o i) Q E s₂) E s₁) E s):
  wpAny (model prog w) A (eval (.Subscript value slice pos) env) Q E s:=by
 refine Subscript_ (cm h (fun o s₁ h₁=>cm h₁ (fun i s₂ h₂=>?_) fun _ _ x=>x) fun _ _ x=>x);obtain⟨hT,h₂⟩:=h₂;unfold subscriptTail;refine ae ?_;rw[getitemInPython_of_ne hT.not_modules];refine ae (wpAny_specialOf hT hl ?_);have fin:wpAny (model prog w) A (subscripted slice false o i) (fun r s₃=>wpAny (model prog w) A (letTemporaryGo value o r >>= fun _=>pure r) Q E s₃) E s₂:=by
  rw[hs o i];exact wpAny_operating (cm h₂ (fun r s₃ h₃=>ae (wpAny_letTemporaryGo (aj h₃))) fun _ _ x=>x)
 first
  | exact aj (ae fin)
  | exact ae (aj (ae fin))
  | exact ae fin
theorem jJO {X:Cx}{lH:Ai}{σ:St}{H:Hp}{s:Shared}{a:Addr}{y:V}{o:Option V}(I:Inv X lH σ H s)(g:DGet H a y o):s.TypeIs (.ref a) "dict" :=by
 rcases g with ⟨kvs,k,e,_,_⟩ | ⟨kvs,k,b,e,_,_,_⟩
 ·obtain⟨_,_,vs,_,dd⟩:=dk_rd I.hok e;exact dd.typeIs
 ·obtain⟨_,_,xs,_,dd⟩:=dt_rd I.hok e;exact dd.typeIs
def tDGet (td ty:TE):TE:=fun σ H Q=>td σ H fun x H1=>ty σ H1 fun y H2=>∃ a v,x= .ref a/\DGet H2 a y (some v)/\Q v H2
def tDIn (ty td:TE):TE:=fun σ H Q=>ty σ H fun y H1=>td σ H1 fun x H2=>∃ a o,x= .ref a/\DGet H2 a y o/\Q (.bl o.isSome) H2
def jMX (ty td:TE):TE:=fun σ H Q=>ty σ H fun y H1=>td σ H1 fun x H2=>∃ a o,x= .ref a/\DGet H2 a y o/\Q (.bl (!o.isSome)) H2
def sDPut (td ty tv:TE):TS:=fun D σ H=>tv σ H fun v H1=>td σ H1 fun x H2=>ty σ H2 fun y H3=>∃ a H4,x= .ref a/\DPut H3 a y v H4/\D.nx σ H4
variable {o value:Expr}{pos':Pos}{td tv:TE}
section
variable {i:Expr}{tpos:Pos}{ty:TE}
theorem jTW (hu:X.A.units+1<cLine)(ho:PE X o td)(hi:PE X i ty)(hs:NoSl i):PE X (.Subscript o i pos) (tDGet td ty):=by
 intro lH s σ H Q I h;refine jT9 PySem.F.slot_dict_getitem.lookup hs (lJ (ho lH s σ H _ I h) fun u s1 ⟨x,H1,I1,rx,q1⟩=>lJ (hi lH s1 σ H1 _ I1 q1) fun iv s2 ⟨y,H2,I2,ry,a,v,ex,g,q2⟩=>?_);subst ex;obtain rfl:u=Value.ref a:=rx;exact⟨jJO I2 g,jPI hu I2 g ry fun w' s3 I3 rw'=>⟨v,H2,I3,rw',q2⟩⟩
theorem jWA (hu:X.A.units+1<cLine)(hi:PE X i ty)(ho:PE X o td):PC X .In i o (tDIn ty td):=by
 intro lH s σ H Q I h;refine lJ (hi lH s σ H _ I h) fun iv s1 ⟨y,H1,I1,ry,q1⟩=>lJ (ho lH s1 σ H1 _ I1 q1) fun u s2 ⟨x,H2,I2,rx,a,ov,ex,g,q2⟩=>?_;subst ex;obtain rfl:u=Value.ref a:=rx;exact d_in hu I2 g ry fun s3 I3=>⟨.bl ov.isSome,H2,I3,rfl,q2⟩
theorem jNE (hu:X.A.units+1<cLine)(hi:PE X i ty)(ho:PE X o td):PC X .NotIn i o (jMX ty td):=by
 intro lH s σ H Q I h;refine lJ (hi lH s σ H _ I h) fun iv s1 ⟨y,H1,I1,ry,q1⟩=>lJ (ho lH s1 σ H1 _ I1 q1) fun u s2 ⟨x,H2,I2,rx,a,ov,ex,g,q2⟩=>?_;subst ex;obtain rfl:u=Value.ref a:=rx;exact jV3 hu I2 g ry fun s3 I3=>⟨.bl (!ov.isSome),H2,I3,rfl,q2⟩
theorem jTK (hu:X.A.units+1<cLine)(ho:PE X o td)(hi:PE X i ty)(hv:PE X value tv)(hs:swapsWith value (some (.Subscript o i pos')) pos.line X.env=pure false):
  PS X (.Assign [.Subscript o i pos'] value pos) (sDPut td ty tv):=by
 intro lH s σ H D I h;refine wpAny_Assign_Subscript (lJ (hv lH s σ H _ I h) fun r s1 ⟨v,H1,I1,rv,q1⟩=>lJ (ho lH s1 σ H1 _ I1 q1) fun u s2 ⟨x,H2,I2,rx,q2⟩=>lJ (hi lH s2 σ H2 _ I2 q2) fun iv s3 ⟨y,H3,I3,ry,a,H4,ex,g,q3⟩=>?_) hs;subst ex;obtain rfl:u=Value.ref a:=rx;exact jPH hu I3 g ry rv fun s4 I4=>⟨σ,H4,I4,q3⟩
end
theorem jRJ {P:Program}{w:World}{H:Hp}(h:Heap)(hb:sysModules<h.objs.size):ObjOk P w H (h.push { cls:= .type "dict",data:= .dict #[]}) h.objs.size (.dK []):=
 ⟨bw _,cG.mpr (ev (aW hb)),[], .nil,jx h⟩
def jMV:List (TE×TE)->St->Hp->(List (V×V)->Hp->Prop)->Prop
 | [],_,H,Q=>Q [] H
 | (tk,tv)::r,σ,H,Q=>tk σ H fun x H1=>tv σ H1 fun y H2=>jMV r σ H2 fun ps H3=>Q ((x,y)::ps) H3
abbrev VV:List (V×V)->List (Value×Value)->Prop:=Paired fun p q=>RelV p.1 q.1/\RelV p.2 q.2
def PPs (X:Cx)(pos:Pos)(keys:List (Option Expr))(values:List Expr)(trs:List (TE×TE)):Prop:=
 ∀ (lH:Ai) (s:Shared) (σ:St) (H:Hp) (Q:List (V×V)->Hp->Prop),Inv X lH σ H s->jMV trs σ H Q->
  wpAny (model X.prog X.w) X.A (evalPairs (pairTrees keys values X.env pos)) (fun vs s'=>∃ ps H',Inv X lH σ H' s'/\VV ps vs/\Q ps H') X.xe s
theorem jTL {X:Cx}{pos:Pos} :PPs X pos [] [] []:=fun lH s σ H Q I h=>pairTrees_nil_walk ⟨[],H,I, .nil,h⟩
theorem jQF {X:Cx}{pos:Pos}{k v:Expr}{ks:List (Option Expr)}{vs:List Expr}{tk tv:TE}{trs:List (TE×TE)}(hk:PE X k tk)(hv:PE X v tv)(hr:PPs X pos ks vs trs):
  PPs X pos (some k::ks) (v::vs) ((tk,tv)::trs):=fun lH s σ H Q I h=>
 pairTrees_cons_walk (lJ (hk lH s σ H _ I h) fun u s1 ⟨x,H1,I1,rx,q1⟩=>lJ (hv lH s1 σ H1 _ I1 q1) fun w2 s2 ⟨y,H2,I2,ry,q2⟩=>
  lJ (hr lH s2 σ H2 _ I2 q2) fun ws s3 ⟨ps,H3,I3,rel,q3⟩=>⟨(x,y)::ps,H3,I3, .cons ⟨rx,ry⟩ rel,q3⟩)
def jHW (kvs more:List (Key×V)):List (Key×V):=more.foldl (fun acc kv=>putK acc kv.1 kv.2) kvs
theorem KV.merge:∀ {more:List (Key×V)}{rs:List (Key×Value)}{kvs:List (Key×V)}{vs:List (Key×Value)},KV more rs->KV kvs vs->KV (jHW kvs more) (merged vs rs):=by
 intro more rs kvs vs r;unfold KV at r
 induction r generalizing kvs vs with
 | nil=>intro q; exact q
 | @cons p q ps qs h t ih=>
  intro r0;have e:KV (putK kvs p.1 p.2) (stored vs q.1 q.2):=by
   have:=r0.put p.1 h.2;rw[<- h.1]; exact this
  exact ih e
theorem jCI:∀ (more kvs:List (Key×V)),(jHW kvs more).length<=kvs.length+more.length
 | [],kvs=>by show kvs.length<=kvs.length+0; lia
 | p::r,kvs=>by
  have h1:=jCI r (putK kvs p.1 p.2);have h2:=jC5 kvs p.1 p.2;show (jHW (putK kvs p.1 p.2) r).length<=_;rw[aU]; lia
theorem jFT {P:Program}{w:World} :∀ {kvs:List (Key×V)}{ws:List (Value×Value)},VV (kvs.map fun kv=>(kV kv.1,kv.2)) ws->∃ rs,Carries (kX P w) ws rs/\KV kvs rs
 | [],_,r=>by rw[iu] at r; cases r; exact⟨[],True.intro, .nil⟩
 | p::kvs,_,r=>by
  rw[bg] at r;cases r with
  | @cons a b as bs h t=>
   obtain⟨rs,c,q⟩:=jFT (P:=P) (w:=w) t;obtain⟨b1,b2⟩:=b;exact⟨(p.1,b2)::rs,⟨kV_is h.1,rfl,c⟩, .cons ⟨rfl,h.2⟩ q⟩
def tDisp (trs:List (TE×TE)):TE:=fun σ H Q=>∀ p,H p=none->jMV trs σ (upd H p (.dK [])) fun ps H2=>H2 p=some (.dK [])/\∃ kvs:List (Key×V),ps=kvs.map (fun kv=>(kV kv.1,kv.2))/\kvs.length<=15/\Q (.ref p) (upd H2 p (.dK (jHW [] kvs)))
theorem jTV {X:Cx}{pos:Pos}{keys:List (Option Expr)}{values:List Expr}{trs:List (TE×TE)}(h:PPs X pos keys values trs)(hall:keys.all (·.isSome)=true)(hl:keys.length=values.length)(h0:keys≠ [])
  (h15:keys.length<=15):PE X (.Dict keys values pos) (tDisp trs):=by
 intro lH s σ H Q I q;have hn:=I.hok.fresh (aA s.heap.objs.size);have I1:=I.laid (a:=s.heap.objs.size) (o:= .dK []) (h':=s.heap.push { cls:= .type "dict",data:= .dict #[]}) (t':=s.toks) (fun _ _ q=>ah _ q) (aA _) (jRJ s.heap I.big);refine wpAny_Dict_walk (knd:=kX X.prog X.w) hall hl h0 h15 (lJ (h lH _ σ _ _ I1 (q _ hn)) fun ws s2 ⟨ps,H2,I2,rel,e,kvs,ep,lk,q2⟩=>?_);subst ep;obtain⟨rs,c,rk⟩:=jFT (P:=X.prog) (w:=X.w) rel;obtain⟨z,hd,vs0,r0,dd⟩:=dk_of I2.hok e;cases r0;refine⟨rs,c,dd,fun h' dd' hs=>⟨.ref s.heap.objs.size,_,?_,rfl,q2⟩⟩;have hz:(jHW [] kvs).length<=sizeLine:=by
  have h1:=jCI kvs [];rw[cA] at h1;rw[eV]; lia
 have he:∃ q,h'.get? s.heap.objs.size=some q:=let ⟨q,_,_,hq,_⟩:=dd'; ⟨q,hq⟩;exact jJQ I2 (by rw[e]; exact True.intro) hs he (jSZ hz hd (rk.merge .nil) dd')
section
variable {σ:St}{d:V}{o:Option V}
end
variable {apos:Pos}{tx:TE}
section
variable {f:Expr}{ty:TE}
end
section
variable {σ:St}
end
section
variable {σ:St}
end
section
variable {κ:Type} [DecidableEq κ]
end
section
variable {d:Addr}{kvs:List (Key×Value)}
theorem jJT {T:String}{r d:Addr}{n:Nat}{P:Nat->Value->Prop}{OK:Heap->Prop}{R:Am->Shared->Prop}(K:PySem.W.KdlSrc prog w T r d n P OK)(hh:A.handled=none)(hok:OK s.heap)(hn:n<=sizeLine)
  (h:∀ (h':Heap) (tk:Nat) (acc:Ao),(∀ b o,s.heap.get? b=some o->h'.get? b=some o)->s.heap.objs.size<h'.objs.size->ItemsOf P acc n->R acc.toList { s with heap:=h',toks:=tk}):
  wpAny (model prog w) A (collect (.ref r)) R E s:=by
 have hlt:=K.there _ hok;unfold collect;refine ae (iK (cB entry_proto_collect' ?_));rw[cz iw _];show wpAny _ A.in1 (newList [] >>= fun l=>again (.builtin "list.__iadd__" ⟨[l, .ref r],[]⟩)) _ _ s;refine ae (cZ ?_);refine aj ⟨fg eS _,cB entry_list_iadd' ?_⟩;rw[cz eS _];have hS:(s.heap.push { cls:= .type "list",data:= .seq ([]:Am).toArray}).get? s.heap.objs.size=some { cls:= .type "list",data:= .seq #[]} :=aF _ rfl;show wpAny _ A.in1 (Builtin.List.listExtendWith (.ref s.heap.objs.size) (.ref r) (.ref s.heap.objs.size)) _ _ _;refine cm (PySem.W.kdl_extend (A:=A) (s:= { s with heap:=s.heap.push { cls:= .type "list",data:= .seq ([]:Am).toArray}})
  (R:=fun (q:Result) (s':Shared)=>∃ (h':Heap) (tk:Nat) (acc:Ao) (c:Nat),q= .ok (.ret (.ref s.heap.objs.size))/\s'= { s with heap:=h',toks:=tk} /\
   (∀ b o,s.heap.get? b=some o->h'.get? b=some o)/\h'.get? s.heap.objs.size=some { cls:= .type "list",dict:=none,data:= .seq acc c,slots:=#[]} /\ItemsOf P acc n)
  K hh (K.keep _ _ hok fun b _ o e=>ah _ e) s.heap.objs.size (cP hlt.1) (cP hlt.2) (.ref s.heap.objs.size) 0 hS
  (fun h' tk acc c hk hS' hacc=>⟨h',tk,acc,c,rfl,rfl,fun b o e=>hk b o (aW (aK e)) (ah _ e),hS',hacc⟩) hn) (fun fin s' x=>?_) fun e s' x=>?_
 ·cases fin with
  | done f=>
   obtain⟨h',tk,acc,c,e,rfl,hk,hS',hacc⟩:=x;cases e;show wpAny _ A (load s.heap.objs.size >>= _) _ _ _;exact ae (gU hS' (aj (h h' tk acc hk (aK hS') hacc)))
  | again c1=>
   refine⟨x.1,dS x.2 fun q s2 y=>?_⟩;obtain⟨h',tk,acc,c,rfl,rfl,hk,hS',hacc⟩:=y;show wpAny _ A (load s.heap.objs.size >>= _) _ _ _;exact ae (gU hS' (aj (h h' tk acc hk (aK hS') hacc)))
 ·obtain⟨_,_,_,_,e',_⟩:=x;cases e'
end
section
variable {i f:Expr}{ty:TE}
theorem jGO (hu:X.A.units+1<cLine)(ho:JE X o td)(hi:JE X i ty)(hs:jB2 i):JE X (.Subscript o i pos) (tDGet td ty):=⟨jTW hu ho.h hi.h hs⟩
theorem jJD (hu:X.A.units+1<cLine)(ho:JE X o td)(hi:JE X i ty)(hv:JE X value tv)(hs:SwOk value (some (.Subscript o i pos'))):JS X (.Assign [.Subscript o i pos'] value pos) (sDPut td ty tv):=⟨jTK hu ho.h hi.h hv.h (hs.h _ _)⟩
end
theorem jH7:entryFor table "dict.update.loop" =some Builtin.«dict.update.loop»:=entryFor_of_fast (by kernel_rfl)
theorem jCA:plainId "dict.update.loop" =true:=by decide+kernel
theorem jHZ:typeLookup (.type "list") "keys" =pure none:=am_miss_of_fast (by kernel_rfl)
theorem jEM:typeLookup (.type "list") "__getattr__" =pure none:=am_miss_of_fast (by kernel_rfl)
theorem jO3 (a:Addr)(name:Str)(u:Tok)(hmiss:typeLookup (.type "list") name=pure none)(hsz:name.length+100<=sizeLine)(hgd: [Str.ofString "__module__",Str.ofString "__name__",Str.ofString "__qualname__",Str.ofString "__doc__",Str.ofString "__annotations__"].contains name=false):Meets (Builtin.«object.__getattribute__» ⟨[.ref a, .str name u],[]⟩) (fun A R s=>(∃ its n,s.heap.get? a=some { cls:= .type "list",data:= .seq its n})/\raisesAttr (.ref a) name A R s):=
 Meets.of_wp fun prog w A R s hs=>by
  obtain⟨⟨its,n,ho⟩,hs⟩:=hs;obtain⟨hp,g,d,tk,os⟩:=s;have hT:(⟨hp,g,d,tk,os⟩:Shared).TypeIs (.ref a) "list" :=⟨_,ho,rfl⟩;unfold Builtin.«object.__getattribute__»
  repeat (any_goals (first | assumption | wp_step))
  rw[hgd,ak ay]
  repeat (any_goals (first | assumption | wp_step))
  exact wpAny_raiseAttrError hs.1 hs.2 (attrMsg_fits Ab hsz)
theorem jOF {a:Addr}{name:Str}(hmiss:typeLookup (.type "list") name=pure none)(hsz:name.length+100<=sizeLine)(hgd: [Str.ofString "__module__",Str.ofString "__name__",Str.ofString "__qualname__",Str.ofString "__doc__",Str.ofString "__annotations__"].contains name=false){its:Ao}{n:Nat}{Q:Ap->Shared->Prop}(hA:A.handled=none)(ho:s.heap.get? a=some { cls:= .type "list",data:= .seq its n})
  (h:∀ h' tk,(∀ b u,s.heap.get? b=some u->h'.get? b=some u)->Q none { s with heap:=h',toks:=tk}):wpAny (model prog w) A (getAttr? (.ref a) name) Q E s:=by
 obtain⟨hp,g,d,tk,os⟩:=s;have hT:∀ tk',(⟨hp,g,d,tk',os⟩:Shared).TypeIs (.ref a) "list" :=fun _=>⟨_,ho,rfl⟩;have f1:=sub_AttributeError;have f3:=F.slot_list_getattribute.lookup;have f4:=F.slot_list_getattribute.bind (.ref a);have f5:=jEM;unfold getAttr? getAttrBy? getAttrBy
 repeat (any_goals (first | assumption | ((with_reducible show wpAny _ _ (call (Value.builtin "list.__getattribute__") _ _) _ _ _); refine gX F.slot_list_getattribute (hT _) F.entry_list_ga (F.args_list_getattribute_2 _ _) (jO3 a name _ hmiss hsz hgd) ⟨⟨its,n,ho⟩,hA,fun h' tk' e hx=>?_⟩) | wp_step))
 obtain⟨t',u',he⟩:=hx.there;show wpAny _ _ (getattributeRaised _ _ _ _ _ _ _) _ _ _;unfold getattributeRaised
 repeat (any_goals (first | assumption | wp_step))
 exact h _ _ fun b u q=>hx.keeps b u q
theorem jLY {a:Addr}{k v:Value}{m:Nat}{Q:Am->Shared->Prop}(ho:s.heap.get? a=some { cls:= .type "tuple",data:= .seq #[k,v] m})(h:Q [k,v] s):wpAny (model prog w) A (Builtin.Dict.pairItems (.ref a)) Q E s:=by
 obtain⟨hp,g,d,tk,os⟩:=s;have hT:(⟨hp,g,d,tk,os⟩:Shared).TypeIs (.ref a) "tuple" :=⟨_,ho,rfl⟩;unfold Builtin.Dict.pairItems
 repeat (any_goals (first | assumption | wp_step))
section
variable {prog:Program}{w:World}{K:Type} [DecidableEq K]{knd:KeyKind prog w K}{A:Around}{R:Result->Shared->Prop}{I:Addr}{fp wr:List Addr}{n:Nat}{P:Nat->Value->Prop}{St:Nat->Shared->Prop}
def jLI (knd:KeyKind prog w K)(h:Heap)(a:Addr)(p:K×Value):Prop:=∃ key m,h.get? a=some { cls:= .type "tuple",data:= .seq #[key,p.2] m} /\knd.is p.1 key=true
theorem upl (W:WalksS prog w A.in1 I fp wr (fun a b=>b=a) n P St)(d:Addr)(hd:d∉fp)(more:List (K×Value))(hmn:more.length=n)(pa:Nat->Addr)(hpd:∀ i,i<n->pa i≠d/\pa i∉wr)(hP:∀ i v,P i v->v= .ref (pa i))(hn:n<=sizeLine):
  ∀ (k i:Nat) (z:Int) (s:Shared),n - i=k->i<=n->St i s->s.heap.DictOf knd d (merged [] (more.take i))->(∀ j p,more[j]?=some p->jLI knd s.heap (pa j) p)->
   (∀ s',Moved (d::wr) (fun a b=>b=a) s s'->s'.heap.DictOf knd d (merged [] more)->R (.ok (.ret .none)) s')->
   codeAny (model prog w) A (.builtin "dict.update.loop" ⟨[.ref d, .ref I,rawInt z, .none],[]⟩) R s:=by
 have hdw:d∉wr:=fun h=>hd (W.sub _ h);have sub1:∀ b∈wr,b∈d::wr:=fun b hb=>ag _ hb;intro k
 induction k with
 | zero=>
  intro i z s hk hi hst hS hp hR;obtain rfl:i=n:=by lia
  refine cB jH7 ?_;rw[cz jCA _];show wpAny _ A.in1 (pyNext (.ref I) >>= _) _ _ s;refine ae (W.done s _ _ hst fun s' mv=>?_);show wpAny _ A.in1 (Builtin.Dict.addKeywords d [] >>= fun _=>ret Value.none) _ _ s';refine ae (aj (aj (hR s' (mv.mono sub1) ?_)));obtain⟨o,es,ep,ho,r⟩:=hS;rw[<- hmn,bq] at r;exact⟨o,es,ep,mv.heap d o hdw ho,r⟩
 | succ k ih=>
  intro i z s hk hi hst hS hp hR;have hlt:i<n:=Aa;refine cB jH7 ?_;rw[cz jCA _];show wpAny _ A.in1 (pyNext (.ref I) >>= _) _ _ s;refine ae (W.item i s _ _ hlt hst fun v s' hPv hst' mv=>?_);obtain rfl:=hP i v hPv;have hS':s'.heap.DictOf knd d (merged [] (more.take i)):=by
   obtain⟨o,es,ep,ho,r⟩:=hS;exact⟨o,es,ep,mv.heap d o hdw ho,r⟩
  have hp':∀ j p,more[j]?=some p->jLI knd s'.heap (pa j) p:=fun j p hj=>by
   obtain⟨key,m,e,q⟩:=hp j p hj;have hjn:j<n:=by rw[<- hmn]; exact(ao.mp hj).1
   exact⟨key,m,mv.heap _ _ (hpd j hjn).2 e,q⟩
  obtain⟨p,hpi⟩:∃ p,more[i]?=some p:=⟨more[i],by simp [hmn,hlt]⟩;obtain⟨key,m,e1,hk1⟩:=hp' i p hpi;show wpAny _ A.in1 (holding [Value.ref (pa i)] _ >>= _) _ _ s';refine ae (bX (ae ?_));refine wpAny_tryCatch (jLY e1 ?_);refine bX (wpAny_dictSet_pairs hk1 hS' (fun h' hd' sb=>?_) (by
   have:=merged_length_le (K:=K) [] (more.take i);have h2:=bC i more;have:(merged [] (more.take i)).length<=i:=by
    refine bv (merged_length_le (K:=K) [] (more.take i)) ?_;simp only [cA,Nat.zero_add];exact bC _ _
   lia))
  refine aj ⟨fg jCA _,ih (i+1) (z+1) _ Aa hlt (W.frame _ s' _ _ hst' (dE _) fun b hb o e=>?_) ?_ (fun j p hj=>?_) fun s'' mv2 hS3=>?_⟩
  ·rw[sb.2 b (fun h:b=d=>hd (by rw[<- h]; exact hb))];exact e
  ·rw[merged_take_succ _ _ _ _ hpi];exact hd'
  ·obtain⟨key,m,e,q⟩:=hp' j p hj;have hjn:j<n:=by rw[<- hmn]; exact(ao.mp hj).1
   exact⟨key,m,by show h'.get? _=_; rw[sb.2 _ (hpd j hjn).1]; exact e,q⟩
  ·refine hR s'' (Moved.trans W.gtrans ((mv.mono sub1).then_heap (dE _) fun b o hb e=>?_) mv2) hS3;rw[sb.2 b (fun h:b=d=>hb (by rw[h]; exact ai))];exact e
end
section
variable {prog:Program}{w:World}{K:Type} [DecidableEq K]{knd:KeyKind prog w K}{A:Around}{E:Ah}{s:Shared}
theorem jF9 {l:Addr}{its:Am}{nl:Nat}{more:List (K×Value)}{Q:Ah}(hA:A.handled=none)(hl:s.heap.get? l=some { cls:= .type "list",data:= .seq its.toArray nl})(hsz:its.length<=sizeLine)
  (pa:Nat->Addr) (hit:∀ i v,its[i]?=some v->v=Value.ref (pa i)) (hlen:more.length=its.length) (hp:∀ j p,more[j]?=some p->jLI knd s.heap (pa j) p)
  (h:∀ h' tk,h'.DictOf knd s.heap.objs.size (merged [] more)->(∀ b u,s.heap.get? b=some u->h'.get? b=some u)->Q (.ref s.heap.objs.size) { s with heap:=h',toks:=tk}):
  wpAny (model prog w) A (call (.type "dict") [.ref l]) Q E s:=by
 refine callType_codes (Q₁:=fun obj s₁=>obj= .ref s.heap.objs.size/\s₁= { s with heap:=s.heap.push { cls:= .type "dict",data:= .dict #[]}}) F.kt_called_dict (F.kt_typeCall_dict_1 _) F.entry_dict_init (kt_code_dict_new _ ⟨rfl,rfl⟩) ?_;rintro obj s₁ ⟨rfl,rfl⟩;have hnew:(s.heap.push { cls:= .type "dict",data:= .dict #[]}).DictOf knd s.heap.objs.size []:=jx s.heap;have hl1:(s.heap.push { cls:= .type "dict",data:= .dict #[]}).get? l=some { cls:= .type "list",data:= .seq its.toArray nl} :=ah _ hl;have hls:l<s.heap.objs.size:=aK hl;have hT:Shared.TypeIs { s with heap:=s.heap.push { cls:= .type "dict",data:= .dict #[]}} (.ref l) "list" :=⟨_,hl1,rfl⟩;refine⟨hnew.typeIs,F.args_dict_init_2 _ _,?_⟩;unfold Builtin.«dict.__init__»;refine ae ?_;unfold Builtin.Dict.selfAndRest;refine ae (wpAny_notOrdered_dict hnew.typeIs ?_);show wpAny _ _ (pure (s.heap.objs.size,[Value.ref l])) _ _ _;refine aj ?_;show wpAny _ _ (Builtin.Dict.updateFrom "dict.__init__" s.heap.objs.size (.ref l) [] .none) _ _ _;unfold Builtin.Dict.updateFrom;refine ae (jo hT ?_);rw[aq Ac];refine ae (jOF jHZ Ab Ab (by simpa using hA) hl1 fun h2 tk2 k2=>?_);rw[aq (by rfl)];refine ae (db (ae ?_));have hl2:h2.IsList l its.toArray:=⟨_,k2 _ _ hl1,rfl,nl,rfl⟩;refine dJ hl2 ?_;have z2:s.heap.objs.size<h2.objs.size:=by
  have:=aK (k2 _ _ (aF s.heap (o:= { cls:= .type "dict",data:= .dict #[]}) rfl));exact this
 have hlI:l≠h2.objs.size:=aW (eX hls z2);have hdI:s.heap.objs.size≠h2.objs.size:=aW z2;have hdl:s.heap.objs.size≠l:=cP hls;have hplt:∀ i,i<its.length->pa i<s.heap.objs.size:=fun i hi=>by
  obtain⟨key,m,e,_⟩:=hp i more[i] (by simp [hlen,hi]);exact aK e
 have keep:∀ b u,s.heap.get? b=some u->(h2.push { cls:= .type "list_iterator",data:= .fields #[.ref l, .int 0 0]}).get? b=some u:=fun b u e=>ah _ (k2 _ _ (ah _ e));refine aj ⟨fg jCA _,upl (knd:=knd) ((jn (by simp [hA]) _ l hlI its.toArray).toS) s.heap.objs.size ?_ more (by simp [hlen]) pa (fun i hi=>?_) (fun i v q=>hit i v (by simpa using q)) (by simpa using hsz) (its.toArray.size - 0) 0 0 _ rfl (bw _) ⟨⟨_,aF _ rfl,rfl,rfl⟩,hl2.push _⟩ ?_ (fun j p hj=>?_) fun s' mv hD=>?_⟩
 ·simp only [aI,bH,dr,lz];exact⟨hdI,hdl⟩
 ·have:=hplt i (by simpa using hi);refine⟨aW this,?_⟩;simp only [aI,bH,dr];exact aW (eX this z2)
 ·obtain⟨o,es,ep,ho,r⟩:=hnew;exact⟨o,es,ep,ah _ (k2 _ _ ho),r⟩
 ·obtain⟨key,m,e,q⟩:=hp j p hj;exact⟨key,m,keep _ _ e,q⟩
 ·obtain⟨h',g',d',tk',os'⟩:=s';have e1:g'=s.gens:=mv.gens;have e2:d'=s.drawn:=mv.drawn;have e3:os'=s.os:=mv.os;subst e1; subst e2; subst e3;refine⟨rfl,h h' tk' hD fun b u e=>mv.heap b u ?_ (keep b u e)⟩;have hb:=aK e;simp only [aI,bH,dr,lz];exact⟨aW hb,aW (eX hb z2)⟩
end
theorem jO2 {P:Program}{w:World}{h:Heap} :∀ (kvs:List (Key×V)) (pa:Nat->Addr),(∀ i k v,kvs[i]?=some (k,v)->∃ key u m,h.get? (pa i)=some { cls:= .type "tuple",data:= .seq #[key,u] m} /\RelV (kV k) key/\RelV v u)->
  ∃ more:List (Key×Value),KV kvs more/\∀ j p,more[j]?=some p->jLI (kX P w) h (pa j) p
 | [],_,_=>⟨[], .nil,fun j p e=>by simp at e⟩
 | (k,v)::r,pa,hk=>by
  obtain⟨more,k1,k2⟩:=jO2 (P:=P) (w:=w) r (fun i=>pa (i+1)) fun i k v e=>hk (i+1) k v (by simpa using e);obtain⟨key,u,m,e,r1,r2⟩:=hk 0 k v rfl;refine⟨(k,u)::more, .cons ⟨rfl,r2⟩ k1,fun j p hj=>?_⟩;cases j with
  | zero=>
   simp at hj;subst hj;exact⟨key,m,e,kV_is r1⟩
  | succ j=>exact k2 j p (by simpa using hj)
theorem jMH (hc:X.calm=true):yV X (.type "dict") (fun xs H Q=>∃ (p:Addr) (vs:List V) (kvs:List (Key×V)),xs=[.ref p]/\H p=some (.lst vs)/\vs.length=kvs.length/\(∀ (i:Nat) (k:Key) (v:V),kvs[i]?=some (k,v)->∃ a:Addr,vs[i]?=some (V.ref a)/\H a=some (.tup [kV k,v]))/\(kvs.map (·.1)).Nodup/\∀ l:Addr,H l=none->Q (.ref l) (upd H l (.dK kvs))):=by
 intro lH s σ H xs us Q I r h;obtain⟨p,vs,kvs,rfl,hq,hl,hkv,hnd,q⟩:=h;obtain⟨u,rfl,rx⟩:=r.one;cases rx;obtain⟨hz,its,nl,r',e0⟩:=I.hok p _ hq;have hli:=r'.length;obtain⟨more,k1,k2⟩:=jO2 (P:=X.prog) (w:=X.w) (h:=s.heap) kvs (fun i=>match vs[i]? with | some (.ref a)=>a | _=>0) fun i k v e=>by
  obtain⟨a,e1,e2⟩:=hkv i k v e;obtain⟨_,it2,r2,m,e3⟩:=I.hok a _ e2;have l2:=r2.length;obtain⟨k',rest,rfl⟩:∃ k' rest,it2=k'::rest:=by
   cases it2 with
   | nil=>simp at l2
   | cons a b=>exact⟨a,b,rfl⟩
  obtain⟨u',rest',rfl⟩:∃ u' rest',rest=u'::rest':=by
   cases rest with
   | nil=>simp at l2
   | cons a b=>exact⟨a,b,rfl⟩
  obtain rfl:rest'=[]:=by
   cases rest' with
   | nil=>rfl
   | cons a b=>simp at l2
  rw[e1];cases r2 with
  | cons a1 a2=>
   cases a2 with
   | cons b1 b2=>exact⟨k',u',m,e3,a1,b1⟩
 have lm:more.length=kvs.length:=(gc k1).symm;refine jF9 (knd:=kX X.prog X.w) (I.ok.hd hc) e0 Aa (fun i=>match vs[i]? with | some (.ref a)=>a | _=>0) (fun i v hv=>?_) Aa k2 fun h' tk hD kp=>?_
 ·have hi:i<its.length:=(ao.mp hv).1;have hik:i<kvs.length:=Aa;obtain⟨a,e1,e2⟩:=hkv i kvs[i].1 kvs[i].2 (by simp [hik]);obtain⟨u,e3,e4⟩:=r'.get e1;rw[hv] at e3;cases e3;simp only [e1];exact e4
 ·rw[merged_nil_of_nodup _ (by rw[<- KV.keys k1]; exact hnd)] at hD;have hsz:(s.heap.objs.size==sysModules)=false:=by
   have:=I.big;exact cG.mpr (cP this)
  exact⟨.ref s.heap.objs.size,_,I.laid (t':=tk) (o:= .dK kvs) kp (aA _) ⟨Aa,hsz,more,k1,hD⟩,rfl,q _ I.fresh⟩
section
variable {K:W.Frag}
theorem gl_n (h:sc.names.lookup x=some .globalImplicit:=by decide+kernel):Gl1 (cxN P w K mg Ar N qual sc f cd cl A Aq s H) x:=⟨h⟩
theorem yX (h:sc.names.lookup x=some .local:=by decide+kernel):Vis1 (cxN P w K mg Ar N qual sc f cd cl A Aq s H) x:=⟨.inl h⟩
theorem jRU (h:sc.names.lookup x=some .free):Vis1 (cxN P w K mg Ar N qual sc f cd cl A Aq s H) x:=⟨.inr (.inr h)⟩
theorem loc_n (h:sc.names.lookup x=some .local:=by decide+kernel):Loc1 (cxN P w K mg Ar N qual sc f cd cl A Aq s H) x:=⟨.inl h, .inr h⟩
end
theorem jSS {x:Str}{args:Arguments}{body:List Stmt}{scope:Scope}{pos:Pos}{c0 T:Addr}{j:Nat}(hN:X.N.Nodup)(hj:X.N[j]?=some x)(lx:Loc1 X x)(hcode:X.env.code= .ref c0)(CH:PySem.W.CodeHd X.Ar c0 T)(hbm:qN X.Ar X.mg)
  (hfree:∀ y∈scope.names,y.2= .free->X.env.scope.names.lookup y.1=some .cell\/X.env.scope.names.lookup y.1=some .free) (hdf:defaultsOf args X.env=([],[])) (han:annTrees args none X.env=[]):
  JS X (.FunctionDef x args body [] none [] scope none x pos) (tDef x (qualnameIn X.env x x) args body scope (jR X.env.cells scope.names []) T pos j):=⟨jVX hN hj lx.a hcode CH hbm hfree hdf han lx.b⟩
def iSeq (K:W.Frag)(te:TE):TI:=fun σ H R=>iList K te σ H R\/iTup K te σ H R
theorem jWY {tg a:Expr}{ta:TE}(hl:JE X a ta):JI X tg a (iSeq X.K ta):=⟨fun lH s σ H R I h=>by
 rcases h with h | h
 ·exact(yL hl).h lH s σ H R I h
 ·exact(qC hl).h lH s σ H R I h⟩
def AtS (tp:Bool)(H:Hp)(a:Addr)(xs:List V):Prop:=match tp with
 | false=>H a=some (.lst xs)
 | true=>H a=some (.tup xs)
theorem AtS.sq {tp:Bool}{K:W.Frag}{H:Hp}{a:Addr}{xs:List V}(h:AtS tp H a xs):Sq tp K H a xs:=by
 cases tp with
 | false=>exact SqL.of h
 | true=>exact SqT.of h
theorem AtS.or {tp:Bool}{K:W.Frag}{H:Hp}{a:Addr}{xs:List V}(h:AtS tp H a xs):SqL K H a xs\/SqT K H a xs:=by
 cases tp with
 | false=>exact .inl (SqL.of h)
 | true=>exact .inr (SqT.of h)
def AtS.ob (tp:Bool)(xs:List V):HO:=match tp with
 | false=> .lst xs
 | true=> .tup xs
theorem AtS.is {tp:Bool}{H:Hp}{a:Addr}{xs:List V} :AtS tp H a xs↔H a=some (AtS.ob tp xs):=by cases tp <;> exact Iff.rfl
theorem AtS.ext {tp:Bool}{H H':Hp}{a:Addr}{xs:List V}(h:AtS tp H a xs)(e:Ext H H'):AtS tp H' a xs:=AtS.is.mpr (e _ _ (AtS.is.mp h))
theorem jX0 {i o:Expr}{ty td:TE}{pos:Pos}(hu:X.A.units+1<cLine)(hi:JE X i ty)(ho:JE X o td)(h1:behindInMarks .In o=false):JT X (.Compare i [.In] [o] pos) (tB (tDIn ty td)):=⟨jSB (jWA hu hi.h ho.h) h1⟩
section
variable {K:W.Frag}{σ:St}
theorem jIB {a:Addr}{xs:List V}(hn:xs.length<sizeLine)(Pv:Addr->Nat->St->Hp->List V->Prop)(h0:∀ D,H1 D=none->Pv D 0 (blkσ m σ) (upd H1 D (.lst [])) [])
  (hD:∀ D i σ' H' zs,H1 D=none->Pv D i σ' H' zs->H' a=some (.lst xs)/\H' D=some (.lst zs)/\zs.length<=i)
  (hs:∀ D i σ' H' zs x,H1 D=none->xs[i]?=some x->Pv D i σ' H' zs->g x σ' H' fun σ2 H2=>tt σ2 H2 fun b H3=>if b=true then te σ2 H3 fun v H4=>H4 D=some (.lst zs)/\Pv D (i+1) σ2 (upd H4 D (.lst (zs++[v]))) (zs++[v]) else Pv D (i+1) σ2 H3 zs)
  (hd:∀ D σ' H' zs,H1 D=none->Pv D xs.length σ' H' zs->Q (.ref D) H'):qL m g tt te σ Q (Itl K a) H1:=by
 intro D hDn;refine⟨fun i k σ' H' zs=>k=xs.length - i/\i<=xs.length/\Pv D i σ' H' zs,⟨_,rfl,bw _,h0 D hDn⟩,?_⟩;rintro i k σ' H' zs ⟨rfl,hi,p⟩;obtain⟨s1,q1,q2⟩:=hD D i σ' H' zs hDn p;refine⟨q1,Aa,?_⟩;by_cases hlt:i<xs.length
 ·refine .inr ⟨⟨xs,xs[i],SqL.of s1,by simp [hlt]⟩,Pv D (i+1),fun σ2 H2 zs z=>⟨xs.length - (i+1),Aa,rfl,hlt,z⟩,fun v H'' y=>?_⟩;obtain⟨e1,e2⟩:=y;subst e1;exact hs D i σ' _ zs v hDn (e2 xs (SqL.of s1)) p
 ·have e:i=xs.length:=Aa;subst e;exact .inl ⟨⟨xs,SqL.of s1,aA _⟩,hd D σ' H' zs hDn p⟩
theorem jRL {tp:Bool}{ta:TE}{a:Addr}{xs:List V}(ha:AtS tp H1 a xs)(hta:∀ Q:VK,Q (.ref a) H1->ta σ H1 Q)(hn:xs.length<sizeLine)(Pv:Addr->Nat->St->Hp->List V->Prop)(h0:∀ D,H1 D=none->Pv D 0 (blkσ m σ) (upd H1 D (.lst [])) [])
  (hD:∀ D i σ' H' zs,H1 D=none->Pv D i σ' H' zs->AtS tp H' a xs/\H' D=some (.lst zs)/\zs.length<=i)
  (hs:∀ D i σ' H' zs x,H1 D=none->xs[i]?=some x->Pv D i σ' H' zs->g x σ' H' fun σ2 H2=>tt σ2 H2 fun b H3=>if b=true then te σ2 H3 fun v H4=>H4 D=some (.lst zs)/\Pv D (i+1) σ2 (upd H4 D (.lst (zs++[v]))) (zs++[v]) else Pv D (i+1) σ2 H3 zs)
  (hd:∀ D σ' H' zs,H1 D=none->Pv D xs.length σ' H' zs->Q (.ref D) H'):iSeq K ta σ H1 (qL m g tt te σ Q):=by
 cases tp with
 | false=>exact .inl (hta _ ⟨a,rfl,⟨xs,SqL.of ha⟩,jIB hn Pv h0 hD hs hd⟩)
 | true=>exact .inr (hta _ ⟨a,rfl,⟨xs,SqT.of ha⟩,jAH hn Pv h0 hD hs hd⟩)
end
theorem ExtT.of {T:Addr}{H H':Hp}(e:Ext H H'):ExtT T H H':=fun b o h _=>e b o h
theorem ExtT.trans {T:Addr}{H H' H'':Hp}(a:ExtT T H H')(b:ExtT T H' H''):ExtT T H H'':=fun c o h n=>b c o (a c o h n) n
theorem TabOk.is {H:Hp}{T:Addr}{pos:Pos}{q:Str}(t:TabOk H T pos q):∃ ps,H T=some (.tbl ps):=by
 rcases t with h | ⟨c,h,_⟩
 ·exact⟨_,h⟩
 ·exact⟨_,h⟩
theorem TabOk.ne {H:Hp}{T:Addr}{pos:Pos}{q:Str}(t:TabOk H T pos q){b:Addr}{o:HO}(h:H b=some o)(ho:∀ ps,o≠ .tbl ps):b≠T:=fun e=>by
 obtain⟨ps,z⟩:=t.is;rw[e,z] at h;cases h;exact ho ps rfl
theorem TabOk.ext {H H':Hp}{T:Addr}{pos:Pos}{q:Str}(t:TabOk H T pos q)(e:Ext H H'):TabOk H' T pos q:=by
 rcases t with h | ⟨c,h,h2⟩
 ·exact .inl (e _ _ h)
 ·exact .inr ⟨c,e _ _ h,e _ _ h2⟩
theorem ExtT.at {T:Addr}{H H':Hp}(e:ExtT T H H'){pos:Pos}{q:Str}(t:TabOk H T pos q){b:Addr}{o:HO}(h:H b=some o)(ho:∀ ps,o≠ .tbl ps:=by intro _ z; cases z):H' b=some o:=e b o h (t.ne h ho)
theorem ExtT.seq {T:Addr}{H H':Hp}(e:ExtT T H H'){pos:Pos}{q:Str}(t:TabOk H T pos q){tp:Bool}{b:Addr}{xs:List V}(h:AtS tp H b xs):AtS tp H' b xs:=by
 cases tp with
 | false=>exact e.at t (show H b=some (.lst xs) from h)
 | true=>exact e.at t (show H b=some (.tup xs) from h)
structure FunC (K:W.Frag)(x qual:Str)(st:Stmt)(f:Addr)(fd:FuncData)(c0:Addr):Prop where
 ex:∃ (oc:Value) (od:Option Addr) (kV doc pm:Value) (an:Option Addr) (ct:Value) (osl:Array (Ap)),fd=PySem.W.fnOf x qual (y8 st) (jC st) (j7 st) .none kV doc pm an (.ref c0) ct/\K.lookup f=some ⟨oc,od, .func fd,osl⟩/\PySem.W.codeIn K (.ref c0) qual=true
theorem FunC.ok {P:Program}{w:World}{K:W.Frag}{mg:Ak}{Ar:Heap}{x qual:Str}{st:Stmt}{f c0:Addr}{fd:FuncData}{N ps:An}{k:Nat}{sp:Sp}(F:FunC K x qual st f fd c0)(S:FnScope N ps (j7 st))(len:∀ vs H Q E,sp vs H Q E->vs.length=ps.length)
  (hbody:∀ (A:Around) (Aq:List Env) (s:Shared) (H:Hp) (vs:List V) (Q:VK) (E:XK),Room k (A.deeper (envOfC qual (j7 st) s.heap.objs.size f (.ref c0)))->sp vs H Q E->
   ∃ t,PSs (cxOf CX0 P w K mg Ar N qual (j7 st) f (.ref c0) A Aq s H E).nox (jC st) t/\t { nx:=fun _ H'=>Q .non H',rt:=Q} (yC N vs) H):FnOk P w K mg Ar CX0 (k+1) f fd ps sp:=by
 obtain⟨oc,od,kV,doc,pm,an,ct,osl,rfl,lk,hcd⟩:=F.ex;refine fn_of lk hcd S len fun A Aq s H vs Q E hr hsp=>?_;obtain⟨t,ht,hq⟩:=hbody A Aq s H vs Q E hr hsp;exact⟨t,ht.nox,hq⟩
variable {fp:List Addr}
section
theorem jRF {sc2:Scope}(h:(sc2.names.all fun y=>decide (y.2= .free->sc.names.lookup y.1=some .cell\/sc.names.lookup y.1=some .free))=true):
  ∀ y∈sc2.names,y.2= .free->(blk X sc cl C Nc fp s H).env.scope.names.lookup y.1=some .cell\/(blk X sc cl C Nc fp s H).env.scope.names.lookup y.1=some .free:=fun y hy hf=>by
 rcases aG (bU.mp h y hy) hf with q | q
 ·exact .inl (jAD Ac q)
 ·exact jBL q
theorem jR6 {tg a:Expr}{ta:TE}(hl:JE (blk X sc cl C Nc fp s H) a ta):JI (blk X sc cl C Nc fp s H) tg a (iTup X.K ta):=qC hl
variable {sc2:Scope}{cl2:Aj}{C2:Addr}{Nc2:An}{fp2:List Addr}{s2:Shared}{H2:Hp}
theorem jOV:IxR (blk (blk X sc cl C Nc fp s H) sc2 cl2 C2 Nc2 fp2 s2 H2) (rIxT X.K):=jJ
theorem jF2:yV (blk X sc cl C Nc fp s H) (.type "tuple") (fun xs H Q=>∃ p ys,xs=[.ref p]/\((SqL X.K H p ys/\∀ l,H l=none->Q (.ref l) (upd H l (.tup ys)))\/(SqT X.K H p ys/\Q (.ref p) H))):=jP
end
theorem jOK {X:Cx}{st:Stmt} :JS X st (fun _ _ _=>False):=⟨fun _ _ _ _ _ _ h=>h.elim⟩
section
variable {K:W.Frag}{σ:St}
abbrev TupsK (H H':Hp):Prop:=∀ b xs,H b=some (.tup xs)->H' b=some (.tup xs)
structure ZOk (Z:Hp->List V->Nat->Prop):Prop where
 z0:∀ H,Z H [] 0
 mono:∀ H H' zs j,TupsK H H'->Z H zs j->Z H' zs j
 len:∀ H zs j,Z H zs j->zs.length<=j
theorem jH8 {H:Hp}{D:Addr}{zs:List V}(h:H D=some (.lst zs))(o:HO):TupsK H (upd H D o):=fun b xs hb=>by
 rw[j9 (fun e=>by rw[e,h] at hb; cases hb)];exact hb
def TurnZ (g:TG)(tt:TT)(te:TE)(σP:St->Prop)(Z:Hp->List V->Nat->Prop)(x:V)(j:Nat)(σ':St)(H':Hp)(zs:List V):Prop:=
 ∀ (R:St->V->Hp->Prop) (S:St->Hp->Prop),(∀ σ2 v H2,σP σ2->Ext H' H2->Z H2 (zs++[v]) (j+1)->R σ2 v H2)->(∀ σ2 H2,σP σ2->Ext H' H2->Z H2 zs (j+1)->S σ2 H2)->
  g x σ' H' fun σ2 H2=>tt σ2 H2 fun b H3=>if b=true then te σ2 H3 (R σ2) else S σ2 H3
theorem jPM {tp:Bool}{a:Addr}{xs:List V}(σP:St->Prop)(Z:Hp->List V->Nat->Prop)(zo:ZOk Z)(ha:AtS tp H a xs)(hn:xs.length<sizeLine)(h0:σP (blkσ m σ))
  (step:∀ j x σ' H' zs,xs[j]?=some x->σP σ'->Ext H H'->Z H' zs j->TurnZ g tt te σP Z x j σ' H' zs)
  (hd:∀ D H' zs,H' D=some (.lst zs)->Ext H H'->H D=none->Z H' zs xs.length->Q (.ref D) H'):qL m g tt te σ Q (match tp with | false=>Itl K a | true=>Itt K a) H:=by
 have turn:∀ D j σ' H' zs x,H D=none->xs[j]?=some x->(σP σ'/\Ext H H'/\H' D=some (.lst zs)/\H D=none/\Z H' zs j)->g x σ' H' fun σ2 H2=>tt σ2 H2 fun b H3=>if b=true then te σ2 H3 fun v H4=>H4 D=some (.lst zs)/\(σP σ2/\Ext H (upd H4 D (.lst (zs++[v])))/\(upd H4 D (.lst (zs++[v]))) D=some (.lst (zs++[v]))/\H D=none/\Z (upd H4 D (.lst (zs++[v]))) (zs++[v]) (j+1)) else (σP σ2/\Ext H H3/\H3 D=some (.lst zs)/\H D=none/\Z H3 zs (j+1)):=by
  rintro D j σ' H' zs x hD hx ⟨p,e,h2,hn,hz⟩;exact step j x σ' H' zs hx p e hz _ _ (fun σ2 v H2 p2 e2 z2=>⟨e2 _ _ h2,p2,(e.trans e2).updNew hn _,j5,hn,zo.mono _ _ _ _ (jH8 (e2 _ _ h2) _) z2⟩) fun σ2 H2 p2 e2 z2=>⟨p2,e.trans e2,e2 _ _ h2,hn,z2⟩
 cases tp with
 | false=>exact jIB (xs:=xs) hn (fun D j σ' H' zs=>σP σ'/\Ext H H'/\H' D=some (.lst zs)/\H D=none/\Z H' zs j) (fun D hD=>⟨h0,(Ext.refl _).new hD _,j5,hD,zo.z0 _⟩) (fun D j σ' H' zs hD ⟨_,e,h2,_,hz⟩=>⟨e _ _ ha,h2,zo.len _ _ _ hz⟩) turn fun D σ' H' zs hD ⟨_,e,h2,hn,hz⟩=>hd D H' zs h2 e hn hz
 | true=>exact jAH (xs:=xs) hn (fun D j σ' H' zs=>σP σ'/\Ext H H'/\H' D=some (.lst zs)/\H D=none/\Z H' zs j) (fun D hD=>⟨h0,(Ext.refl _).new hD _,j5,hD,zo.z0 _⟩) (fun D j σ' H' zs hD ⟨_,e,h2,_,hz⟩=>⟨e _ _ ha,h2,zo.len _ _ _ hz⟩) turn fun D σ' H' zs hD ⟨_,e,h2,hn,hz⟩=>hd D H' zs h2 e hn hz
theorem jLE {a:Addr}{xs:List V}(σP:St->Prop)(Z:Hp->List V->Nat->Prop)(zo:ZOk Z)(ha:H a=some (.tup xs))(hn:xs.length<sizeLine)(h0:σP (blkσ m σ))
  (step:∀ j x σ' H' zs,xs[j]?=some x->σP σ'->Ext H H'->Z H' zs j->TurnZ g tt te σP Z x j σ' H' zs)
  (hd:∀ D H' zs,H' D=some (.lst zs)->Ext H H'->H D=none->Z H' zs xs.length->Q (.ref D) H'):qL m g tt te σ Q (Itt K a) H:=jPM (tp:=true) σP Z zo ha hn h0 step hd
theorem jB1 {a:Addr}{xs:List V}(σP:St->Prop)(Z:Hp->List V->Nat->Prop)(zo:ZOk Z)(ha:H a=some (.lst xs))(hn:xs.length<sizeLine)(h0:σP (blkσ m σ))
  (step:∀ j x σ' H' zs,xs[j]?=some x->σP σ'->Ext H H'->Z H' zs j->TurnZ g tt te σP Z x j σ' H' zs)
  (hd:∀ D H' zs,H' D=some (.lst zs)->Ext H H'->H D=none->Z H' zs xs.length->Q (.ref D) H'):qL m g tt te σ Q (Itl K a) H:=jPM (tp:=false) σP Z zo ha hn h0 step hd
theorem jGW {n:Nat}(σP:St->Prop)(Z:Hp->List V->Nat->Prop)(zo:ZOk Z)(hn:n<sizeLine)(h0:σP (blkσ m σ))
  (step:∀ j σ' H' zs,j<n->σP σ'->Ext H H'->Z H' zs j->TurnZ g tt te σP Z (.int (0+j)) j σ' H' zs)
  (hd:∀ D H' zs,H' D=some (.lst zs)->Ext H H'->H D=none->Z H' zs n->Q (.ref D) H'):qL m g tt te σ Q (Itr 0 n) H:=by
 refine jBO (lo:=0) (n:=n) hn (fun D j σ' H' zs=>σP σ'/\Ext H H'/\H' D=some (.lst zs)/\H D=none/\Z H' zs j) (fun D hD=>⟨h0,(Ext.refl _).new hD _,j5,hD,zo.z0 _⟩) (fun D j σ' H' zs hD hj ⟨_,e,h2,_,hz⟩=>⟨h2,zo.len _ _ _ hz⟩) ?_ fun D σ' H' zs hD ⟨_,e,h2,hn,hz⟩=>hd D H' zs h2 e hn hz;rintro D j σ' H' zs hD hj ⟨p,e,h2,hn,hz⟩;exact step j σ' H' zs hj p e hz _ _ (fun σ2 v H2 p2 e2 z2=>⟨e2 _ _ h2,p2,(e.trans e2).updNew hn _,j5,hn,zo.mono _ _ _ _ (jH8 (e2 _ _ h2) _) z2⟩) fun σ2 H2 p2 e2 z2=>⟨p2,e.trans e2,e2 _ _ h2,hn,z2⟩
end
def outZ {α:Type}(l:List α)(p:α->Bool)(f:α->V):Hp->List V->Nat->Prop:=fun _ zs j=>zs=((l.take j).filter p).map f
theorem outZ.ok {α:Type}(l:List α)(p:α->Bool)(f:α->V):ZOk (outZ l p f):=⟨fun _=>rfl,fun _ _ _ _ _ h=>h,fun _ zs j h=>by
 rw[show zs=_ from h,af];exact bv (bS _ _) (bC _ _)⟩
theorem outZ.yes {α:Type}{l:List α}{p:α->Bool}{f:α->V}{H H':Hp}{zs:List V}{j:Nat}{x:α}(h:outZ l p f H zs j)(hx:l[j]?=some x)(hp:p x=true):outZ l p f H' (zs++[f x]) (j+1):=by
 show _=_;rw[be,hx,bN,aS,<- show zs=_ from h];simp [hp]
theorem outZ.no {α:Type}{l:List α}{p:α->Bool}{f:α->V}{H H':Hp}{zs:List V}{j:Nat}{x:α}(h:outZ l p f H zs j)(hx:l[j]?=some x)(hp:p x=false):outZ l p f H' zs (j+1):=by
 show _=_;rw[be,hx,bN,aS,<- show zs=_ from h];simp [hp]
theorem outZ.all {α:Type}{l:List α}{p:α->Bool}{f:α->V}{H:Hp}{zs:List V}{n:Nat}(h:outZ l p f H zs n)(hn:l.length<=n):zs=(l.filter p).map f:=by
 rw[show zs=_ from h,b9 hn]
def mapZ {α:Type}(l:List α)(f:α->V):Hp->List V->Nat->Prop:=fun _ zs j=>zs=(l.take j).map f
theorem mapZ.ok {α:Type}(l:List α)(f:α->V):ZOk (mapZ l f):=⟨fun _=>rfl,fun _ _ _ _ _ h=>h,fun _ zs j h=>by
 rw[show zs=_ from h,af];exact bC _ _⟩
theorem mapZ.yes {α:Type}{l:List α}{f:α->V}{H H':Hp}{zs:List V}{j:Nat}{x:α}(h:mapZ l f H zs j)(hx:l[j]?=some x):mapZ l f H' (zs++[f x]) (j+1):=by
 show _=_;rw[be,hx,aS,<- show zs=_ from h];rfl
theorem mapZ.all {α:Type}{l:List α}{f:α->V}{H:Hp}{zs:List V}{n:Nat}(h:mapZ l f H zs n)(hn:l.length<=n):zs=l.map f:=by
 rw[show zs=_ from h,b9 hn]
theorem int_at {l:Ag}{j:Nat}{x:V}(h:(l.map V.int)[j]?=some x):∃ z:Int,l[j]?=some z/\x=V.int z:=by
 rw[aV] at h;cases hq:l[j]? with
 | none=>rw[hq] at h; cases h
 | some z=>rw[hq] at h; cases h; exact⟨z,rfl,rfl⟩
section
variable {st:Stmt}{sts:List Stmt}{t:TS}
end
end L2
namespace L2
open PySem
end L2
namespace L2
open PySem PySem.Spec PyProof.Rows
section
variable {m:List (Option Nat)}{g:TG}{tt:TT}{te:TE}{σ:St}{H1:Hp}{Q:VK}
end
open PySem.AutoSeq1 (wpAny_loadPart')
variable {w:World}{s:Shared}
section
variable {prog:Program}{A:Around}{E:Ah}
end
variable {X:Cx}
section
variable {sc:Scope}{cl:Aj}{C:Addr}{Nc:An}{fp:List Addr}{H:Hp}
end
structure FnZ (P:Program)(w:World)(K:W.Frag)(mg:Ak)(Ar:Heap)(CX:CXT)(Z:Shared->Hp->Prop)(k:Nat)(f:Addr)(fd:FuncData)(ps:An)(sp:Sp):Prop where
 len:∀ vs H Q E,sp vs H Q E->vs.length=ps.length
 run:∀ (A:Around) (Aq:List Env) (s:Shared) (H:Hp) (args:Args) (us:Am) (vs:List V) (Q:VK) (E:XK),Room k A->Env0 P w K mg Ar A Aq s H->BindsTo s fd args (ps.zip us)->Vals vs us->Z s H->sp vs H Q E->
  codeAny (model P w) A (.call (.ref f) args) (CR CX Aq P w H s Q E) s
theorem jSV {Z:Shared->Hp->Prop}{CX:CXT}{P:Program}{w:World}{K:W.Frag}{mg:Ak}{Ar:Heap}{k:Nat}{f:Addr}{name qual:Str}{params:Arguments}{body:List Stmt}{scope:Scope}{dV kV doc pm lI ct oc:Value}{an od:Option Addr}
  {osl:Array (Ap)}{N ps:An}{sp:Sp}(lk:K.lookup f=some ⟨oc,od, .func (PySem.W.fnOf name qual params body scope dV kV doc pm an lI ct),osl⟩) (hcd:PySem.W.codeIn K lI qual=true) (S:FnScope N ps scope)
  (len:∀ vs H Q E,sp vs H Q E->vs.length=ps.length)
  (hbody:∀ (A:Around) (Aq:List Env) (s:Shared) (H:Hp) (vs:List V) (Q:VK) (E:XK),Room k (A.deeper (envOfC qual scope s.heap.objs.size f lI))->Z s H->sp vs H Q E->
   ∃ t,PSs (cxOf CX P w K mg Ar N qual scope f lI A Aq s H E) body t/\t { nx:=fun _ H'=>Q .non H',rt:=Q} (yC N vs) H):
  FnZ P w K mg Ar CX Z (k+1) f (PySem.W.fnOf name qual params body scope dV kV doc pm an lI ct) ps sp:=by
 refine⟨len,fun A Aq s H args us vs Q E hr e0 hb r hz hsp=>?_⟩;have hl:=len _ _ _ _ hsp;have KX:K.In s.heap:=e0.mod.kin.keeps fun b o e=>(e0.bs b o e).1;have lim:s.heap.NoLimit:=e0.mod.nolimit.keeps fun b o e=>(e0.bs b o e).1;have hkind:∀ y∈ps.zip us,scope.names.lookup y.1=some .local\/(scope.names.lookup y.1=some .cell/\((cellsFrom (s.heap.objs.size+1) scope.names []).lookup y.1).isSome=true):=fun ⟨n,v⟩ hy=>by
  rcases S.par n (dN hy).1 with q | q
  ·exact .inl q
  ·exact .inr ⟨q,gA _ _ _ (.inl q)⟩
 refine codeAny_call_function hr.depth (KX _ _ lk) rfl S.co S.gen rfl (lw KX hcd) (hb _ _ _ _ ?_);refine iJ S.kind hkind fun env he s1 x=>?_;subst he;refine⟨lim.keeps x.toInCall.keep,codeAny_func ?_⟩;obtain⟨t,ht,hq⟩:=hbody A Aq s H vs Q E (hr.deeper _) hz hsp;have I:Inv (cxOf CX P w K mg Ar N qual scope f lI A Aq s H E) [] (yC N vs) H s1:=jI6 S hr.hd e0 hl r x;refine cm (ht [] s1 (yC N vs) H _ I hq) (fun fl s' hs=>?_) fun e s' hs=>hs;have fin:∀ {σ':St}{H':Hp}{v:V}{u:Value},Inv (cxOf CX P w K mg Ar N qual scope f lI A Aq s H E) [] σ' H' s'->RelV v u->Q v H'->CE Aq P w H s Q u s':=
  fun {σ' H' v u} J rv q=>⟨v,H',J.os,J.bare,J.Ar,J.hok,rv,q⟩
 cases fl with
 | ret u=>
  obtain⟨v,σ',H',J,rv,q⟩:=hs;exact fin J rv q
 | next=>
  obtain⟨σ',H',J,q⟩:=hs;exact fin (v:=V.non) (u:=Value.none) J rfl q
 | brk=>
  obtain⟨_,_,_,q⟩:=hs;exact False.elim q
 | cont=>
  obtain⟨_,_,_,q⟩:=hs;exact False.elim q
def ZSt (Z:Shared->Hp->Prop):Prop:=∀ (fs:List Addr) (s s':Shared) (H H':Hp),Un fs [] H H' s.heap s'.heap->Z s H->Z s' H'
abbrev ZT:Shared->Hp->Prop:=fun _ _=>True
theorem ZT.st:ZSt ZT:=fun _ _ _ _ _ _ _=>trivial
theorem FnZ.ok {P:Program}{w:World}{K:W.Frag}{mg:Ak}{Ar:Heap}{CX:CXT}{k:Nat}{f:Addr}{fd:FuncData}{ps:An}{sp:Sp}(F:FnZ P w K mg Ar CX ZT k f fd ps sp):FnOk P w K mg Ar CX k f fd ps sp:=
 ⟨F.len,fun A Aq s H args us vs Q E hr he hb hv hs=>F.run A Aq s H args us vs Q E hr he hb hv trivial hs⟩
section
variable {P:Program}{K:W.Frag}{mg:Ak}{Ar:Heap}
theorem Fun.okZ {Z:Shared->Hp->Prop}{x qual:Str}{st:Stmt}{f:Addr}{fd:FuncData}{N ps:An}{k:Nat}{sp:Sp}(F:Fun K x qual st f fd)(S:FnScope N ps (j7 st))(len:∀ vs H Q E,sp vs H Q E->vs.length=ps.length)
  (hbody:∀ (lI:Value) (A:Around) (Aq:List Env) (s:Shared) (H:Hp) (vs:List V) (Q:VK) (E:XK),Room k (A.deeper (envOfC qual (j7 st) s.heap.objs.size f lI))->Z s H->sp vs H Q E->
   ∃ t,PSs (cxOf CX0 P w K mg Ar N qual (j7 st) f lI A Aq s H E).nox (jC st) t/\t { nx:=fun _ H'=>Q .non H',rt:=Q} (yC N vs) H):FnZ P w K mg Ar CX0 Z (k+1) f fd ps sp:=by
 obtain⟨_,_,_,_,_,_,lI,_,_,rfl,lk,hcd⟩:=F.ex;refine jSV lk hcd S len fun A Aq s H vs Q E hr hz hsp=>?_;obtain⟨t,h,q⟩:=hbody lI A Aq s H vs Q E hr hz hsp;exact⟨t,h.nox,q⟩
end
structure Callee (P:Program)(w:World)(K:W.Frag)(mg:Ak)(Ar:Heap)(Z:Shared->Hp->Prop)(zh:Hp->Prop)(k:Nat)(a:Addr)(sp:Sp):Prop where
 fn:∀ (A:Around) (Aq:List Env) (s:Shared) (H:Hp),Env0 P w K mg Ar A Aq s H->zh H->PySem.W.FnAt a s.heap
 run:∀ (A:Around) (Aq:List Env) (s:Shared) (H:Hp) (us:Am) (vs:List V) (Q:VK) (E:XK),Room k A->Env0 P w K mg Ar A Aq s H->Z s H->zh H->Vals vs us->sp vs H Q E->codeAny (model P w) A (.call (.ref a) ⟨us,[]⟩) (CR CX0 Aq P w H s Q E) s
def jVN (a:Addr)(zh:Hp->Prop)(sp:Sp)(j:Nat)(t:TA):TE:=fun σ H Q=>σ[j]?=some (some (.ref a))/\t σ H fun vs H1=>zh H1/\sp vs H1 Q E0
section
variable {Z:Shared->Hp->Prop}{zh:Hp->Prop}{k:Nat}{a:Addr}{sp:Sp}{x:Str}{p pos:Pos}{e:Expr}{es:List Expr}{t:TA}{j:Nat}
theorem jL3 (F:Callee X.prog X.w X.K X.mg X.Ar Z zh k a sp)(hr:Room k X.A)(st:ZSt Z)(hz:Z X.s₀ X.H₀)(hex:X.ex=[])(hN:X.N[j]?=some x)(hv:Vis1 X x)
  (ha:JA X (e::es) t) (he:starEach (e::es) X.env=(false,eval e X.env)::starEach es X.env) (hdb:(x==("__debug__" :Str))=false:=by decide) (hcd:(x==("__classdict__" :Str))=false:=by decide) (hpl:(backTo pos (starEach es X.env)).any (·.1)=false:=by rfl):
  JE X (.Call (.Name x p) (e::es) [] pos) (jVN a zh sp j t):=by
 refine⟨fun lH s σ H Q I h=>?_⟩;obtain⟨hj,h⟩:=h;refine cQ (lJ (jHQ (pos:=p) hN hv.a hdb hcd lH s σ H (fun v H'=>v= .ref a/\H'=H) I ⟨_,hj,rfl,rfl⟩) fun v s1 ⟨v',H1,I1,r1,q1,q2⟩=>?_);subst q1 q2;cases (show v=Value.ref a from r1);have hX:=lJ (ha.h pos lH s1 σ H1 _ I1 h) fun us s2 (z:AP X lH σ _ us s2)=>show PySem.W.FnAt a s2.heap/\wpAny (model X.prog X.w) X.A (call (.ref a) ([]++us)) (EP X lH σ Q) X.xe s2 from by
  obtain⟨vs,H2,I2,r,h1,h2⟩:=z;have un:=I2.Ar;rw[hex] at un;refine⟨F.fn _ _ _ _ I2.env0 h1,iI (dS (F.run X.A X.stack s2 H2 us vs Q E0 hr I2.env0 (st _ _ _ _ _ un hz) h1 r h2) fun r s' hq=>?_)⟩;cases r with
  | error e=>exact hq.elim
  | ok fl=>
   cases fl with
   | ret u=>exact I2.after hq
   | next=>exact False.elim hq
   | brk=>exact False.elim hq
   | cont=>exact False.elim hq
 rw[he] at hX ⊢;exact ir (by show ((false || (backTo pos (starEach es X.env)).any (·.1)) || false)=false; rw[hpl]; rfl) jy (fm hX)
end
def nlP (q:Str)(args:Arguments)(body:Expr)(scope:Scope)(cl:Aj)(a c:Addr):Heap->Prop:=fun h=>∃ pm ctv,h.get? a=some (kla_obj "<lambda>" q args body scope cl pm c ctv)
theorem nlP.stay {q:Str}{args:Arguments}{body:Expr}{scope:Scope}{cl:Aj}{a c:Addr}(h1 h2:Heap)(p:nlP q args body scope cl a c h1)(k:∀ o,h1.get? a=some o->h2.get? a=some o):nlP q args body scope cl a c h2:=by
 obtain⟨m,t,e⟩:=p;exact⟨m,t,k _ e⟩
def tLam (q:Str)(args:Arguments)(body:Expr)(scope:Scope)(cl:Aj)(T:Addr)(pos:Pos):TE:=fun _ H Q=>TabOk H T pos q/\∀ a c H',H' a=some (.ext (nlP q args body scope cl a c))->H' c=some (.ext (ncP q c))->H' T=some (.tbl (onePs pos c))->ExtT T H H'->H a=none->Q (.ref a) H'
theorem jOP {X:Cx}{args:Arguments}{body:Expr}{scope:Scope}{pos:Pos}{c0 T:Addr}(hcode:X.env.code= .ref c0)(CH:PySem.W.CodeHd X.Ar c0 T)(hbm:qN X.Ar X.mg)
  (hfree:∀ y∈scope.names,y.2= .free->X.env.scope.names.lookup y.1=some .cell\/X.env.scope.names.lookup y.1=some .free) (hdf:defaultsOf args X.env=([],[])):
  JE X (.Lambda args body scope pos) (tLam (X.env.qual++ "<lambda>") args body scope (jR X.env.cells scope.names []) T pos):=by
 refine⟨fun lH s σ H Q I h=>?_⟩;obtain⟨tab,h⟩:=h;refine PySem.W.kla_eval hdf ?_;have hcl:closureFor scope X.env=pure (jR X.env.cells scope.names []):=jJV fun y hy hz=>I.ok.has y.1 (hfree y hy hz);have hg:s.heap.Ns mainGlobals X.mg:=I.mod.glob.keeps I.bk;have C:=CH.keeps I.bk;have gT:∀ {ps:Ao},H T=some (.tbl ps)->mainGlobals≠T:=fun hT z=>by
  obtain⟨o,es,ep,e,_⟩:=I.mod.glob;have:=(I.bs _ _ e).2;rw[z,hT] at this;cases this
 have bT:∀ {ps:Ao},H T=some (.tbl ps)->s.heap.BuiltinsAt X.mg T:=fun hT=>by
  obtain⟨bm,o,h1,h2,h3,h4,h5,h6,h7⟩:=hbm;refine⟨bm,o,h1,h2,h3,fun z=>?_,(I.bs _ _ h4).1,h5,h6,h7⟩;have:=(I.bs _ _ h4).2;rw[z,hT] at this;cases this
 rcases tab with hT | ⟨c,hT,hc⟩
 ·refine PySem.W.kla_makeFunction hcl I.ok.glob hg hcode C (I.hok T _ hT) trivial rfl (gT hT) (bT hT) fun c ctv h' tk k1 k2 k3 k4 k5=>?_;obtain⟨oc,hoc⟩:=ncP.is (q:=X.env.qual++ "<lambda>") k4;have I1:Inv X lH σ (upd (upd H T (.tbl (#[]++onePs pos c))) c (.ext (ncP (X.env.qual++ "<lambda>") c))) { s with heap:=h',toks:=tk} :=I.grown hT k1 k5 k2 k4 ⟨oc,hoc⟩ ncP.stay;have I2:=I1.laidX (t':=tk) (a:=h'.objs.size) (φ:=nlP (X.env.qual++ "<lambda>") args body scope (jR X.env.cells scope.names []) h'.objs.size c) (h':=h'.push (kla_obj "<lambda>" (X.env.qual++ "<lambda>") args body scope (jR X.env.cells scope.names []) ((X.mg "__name__").getD .none) c ctv)) (fun b u q=>ah _ q) (aA _) ⟨_,ctv,aF _ rfl⟩ ⟨_,aF _ rfl⟩ nlP.stay;have hcn:H c=none:=I.hok.fresh k2;have han:H h'.objs.size=none:=I.hok.fresh (bv k2 (cY k3));have ca:c≠h'.objs.size:=aW k3;have Tc:T≠c:=fun z=>by rw[z,hcn] at hT; cases hT
  have Ta:T≠h'.objs.size:=fun z=>by rw[z,han] at hT; cases hT
  refine⟨.ref _,_,I2,rfl,h _ c _ j5 (by rw[j9 ca,j5]) (by rw[j9 Ta,j9 Tc,j5,lA]) (fun b o e n=>?_) han⟩;rw[j9 (jA e han),j9 (jA e hcn),j9 n];exact e
 ·refine PySem.W.kla_makeFunctionHit (cv:= .ref c) hcl I.ok.glob hg hcode C (I.hok T _ hT) (by exact trivial) (by simp [codeAmong,rawInt]) (bT hT) fun ctv h' tk k1 k2=>?_;have I2:=I.laidX (t':=tk) (a:=h'.objs.size) (φ:=nlP (X.env.qual++ "<lambda>") args body scope (jR X.env.cells scope.names []) h'.objs.size c) (h':=h'.push (kla_obj "<lambda>" (X.env.qual++ "<lambda>") args body scope (jR X.env.cells scope.names []) ((X.mg "__name__").getD .none) c ctv)) (fun b u q=>ah _ (k1 b u q)) k2 ⟨_,ctv,aF _ rfl⟩ ⟨_,aF _ rfl⟩ nlP.stay;have han:H h'.objs.size=none:=I.hok.fresh k2;refine⟨.ref _,_,I2,rfl,h _ c _ j5 (by rw[j9 (jA hc han)]; exact hc) (by rw[j9 (jA hT han)]; exact hT) (fun b o e n=>?_) han⟩;rw[j9 (jA e han)];exact e
theorem jP9 {P:Program}{w:World}{K:W.Frag}{mg:Ak}{Ar:Heap}{k:Nat}{q:Str}{args:Arguments}{body:Expr}{scope:Scope}{N ps fs:An}{sp:Sp}{cl:Aj}{fv:List V}{a c:Addr}(S:NScope N ps fs scope)(len:∀ vs H Q E,sp vs H Q E->vs.length=ps.length)
  (hb:∀ pm ctv (us:Am),us.length=ps.length->bindArgs (PySem.W.kla_fn "<lambda>" q args body scope cl pm (.ref c) ctv) ⟨us,[]⟩=pure (ps.zip us))
  (hbody:∀ (A:Around) (Aq:List Env) (s:Shared) (H:Hp) (vs:List V) (Q:VK) (E:XK),Room k (A.deeper (envX q scope s.heap.objs.size a (.ref c) cl))->sp vs H Q E->
   ∃ t,PE (cxN P w K mg Ar N q scope a (.ref c) cl A Aq s H) body t/\t (jBQ N vs fv) H Q):
  Callee P w K mg Ar (fun s H=>ClOk cl s H/\FvOk fs fv cl s) (fun H=>H a=some (.ext (nlP q args body scope cl a c))/\H c=some (.ext (ncP q c))) (k+1) a sp:=by
 refine⟨fun A Aq s H e z=>?_,fun A Aq s H us vs Q E hr e0 hz zh r hsp=>?_⟩
 ·obtain⟨⟨m,t,g⟩,_,_⟩:=(show ObjOk P w H s.heap a (.ext _) from e.hok a _ z.1);exact⟨_,_,_,_,g⟩
 obtain⟨C,Fv⟩:=hz;obtain⟨⟨pm,ctv,ho⟩,_,_⟩:=(show ObjOk P w H s.heap a (.ext _) from e0.hok a _ zh.1);obtain⟨hc,_,_⟩:=(show ObjOk P w H s.heap c (.ext _) from e0.hok c _ zh.2);have hl:us.length=ps.length:=r.length.symm.trans (len _ _ _ _ hsp);have lim:s.heap.NoLimit:=e0.mod.nolimit.keeps fun b o e=>(e0.bs b o e).1;refine PySem.W.kla_callFunE hr.depth ho rfl S.co S.gen rfl hc ?_;rw[hb pm ctv us hl];refine aj (wpAny_newFunctionEnv S.nocell (fun y hy=>S.par y.1 (dN hy).1) (fun h₁ hns hsb=>⟨lim.fresh _ hsb,?_⟩) S.kind);show codeAny _ _ (.expr body (envX q scope s.heap.objs.size a (.ref c) cl)) _ _;have hk:∀ b o,s.heap.get? b=some o->h₁.get? b=some o:=fun b o e=>hsb.extBut b o (aW (aK e)) (ah _ e);obtain⟨t,ht,hq⟩:=hbody A Aq s H vs Q E (hr.deeper _) hsp;have I:Inv (cxN P w K mg Ar N q scope a (.ref c) cl A Aq s H) [] (jBQ N vs fv) H { s with heap:=h₁,toks:=s.toks+(ps.zip us).length} :=jFO S hr.hd e0 hl r C Fv hns hk;refine PySem.W.kla_codeExpr (cm (ht [] _ (jBQ N vs fv) H _ I hq) (fun u s' hs=>?_) fun e s' hs=>False.elim hs);obtain⟨v,H',J,rv,q⟩:=hs;exact⟨v,H',J.os,J.bare,J.Ar,J.hok,rv,q⟩
end L2
namespace TM
open PySem PyProof.Rows
class Od where
 kd:SortKind
 ky:Keyed->Int
 is:Keyed->Prop
abbrev key [Od]:Keyed->Int:=Od.ky
abbrev IsI [Od]:Keyed->Prop:=Od.is
class LtOk (prog:Program) (w:World) (A:Around) (s:Shared) [Od]:Prop where
 lt:∀ {E:Ah}{st:SortSt}{x y:Keyed}{Q:Option Bool->SortSt->Prop},kindOf st=Od.kd->IsI x->IsI y->Q (some (decide (key x<key y))) st->wpS (model prog w) A E s (lt' x y) Q st
variable [Od]
abbrev AllI (l:List Keyed):Prop:=∀ p∈l,IsI p
abbrev LE (x y:Keyed):Prop:=key x<=key y
def jC7:Bool->Keyed->Array Keyed->Nat->Nat->Nat->StateT SortSt Sem (Option Nat):=sortPriv% PySem.Builtin.gallop
def gallopB: { g:Bool->Keyed->Array Keyed->Nat->Nat->Nat->StateT SortSt Sem (Option Nat) // jC7=g} :=⟨fun _ _ _ _ _ _=>bind _ _,rfl⟩
theorem elP:(sortPriv% PySem.Builtin.elem)=elem':=rfl
theorem ltP:(sortPriv% PySem.Builtin.lt)=lt':=rfl
theorem ltAtP:(sortPriv% PySem.Builtin.ltAt)=ltAt':=rfl
theorem jJM:(sortPriv% PySem.Builtin.gallop)=jC7:=rfl
section
variable {prog:Program}{w:World}{A:Around}{E:Ah}{s:Shared}
theorem jH3 [LtOk prog w A s]{st:SortSt}{x y:Keyed}{Q:Option Bool->SortSt->Prop}(hk:kindOf st=Od.kd)(hx:IsI x)(hy:IsI y)(h:Q (some (decide (key x<key y))) st):wpS (model prog w) A E s (lt' x y) Q st:=LtOk.lt hk hx hy h
theorem jX {st:SortSt}{arr:Array Keyed}{i:Nat}{p:Keyed}{Q:Keyed->SortSt->Prop}(hi:arr[i]?=some p)(h:Q p st):wpS (model prog w) A E s (elem' arr i) Q st:=by
 rw[elem'_eq,hi];exact aQ h
end
section
variable {prog:Program}{w:World}{A:Around}{E:Ah}{s:Shared} [LtOk prog w A s]
theorem jB9 {left:Bool}{ky:Keyed}{arr:Array Keyed}{Ar n hint:Nat}{st:SortSt}{Q:Option Nat->SortSt->Prop}(hk:kindOf st=Od.kd)(hky:IsI ky)(hI:∀ i,i<n->∃ p,arr[Ar+i]?=some p/\IsI p)(hh:hint<n)(B:Nat->Bool)
  (hB:∀ i p,i<n->arr[Ar+i]?=some p->B i=(if left=true then decide (key p<key ky) else !decide (key ky<key p))) (mono:∀ i j,i<=j->j<n->B j=true->B i=true)
  (h:∀ k,k<=n->(∀ i,i<k->B i=true)->(∀ i,k<=i->i<n->B i=false)->Q (some k) st):wpS (model prog w) A E s (jC7 left ky arr Ar n hint) Q st:=by
 rw[gallopB.2]
 delta gallopB
 dsimp only;simp only [elP,ltP];have bey:∀ i (R:Option Bool->SortSt->Prop),i<n->R (some (B i)) st->wpS (model prog w) A E s (do
   let x <- elem' arr (Ar+i)
   if left=true then lt' x ky else do
    let r <- lt' ky x
    pure (r.map (!·))) R st:=fun i R hi hR=>by
  obtain⟨p,hp,ip⟩:=hI i hi;refine aO (jX hp ?_);have e:=hB i p hi hp;cases left with
  | true=>
   rw[aq rfl] at e ⊢;rw[e] at hR;exact jH3 hk ip hky hR
  | false=>
   rw[ak ay] at e ⊢;rw[e] at hR;exact aO (jH3 hk hky ip (aQ hR))
 have down:∀ i j,i<=j->j<n->B i=false->B j=false:=fun i j hij hj hi=>by
  cases hb:B j with
  | false=>rfl
  | true=>rw[mono i j hij hj hb] at hi; cases hi
 refine aO (bey hint _ hh ?_);dsimp only;cases hb:B hint with
 | true=>
  rw[aq rfl];refine aO (dF (ci (I:=fun x c st'=>st'=st/\∃ l o,c=(none,l,o)/\l<o/\x+1<=o/\hint+l<n/\B (hint+l)=true)
   (Q:=fun c st'=>st'=st/\∃ l o,c=(none,l,o)/\l<o/\hint+l<n/\B (hint+l)=true/\(n - hint<=o\/(hint+o<n/\B (hint+o)=false))) ?step ?fin ⟨rfl,0,1,rfl,Aa,Aa,Aa,by rw[jp]; exact hb⟩) ?post)
  case post=>
   rintro c st' ⟨rfl,l,o,rfl,a1,a2,a3,a4⟩;dsimp only;have p3:∀ i,i<hint+l+1->B i=true:=fun i hi=>mono i (hint+l) Aa a2 a3;have p4:∀ i,hint+min o (n - hint)<=i->i<n->B i=false:=fun i h1 h2=>by
    rcases a4 with a4 | ⟨a4,a5⟩
    ·lia
    ·exact down (hint+o) i Aa h2 a5
   refine aO (dF (ci (I:=fun x c st''=>st''=st'/\∃ lo hi,c=(none,lo,hi)/\lo<=hi/\hi<=n/\hi - lo<=n - x/\(∀ i,i<lo->B i=true)/\(∀ i,hi<=i->i<n->B i=false))
    (Q:=fun c st''=>st''=st'/\∃ k,c=(none,k,k)/\k<=n/\(∀ i,i<k->B i=true)/\(∀ i,k<=i->i<n->B i=false)) ?step2 ?fin2 ⟨rfl,hint+l+1,hint+min o (n - hint),rfl,Aa,Aa,Aa,p3,p4⟩) ?post2)
   case post2=>
    rintro c st'' ⟨rfl,k,rfl,k1,k2,k3⟩;exact aQ (h k k1 k2 k3)
   case fin2=>
    rintro c st'' ⟨rfl,lo,hi,rfl,a1,a2,a3,a4,a5⟩;have:lo=hi:=by lia
    subst this;exact⟨rfl,lo,rfl,a2,a4,a5⟩
   case step2=>
    rintro x c st'' _ hx ⟨rfl,lo,hi,rfl,a1,a2,a3,a4,a5⟩;dsimp only;by_cases hge:lo ≥ hi
    ·rw[aq hge];have:lo=hi:=by lia
     subst this;exact aQ ⟨rfl,lo,rfl,a2,a4,a5⟩
    ·rw[ak hge];refine aO (bey _ _ Aa ?_);dsimp only;cases hb:B (lo+(hi - lo) / 2) with
     | true=>
      rw[aq rfl];exact aQ ⟨rfl,lo+(hi - lo) / 2+1,hi,rfl,Aa,a2,Aa,fun i hi'=>mono i _ Aa Aa hb,a5⟩
     | false=>
      rw[ak ay];exact aQ ⟨rfl,lo,lo+(hi - lo) / 2,rfl,Aa,Aa,Aa,a4,fun i h1 h2=>down _ i h1 h2 hb⟩
  case fin=>
   rintro c st' ⟨rfl,l,o,rfl,a1,a2,a3,a4⟩;exact⟨rfl,l,o,rfl,a1,a3,a4, .inl Aa⟩
  case step=>
   rintro x c st' _ hx ⟨rfl,l,o,rfl,a1,a2,a3,a4⟩;dsimp only;by_cases hge:o ≥ n - hint
   ·rw[aq hge];exact aQ ⟨rfl,l,o,rfl,a1,a3,a4, .inl hge⟩
   ·rw[ak hge];refine aO (bey _ _ Aa ?_);dsimp only;cases hb2:B (hint+o) with
    | true=>
     rw[ak Ac];exact aQ ⟨rfl,o,2*o+1,rfl,Aa,Aa,Aa,hb2⟩
    | false=>
     rw[aq Ac];exact aQ ⟨rfl,l,o,rfl,a1,a3,a4, .inr ⟨Aa,hb2⟩⟩
 | false=>
  rw[ak ay];refine aO (dF (ci (I:=fun x c st'=>st'=st/\∃ l o,c=(none,l,o)/\l<o/\x+1<=o/\l<=hint/\B (hint - l)=false)
   (Q:=fun c st'=>st'=st/\∃ l o,c=(none,l,o)/\l<o/\l<=hint/\B (hint - l)=false/\(hint+1<=o\/(o<=hint/\B (hint - o)=true))) ?step ?fin ⟨rfl,0,1,rfl,Aa,Aa,Aa,by rw[Nat.sub_zero]; exact hb⟩) ?post)
  case post=>
   rintro c st' ⟨rfl,l,o,rfl,a1,a2,a3,a4⟩;dsimp only;have p3:∀ i,i<hint+1 - min o (hint+1)->B i=true:=fun i hi=>by
    rcases a4 with a4 | ⟨a4,a5⟩
    ·lia
    ·exact mono i (hint - o) Aa Aa a5
   have p4:∀ i,hint - l<=i->i<n->B i=false:=fun i h1 h2=>down (hint - l) i Aa h2 a3;refine aO (dF (ci (I:=fun x c st''=>st''=st'/\∃ lo hi,c=(none,lo,hi)/\lo<=hi/\hi<=n/\hi - lo<=n - x/\(∀ i,i<lo->B i=true)/\(∀ i,hi<=i->i<n->B i=false))
    (Q:=fun c st''=>st''=st'/\∃ k,c=(none,k,k)/\k<=n/\(∀ i,i<k->B i=true)/\(∀ i,k<=i->i<n->B i=false)) ?step2 ?fin2 ⟨rfl,hint+1 - min o (hint+1),hint - l,rfl,Aa,Aa,Aa,p3,p4⟩) ?post2)
   case post2=>
    rintro c st'' ⟨rfl,k,rfl,k1,k2,k3⟩;exact aQ (h k k1 k2 k3)
   case fin2=>
    rintro c st'' ⟨rfl,lo,hi,rfl,a1,a2,a3,a4,a5⟩;have:lo=hi:=by lia
    subst this;exact⟨rfl,lo,rfl,a2,a4,a5⟩
   case step2=>
    rintro x c st'' _ hx ⟨rfl,lo,hi,rfl,a1,a2,a3,a4,a5⟩;dsimp only;by_cases hge:lo ≥ hi
    ·rw[aq hge];have:lo=hi:=by lia
     subst this;exact aQ ⟨rfl,lo,rfl,a2,a4,a5⟩
    ·rw[ak hge];refine aO (bey _ _ Aa ?_);dsimp only;cases hb:B (lo+(hi - lo) / 2) with
     | true=>
      rw[aq rfl];exact aQ ⟨rfl,lo+(hi - lo) / 2+1,hi,rfl,Aa,a2,Aa,fun i hi'=>mono i _ Aa Aa hb,a5⟩
     | false=>
      rw[ak ay];exact aQ ⟨rfl,lo,lo+(hi - lo) / 2,rfl,Aa,Aa,Aa,a4,fun i h1 h2=>down _ i h1 h2 hb⟩
  case fin=>
   rintro c st' ⟨rfl,l,o,rfl,a1,a2,a3,a4⟩;exact⟨rfl,l,o,rfl,a1,a3,a4, .inl Aa⟩
  case step=>
   rintro x c st' _ hx ⟨rfl,l,o,rfl,a1,a2,a3,a4⟩;dsimp only;by_cases hge:o ≥ hint+1
   ·rw[aq hge];exact aQ ⟨rfl,l,o,rfl,a1,a3,a4, .inl hge⟩
   ·rw[ak hge];refine aO (bey _ _ Aa ?_);dsimp only;cases hb2:B (hint - o) with
    | true=>
     rw[aq rfl];exact aQ ⟨rfl,l,o,rfl,a1,a3,a4, .inr ⟨Aa,hb2⟩⟩
    | false=>
     rw[ak ay];exact aQ ⟨rfl,o,2*o+1,rfl,Aa,Aa,Aa,hb2⟩
end
abbrev jHH (st:SortSt)(g:Nat):SortSt:=SortSt.mk' (kindOf st) (arrOf st) (pendingOf st) g (failedOf st)
def jCC:Nat->StateT SortSt Sem Unit:=sortPriv% PySem.Builtin.setMinGallop
theorem jN5:(sortPriv% PySem.Builtin.setMinGallop)=jCC:=rfl
theorem jA3 (g:Nat):jCC g=modify fun s=>jHH s g:=rfl
def jGD:Array Keyed->Array Keyed->StateT SortSt Sem (Array Keyed):=sortPriv% PySem.Builtin.mergeLo
def mergeLoB: { g:Array Keyed->Array Keyed->StateT SortSt Sem (Array Keyed) // jGD=g} :=⟨fun _ _=>bind _ _,rfl⟩
theorem jQX:(sortPriv% PySem.Builtin.mergeLo)=jGD:=rfl
def jGE:Array Keyed->Array Keyed->StateT SortSt Sem (Array Keyed):=sortPriv% PySem.Builtin.mergeHi
def mergeHiB: { g:Array Keyed->Array Keyed->StateT SortSt Sem (Array Keyed) // jGE=g} :=⟨fun _ _=>bind _ _,rfl⟩
theorem jQY:(sortPriv% PySem.Builtin.mergeHi)=jGE:=rfl
abbrev Srt (l:List Keyed):Prop:=l.Pairwise LE
structure ML (a b out:List Keyed)(ia ib:Nat):Prop where
 perm:(out++(a.drop ia++b.drop ib)).Perm (a++b)
 srt:Srt out
 le:∀ x∈out,∀ y∈a.drop ia++b.drop ib,LE x y
theorem Srt.drop {l:List Keyed}(h:Srt l)(i:Nat):Srt (l.drop i):=h.sublist (iS _ _)
theorem Srt.take {l:List Keyed}(h:Srt l)(i:Nat):Srt (l.take i):=h.sublist (eC _ _)
theorem yY {l m:List Keyed}(h1:Srt l)(h2:Srt m)(h:∀ x∈l,∀ y∈m,LE x y):Srt (l++m):=cg.mpr ⟨h1,h2,h⟩
theorem ML.takeA {a b out:List Keyed}{ia ib:Nat}(h:ML a b out ia ib)(sa:Srt a)(k:Nat)(hc:∀ x∈(a.drop ia).take k,∀ y∈b.drop ib,LE x y):ML a b (out++(a.drop ia).take k) (ia+k) ib:=by
 have e:a.drop (ia+k)=(a.drop ia).drop k:=by rw[iM]
 refine⟨?_,yY h.srt ((sa.drop ia).take k) fun x hx y hy=>h.le x hx y (aY _ (bV hy)),fun x hx y hy=>?_⟩
 ·refine List.Perm.trans ?_ h.perm;rw[e];refine jz ?_;rw[aZ,<- aZ ((a.drop ia).take k),bM]
 ·rcases aJ.mp hx with q | q
  ·refine h.le x q y ?_;rcases aJ.mp hy with z | z
   ·rw[e] at z;exact aY _ (cy z)
   ·exact aB _ z
  ·rcases aJ.mp hy with z | z
   ·rw[e] at z;have s:=sa.drop ia;rw[<- bM k (a.drop ia)] at s;exact(cg.mp s).2.2 x q y z
   ·exact hc x q y z
theorem ML.takeB {a b out:List Keyed}{ia ib:Nat}(h:ML a b out ia ib)(sb:Srt b)(k:Nat)(hc:∀ x∈(b.drop ib).take k,∀ y∈a.drop ia,LE x y):ML a b (out++(b.drop ib).take k) ia (ib+k):=by
 have e:b.drop (ib+k)=(b.drop ib).drop k:=by rw[iM]
 refine⟨?_,yY h.srt ((sb.drop ib).take k) fun x hx y hy=>h.le x hx y (aB _ (bV hy)),fun x hx y hy=>?_⟩
 ·refine List.Perm.trans ?_ h.perm;rw[e,aZ];refine dq out ?_;refine d0.trans ?_;rw[aZ];refine dq _ ?_;refine d0.trans ?_;rw[bM]
 ·rcases aJ.mp hx with q | q
  ·refine h.le x q y ?_;rcases aJ.mp hy with z | z
   ·exact aY _ z
   ·rw[e] at z;exact aB _ (cy z)
  ·rcases aJ.mp hy with z | z
   ·exact hc x q y z
   ·rw[e] at z;have s:=sb.drop ib;rw[<- bM k (b.drop ib)] at s;exact(cg.mp s).2.2 x q y z
theorem ML.outA {a b out:List Keyed}{ia ib:Nat}(h:ML a b out ia ib)(sa:Srt a)(hb:b.length<=ib):(out++a.drop ia++b.drop ib).Perm (a++b)/\Srt (out++a.drop ia++b.drop ib):=by
 refine⟨by rw[aZ]; exact h.perm,?_⟩;rw[jq hb,bf];exact yY h.srt (sa.drop ia) fun x hx y hy=>h.le x hx y (aY _ hy)
theorem ML.outB {a b out:List Keyed}{ia ib:Nat}(h:ML a b out ia ib)(sb:Srt b)(ha:a.length<=ia):(out++a.drop ia++b.drop ib).Perm (a++b)/\Srt (out++a.drop ia++b.drop ib):=by
 refine⟨by rw[aZ]; exact h.perm,?_⟩;rw[jq ha,bf];exact yY h.srt (sb.drop ib) fun x hx y hy=>h.le x hx y (aB _ hy)
theorem ML.last {a b out:List Keyed}{ia ib:Nat}(h:ML a b out ia ib)(sa:Srt a)(sb:Srt b)(ha:∀ x∈b,∀ y∈a.drop ia,LE x y):(out++b.drop ib++a.drop ia).Perm (a++b)/\Srt (out++b.drop ib++a.drop ia):=by
 refine⟨?_,?_⟩
 ·rw[aZ];exact(dq out d0).trans h.perm
 ·refine yY (yY h.srt (sb.drop ib) fun x hx y hy=>h.le x hx y (aB _ hy)) (sa.drop ia) fun x hx y hy=>?_;rcases aJ.mp hx with q | q
  ·exact h.le x q y (aY _ hy)
  ·exact ha x (cy q) y hy
theorem jAC {l:List Keyed}{i:Nat}{p:Keyed}(h:l[i]?=some p):(l.drop i).take 1=[p]:=by
 obtain⟨hi,e⟩:=ao.mp h;rw[<- List.getElem_cons_drop (h:=hi),e];rfl
theorem jFE {l:List Keyed}(h:Srt l){i j:Nat}{x y:Keyed}(hx:l[i]?=some x)(hy:l[j]?=some y)(hij:i<=j):LE x y:=by
 obtain⟨h1,rfl⟩:=ao.mp hx;obtain⟨h2,rfl⟩:=ao.mp hy;by_cases e:i=j
 ·subst e; exact cX _
 ·exact bQ.mp h i j h1 h2 Aa
theorem jDY {l:List Keyed}{i:Nat}{y:Keyed}(h:y∈l.drop i):∃ j,i<=j/\l[j]?=some y:=by
 obtain⟨k,hk⟩:=bh h;rw[iN] at hk;exact⟨i+k,Aa,hk⟩
theorem jA4 {l:List Keyed}{i k:Nat}{y:Keyed}(h:y∈(l.drop i).take k):∃ j,i<=j/\j<i+k/\l[j]?=some y:=by
 obtain⟨n,hn⟩:=bh h;have hlt:n<k:=by
  have:=(ao.mp hn).1;rw[bO] at this;lia
 rw[cD hlt,iN] at hn;exact⟨i+n,Aa,Aa,hn⟩
theorem jD8 {a:Array Keyed}{i:Nat} :(a.extract i a.size).toList=a.toList.drop i:=by
 rw[fo,eg];exact b9 (by rw[gW,aP]; exact aA _)
theorem ext_k {a:Array Keyed}{i k:Nat} :(a.extract i (i+k)).toList=(a.toList.drop i).take k:=by
 rw[fo,eg,cq]
structure Two (a b:Array Keyed):Prop where
 ia:AllI a.toList
 ib:AllI b.toList
 sa:Srt a.toList
 sb:Srt b.toList
 na:0<a.size
 nb:0<b.size
 last:∀ x∈b.toList,∀ y,a.toList[a.size - 1]?=some y->key x<key y
 first:∀ y∈a.toList,∀ p,b.toList[0]?=some p->key p<key y
def yR (a b r:Array Keyed):Prop:=r.toList.Perm (a.toList++b.toList)/\Srt r.toList
structure SG (st st':SortSt):Prop where
 k:kindOf st'=kindOf st
 a:arrOf st'=arrOf st
 p:pendingOf st'=pendingOf st
 f:failedOf st'=failedOf st
theorem SG.refl (st:SortSt):SG st st:=⟨rfl,rfl,rfl,rfl⟩
theorem SG.gal {st st':SortSt}(h:SG st st')(g:Nat):SG st (jHH st' g):=⟨h.k,h.a,h.p,h.f⟩
abbrev MA (a b out:Array Keyed)(ia ib:Nat):Prop:=ML a.toList b.toList out.toList ia ib
variable {a b:Array Keyed}{i j:Nat}
section
variable {out:Array Keyed}{k:Nat}
theorem at_list {p:Keyed} :a[i]?=some p↔a.toList[i]?=some p:=by rw[bY]
theorem qJ (h:i<a.size):∃ p,a[i]?=some p/\a.toList[i]?=some p:=⟨a[i],by simp [h],by simp [h]⟩
theorem MA.doneA (T:Two a b)(h:MA a b out i j)(hj:b.size<=j):yR a b (out++a.extract i a.size++b.extract j b.size):=by
 unfold yR;rw[bG,bG,jD8,jD8];exact ML.outA h T.sa (by rw[aP]; exact hj)
theorem MA.doneB (T:Two a b)(h:MA a b out i j)(hi:a.size<=i):yR a b (out++a.extract i a.size++b.extract j b.size):=by
 unfold yR;rw[bG,bG,jD8,jD8];exact ML.outB h T.sb (by rw[aP]; exact hi)
theorem MA.doneL (T:Two a b)(h:MA a b out i j)(hi:i+1=a.size):yR a b (out++b.extract j b.size++a.extract i a.size):=by
 unfold yR;rw[bG,bG,jD8,jD8];refine ML.last h T.sa T.sb fun x hx y hy=>?_;obtain⟨n,h1,h2⟩:=jDY hy;have:n=a.size - 1:=by
  have:=(ao.mp h2).1;rw[aP] at this;lia
 subst this;exact cM (T.last x hx y h2)
theorem MA.pushB (T:Two a b)(h:MA a b out i j){p q:Keyed}(hp:b[j]?=some p)(hc:∀ y∈a.toList.drop i,LE p y):MA a b (out.push p) i (j+1):=by
 have:=ML.takeB h T.sb 1 (by
  rw[jAC (at_list.mp hp)];intro x hx;rw[aN.mp hx];exact hc)
 rw[jAC (at_list.mp hp)] at this;unfold MA;rw[eD];exact this
theorem MA.pushA (T:Two a b)(h:MA a b out i j){p q:Keyed}(hp:a[i]?=some p)(hc:∀ y∈b.toList.drop j,LE p y):MA a b (out.push p) (i+1) j:=by
 have:=ML.takeA h T.sa 1 (by
  rw[jAC (at_list.mp hp)];intro x hx;rw[aN.mp hx];exact hc)
 rw[jAC (at_list.mp hp)] at this;unfold MA;rw[eD];exact this
theorem MA.appA (T:Two a b)(h:MA a b out i j)(k:Nat)(hc:∀ n x,i<=n->n<i+k->a.toList[n]?=some x->∀ y∈b.toList.drop j,LE x y):MA a b (out++a.extract i (i+k)) (i+k) j:=by
 unfold MA;rw[bG,ext_k];exact ML.takeA h T.sa k fun x hx y hy=>by
  obtain⟨n,h1,h2,h3⟩:=jA4 hx;exact hc n x h1 h2 h3 y hy
theorem MA.appB (T:Two a b)(h:MA a b out i j)(k:Nat)(hc:∀ n x,j<=n->n<j+k->b.toList[n]?=some x->∀ y∈a.toList.drop i,LE x y):MA a b (out++b.extract j (j+k)) i (j+k):=by
 unfold MA;rw[bG,ext_k];exact ML.takeB h T.sb k fun x hx y hy=>by
  obtain⟨n,h1,h2,h3⟩:=jA4 hx;exact hc n x h1 h2 h3 y hy
theorem Two.atA (T:Two a b)(h:i<a.size):∃ p,a[i]?=some p/\IsI p:=by
 obtain⟨p,h1,h2⟩:=qJ h;exact⟨p,h1,T.ia p (aH h2)⟩
theorem Two.atB (T:Two a b)(h:i<b.size):∃ p,b[i]?=some p/\IsI p:=by
 obtain⟨p,h1,h2⟩:=qJ h;exact⟨p,h1,T.ib p (aH h2)⟩
theorem jGK (s:Srt a.toList){p q:Keyed}(hp:a[i]?=some p)(h:LE q p):∀ y∈a.toList.drop i,LE q y:=fun y hy=>by
 obtain⟨n,h1,h2⟩:=jDY hy;exact de h (jFE s (at_list.mp hp) h2 h1)
end
section
variable {prog:Program}{w:World}{A:Around}{E:Ah}{s:Shared} [LtOk prog w A s]
theorem jUX {st:SortSt}{a:Array Keyed}{i:Nat}{p:Keyed}{Q:Option Nat->SortSt->Prop}(hk:kindOf st=Od.kd)(hp:IsI p)(ha:AllI a.toList)(sa:Srt a.toList)(hi:i<a.size)
  (h:∀ k,i+k<=a.size->(∀ n x,i<=n->n<i+k->a.toList[n]?=some x->LE x p)->(∀ n x,i+k<=n->a.toList[n]?=some x->key p<key x)->Q (some k) st):
  wpS (model prog w) A E s (jC7 false p a i (a.size - i) 0) Q st:=by
 refine jB9 hk hp (fun n hn=>?_) Aa (fun n=>match a[i+n]? with | some x=>!decide (key p<key x) | none=>false) (fun n x hn hx=>?_) (fun n m hnm hm hb=>?_) fun k hk1 hk2 hk3=>h k Aa (fun n x h1 h2 h3=>?_) fun n x h1 h2=>?_
 ·obtain⟨q,q1,q2⟩:=qJ (a:=a) (i:=i+n) Aa;exact⟨q,q1,ha q (aH q2)⟩
 ·rw[hx,ak ay]
 ·obtain⟨x,x1,x2⟩:=qJ (a:=a) (i:=i+n) Aa;obtain⟨y,y1,y2⟩:=qJ (a:=a) (i:=i+m) Aa;rw[y1] at hb;rw[x1];have:=jFE sa x2 y2 Aa;have hb:¬ key p<key y:=by simpa using hb
  show (!decide (key p<key x))=true;rw[cH,eT];have:key x<=key y:=this;lia
 ·have:=hk2 (n - i) Aa;rw[show i+(n - i)=n by lia,at_list.mpr h3] at this;have this:¬ key p<key x:=by simpa using this
  show key x<=key p;lia
 ·have hn:=(ao.mp h2).1;rw[aP] at hn;have:=hk3 (n - i) Aa Aa;rw[show i+(n - i)=n by lia,at_list.mpr h2] at this;simpa using this
theorem jUY {st:SortSt}{a:Array Keyed}{i:Nat}{p:Keyed}{Q:Option Nat->SortSt->Prop}(hk:kindOf st=Od.kd)(hp:IsI p)(ha:AllI a.toList)(sa:Srt a.toList)(hi:i<a.size)
  (h:∀ k,i+k<=a.size->(∀ n x,i<=n->n<i+k->a.toList[n]?=some x->key x<key p)->(∀ n x,i+k<=n->a.toList[n]?=some x->LE p x)->Q (some k) st):
  wpS (model prog w) A E s (jC7 true p a i (a.size - i) 0) Q st:=by
 refine jB9 hk hp (fun n hn=>?_) Aa (fun n=>match a[i+n]? with | some x=>decide (key x<key p) | none=>false) (fun n x hn hx=>?_) (fun n m hnm hm hb=>?_) fun k hk1 hk2 hk3=>h k Aa (fun n x h1 h2 h3=>?_) fun n x h1 h2=>?_
 ·obtain⟨q,q1,q2⟩:=qJ (a:=a) (i:=i+n) Aa;exact⟨q,q1,ha q (aH q2)⟩
 ·rw[hx,aq rfl]
 ·obtain⟨x,x1,x2⟩:=qJ (a:=a) (i:=i+n) Aa;obtain⟨y,y1,y2⟩:=qJ (a:=a) (i:=i+m) Aa;rw[y1] at hb;rw[x1];have:=jFE sa x2 y2 Aa;have hb:key y<key p:=aG hb;show decide (key x<key p)=true;rw[br];have:key x<=key y:=this;lia
 ·have:=hk2 (n - i) Aa;rw[show i+(n - i)=n by lia,at_list.mpr h3] at this;exact aG this
 ·have hn:=(ao.mp h2).1;rw[aP] at hn;have:=hk3 (n - i) Aa Aa;rw[show i+(n - i)=n by lia,at_list.mpr h2] at this;have this:¬ key x<key p:=gu this;show key p<=key x;lia
end
section
variable {prog:Program}{w:World}{A:Around}{E:Ah}{s:Shared} [LtOk prog w A s]
theorem bp {a b:Nat}(h:a=b):(a==b)=true:=fq.mpr h
theorem bn {a b:Nat}(h:¬ a=b):¬ (a==b)=true:=fun z=>h (fq.mp z)
structure LoI (a b:Array Keyed)(st:SortSt)(out:Array Keyed)(ia ib:Nat)(st':SortSt):Prop where
 m:MA a b out ia ib
 i:ia+1<a.size
 j:ib<b.size
 s:SG st st'
theorem jIT {a b:Array Keyed}{st:SortSt}{Q:Array Keyed->SortSt->Prop}(hk:kindOf st=Od.kd)(T:Two a b)(h:∀ r st',yR a b r->SG st st'->Q r st'):wpS (model prog w) A E s (jGD a b) Q st:=by
 rw[mergeLoB.2]
 delta mergeLoB
 dsimp only;simp only [elP,ltP,jJM,jN5];have na:=T.na;have nb:=T.nb;refine aO (h9 (db ⟨rfl,?_⟩));obtain⟨p0,hp0,ip0⟩:=T.atB nb;refine aO (jX hp0 ?_);have M0:MA a b #[p0] 0 1:=by
  have z:MA a b #[] 0 0:=⟨by show (([]:List Keyed)++(a.toList.drop 0++b.toList.drop 0)).Perm _; rw[im,kx,kx],List.Pairwise.nil,fun x hx=>by cases hx⟩;have:=MA.pushB (q:=p0) T z hp0 fun y hy=>cM (T.first y (cy hy) p0 (at_list.mp hp0));exact this
 by_cases e1:1=b.size
 ·rw[aq (bp e1)];exact aQ (h _ _ (MA.doneA T M0 Aa) (SG.refl _))
 rw[ak (bn e1)];by_cases e2:0+1=a.size
 ·rw[aq (bp e2)];exact aQ (h _ _ (MA.doneL T M0 e2) (SG.refl _))
 rw[ak (bn e2)];refine aO (gI ?_);refine aO (dF (ci (I:=fun x c st'=>∃ out ia ib mg,c=(none,out,ia,ib,mg)/\LoI a b st out ia ib st'/\x+1<=ia+ib)
  (Q:=fun c st'=>∃ r,c.1=some r/\yR a b r/\SG st st') ?step ?fin ⟨_,0,1,_,rfl,⟨M0,Aa,Aa,SG.refl _⟩,Aa⟩) ?post)
 case post=>
  rintro ⟨r0,c⟩ st' ⟨r,hr,d,g⟩;have hr:r0=some r:=hr;subst hr;exact aQ (h r st' d g)
 case fin=>
  rintro c st' ⟨out,ia,ib,mg,rfl,I0,hx⟩;have:=I0.i;have:=I0.j;lia
 case step=>
  rintro x c st1 _ hx ⟨out,ia,ib,mg,rfl,I0,hxx⟩;dsimp only;refine aO (dF (ci (I:=fun y c st'=>∃ out' ia' ib' ac bc,c=(none,out',ia',ib',ac,bc)/\LoI a b st out' ia' ib' st'/\ia+ib<=ia'+ib'/\(y=0\/ia+ib<ia'+ib'))
   (Q:=fun c st'=>(∃ r,c.1=some r/\yR a b r/\SG st st')\/∃ out' ia' ib' ac bc,c=(none,out',ia',ib',ac,bc)/\LoI a b st out' ia' ib' st'/\ia+ib<ia'+ib') ?step1 ?fin1 ⟨_,_,_,_,_,rfl,I0,Aa, .inl rfl⟩) ?post1)
  case fin1=>
   rintro c st' ⟨out',ia',ib',ac,bc,rfl,I1,h1,h2⟩;exact .inr ⟨_,_,_,_,_,rfl,I1,Aa⟩
  case step1=>
   rintro y c st2 _ hy ⟨out',ia',ib',ac,bc,rfl,I1,h1,h2⟩;dsimp only;obtain⟨pb,hpb,ipb⟩:=T.atB I1.j;obtain⟨pa,hpa,ipa⟩:=T.atA (i:=ia') (by have:=I1.i; lia);have ii:=I1.i;have jj:=I1.j;refine aO (jX hpb (aO (jX hpa (aO (jH3 (I1.s.k.trans hk) ipb ipa ?_)))));dsimp only;by_cases hlt:key pb<key pa
   ·rw[ar hlt,aq rfl];refine aO (jX hpb ?_);have M2:=MA.pushB (q:=pb) T I1.m hpb (jGK T.sa hpa (cM hlt));by_cases f1:ib'+1=b.size
    ·rw[aq (bp f1)];exact aQ (.inl ⟨_,rfl,MA.doneA T M2 Aa,I1.s⟩)
    rw[ak (bn f1)];split
    ·exact aQ (.inr ⟨_,_,_,_,_,rfl,⟨M2,ii,Aa,I1.s⟩,Aa⟩)
    ·exact aQ ⟨_,_,_,_,_,rfl,⟨M2,ii,Aa,I1.s⟩,Aa, .inr Aa⟩
   ·rw[aM hlt,ak ay];refine aO (jX hpa ?_);have M2:=MA.pushA (q:=pa) T I1.m hpa (jGK T.sb hpb (by show key pa<=key pb; lia));by_cases f1:ia'+1+1=a.size
    ·rw[aq (bp f1)];exact aQ (.inl ⟨_,rfl,MA.doneL T M2 f1,I1.s⟩)
    rw[ak (bn f1)];split
    ·exact aQ (.inr ⟨_,_,_,_,_,rfl,⟨M2,Aa,jj,I1.s⟩,Aa⟩)
    ·exact aQ ⟨_,_,_,_,_,rfl,⟨M2,Aa,jj,I1.s⟩,Aa, .inr Aa⟩
  case post1=>
   rintro c st2 (⟨r,hr,d,g⟩ | ⟨out1,ia1,ib1,ac,bc,rfl,I1,h1⟩)
   ·obtain⟨r0,c⟩:=c;have hr:r0=some r:=hr;subst hr;exact aQ ⟨r,rfl,d,g⟩
   dsimp only;refine aO (h9 (db ⟨rfl,?_⟩));refine aO (dF (ci (I:=fun y c st'=>∃ out' ia' ib' mg' ac bc,c=(none,out',ia',ib',mg',ac,bc)/\LoI a b st out' ia' ib' st'/\ia+ib<ia'+ib')
    (Q:=fun c st'=>(∃ r,c.1=some r/\yR a b r/\SG st st')\/∃ out' ia' ib' mg' ac bc,c=(none,out',ia',ib',mg',ac,bc)/\LoI a b st out' ia' ib' st'/\ia+ib<ia'+ib') ?step2 ?fin2 ⟨_,_,_,_,_,_,rfl,I1,h1⟩) ?post2)
   case fin2=>
    rintro c st' ⟨out',ia',ib',mg',ac,bc,rfl,I2,h2⟩;exact .inr ⟨_,_,_,_,_,_,rfl,I2,h2⟩
   case post2=>
    rintro c st3 (⟨r,hr,d,g⟩ | ⟨out2,ia2,ib2,mg2,ac,bc,rfl,I2,h2⟩)
    ·obtain⟨r0,c⟩:=c;have hr:r0=some r:=hr;subst hr;exact aQ ⟨r,rfl,d,g⟩
    dsimp only;rw[jA3];exact aO (eY (aQ ⟨_,_,_,_,rfl,⟨I2.m,I2.i,I2.j,I2.s.gal _⟩,Aa⟩))
   case step2=>
    clear I0 I1;rintro y c st2 _ hy ⟨out,ia,ib,mg',ac,bc,rfl,I0,h2⟩;dsimp only;obtain⟨pb,hpb,ipb⟩:=T.atB I0.j;by_cases hg:mg'>1
    case' pos=>
     rw[aq hg];generalize hgg:mg' - 1=gg
    case' neg=>
     rw[ak hg];generalize hgg:mg'=gg
    all_goals
     rw[jA3];refine aO (eY ?_);have G1:=I0.s.gal gg;refine aO (jX hpb ?_);refine aO (jUX (G1.k.trans hk) ipb T.ia T.sa (by have:=I0.i; lia) fun k1 g1 g2 g3=>?_);dsimp only;have M1:=MA.appA T I0.m k1 (fun n x h1 h2 h3=>jGK T.sb hpb (g2 n x h1 h2 h3));have hgt:∀ y∈a.toList.drop (ia+k1),LE pb y:=fun y hy=>by
      obtain⟨n,h1,h2⟩:=jDY hy;exact cM (g3 n y h1 h2)
     have jb:=I0.j;by_cases e0:k1>0
     case' pos=>
      rw[aq e0];by_cases f1:ia+k1+1=a.size
      ·rw[aq (bp f1)];exact aQ (.inl ⟨_,rfl,MA.doneL T M1 f1,G1⟩)
      rw[ak (bn f1)];by_cases f2:ia+k1=a.size
      ·rw[aq (bp f2)];exact aQ (.inl ⟨_,rfl,MA.doneB T M1 Aa,G1⟩)
      rw[ak (bn f2)];obtain⟨pa,hpa,ipa⟩:=T.atA (i:=ia+k1) Aa;have hz:ia+k1<a.size:=Aa;generalize hiz:ia+k1=iz at*
     case' neg=>
      rw[ak e0];have e0':k1=0:=Aa;subst e0';have M1:=I0.m;obtain⟨pa,hpa,ipa⟩:=T.atA (i:=ia) (by have:=I0.i; lia);have hz:ia<a.size:=by have:=I0.i; lia
      rw[jp] at hgt;have hia:=I0.i;generalize hiz:ia=iz at*
     all_goals
      refine aO (jX hpb ?_);have M2:=MA.pushB (q:=pb) T M1 hpb hgt;by_cases e1:ib+1=b.size
      ·rw[aq (bp e1)];exact aQ (.inl ⟨_,rfl,MA.doneA T M2 Aa,G1⟩)
      rw[ak (bn e1)];refine aO (jX hpa ?_);refine aO (jUY (G1.k.trans hk) ipa T.ib T.sb Aa fun k2 l1 l2 l3=>?_);dsimp only;have M3:=MA.appB T M2 k2 (fun n x h1 h2 h3=>jGK T.sa hpa (cM (l2 n x h1 h2 h3)));have fin3:∀ y∈b.toList.drop (ib+1+k2),LE pa y:=fun y hy=>by
       obtain⟨n,h1,h2⟩:=jDY hy;exact l3 n y h1 h2
      by_cases e2:k2>0
      ·rw[aq e2];by_cases e3:ib+1+k2=b.size
       ·rw[aq (bp e3)];exact aQ (.inl ⟨_,rfl,MA.doneA T M3 Aa,G1⟩)
       rw[ak (bn e3)];refine aO (jX hpa ?_);have M4:=MA.pushA (q:=pa) T M3 hpa fin3;by_cases e4:iz+1+1=a.size
       ·rw[aq (bp e4)];exact aQ (.inl ⟨_,rfl,MA.doneL T M4 e4,G1⟩)
       rw[ak (bn e4)];split
       ·exact aQ (.inr ⟨_,_,_,_,_,_,rfl,⟨M4,Aa,Aa,G1⟩,Aa⟩)
       ·exact aQ ⟨_,_,_,_,_,_,rfl,⟨M4,Aa,Aa,G1⟩,Aa⟩
      ·rw[ak e2];have e0:k2=0:=Aa;subst e0;refine aO (jX hpa ?_);have M4:=MA.pushA (q:=pa) T M2 hpa fin3;by_cases e4:iz+1+1=a.size
       ·rw[aq (bp e4)];exact aQ (.inl ⟨_,rfl,MA.doneL T M4 e4,G1⟩)
       rw[ak (bn e4)];split
       ·exact aQ (.inr ⟨_,_,_,_,_,_,rfl,⟨M4,Aa,Aa,G1⟩,Aa⟩)
       ·exact aQ ⟨_,_,_,_,_,_,rfl,⟨M4,Aa,Aa,G1⟩,Aa⟩
end
structure MHL (tot xa xb o:List Keyed):Prop where
 perm:(xa++xb++o).Perm tot
 srt:Srt o
 le:∀ x∈o,∀ y∈xa++xb,LE y x
theorem MHL.takeA {tot u v xb o:List Keyed}(h:MHL tot (u++v) xb o)(s:Srt (u++v))(hc:∀ x∈v,∀ y∈xb,LE y x):MHL tot u xb (v++o):=by
 have sp:=cg.mp s;refine⟨?_,yY sp.2.1 h.srt fun x hx y hy=>h.le y hy x (aY _ (aB _ hx)),fun x hx y hy=>?_⟩
 ·refine List.Perm.trans ?_ h.perm;rw[aZ,aZ,aZ];refine dq u ?_;rw[<- aZ,<- aZ];exact gJ o d0
 ·rcases aJ.mp hx with q | q
  ·rcases aJ.mp hy with z | z
   ·exact sp.2.2 y z x q
   ·exact hc x q y z
  ·refine h.le x q y ?_;rcases aJ.mp hy with z | z
   ·exact aY _ (aY _ z)
   ·exact aB _ z
theorem MHL.takeB {tot u v xa o:List Keyed}(h:MHL tot xa (u++v) o)(s:Srt (u++v))(hc:∀ x∈v,∀ y∈xa,LE y x):MHL tot xa u (v++o):=by
 have sp:=cg.mp s;refine⟨?_,yY sp.2.1 h.srt fun x hx y hy=>h.le y hy x (aB _ (aB _ hx)),fun x hx y hy=>?_⟩
 ·refine List.Perm.trans (jz ?_) h.perm;simp only [aZ]
 ·rcases aJ.mp hx with q | q
  ·rcases aJ.mp hy with z | z
   ·exact hc x q y z
   ·exact sp.2.2 y z x q
  ·refine h.le x q y ?_;rcases aJ.mp hy with z | z
   ·exact aY _ z
   ·exact aB _ (aY _ z)
theorem MHL.out {tot xa xb o:List Keyed}(h:MHL tot xa xb o)(s:Srt (xa++xb)):(xa++xb++o).Perm tot/\Srt (xa++xb++o):=
 ⟨h.perm,yY s h.srt fun x hx y hy=>h.le y hy x hx⟩
theorem MHL.outF {tot xa xb o:List Keyed}(h:MHL tot xa xb o)(s:Srt (xb++xa)):(xb++xa++o).Perm tot/\Srt (xb++xa++o):=
 ⟨(gJ o d0).trans h.perm,yY s h.srt fun x hx y hy=>h.le y hy x (by
  rcases aJ.mp hx with z | z
  ·exact aB _ z
  ·exact aY _ z)⟩
theorem jK2 {l:List Keyed}{n:Nat}{p:Keyed}(hn:0<n)(h:l[n - 1]?=some p):l.take n=l.take (n - 1)++[p]:=by
 obtain⟨m,rfl⟩:∃ m,n=m+1:=⟨n - 1,Aa⟩;rw[Nat.add_sub_cancel] at h ⊢;rw[List.take_succ,h];rfl
theorem jK1 {l:List Keyed}{k n:Nat}(hk:k<=n):l.take n=l.take k++(l.drop k).take (n - k):=by
 obtain⟨m,rfl⟩:∃ m,n=k+m:=⟨n - k,Aa⟩;rw[cq,List.take_add]
theorem jAQ {a:Array Keyed}{k n:Nat} :(a.extract k n).toList=(a.toList.drop k).take (n - k):=by
 rw[fo,eg]
theorem jBN {a:Array Keyed}{n:Nat} :(a.extract 0 n).toList=a.toList.take n:=by
 rw[jAQ,kx,Nat.sub_zero]
abbrev MH (a b out:Array Keyed)(na nb:Nat):Prop:=MHL (a.toList++b.toList) (a.toList.take na) (b.toList.take nb) out.toList.reverse
theorem jDW {l:List Keyed}{n:Nat}{y:Keyed}(h:y∈l.take n):∃ j,j<n/\l[j]?=some y:=by
 obtain⟨k,hk⟩:=bh h;have hlt:k<n:=by
  have:=(ao.mp hk).1;rw[bO] at this;lia
 rw[cD hlt] at hk;exact⟨k,hlt,hk⟩
section
variable {out:Array Keyed}{k:Nat}
theorem jDV (s:Srt a.toList){p q:Keyed}(hp:a[i - 1]?=some p)(h:LE p q):∀ y∈a.toList.take i,LE y q:=fun y hy=>by
 obtain⟨n,h1,h2⟩:=jDW hy;exact de (jFE s h2 (at_list.mp hp) Aa) h
theorem MH.pushA (T:Two a b)(h:MH a b out i j){p:Keyed}(hi:0<i)(hp:a[i - 1]?=some p)(hc:∀ y∈b.toList.take j,LE y p):MH a b (out.push p) (i - 1) j:=by
 have e:=jK2 hi (at_list.mp hp);have s:=T.sa.take i;unfold MH at h ⊢;rw[e] at h s;rw[eD,ga];exact h.takeA s fun x hx=>by rw[aN.mp hx]; exact hc
theorem MH.pushB (T:Two a b)(h:MH a b out i j){p:Keyed}(hj:0<j)(hp:b[j - 1]?=some p)(hc:∀ y∈a.toList.take i,LE y p):MH a b (out.push p) i (j - 1):=by
 have e:=jK2 hj (at_list.mp hp);have s:=T.sb.take j;unfold MH at h ⊢;rw[e] at h s;rw[eD,ga];exact h.takeB s fun x hx=>by rw[aN.mp hx]; exact hc
theorem MH.appA (T:Two a b)(h:MH a b out i j)(hk:k<=i)(hc:∀ n x,k<=n->n<i->a.toList[n]?=some x->∀ y∈b.toList.take j,LE y x):MH a b (out++(a.extract k i).reverse) k j:=by
 have e:=jK1 (l:=a.toList) hk;have s:=T.sa.take i;unfold MH at h ⊢;rw[e] at h s;rw[bG,dG,ga,kz,jAQ];exact h.takeA s fun x hx y hy=>by
  obtain⟨n,h1,h2,h3⟩:=jA4 hx;exact hc n x h1 Aa h3 y hy
theorem MH.appB (T:Two a b)(h:MH a b out i j)(hk:k<=j)(hc:∀ n x,k<=n->n<j->b.toList[n]?=some x->∀ y∈a.toList.take i,LE y x):MH a b (out++(b.extract k j).reverse) i k:=by
 have e:=jK1 (l:=b.toList) hk;have s:=T.sb.take j;unfold MH at h ⊢;rw[e] at h s;rw[bG,dG,ga,kz,jAQ];exact h.takeB s fun x hx y hy=>by
  obtain⟨n,h1,h2,h3⟩:=jA4 hx;exact hc n x h1 Aa h3 y hy
theorem MH.doneA (T:Two a b)(h:MH a b out 0 j):yR a b (a.extract 0 0++b.extract 0 j++out.reverse):=by
 unfold yR;rw[bG,bG,jBN,jBN,dG];exact h.out (by rw[iP]; exact T.sb.take j)
theorem MH.doneB (T:Two a b)(h:MH a b out i 0):yR a b (a.extract 0 i++b.extract 0 0++out.reverse):=by
 unfold yR;rw[bG,bG,jBN,jBN,dG];exact h.out (by rw[iP,bf]; exact T.sa.take i)
theorem MH.doneF (T:Two a b)(h:MH a b out i 1):yR a b (b.extract 0 1++a.extract 0 i++out.reverse):=by
 unfold yR;rw[bG,bG,jBN,jBN,dG];refine h.outF (yY (T.sb.take 1) (T.sa.take i) fun x hx y hy=>?_);obtain⟨n,h1,h2⟩:=jDW hx;have:n=0:=by lia
 subst this;exact cM (T.first y (bV hy) x h2)
end
section
variable {prog:Program}{w:World}{A:Around}{E:Ah}{s:Shared} [LtOk prog w A s]
theorem jL7 {st:SortSt}{a:Array Keyed}{i len hint:Nat}{p:Keyed}{Q:Option Nat->SortSt->Prop}(hk:kindOf st=Od.kd)(hp:IsI p)(ha:AllI a.toList)
  (sa:∀ n m x y,i<=n->n<=m->m<i+len->a[n]?=some x->a[m]?=some y->LE x y) (hh:hint<len) (hl:i+len<=a.size)
  (h:∀ k,k<=len->(∀ n x,i<=n->n<i+k->a[n]?=some x->LE x p)->(∀ n x,i+k<=n->n<i+len->a[n]?=some x->key p<key x)->Q (some k) st):
  wpS (model prog w) A E s (jC7 false p a i len hint) Q st:=by
 refine jB9 hk hp (fun n hn=>?_) hh (fun n=>match a[i+n]? with | some x=>!decide (key p<key x) | none=>false) (fun n x hn hx=>?_) (fun n m hnm hm hb=>?_) fun k hk1 hk2 hk3=>h k Aa (fun n x h1 h2 h3=>?_) fun n x h1 h2 h3=>?_
 ·obtain⟨q,q1,q2⟩:=qJ (a:=a) (i:=i+n) Aa;exact⟨q,q1,ha q (aH q2)⟩
 ·rw[hx,ak ay]
 ·obtain⟨x,x1,x2⟩:=qJ (a:=a) (i:=i+n) Aa;obtain⟨y,y1,y2⟩:=qJ (a:=a) (i:=i+m) Aa;rw[y1] at hb;rw[x1];have:=sa (i+n) (i+m) x y Aa Aa Aa x1 y1;have hb:¬ key p<key y:=by simpa using hb
  show (!decide (key p<key x))=true;rw[cH,eT];have:key x<=key y:=this;lia
 ·have:=hk2 (n - i) Aa;rw[show i+(n - i)=n by lia,h3] at this;have this:¬ key p<key x:=by simpa using this
  show key x<=key p;lia
 ·have:=hk3 (n - i) Aa Aa;rw[show i+(n - i)=n by lia,h3] at this;simpa using this
theorem jL8 {st:SortSt}{a:Array Keyed}{i len hint:Nat}{p:Keyed}{Q:Option Nat->SortSt->Prop}(hk:kindOf st=Od.kd)(hp:IsI p)(ha:AllI a.toList)
  (sa:∀ n m x y,i<=n->n<=m->m<i+len->a[n]?=some x->a[m]?=some y->LE x y) (hh:hint<len) (hl:i+len<=a.size)
  (h:∀ k,k<=len->(∀ n x,i<=n->n<i+k->a[n]?=some x->key x<key p)->(∀ n x,i+k<=n->n<i+len->a[n]?=some x->LE p x)->Q (some k) st):
  wpS (model prog w) A E s (jC7 true p a i len hint) Q st:=by
 refine jB9 hk hp (fun n hn=>?_) hh (fun n=>match a[i+n]? with | some x=>decide (key x<key p) | none=>false) (fun n x hn hx=>?_) (fun n m hnm hm hb=>?_) fun k hk1 hk2 hk3=>h k Aa (fun n x h1 h2 h3=>?_) fun n x h1 h2 h3=>?_
 ·obtain⟨q,q1,q2⟩:=qJ (a:=a) (i:=i+n) Aa;exact⟨q,q1,ha q (aH q2)⟩
 ·rw[hx,aq rfl]
 ·obtain⟨x,x1,x2⟩:=qJ (a:=a) (i:=i+n) Aa;obtain⟨y,y1,y2⟩:=qJ (a:=a) (i:=i+m) Aa;rw[y1] at hb;rw[x1];have:=sa (i+n) (i+m) x y Aa Aa Aa x1 y1;have hb:key y<key p:=aG hb;show decide (key x<key p)=true;rw[br];have:key x<=key y:=this;lia
 ·have:=hk2 (n - i) Aa;rw[show i+(n - i)=n by lia,h3] at this;exact aG this
 ·have:=hk3 (n - i) Aa Aa;rw[show i+(n - i)=n by lia,h3] at this;have this:¬ key x<key p:=gu this;show key p<=key x;lia
end
section
variable {prog:Program}{w:World}{A:Around}{E:Ah}{s:Shared} [LtOk prog w A s]
structure HiI (a b:Array Keyed)(st:SortSt)(out:Array Keyed)(na nb:Nat)(st':SortSt):Prop where
 m:MH a b out na nb
 i:0<na
 ia:na<=a.size
 j:1<nb
 jb:nb<=b.size
 s:SG st st'
theorem whole {a:Array Keyed}(s:Srt a.toList){len:Nat} :∀ n m x y,0<=n->n<=m->m<0+len->a[n]?=some x->a[m]?=some y->LE x y:=fun n m x y _ h _ hx hy=>jFE s (at_list.mp hx) (at_list.mp hy) h
theorem jIU {a b:Array Keyed}{st:SortSt}{Q:Array Keyed->SortSt->Prop}(hk:kindOf st=Od.kd)(T:Two a b)(h:∀ r st',yR a b r->SG st st'->Q r st'):wpS (model prog w) A E s (jGE a b) Q st:=by
 rw[mergeHiB.2]
 delta mergeHiB
 dsimp only;simp only [elP,ltP,jJM,jN5];have na:=T.na;have nb:=T.nb;refine aO (h9 (db ⟨rfl,?_⟩));obtain⟨p0,hp0,ip0⟩:=T.atA (i:=a.size - 1) Aa;refine aO (jX hp0 ?_);have M0:MH a b #[p0] (a.size - 1) b.size:=by
  have z:MH a b #[] a.size b.size:=⟨by
   rw[show a.toList.take a.size=a.toList from b9 Ad,show b.toList.take b.size=b.toList from b9 Ad];show ((a.toList++b.toList)++([]:List Keyed)).Perm _;rw[bf],List.Pairwise.nil,fun x hx=>by cases hx⟩
  have:=MH.pushA T z Aa hp0 fun y hy=>cM (T.last y (bV hy) p0 (at_list.mp hp0));exact this
 by_cases e1:a.size - 1=0
 ·rw[aq (bp e1)];rw[e1] at M0 ⊢;exact aQ (h _ _ (MH.doneA T M0) (SG.refl _))
 rw[ak (bn e1)];by_cases e2:b.size=1
 ·rw[aq (bp e2)];rw[e2] at M0 ⊢;exact aQ (h _ _ (MH.doneF T M0) (SG.refl _))
 rw[ak (bn e2)];refine aO (gI ?_);refine aO (dF (ci (I:=fun x c st'=>∃ out na nb mg,c=(none,na,nb,out,mg)/\HiI a b st out na nb st'/\x+1<=a.size - na+(b.size - nb))
  (Q:=fun c st'=>∃ r,c.1=some r/\yR a b r/\SG st st') ?step ?fin ⟨_,_,_,_,rfl,⟨M0,Aa,Aa,Aa,Aa,SG.refl _⟩,Aa⟩) ?post)
 case post=>
  rintro ⟨r0,c⟩ st' ⟨r,hr,d,g⟩;have hr:r0=some r:=hr;subst hr;exact aQ (h r st' d g)
 case fin=>
  rintro c st' ⟨out,na,nb,mg,rfl,I0,hx⟩;have:=I0.i;have:=I0.j;lia
 case step=>
  rintro x c st1 _ hx ⟨out,na,nb,mg,rfl,I0,hxx⟩;dsimp only;refine aO (dF (ci (I:=fun y c st'=>∃ out' na' nb' ac bc,c=(none,na',nb',out',ac,bc)/\HiI a b st out' na' nb' st'/\na'+nb'<=na+nb/\(y=0\/na'+nb'<na+nb))
   (Q:=fun c st'=>(∃ r,c.1=some r/\yR a b r/\SG st st')\/∃ out' na' nb' ac bc,c=(none,na',nb',out',ac,bc)/\HiI a b st out' na' nb' st'/\na'+nb'<na+nb) ?step1 ?fin1 ⟨_,_,_,_,_,rfl,I0,Aa, .inl rfl⟩) ?post1)
  case fin1=>
   rintro c st' ⟨out',na',nb',ac,bc,rfl,I1,h1,h2⟩;exact .inr ⟨_,_,_,_,_,rfl,I1,Aa⟩
  case step1=>
   rintro y c st2 _ hy ⟨out',na',nb',ac,bc,rfl,I1,h1,h2⟩;dsimp only;have i0:=I1.i;have i1:=I1.ia;have j0:=I1.j;have j1:=I1.jb;obtain⟨pb,hpb,ipb⟩:=T.atB (i:=nb' - 1) Aa;obtain⟨pa,hpa,ipa⟩:=T.atA (i:=na' - 1) Aa;refine aO (jX hpb (aO (jX hpa (aO (jH3 (I1.s.k.trans hk) ipb ipa ?_)))));dsimp only;by_cases hlt:key pb<key pa
   ·rw[ar hlt,aq rfl];refine aO (jX hpa ?_);have M2:=MH.pushA T I1.m i0 hpa (jDV T.sb hpb (cM hlt));by_cases f1:na' - 1=0
    ·rw[aq (bp f1)];rw[f1] at M2 ⊢;exact aQ (.inl ⟨_,rfl,MH.doneA T M2,I1.s⟩)
    rw[ak (bn f1)];split
    ·exact aQ (.inr ⟨_,_,_,_,_,rfl,⟨M2,Aa,Aa,j0,j1,I1.s⟩,Aa⟩)
    ·exact aQ ⟨_,_,_,_,_,rfl,⟨M2,Aa,Aa,j0,j1,I1.s⟩,Aa, .inr Aa⟩
   ·rw[aM hlt,ak ay];refine aO (jX hpb ?_);have M2:=MH.pushB T I1.m Aa hpb (jDV T.sa hpa (by show key pa<=key pb; lia));by_cases f1:nb' - 1=1
    ·rw[aq (bp f1)];rw[f1] at M2 ⊢;exact aQ (.inl ⟨_,rfl,MH.doneF T M2,I1.s⟩)
    rw[ak (bn f1)];split
    ·exact aQ (.inr ⟨_,_,_,_,_,rfl,⟨M2,i0,i1,Aa,Aa,I1.s⟩,Aa⟩)
    ·exact aQ ⟨_,_,_,_,_,rfl,⟨M2,i0,i1,Aa,Aa,I1.s⟩,Aa, .inr Aa⟩
  case post1=>
   rintro c st2 (⟨r,hr,d,g⟩ | ⟨out1,na1,nb1,ac,bc,rfl,I1,h1⟩)
   ·obtain⟨r0,c⟩:=c;have hr:r0=some r:=hr;subst hr;exact aQ ⟨r,rfl,d,g⟩
   dsimp only;refine aO (h9 (db ⟨rfl,?_⟩));refine aO (dF (ci (I:=fun y c st'=>∃ out' na' nb' mg' ac bc,c=(none,na',nb',out',mg',ac,bc)/\HiI a b st out' na' nb' st'/\na'+nb'<na+nb)
    (Q:=fun c st'=>(∃ r,c.1=some r/\yR a b r/\SG st st')\/∃ out' na' nb' mg' ac bc,c=(none,na',nb',out',mg',ac,bc)/\HiI a b st out' na' nb' st'/\na'+nb'<na+nb) ?step2 ?fin2 ⟨_,_,_,_,_,_,rfl,I1,h1⟩) ?post2)
   case fin2=>
    rintro c st' ⟨out',na',nb',mg',ac,bc,rfl,I2,h2⟩;exact .inr ⟨_,_,_,_,_,_,rfl,I2,h2⟩
   case post2=>
    have q1:=I0.ia;have q2:=I0.jb;rintro c st3 (⟨r,hr,d,g⟩ | ⟨out2,na2,nb2,mg2,ac,bc,rfl,I2,h2⟩)
    ·obtain⟨r0,c⟩:=c;have hr:r0=some r:=hr;subst hr;exact aQ ⟨r,rfl,d,g⟩
    dsimp only;rw[jA3];have q3:=I2.ia;have q4:=I2.jb;exact aO (eY (aQ ⟨_,_,_,_,rfl,⟨I2.m,I2.i,I2.ia,I2.j,I2.jb,I2.s.gal _⟩,Aa⟩))
   case step2=>
    clear I0 I1;rename_i na00 nb00;generalize hbd:na+nb=bd;clear hxx h1;rintro y c st2 _ hy ⟨out,na,nb,mg',ac,bc,rfl,I0,h2⟩;dsimp only;obtain⟨pb,hpb,ipb⟩:=T.atB (i:=nb - 1) (by have:=I0.j; have:=I0.jb; lia);by_cases hg:mg'>1
    case' pos=>
     rw[aq hg];generalize hgg:mg' - 1=gg
    case' neg=>
     rw[ak hg];generalize hgg:mg'=gg
    all_goals
     rw[jA3];refine aO (eY ?_);have G1:=I0.s.gal gg;have na0:=I0.i;have na1:=I0.ia;have nb0:=I0.j;have nb1:=I0.jb;refine aO (jX hpb ?_);refine aO (jL7 (G1.k.trans hk) ipb T.ia (whole T.sa) Aa Aa fun k1 g1 g2 g3=>?_);dsimp only;have M1:=MH.appA T I0.m g1 (fun n x h1 h2 h3=>jDV T.sb hpb (cM (g3 n x Aa Aa (at_list.mpr h3))));have hle:∀ y∈a.toList.take k1,LE y pb:=fun y hy=>by
      obtain⟨n,h1,h2⟩:=jDW hy;exact g2 n y Aa Aa (at_list.mpr h2)
     by_cases e0:na - k1>0
     case' pos=>
      rw[aq e0];by_cases f1:k1=0
      ·rw[aq (bp f1)];rw[f1] at M1 ⊢;exact aQ (.inl ⟨_,rfl,MH.doneA T M1,G1⟩)
      rw[ak (bn f1)];obtain⟨pa,hpa,ipa⟩:=T.atA (i:=k1 - 1) Aa;have hz:0<k1:=Aa;generalize hiz:k1=iz at*
     case' neg=>
      rw[ak e0];have e0':k1=na:=Aa;subst e0';have M1:=I0.m;obtain⟨pa,hpa,ipa⟩:=T.atA (i:=k1 - 1) Aa;have hz:0<k1:=Aa;generalize hiz:k1=iz at*
     all_goals
      refine aO (jX hpb ?_);have M2:=MH.pushB T M1 Aa hpb hle;by_cases e1:nb - 1=1
      ·rw[aq (bp e1)];rw[e1] at M2 ⊢;exact aQ (.inl ⟨_,rfl,MH.doneF T M2,G1⟩)
      rw[ak (bn e1)];refine aO (jX hpa ?_);refine aO (jL8 (G1.k.trans hk) ipa T.ib (whole T.sb) Aa Aa fun k2 l1 l2 l3=>?_);dsimp only;have M3:=MH.appB T M2 l1 (fun n x h1 h2 h3=>jDV T.sa hpa (l3 n x Aa Aa (at_list.mpr h3)));have fin3:∀ y∈b.toList.take k2,LE y pa:=fun y hy=>by
       obtain⟨n,h1,h2⟩:=jDW hy;exact cM (l2 n y Aa Aa (at_list.mpr h2))
      by_cases e2:nb - 1 - k2>0
      ·rw[aq e2];by_cases e3:k2=1
       ·rw[aq (bp e3)];rw[e3] at M3 ⊢;exact aQ (.inl ⟨_,rfl,MH.doneF T M3,G1⟩)
       rw[ak (bn e3)];by_cases e5:k2=0
       ·rw[aq (bp e5)];rw[e5] at M3 ⊢;exact aQ (.inl ⟨_,rfl,MH.doneB T M3,G1⟩)
       rw[ak (bn e5)];refine aO (jX hpa ?_);have M4:=MH.pushA T M3 hz hpa fin3;by_cases e4:iz - 1=0
       ·rw[aq (bp e4)];rw[e4] at M4 ⊢;exact aQ (.inl ⟨_,rfl,MH.doneA T M4,G1⟩)
       rw[ak (bn e4)];split
       ·exact aQ (.inr ⟨_,_,_,_,_,_,rfl,⟨M4,Aa,Aa,Aa,Aa,G1⟩,Aa⟩)
       ·exact aQ ⟨_,_,_,_,_,_,rfl,⟨M4,Aa,Aa,Aa,Aa,G1⟩,Aa⟩
      ·rw[ak e2];have e0:k2=nb - 1:=Aa;subst e0;refine aO (jX hpa ?_);have M4:=MH.pushA T M2 hz hpa fin3;by_cases e4:iz - 1=0
       ·rw[aq (bp e4)];rw[e4] at M4 ⊢;exact aQ (.inl ⟨_,rfl,MH.doneA T M4,G1⟩)
       rw[ak (bn e4)];split
       ·exact aQ (.inr ⟨_,_,_,_,_,_,rfl,⟨M4,Aa,Aa,Aa,Aa,G1⟩,Aa⟩)
       ·exact aQ ⟨_,_,_,_,_,_,rfl,⟨M4,Aa,Aa,Aa,Aa,G1⟩,Aa⟩
end
def KI (xs:Array Keyed)(i:Nat):Int:=match xs[i]? with
 | some p=>key p
 | none=>0
def STo (xs:Array Keyed)(k:Nat):Prop:=∀ i j,i<=j->j<k->KI xs i<=KI xs j
structure SB (a₀:Array Keyed)(st:SortSt):Prop where
 perm:(arrOf st).Perm a₀
 kind:kindOf st=Od.kd
 failed:failedOf st=none
 pend:pendingOf st=#[]
theorem SB.size {a₀:Array Keyed}{st:SortSt}(h:SB a₀ st):(arrOf st).size=a₀.size:=h.perm.size_eq
theorem jBP {xs ys:Array Keyed}{i j:Nat}(h:xs[i]?=ys[j]?):KI xs i=KI ys j:=by unfold KI; rw[h]
theorem jQ1 {xs:Array Keyed}{src d:Nat}(hs:src<xs.size)(hd:d<=src)(k:Nat):
  KI (bubble xs src d) k=if k=src - d then KI xs src else if src - d<k/\k<=src then KI xs (k - 1) else KI xs k:=by
 have e:=getElem?_bubble hs d hd k;by_cases h1:k=src - d
 ·rw[aq h1] at e ⊢; exact jBP e
 ·rw[ak h1] at e ⊢;by_cases h2:src - d<k/\k<=src
  ·rw[aq h2] at e ⊢; exact jBP e
  ·rw[ak h2] at e ⊢; exact jBP e
theorem jCR {xs:Array Keyed}{i j:Nat}(hj:j<=xs.size)(k:Nat):
  KI (mirror xs i j ((j - i) / 2)) k=if i<=k/\k<j then KI xs (i+j - 1 - k) else KI xs k:=by
 have e:=getElem?_mirror_all (i:=i) hj k;by_cases h1:i<=k/\k<j
 ·rw[aq h1] at e;rw[aq h1];exact jBP e
 ·rw[ak h1] at e;rw[ak h1];exact jBP e
theorem jA1 {xs:Array Keyed}{i j:Nat}(hj:j<=xs.size)(heq:∀ k,i<=k->k<j->KI xs k=KI xs (j - 1))(k:Nat):
  KI (mirror xs i j ((j - i) / 2)) k=KI xs k:=by
 rw[jCR hj];split
 ·rename_i h;rw[heq _ Aa Aa,heq k h.1 h.2]
 ·rfl
def Up (xs:Array Keyed)(lo n:Nat):Prop:=∀ i j,lo<=i->i<=j->j<lo+n->KI xs i<=KI xs j
def Dn (xs:Array Keyed)(lo n:Nat):Prop:=∀ i j,lo<=i->i<=j->j<lo+n->KI xs j<=KI xs i
structure BB (a₀:Array Keyed)(p:Array (Nat×Nat×Nat))(F:Nat->Int)(lo:Nat)(st:SortSt):Prop where
 perm:(arrOf st).Perm a₀
 kind:kindOf st=Od.kd
 failed:failedOf st=none
 pend:pendingOf st=p
 low:∀ k,k<lo->KI (arrOf st) k=F k
theorem jSP {a₀ xs:Array Keyed}(hp:xs.Perm a₀)(h0:AllI a₀.toList){i:Nat}(hi:i<a₀.size):∃ q,xs[i]?=some q/\IsI q/\key q=KI xs i:=by
 have hi':i<xs.size:=by rw[hp.size_eq]; exact hi
 have hm:xs[i]∈a₀.toList:=(cr.mp hp).mem_iff.mp Ad;have e:xs[i]?=some xs[i]:=iB _ i hi';exact⟨xs[i],e,h0 _ hm,by unfold KI; rw[e]⟩
section
variable {prog:Program}{w:World}{A:Around}{E:Ah}{s:Shared} [LtOk prog w A s]{a₀:Array Keyed}{p:Array (Nat×Nat×Nat)}{F:Nat->Int}{lo:Nat}
theorem BB.sz {st:SortSt}(h:BB a₀ p F lo st):(arrOf st).size=a₀.size:=h.perm.size_eq
theorem BB.arr {st:SortSt}(h:BB a₀ p F lo st){xs:Array Keyed}(hp:xs.Perm (arrOf st))(hl:∀ k,k<lo->KI xs k=KI (arrOf st) k):BB a₀ p F lo (setArr st xs):=
 ⟨hp.trans h.perm,h.kind,h.failed,h.pend,fun k hk=>(hl k hk).trans (h.low k hk)⟩
theorem jCS {st:SortSt}{i j:Nat}{Q:Option Bool->SortSt->Prop}(hB:BB a₀ p F lo st)(h0:AllI a₀.toList)(hi:i<a₀.size)(hj:j<a₀.size)
  (h:Q (some (decide (KI (arrOf st) i<KI (arrOf st) j))) st):wpS (model prog w) A E s (ltAt' i j) Q st:=by
 obtain⟨x,e1,i1,k1⟩:=jSP hB.perm h0 hi;obtain⟨y,e2,i2,k2⟩:=jSP hB.perm h0 hj;rw[ltAt'_eq];refine aO (gI ?_);show wpS _ _ _ _ (do let x <- elem' (arrOf st) i; let y <- elem' (arrOf st) j; lt' x y) Q st;rw[elem'_eq,elem'_eq,e1,e2];refine aO (aQ (aO (aQ (jH3 hB.kind i1 i2 ?_))));rw[k1,k2];exact h
theorem Up.one {xs:Array Keyed} :Up xs lo 1:=fun i j h1 h2 h3=>by
 have:i=j:=by lia
 rw[this];exact cX _
theorem Dn.one {xs:Array Keyed} :Dn xs lo 1:=fun i j h1 h2 h3=>by
 have:i=j:=by lia
 rw[this];exact cX _
theorem Up.more {xs:Array Keyed}{n:Nat}(h:Up xs lo n)(hn:0<n)(hc:KI xs (lo+n - 1)<=KI xs (lo+n)):Up xs lo (n+1):=fun i j h1 h2 h3=>by
 by_cases e:j<lo+n
 ·exact h i j h1 h2 e
 ·have ej:j=lo+n:=Aa;subst ej;by_cases ei:i=lo+n
  ·rw[ei];exact cX _
  ·exact de (h i (lo+n - 1) h1 Aa Aa) hc
theorem Dn.more {xs:Array Keyed}{n:Nat}(h:Dn xs lo n)(hn:0<n)(hc:KI xs (lo+n)<=KI xs (lo+n - 1)):Dn xs lo (n+1):=fun i j h1 h2 h3=>by
 by_cases e:j<lo+n
 ·exact h i j h1 h2 e
 ·have ej:j=lo+n:=Aa;subst ej;by_cases ei:i=lo+n
  ·rw[ei];exact cX _
  ·exact de hc (h i (lo+n - 1) h1 Aa Aa)
theorem Dn.congr {xs ys:Array Keyed}{n:Nat}(h:Dn xs lo n)(e:∀ k,KI ys k=KI xs k):Dn ys lo n:=fun i j h1 h2 h3=>by
 rw[e i,e j];exact h i j h1 h2 h3
theorem jFW {st:SortSt}{nrem:Nat}{Q:Option Nat->SortSt->Prop}(h0:AllI a₀.toList)(hn:lo+nrem<=a₀.size)(hn1:1<=nrem)(hB:BB a₀ p F lo st)
  (h:∀ m st',BB a₀ p F lo st'->1<=m->m<=nrem->Up (arrOf st') lo m->Q (some m) st'):wpS (model prog w) A E s (countRun' lo nrem) Q st:=by
 rw[countRun'_eq];dsimp only;refine aO (dF (ci (I:=fun x c st'=>st'=st/\c=(none,x)/\Up (arrOf st) lo x)
  (Q:=fun c st'=>st'=st/\∃ n,c=(none,n)/\1<=n/\n<=nrem/\Up (arrOf st) lo n/\(n=nrem\/KI (arrOf st) (lo+n)<KI (arrOf st) (lo+n - 1))) ?step ?fin ⟨rfl,rfl,Up.one⟩) ?post)
 case fin=>
  rintro c st' ⟨rfl,rfl,hu⟩;rw[show max 1 nrem=nrem by lia] at hu ⊢;exact⟨rfl,nrem,rfl,hn1,aA _,hu, .inl rfl⟩
 case step=>
  rintro x c st' h1 h2 ⟨rfl,rfl,hu⟩;dsimp only;refine aO (jCS hB h0 Aa Aa ?_);dsimp only;by_cases hl:KI (arrOf st') (lo+x)<KI (arrOf st') (lo+x - 1)
  ·rw[ar hl,aq rfl];exact aQ ⟨rfl,x,rfl,Aa,Aa,hu, .inr hl⟩
  ·rw[aM hl,ak ay];exact aQ ⟨rfl,rfl,hu.more Aa Aa⟩
 case post=>
  rintro c st' ⟨rfl,n,rfl,n1,n2,hu,hor⟩;dsimp only;by_cases hnn:n=nrem
  ·rw[aq (bp hnn)];exact aQ (h n st' hB n1 n2 hu)
  rw[ak (bn hnn)];have hlt:=hor.resolve_left hnn;have hz:lo+n<=(arrOf st').size:=by rw[hB.sz]; lia
  by_cases hgt:n>1
  case' pos=>
   rw[aq hgt];refine aO (jCS hB h0 Aa Aa ?_);dsimp only;by_cases hr:KI (arrOf st') lo<KI (arrOf st') (lo+n - 1)
   ·rw[ar hr,aq rfl];exact aQ (h n st' hB n1 n2 hu)
   rw[aM hr,ak ay];have hall:∀ k,lo<=k->k<lo+n->KI (arrOf st') k=KI (arrOf st') (lo+n - 1):=fun k h1 h2=>by
    have a1:=hu lo k Aa h1 h2;have a2:=hu k (lo+n - 1) h1 Aa Aa;lia
   refine aO (wpS_reverse ?_);have hB1:=hB.arr (xs:=mirror (arrOf st') lo (lo+n) ((lo+n - lo) / 2)) (mirror_perm _ _ _ _) fun k _=>jA1 hz hall k;have hs0:Dn (arrOf st') lo n:=fun i j h1 h2 h3=>by
    rw[hall i h1 Aa,hall j Aa h3];exact cX _
   have hs1:Dn (arrOf (setArr st' (mirror (arrOf st') lo (lo+n) ((lo+n - lo) / 2)))) lo (n+1):=(hs0.more Aa (cM hlt)).congr (jA1 hz hall);generalize setArr st' (mirror (arrOf st') lo (lo+n) ((lo+n - lo) / 2))=st1 at*
  case' neg=>
   rw[ak hgt];have en:n=1:=Aa;have hB1:=hB;have hs1:Dn (arrOf st') lo (n+1):=by
    rw[en] at hlt ⊢;exact Dn.one.more Aa (cM hlt)
  all_goals
   refine aO (h9 (db ⟨rfl,?_⟩));refine aO (dF (ci (I:=fun x c st'=>∃ q,c=(none,x,q)/\BB a₀ p F lo st'/\Dn (arrOf st') lo x/\q+1<=x/\∀ i,lo+x - (q+1)<=i->i<lo+x->KI (arrOf st') i=KI (arrOf st') (lo+x - 1))
    (Q:=fun c st'=>∃ m q,c=(none,m,q)/\1<=m/\m<=nrem/\BB a₀ p F lo st'/\Dn (arrOf st') lo m/\q+1<=m/\∀ i,lo+m - (q+1)<=i->i<lo+m->KI (arrOf st') i=KI (arrOf st') (lo+m - 1)) ?dstep ?dfin ⟨0,rfl,hB1,hs1,Aa,fun i h1 h2=>by congr 1; lia⟩) ?dpost)
   case dfin=>
    rintro c st' ⟨q,rfl,hb,hd,hq,he⟩;rw[show max (n+1) nrem=nrem by lia] at hd hq he ⊢;exact⟨nrem,q,rfl,Aa,Aa,hb,hd,hq,he⟩
   case dstep=>
    rintro x c st' h1 h2 ⟨q,rfl,hb,hd,hq,he⟩;dsimp only;have hz:lo+x<=(arrOf st').size:=by rw[hb.sz]; lia
    refine aO (jCS hb h0 Aa Aa ?_);dsimp only;by_cases hl:KI (arrOf st') (lo+x)<KI (arrOf st') (lo+x - 1)
    ·rw[ar hl,aq rfl];have d1:=hd.more Aa (cM hl);by_cases hq0:q>0
     ·rw[aq hq0];refine aO (wpS_reverse (aQ ⟨0,rfl,hb.arr (mirror_perm _ _ _ _) fun k _=>jA1 hz he k,d1.congr (jA1 hz he),Aa,fun i h1 h2=>by congr 1; lia⟩))
     ·rw[ak hq0];exact aQ ⟨0,rfl,hb,d1,Aa,fun i h1 h2=>by congr 1; lia⟩
    ·rw[aM hl,ak ay];refine aO (jCS hb h0 Aa Aa ?_);dsimp only;by_cases hg:KI (arrOf st') (lo+x - 1)<KI (arrOf st') (lo+x)
     ·rw[ar hg,aq rfl];exact aQ ⟨x,q,rfl,Aa,Aa,hb,hd,hq,he⟩
     ·rw[aM hg,ak ay];have ex:KI (arrOf st') (lo+x)=KI (arrOf st') (lo+x - 1):=Aa;refine aQ ⟨q+1,rfl,hb,hd.more Aa Aa,Aa,fun i h1 h2=>?_⟩;rw[show lo+(x+1) - 1=lo+x by lia];by_cases hix:i=lo+x
      ·rw[hix]
      ·rw[ex];exact he i Aa Aa
   case dpost=>
    rintro c st2 ⟨m,q,rfl,m1,m2,hB2,hs2,hq,he⟩;dsimp only;have hz2:lo+m<=(arrOf st2).size:=by rw[hB2.sz]; lia
    by_cases hq0:q>0
    case' pos=>
     rw[aq hq0];refine aO (wpS_reverse ?_);have hB3:=hB2.arr (xs:=mirror (arrOf st2) (lo+m - (q+1)) (lo+m) ((lo+m - (lo+m - (q+1))) / 2)) (mirror_perm _ _ _ _) fun k _=>jA1 hz2 he k;have hs3:Dn (arrOf (setArr st2 (mirror (arrOf st2) (lo+m - (q+1)) (lo+m) ((lo+m - (lo+m - (q+1))) / 2)))) lo m:=hs2.congr (jA1 hz2 he);generalize setArr st2 (mirror (arrOf st2) (lo+m - (q+1)) (lo+m) ((lo+m - (lo+m - (q+1))) / 2))=st3 at*
    case' neg=>
     rw[ak hq0];have hB3:=hB2;have hs3:=hs2;generalize st2=st3 at*
    all_goals
     have hz3:lo+m<=(arrOf st3).size:=by rw[hB3.sz]; lia
     refine aO (wpS_reverse ?_);have hB4:=hB3.arr (xs:=mirror (arrOf st3) lo (lo+m) ((lo+m - lo) / 2)) (mirror_perm _ _ _ _) fun k hk=>by
      rw[jCR hz3,ak Aa]
     have hU:Up (mirror (arrOf st3) lo (lo+m) ((lo+m - lo) / 2)) lo m:=fun i j h1 h2 h3=>by
      rw[jCR hz3,jCR hz3,aq ⟨h1,Aa⟩,aq ⟨Aa,h3⟩];exact hs3 _ _ Aa Aa Aa
     generalize mirror (arrOf st3) lo (lo+m) ((lo+m - lo) / 2)=xs4 at*;refine aO (dF (ci (I:=fun x c st'=>st'=setArr st3 xs4/\c=(none,x)/\Up xs4 lo x)
      (Q:=fun c st'=>st'=setArr st3 xs4/\∃ n,c=(none,n)/\1<=n/\n<=nrem/\Up xs4 lo n) ?tstep ?tfin ⟨rfl,rfl,hU⟩) ?tpost)
     case tfin=>
      rintro c st' ⟨rfl,rfl,hu⟩;rw[show max m nrem=nrem by lia] at hu ⊢;exact⟨rfl,nrem,rfl,Aa,Aa,hu⟩
     case tstep=>
      rintro x c st' h1 h2 ⟨rfl,rfl,hu⟩;dsimp only;refine aO (jCS hB4 h0 Aa Aa ?_);dsimp only;by_cases hl:KI xs4 (lo+x)<KI xs4 (lo+x - 1)
      ·rw[ar hl,aq rfl];exact aQ ⟨rfl,x,rfl,Aa,Aa,hu⟩
      ·rw[aM hl,ak ay];exact aQ ⟨rfl,rfl,hu.more Aa Aa⟩
     case tpost=>
      rintro c st' ⟨rfl,n,rfl,n1,n2,hu⟩;exact aQ (h n _ hB4 n1 n2 hu)
theorem jE3 {st:SortSt}{n ok:Nat}{Q:Bool->SortSt->Prop}(h0:AllI a₀.toList)(hn:lo+n<=a₀.size)(hok:ok<=n)(hB:BB a₀ p F lo st)(hs:Up (arrOf st) lo ok)
  (h:∀ st',BB a₀ p F lo st'->Up (arrOf st') lo n->Q true st'):wpS (model prog w) A E s (binarySort' lo n ok) Q st:=by
 rw[binarySort'_eq];dsimp only;refine aO (dF (ci (I:=fun k c st'=>c=(none,())/\BB a₀ p F lo st'/\Up (arrOf st') lo (min k n))
  (Q:=fun c st'=>c=(none,())/\BB a₀ p F lo st'/\Up (arrOf st') lo n) ?step ?fin ⟨rfl,hB,?init⟩) ?post)
 case post=>
  rintro c st' ⟨rfl,hb,hu⟩;exact aQ (h st' hb hu)
 case init=>
  by_cases e:ok=0
  ·intro i j h1 h2 h3;have:i=j:=by lia
   rw[this];exact cX _
  ·exact fun i j h1 h2 h3=>hs i j h1 h2 Aa
 case fin=>
  rintro c st' ⟨hc,hb,hu⟩;rw[show min (max (max ok 1) n) n=n by lia] at hu;exact⟨hc,hb,hu⟩
 case step=>
  rintro k c st1 hk1 hk2 ⟨rfl,hb,hu⟩;rw[show min k n=k by lia] at hu;refine aO (dF (ci (I:=fun x c st'=>st'=st1/\∃ l r,c=(none,l,r)/\l<=r/\r<=k/\r - l<=k - x/\
    (∀ i,i<l->KI (arrOf st1) (lo+i)<=KI (arrOf st1) (lo+k))/\∀ i,r<=i->i<k->KI (arrOf st1) (lo+k)<KI (arrOf st1) (lo+i))
   (Q:=fun c st'=>st'=st1/\∃ l r,c=(none,l,r)/\l<=k/\
    (∀ i,i<l->KI (arrOf st1) (lo+i)<=KI (arrOf st1) (lo+k))/\∀ i,l<=i->i<k->KI (arrOf st1) (lo+k)<KI (arrOf st1) (lo+i)) ?step1 ?fin1 ⟨rfl,0,k,rfl,Aa,Aa,Aa,fun i hi=>by lia,fun i h1 h2=>by lia⟩) ?post1)
  case fin1=>
   rintro c st' ⟨rfl,l,r,rfl,b1,b2,b3,b4,b5⟩;have:l=r:=by lia
   subst this;exact⟨rfl,l,l,rfl,b2,b4,b5⟩
  case step1=>
   rintro x c st' _ hx ⟨rfl,l,r,rfl,b1,b2,b3,b4,b5⟩;dsimp only;by_cases hge:l ≥ r
   ·rw[aq hge];have:l=r:=by lia
    subst this;exact aQ ⟨rfl,l,l,rfl,b2,b4,b5⟩
   rw[ak hge];refine aO (jCS hb h0 Aa Aa ?_);dsimp only;by_cases hl:KI (arrOf st') (lo+k)<KI (arrOf st') (lo+(l+r) / 2)
   ·rw[ar hl,aq rfl];exact aQ ⟨rfl,l,(l+r) / 2,rfl,Aa,Aa,Aa,b4,fun i h1 h2=>Int.lt_of_lt_of_le hl (hu _ _ Aa Aa Aa)⟩
   ·rw[aM hl,ak ay];exact aQ ⟨rfl,(l+r) / 2+1,r,rfl,Aa,Aa,Aa,fun i h1=>de (hu (lo+i) (lo+(l+r) / 2) Aa Aa Aa) (Int.not_lt.mp hl),b5⟩
  case post1=>
   rintro c st' ⟨rfl,l,r,rfl,hlk,b4,b5⟩;dsimp only;rw[moveDown'_eq];have hks:lo+k<(arrOf st').size:=by rw[hb.sz]; lia
   have kb:∀ x,KI (bubble (arrOf st') (lo+k) (lo+k - (lo+l))) x=if x=lo+l then KI (arrOf st') (lo+k) else if lo+l<x/\x<=lo+k then KI (arrOf st') (x - 1) else KI (arrOf st') x:=fun x=>by
    have:=jQ1 hks (d:=lo+k - (lo+l)) Aa x;rw[show lo+k - (lo+k - (lo+l))=lo+l by lia] at this;exact this
   refine aO (eY (aQ ⟨rfl,hb.arr (bubble_perm _ _ _) fun x hx=>?_,?_⟩))
   ·rw[kb,ak Aa,ak Aa]
   rw[show min (k+1) n=k+1 by lia];intro i j h1 h2 h3;show KI (bubble _ _ _) i<=KI (bubble _ _ _) j;rw[kb,kb];have lo1:∀ i,lo<=i->i<lo+l->KI (arrOf st') i<=KI (arrOf st') (lo+k):=fun i h1 h2=>by
    have:=b4 (i - lo) Aa;rw[show lo+(i - lo)=i by lia] at this;exact this
   have hi1:∀ i,lo+l<=i->i<lo+k->KI (arrOf st') (lo+k)<=KI (arrOf st') i:=fun i h1 h2=>by
    have:=b5 (i - lo) Aa Aa;rw[show lo+(i - lo)=i by lia] at this;exact cM this
   repeat' split
   all_goals first
    | (exfalso; lia)
    | exact cX _
    | exact lo1 _ Aa Aa
    | exact hi1 _ Aa Aa
    | exact hu _ _ Aa Aa Aa
end
def mergeAtB: { g:Nat->StateT SortSt Sem Bool // mergeAt'=g} :=⟨fun _=>bind _ _,rfl⟩
theorem KI_key {xs:Array Keyed}{i:Nat}{p:Keyed}(h:xs[i]?=some p):KI xs i=key p:=by
 unfold KI;rw[h]
theorem jKF (s1:Nat):∀ (l:List Keyed) (j0:Nat) (a:Array Keyed) (P M S:List Keyed),P.length=s1+j0->M.length=l.length->a.toList=P++(M++S)->
  ((l.zipIdx j0).foldl (fun (a:Array Keyed) (x:Keyed×Nat)=>a.setIfInBounds (s1+x.2) x.1) a).toList=P++(l++S)
 | [],j0,a,P,M,S,h1,h2,h3=>by
  rw[dH h2] at h3;exact h3
 | q::l,j0,a,P,[],S,h1,h2,h3=>by cases h2
 | q::l,j0,a,P,m::M,S,h1,h2,h3=>by
  rw[List.zipIdx_cons,List.foldl_cons];have:=jKF s1 l (j0+1) (a.setIfInBounds (s1+j0) q) (P++[q]) M S (by rw[aL,h1]; rfl) (Nat.succ.inj h2) (by
   rw[iQ,h3,<- h1,kj _ _ (aA _),gL,aZ];rfl)
  rw[this,aZ];rfl
theorem jUL {P m1 m2 S:List Keyed}(e:m1.length=m2.length){k:Nat}(h:k<P.length\/P.length+m1.length<=k):(P++(m1++S))[k]?=(P++(m2++S))[k]?:=by
 rcases h with h | h
 ·rw[b7 h,b7 h]
 ·rw[bi Aa,bi Aa,bi Aa,bi Aa,e]
theorem jWO {P m S:List Keyed}{k:Nat}(h1:P.length<=k)(h2:k<P.length+m.length):(P++(m++S))[k]?=m[k - P.length]?:=by
 rw[bi h1,b7 Aa]
theorem jLC {xs:Array Keyed}{i j t:Nat}(h:t<j - i):(xs.extract i j).toList[t]?=xs[i+t]?:=by
 rw[jAQ,cD h,iN,bY]
theorem jD7 {xs:Array Keyed}{i j:Nat}{p:Keyed}(h:p∈(xs.extract i j).toList):∃ t,i<=t/\t<j/\xs[t]?=some p:=by
 rw[jAQ] at h;obtain⟨t,h1,h2,h3⟩:=jA4 h;exact⟨t,h1,Aa,at_list.mpr h3⟩
theorem jEY {xs:Array Keyed}{i j:Nat}(h:j<=xs.size):(xs.extract i j).size=j - i:=by
 rw[Array.size_extract];lia
theorem jPD {xs:Array Keyed}{i j:Nat}(h:∀ n m x y,i<=n->n<=m->m<j->xs[n]?=some x->xs[m]?=some y->LE x y):Srt (xs.extract i j).toList:=by
 refine bQ.mpr fun a b ha hb hab=>?_;have hl:(xs.extract i j).toList.length<=j - i:=by rw[jAQ,bO]; lia
 have e1:=jLC (xs:=xs) (i:=i) (j:=j) (t:=a) Aa;have e2:=jLC (xs:=xs) (i:=i) (j:=j) (t:=b) Aa;rw[aC ha] at e1;rw[aC hb] at e2;exact h (i+a) (i+b) _ _ Aa Aa Aa e1.symm e2.symm
theorem KI_at {xs ys:Array Keyed}{i j:Nat}(h:xs.toList[i]?=ys.toList[j]?):KI xs i=KI ys j:=jBP (by rw[<- bY,<- bY]; exact h)
theorem jM1 {xs r R:Array Keyed}{sa na sb nb k1 k2:Nat}(hsb:sb=sa+na)(hk1:k1<na)(hk2:0<k2)(hk2':k2<=nb)(hz:sb+nb<=xs.size)
  (u1:Up xs sa na) (u2:Up xs sb nb) (g2:∀ t,sa<=t->t<sa+k1->KI xs t<=KI xs sb) (l3:∀ t,sb+k2<=t->t<sb+nb->KI xs (sb - 1)<=KI xs t)
  (D:yR (xs.extract (sa+k1) sb) (xs.extract sb (sb+k2)) r)
  (hR:R.toList=xs.toList.take (sa+k1)++(r.toList++xs.toList.drop (sb+k2))):
  R.Perm xs/\(∀ k,k<sa\/sa+(na+nb)<=k->KI R k=KI xs k)/\Up R sa (na+nb):=by
 have lr:r.toList.length=sb+k2 - (sa+k1):=by
  rw[D.1.length_eq,aL,aP,aP,jEY Aa,jEY Aa];lia
 have lP:(xs.toList.take (sa+k1)).length=sa+k1:=by rw[bO,aP]; lia
 have hX:xs.toList=xs.toList.take (sa+k1)++(((xs.extract (sa+k1) sb).toList++(xs.extract sb (sb+k2)).toList)++xs.toList.drop (sb+k2)):=by
  have a1:=bM (sa+k1) xs.toList;have a2:=bM (sb - (sa+k1)) (xs.toList.drop (sa+k1));have a3:=bM k2 (xs.toList.drop sb);rw[iM] at a2 a3;rw[show sa+k1+(sb - (sa+k1))=sb by lia] at a2;rw[jAQ,jAQ,cq,aZ,a3,a2,a1]
 have lm:((xs.extract (sa+k1) sb).toList++(xs.extract sb (sb+k2)).toList).length=r.toList.length:=D.1.length_eq.symm;have out:∀ k,k<sa+k1\/sb+k2<=k->KI R k=KI xs k:=fun k hk=>KI_at (by
  have:=jUL (P:=xs.toList.take (sa+k1)) (S:=xs.toList.drop (sb+k2)) lm.symm (k:=k) (by rw[lP,lr]; lia);exact(bW (·[k]?) hR).trans (this.trans (bW (·[k]?) hX).symm))
 have inn:∀ k,sa+k1<=k->k<sb+k2->R.toList[k]?=r.toList[k - (sa+k1)]?:=fun k h1 h2=>by
  rw[hR,jWO (by rw[lP]; exact h1) (by rw[lP,lr]; lia),lP]
 have mem:∀ k,sa+k1<=k->k<sb+k2->∃ t,sa+k1<=t/\t<sb+k2/\KI R k=KI xs t:=fun k h1 h2=>by
  have hk:k - (sa+k1)<r.toList.length:=Aa;have e:=inn k h1 h2;rw[aC hk] at e;have hm:=D.1.mem_iff.mp (cU hk);rcases aJ.mp hm with q | q
  ·obtain⟨t,t1,t2,t3⟩:=jD7 q;exact⟨t,t1,Aa,(KI_key (at_list.mpr e)).trans (KI_key t3).symm⟩
  ·obtain⟨t,t1,t2,t3⟩:=jD7 q;exact⟨t,Aa,t2,(KI_key (at_list.mpr e)).trans (KI_key t3).symm⟩
 have srt:∀ i j,sa+k1<=i->i<=j->j<sb+k2->KI R i<=KI R j:=fun i j h1 h2 h3=>by
  have hi:i - (sa+k1)<r.toList.length:=Aa;have hj:j - (sa+k1)<r.toList.length:=Aa;have e1:=inn i h1 Aa;have e2:=inn j Aa h3;rw[aC hi] at e1;rw[aC hj] at e2;rw[KI_key (at_list.mpr e1),KI_key (at_list.mpr e2)];exact jFE D.2 (aC hi) (aC hj) Aa
 have low:∀ t u,sa<=t->t<sa+k1->t<=u->u<sb+nb->KI xs t<=KI xs u:=fun t u h1 h2 h3 h4=>by
  by_cases e:u<sb
  ·exact u1 t u h1 h3 Aa
  ·exact de (g2 t h1 h2) (u2 sb u (aA _) Aa h4)
 have high:∀ t u,sa<=t->t<=u->sb+k2<=u->u<sb+nb->KI xs t<=KI xs u:=fun t u h1 h2 h3 h4=>by
  by_cases e:t<sb
  ·exact de (u1 t (sb - 1) h1 Aa Aa) (l3 u h3 h4)
  ·exact u2 t u Aa h2 h4
 refine⟨?_,fun k hk=>out k Aa,fun i j h1 h2 h3=>?_⟩
 ·refine cr.mpr ?_;rw[hR];refine List.Perm.trans ?_ (jz hX.symm);exact dq _ (gJ _ D.1)
 ·have h3:j<sb+nb:=Aa;by_cases i1:i<sa+k1
  ·rw[out i (.inl i1)];by_cases j1:j<sa+k1
   ·rw[out j (.inl j1)];exact low i j h1 i1 h2 h3
   by_cases j2:j<sb+k2
   ·obtain⟨t,t1,t2,t3⟩:=mem j Aa j2;rw[t3];exact low i t h1 i1 Aa Aa
   ·rw[out j (.inr Aa)];exact low i j h1 i1 h2 h3
  by_cases i2:i<sb+k2
  ·by_cases j2:j<sb+k2
   ·exact srt i j Aa h2 j2
   ·obtain⟨t,t1,t2,t3⟩:=mem i Aa i2;rw[t3,out j (.inr Aa)];exact high t j Aa Aa Aa h3
  ·rw[out i (.inr Aa),out j (.inr Aa)];exact high i j h1 h2 Aa h3
section
variable {prog:Program}{w:World}{A:Around}{E:Ah}{s:Shared} [LtOk prog w A s]
theorem jT2 {st st':SortSt}{Q:PUnit->SortSt->Prop}(h:Q ⟨⟩ st'):wpS (model prog w) A E s (set st':StateT SortSt Sem PUnit) Q st:=eY (f:=fun _=>st') h
theorem jMK {α:Type}{a b:α}{Q:α->SortSt->Prop}{st:SortSt}(e:a=b)(h:Q b st):wpS (model prog w) A E s (pure a:StateT SortSt Sem α) Q st:=aQ (e ▸ h)
structure Merged (st st':SortSt)(i sa na sb nb pw:Nat):Prop where
 perm:(arrOf st').Perm (arrOf st)
 kind:kindOf st'=Od.kd
 failed:failedOf st'=none
 pend:pendingOf st'=((pendingOf st).setIfInBounds i (sa,na+nb,pw)).eraseIdxIfInBounds (i+1)
 out:∀ k,k<sa\/sa+(na+nb)<=k->KI (arrOf st') k=KI (arrOf st) k
 up:Up (arrOf st') sa (na+nb)
theorem jIV {st:SortSt}{i sa na pw sb nb w2:Nat}{Q:Bool->SortSt->Prop}(hk:kindOf st=Od.kd)(hf:failedOf st=none)(hI:AllI (arrOf st).toList)
  (h1:(pendingOf st)[i]?=some (sa,na,pw)) (h2:(pendingOf st)[i+1]?=some (sb,nb,w2)) (hsb:sb=sa+na) (hna:0<na) (hnb:0<nb) (hz:sb+nb<=(arrOf st).size)
  (u1:Up (arrOf st) sa na) (u2:Up (arrOf st) sb nb) (h:∀ st',Merged st st' i sa na sb nb pw->Q true st'):wpS (model prog w) A E s (mergeAt' i) Q st:=by
 rw[mergeAtB.2]
 delta mergeAtB
 dsimp only;simp only [elP,ltP,ltAtP,jJM,jQX,jQY];refine aO (gI ?_);rw[h1,h2];dsimp only;refine aO (jT2 ?_);generalize hpp:((pendingOf st).setIfInBounds i (sa,na+nb,pw)).eraseIdxIfInBounds (i+1)=pp;show wpS _ _ _ _ _ _ (SortSt.mk' (kindOf st) (arrOf st) pp (gallopOf st) (failedOf st));generalize hst1:SortSt.mk' (kindOf st) (arrOf st) pp (gallopOf st) (failedOf st)=st1;have G1:kindOf st1=kindOf st/\arrOf st1=arrOf st/\pendingOf st1=pp/\failedOf st1=failedOf st:=by rw[<- hst1]; exact⟨rfl,rfl,rfl,rfl⟩
 have at_:∀ t,t<(arrOf st).size->∃ q,(arrOf st)[t]?=some q/\IsI q:=fun t ht=>by
  obtain⟨q,q1,q2⟩:=qJ ht;exact⟨q,q1,hI q (aH q2)⟩
 have m1:∀ n m x y,sa<=n->n<=m->m<sa+na->(arrOf st)[n]?=some x->(arrOf st)[m]?=some y->LE x y:=fun n m x y a1 a2 a3 hx hy=>by
  have:=u1 n m a1 a2 a3;rw[KI_key hx,KI_key hy] at this;exact this
 have m2:∀ n m x y,sb<=n->n<=m->m<sb+nb->(arrOf st)[n]?=some x->(arrOf st)[m]?=some y->LE x y:=fun n m x y a1 a2 a3 hx hy=>by
  have:=u2 n m a1 a2 a3;rw[KI_key hx,KI_key hy] at this;exact this
 obtain⟨pb,hpb,ipb⟩:=at_ sb Aa;refine aO (jX hpb ?_);refine aO (jL7 (G1.1.trans hk) ipb hI m1 hna (show sa+na<=(arrOf st).size by lia) fun k1 g1 g2 g3=>?_);dsimp only;have g2:∀ t,sa<=t->t<sa+k1->KI (arrOf st) t<=KI (arrOf st) sb:=fun t t1 t2=>by
  obtain⟨q,hq,_⟩:=at_ t Aa;rw[KI_key hq,KI_key hpb];exact g2 t q t1 t2 hq
 by_cases e1:na - k1=0
 ·rw[aq (bp e1)];refine aQ (h _ ⟨?_,G1.1.trans hk,G1.2.2.2.trans hf,G1.2.2.1.trans hpp.symm,fun k _=>?_,?_⟩)
  ·rw[G1.2.1]
  ·rw[G1.2.1]
  ·rw[G1.2.1];intro i j i1 i2 i3;by_cases a:i<sb
   ·by_cases b:j<sb
    ·exact u1 i j i1 i2 Aa
    ·exact de (g2 i i1 Aa) (u2 sb j (aA _) Aa Aa)
   ·exact u2 i j Aa i2 Aa
 rw[ak (bn e1)];obtain⟨pa,hpa,ipa⟩:=at_ (sa+k1+(na - k1) - 1) Aa;refine aO (jX hpa ?_);refine aO (jL8 (G1.1.trans hk) ipa hI m2 Aa (show sb+nb<=(arrOf st).size by lia) fun k2 l1 l2 l3=>?_);dsimp only;have epa:sa+k1+(na - k1) - 1=sb - 1:=Aa;rw[epa] at hpa;have l3':∀ t,sb+k2<=t->t<sb+nb->KI (arrOf st) (sb - 1)<=KI (arrOf st) t:=fun t t1 t2=>by
  obtain⟨q,hq,_⟩:=at_ t Aa;rw[KI_key hq,KI_key hpa];exact l3 t q t1 t2 hq
 by_cases e2:k2=0
 ·rw[aq (bp e2)];refine aQ (h _ ⟨?_,G1.1.trans hk,G1.2.2.2.trans hf,G1.2.2.1.trans hpp.symm,fun k _=>?_,?_⟩)
  ·rw[G1.2.1]
  ·rw[G1.2.1]
  ·rw[G1.2.1];intro i j i1 i2 i3;by_cases a:i<sb
   ·by_cases b:j<sb
    ·exact u1 i j i1 i2 Aa
    ·exact de (u1 i (sb - 1) i1 Aa Aa) (l3' j Aa Aa)
   ·exact u2 i j Aa i2 Aa
 rw[ak (bn e2)];have T:Two ((arrOf st).extract (sa+k1) sb) ((arrOf st).extract sb (sb+k2)):=by
  refine⟨fun q hq=>?_,fun q hq=>?_,jPD fun n m x y a1 a2 a3=>m1 n m x y Aa a2 Aa,jPD fun n m x y a1 a2 a3=>m2 n m x y Aa a2 Aa,?_,?_,fun x hx y hy=>?_,fun y hy q hq=>?_⟩
  ·obtain⟨t,_,_,t3⟩:=jD7 hq;exact hI q (aH (at_list.mp t3))
  ·obtain⟨t,_,_,t3⟩:=jD7 hq;exact hI q (aH (at_list.mp t3))
  ·rw[jEY Aa]; lia
  ·rw[jEY Aa]; lia
  ·obtain⟨t,t1,t2,t3⟩:=jD7 hx;rw[jEY Aa,jLC Aa,show sa+k1+(sb - (sa+k1) - 1)=sb - 1 by lia,hpa] at hy;cases hy;exact l2 t x t1 t2 t3
  ·obtain⟨t,t1,t2,t3⟩:=jD7 hy;rw[jLC Aa,jp,hpb] at hq;cases hq;exact g3 t y t1 Aa t3
 by_cases e3:na - k1<=k2
 case' pos=>
  rw[aq e3];refine aO (jIT (G1.1.trans hk) T fun r st2 D G0=>?_);have G:SG (SortSt.mk' (kindOf st) (arrOf st) pp (gallopOf st) (failedOf st)) st2:=by rw[hst1]; exact G0
  subst hpp
 case' neg=>
  rw[ak e3];refine aO (jIU (G1.1.trans hk) T fun r st2 D G0=>?_);have G:SG (SortSt.mk' (kindOf st) (arrOf st) pp (gallopOf st) (failedOf st)) st2:=by rw[hst1]; exact G0
  subst hpp
 all_goals
  refine aO (eY (aO (gI ?_)));have ea:arrOf st2=arrOf st:=G.a;have W:=jM1 (R:=((r.toList.zipIdx 0).foldl (fun (a:Array Keyed) (x:Keyed×Nat)=>a.setIfInBounds (sa+k1+x.2) x.1) (arrOf st))) hsb Aa Aa l1 hz u1 u2 g2 l3' D (jKF (sa+k1) r.toList 0 (arrOf st) ((arrOf st).toList.take (sa+k1)) (((arrOf st).extract (sa+k1) sb).toList++((arrOf st).extract sb (sb+k2)).toList) ((arrOf st).toList.drop (sb+k2)) (by rw[bO,aP]; lia) D.1.length_eq.symm (by
   have a1:=bM (sa+k1) (arrOf st).toList;have a2:=bM (sb - (sa+k1)) ((arrOf st).toList.drop (sa+k1));have a3:=bM k2 ((arrOf st).toList.drop sb);rw[iM] at a2 a3;rw[show sa+k1+(sb - (sa+k1))=sb by lia] at a2;rw[jAQ,jAQ,cq,aZ,a3,a2,a1]))
  rw[<- ea] at W;refine jMK (by show (failedOf st2).isNone=true; rw[G.f]; show (failedOf st).isNone=true; rw[hf]; rfl) (h _ ⟨?_,G.k.trans hk,G.f.trans hf,G.p,?_,?_⟩)
  ·rw[<- ea];exact W.1
  ·rw[<- ea];exact W.2.1
  ·exact W.2.2
end
def Runs (xs:Array Keyed):List (Nat×Nat×Nat)->Nat->Nat->Prop
 | [],a,b=>a=b
 | (s,n,_)::t,a,b=>s=a/\0<n/\Up xs s n/\Runs xs t (a+n) b
section
variable {xs ys:Array Keyed}
theorem Runs.le:∀ {l:List (Nat×Nat×Nat)}{a b:Nat},Runs xs l a b->a+l.length<=b
 | [],a,b,h=>by have:a=b:=h; rw[cA]; lia
 | (s,n,_)::t,a,b,⟨_,h2,_,h4⟩=>by
  have:=Runs.le h4;rw[aU];lia
theorem Runs.app:∀ {l m:List (Nat×Nat×Nat)}{a b:Nat},Runs xs (l++m) a b->∃ c,Runs xs l a c/\Runs xs m c b
 | [],m,a,b,h=>⟨a,rfl,h⟩
 | (s,n,_)::t,m,a,b,⟨h1,h2,h3,h4⟩=>by
  obtain⟨c,c1,c2⟩:=Runs.app h4;exact⟨c,⟨h1,h2,h3,c1⟩,c2⟩
theorem Runs.put:∀ {l m:List (Nat×Nat×Nat)}{a b c:Nat},Runs xs l a c->Runs xs m c b->Runs xs (l++m) a b
 | [],m,a,b,c,h,g=>by have:a=c:=h; subst this; exact g
 | (s,n,_)::t,m,a,b,c,⟨h1,h2,h3,h4⟩,g=>⟨h1,h2,h3,Runs.put h4 g⟩
theorem Up.same {lo n:Nat}(h:Up xs lo n)(e:∀ k,lo<=k->k<lo+n->KI ys k=KI xs k):Up ys lo n:=fun i j h1 h2 h3=>by
 rw[e i h1 Aa,e j Aa h3];exact h i j h1 h2 h3
theorem Runs.same:∀ {l:List (Nat×Nat×Nat)}{a b:Nat},Runs xs l a b->(∀ k,a<=k->k<b->KI ys k=KI xs k)->Runs ys l a b
 | [],a,b,h,_=>h
 | (s,n,_)::t,a,b,⟨h1,h2,h3,h4⟩,e=>by
  have:=Runs.le h4;exact⟨h1,h2,h3.same fun k k1 k2=>e k Aa Aa,Runs.same h4 fun k k1 k2=>e k Aa k2⟩
theorem Runs.mod {f:Nat×Nat×Nat->Nat×Nat×Nat}(hf:∀ x,(f x).1=x.1/\(f x).2.1=x.2.1):∀ {l:List (Nat×Nat×Nat)}{i a b:Nat},Runs xs l a b->Runs xs (l.modify i f) a b
 | [],i,a,b,h=>by rw[List.modify_nil]; exact h
 | (s,n,w)::t,0,a,b,⟨h1,h2,h3,h4⟩=>by
  rw[List.modify_zero_cons];obtain⟨e1,e2⟩:=hf (s,n,w);generalize f (s,n,w)=v at e1 e2 ⊢;obtain⟨s',n',w'⟩:=v;have e1:s'=s:=e1;have e2:n'=n:=e2;subst e1 e2;exact⟨h1,h2,h3,h4⟩
 | (s,n,w)::t,i+1,a,b,⟨h1,h2,h3,h4⟩=>by
  rw[List.modify_succ_cons];exact⟨h1,h2,h3,Runs.mod hf h4⟩
end
structure RI (a₀:Array Keyed)(lo:Nat)(st:SortSt):Prop where
 perm:(arrOf st).Perm a₀
 kind:kindOf st=Od.kd
 failed:failedOf st=none
 runs:Runs (arrOf st) (pendingOf st).toList 0 lo
theorem jHA:∀ (l:List (Nat×Nat×Nat)) (i:Nat),i+1<l.length->∃ u x y t,l=u++x::y::t/\u.length=i
 | [],i,h=>absurd h (eZ _)
 | [x],i,h=>by rw[gR] at h; lia
 | x::y::t,0,h=>⟨[],x,y,t,rfl,rfl⟩
 | x::y::t,i+1,h=>by
  obtain⟨u,x',y',t',e,hu⟩:=jHA (y::t) i (by rw[aU] at h; lia);exact⟨x::u,x',y',t',by rw[e]; rfl,by rw[aU,hu]⟩
theorem jVC {a₀ xs:Array Keyed}(h0:AllI a₀.toList)(hp:xs.Perm a₀):AllI xs.toList:=fun p hp'=>h0 p ((cr.mp hp).mem_iff.mp hp')
section
variable {prog:Program}{w:World}{A:Around}{E:Ah}{s:Shared} [LtOk prog w A s]{a₀:Array Keyed}
theorem jE2 {st:SortSt}{i lo:Nat}{Q:Bool->SortSt->Prop}(h0:AllI a₀.toList)(R:RI a₀ lo st)(hlo:lo<=a₀.size)(hi:i+1<(pendingOf st).size)
  (h:∀ st',RI a₀ lo st'->(pendingOf st').size+1=(pendingOf st).size->(∀ k,lo<=k->KI (arrOf st') k=KI (arrOf st) k)->Q true st'):wpS (model prog w) A E s (mergeAt' i) Q st:=by
 obtain⟨u,⟨sa,na,pw⟩,⟨sb,nb,w2⟩,t,e,hu⟩:=jHA (pendingOf st).toList i (by rw[aP]; exact hi);have rr:=R.runs;rw[e] at rr;obtain⟨c,r1,a1,a2,a3,a4,a5,a6,a7⟩:=Runs.app rr;have r2:=Runs.le a7;have r3:=Runs.le r1;subst a1;have e1:(pendingOf st)[i]?=some (sa,na,pw):=by
  rw[<- bY,e,bi Aa,hu,gL];rfl
 have e2:(pendingOf st)[i+1]?=some (sb,nb,w2):=by
  rw[<- bY,e,bi Aa,hu,cq];rfl
 have z:=R.perm.size_eq;refine jIV R.kind R.failed (jVC h0 R.perm) e1 e2 a4 a2 a5 Aa a3 a6 fun st' M=>?_;have ep:(pendingOf st').toList=u++(sa,na+nb,pw)::t:=by
  rw[M.pend,Array.toList_eraseIdxIfInBounds,iQ,e,kj _ _ Aa,hu,gL,List.set_cons_zero,List.eraseIdx_append_of_length_le Aa,hu,cq];rfl
 refine h st' ⟨M.perm.trans R.perm,M.kind,M.failed,?_⟩ ?_ fun k hk=>M.out k Aa
 ·rw[ep];refine Runs.put (Runs.same r1 fun k k1 k2=>M.out k Aa) ⟨rfl,Aa,M.up,?_⟩;have:=Runs.same (ys:=arrOf st') a7 fun k k1 k2=>M.out k Aa;rw[Nat.add_assoc] at this;exact this
 ·have q1:=bW List.length ep;have q2:=bW List.length e;rw[aP,aL,aU] at q1;rw[aP,aL,aU,aU] at q2;lia
theorem RI.of {st:SortSt}{F:Nat->Int}{lo:Nat}{p:Array (Nat×Nat×Nat)}{xs:Array Keyed}(h:BB a₀ p F lo st)(hr:Runs xs p.toList 0 lo)(hF:∀ k,F k=KI xs k):RI a₀ lo st:=
 ⟨h.perm,h.kind,h.failed,by rw[h.pend]; exact hr.same fun k _ hk=>(h.low k hk).trans (hF k)⟩
theorem wpS_sortRunsAny {st:SortSt}{Q:Unit->SortSt->Prop}(h0:AllI a₀.toList)(hB:SB a₀ st)(h1:1<=a₀.size)
  (h:∀ st',(arrOf st').Perm a₀->failedOf st'=none->STo (arrOf st') a₀.size->Q () st'):wpS (model prog w) A E s sortRuns' Q st:=by
 rw[sortRuns'_eq];refine aO (gI ?_)
 try dsimp only
 have hz:=hB.size;rw[hz];generalize minRun' a₀.size a₀.size 0=mr;refine aO (dF (ci (I:=fun x c st'=>∃ lo,c=(none,lo)/\x<=lo/\lo<=a₀.size/\RI a₀ lo st')
  (Q:=fun c st'=>c=(none,a₀.size)/\RI a₀ a₀.size st') ?step ?fin ⟨0,rfl,aA _,bw _,hB.perm,hB.kind,hB.failed,by rw[hB.pend]; rfl⟩) ?post)
 case fin=>
  rintro c st' ⟨lo,rfl,l1,l2,R⟩;have:lo=a₀.size:=by lia
  subst this;exact⟨rfl,R⟩
 case step=>
  rintro x c st1 _ hx ⟨lo,rfl,l1,l2,R1⟩
  try dsimp only
  by_cases hl:lo ≥ a₀.size
  ·rw[aq hl];have:lo=a₀.size:=by lia
   subst this;exact aQ ⟨rfl,R1⟩
  rw[ak hl];refine aO (jFW (F:=fun k=>KI (arrOf st1) k) (p:=pendingOf st1) h0 Aa Aa ⟨R1.perm,R1.kind,R1.failed,rfl,fun _ _=>rfl⟩ fun m st2 B2 m1 m2 U2=>?_)
  try dsimp only
  by_cases hm:m<mr
  case' pos=>
   rw[aq hm];refine aO (h9 (db ⟨rfl,?_⟩));refine aO (jE3 h0 Aa Aa B2 U2 fun st4 B4 U4=>?_);have R4:=RI.of B4 R1.runs fun _=>rfl;have n0:0<min (a₀.size - lo) mr:=Aa;have n9:min (a₀.size - lo) mr<=a₀.size - lo:=Aa;generalize min (a₀.size - lo) mr=n at*
  case' neg=>
   rw[ak hm];have R4:=RI.of B2 R1.runs fun _=>rfl;have U4:=U2;generalize st2=st4 at*;generalize m=n at*
  all_goals
   refine aO (gI ?_);have last:∀ st5:SortSt,RI a₀ lo st5->Up (arrOf st5) lo n->∃ lo',(none,lo+n)=((none:Option PUnit),lo')/\x+1<=lo'/\lo'<=a₀.size/\RI a₀ lo' (setPending st5 ((pendingOf st5).push (lo,n,0))):=fun st5 R5 U5=>
    ⟨lo+n,rfl,Aa,Aa,R5.perm,R5.kind,R5.failed,by
     show Runs (arrOf st5) ((pendingOf st5).push (lo,n,0)).toList 0 (lo+n);rw[eD];exact R5.runs.put ⟨rfl,Aa,U5,rfl⟩⟩
   cases hb:(pendingOf st4).back? with
   | none=>
    try dsimp only
    exact aO (eY (aQ (last st4 R4 U4)))
   | some v=>
    obtain⟨s1,n1,w1⟩:=v
    try dsimp only
    refine aO (dF (ci (I:=fun _ c st'=>c=(none,())/\RI a₀ lo st'/\Up (arrOf st') lo n) (Q:=fun c st'=>c=(none,())/\RI a₀ lo st'/\Up (arrOf st') lo n) ?mstep (fun _ _ z=>z) ⟨rfl,R4,U4⟩) ?mpost)
    case mstep=>
     rintro y c st5 _ _ ⟨rfl,R5,U5⟩
     try dsimp only
     refine aO (gI ?_);by_cases hs:(pendingOf st5).size>1
     ·rw[aq hs];obtain⟨v,hv⟩:∃ v,(pendingOf st5)[(pendingOf st5).size - 2]?=some v:=⟨_,Array.getElem?_eq_getElem Aa⟩;rw[hv];obtain⟨v1,v2,older⟩:=v
      try dsimp only
      by_cases ho:older<=power' a₀.size (2*s1+n1) (2*s1+n1+n1+n) a₀.size
      ·rw[aq ho];exact aQ ⟨rfl,R5,U5⟩
      rw[ak ho];refine aO (jE2 h0 R5 Aa Aa fun st6 R6 _ E6=>?_);exact aQ ⟨rfl,R6,U5.same fun k k1 _=>E6 k k1⟩
     ·rw[ak hs];exact aQ ⟨rfl,R5,U5⟩
    case mpost=>
     rintro c st5 ⟨rfl,R5,U5⟩
     try dsimp only
     refine aO (eY (aO (eY (aQ (last (setPending st5 ((pendingOf st5).modify ((pendingOf st5).size - 1) fun x=>(x.1,x.2.1,power' a₀.size (2*s1+n1) (2*s1+n1+n1+n) a₀.size))) ⟨R5.perm,R5.kind,R5.failed,?_⟩ U5)))));show Runs (arrOf st5) (Array.modify _ _ _).toList 0 lo;rw[Array.toList_modify];exact Runs.mod (f:=fun x=>(x.1,x.2.1,power' a₀.size (2*s1+n1) (2*s1+n1+n1+n) a₀.size)) (fun _=>⟨rfl,rfl⟩) R5.runs
 case post=>
  rintro c st1 ⟨rfl,R1⟩
  try dsimp only
  refine aO (dF (ci (I:=fun x c st'=>c=(none,())/\RI a₀ a₀.size st'/\1<=(pendingOf st').size/\(pendingOf st').size+x<=a₀.size)
   (Q:=fun c st'=>c=(none,())/\RI a₀ a₀.size st'/\(pendingOf st').size=1) ?step2 ?fin2 ⟨rfl,R1,?a1,?a2⟩) ?post2)
  case a1=>
   have:=R1.runs;cases hp:(pendingOf st1).toList with
   | nil=>
    rw[hp] at this;have:0=a₀.size:=this;lia
   | cons v t=>
    have:=bW List.length hp;rw[aP,aU] at this;lia
  case a2=>
   have:=R1.runs.le;rw[aP] at this;lia
  case fin2=>
   rintro c st2 ⟨_,_,h2,h3⟩;lia
  case post2=>
   rintro c st2 ⟨rfl,R2,h2⟩
   try dsimp only
   refine aQ (h st2 R2.perm R2.failed ?_);have rr:=R2.runs;cases hp:(pendingOf st2).toList with
   | nil=>
    rw[<- aP,hp] at h2;cases h2
   | cons v t=>
    have:=bW List.length hp;rw[aP,h2,aU] at this;have:t=[]:=dH Aa;subst this;rw[hp] at rr;obtain⟨v1,v2,v3⟩:=v;obtain⟨q1,q2,q3,q4⟩:=rr;have q4:0+v2=a₀.size:=q4;subst q1;exact fun i j hij hj=>q3 i j (bw _) hij Aa
  case step2=>
   rintro x c st2 _ hx ⟨rfl,R2,h2,h3⟩
   try dsimp only
   refine aO (gI ?_);by_cases hs:(pendingOf st2).size<=1
   ·rw[aq hs];exact aQ ⟨rfl,R2,Aa⟩
   rw[ak hs];refine aO (jE2 h0 R2 (aA _) ?_ fun st3 R3 e3 _=>?_)
   ·have ite_le:∀ (c:Prop) [Decidable c] (a b:Nat),(if c then a else b)<=max a b:=fun c _ a b=>by
     by_cases z:c
     ·rw[aq z]; lia
     ·rw[ak z]; lia
    refine ly (Nat.add_le_add_right (ite_le _ _ _) 1) ?_;lia
   ·exact aQ ⟨rfl,R3,Aa,Aa⟩
end
end TM
namespace TM
open PySem PySem.Spec PyProof.Rows
section
variable {prog:Program}{w:World}{A:Around}{E:Ah}{s:Shared}
abbrev turned (b:Bool)(xs:Ao):Ao:=if b then xs.reverse else xs
theorem jIZ {b:Bool}{xs:Ao} :(turned b xs).size=xs.size:=by
 cases b
 ·rfl
 ·exact Array.size_reverse
theorem jCV (b:Bool)(vs:Am):(if b=true then (vs.toArray.zip vs.toArray).reverse else vs.toArray.zip vs.toArray).Perm (pairsOf vs):=by
 cases b with
 | false=>exact ka _
 | true=>exact cr.mpr (by show ((vs.toArray.zip vs.toArray).reverse).toList.Perm _; rw[dG]; exact List.reverse_perm _)
def AskOk [Od](prog:Program)(w:World)(A:Around)(s:Shared)(a:Addr)(vs:Am):Prop:=
 ∀ h6:Heap,(∀ c o,s.heap.get? c=some o->c≠a->h6.get? c=some o)->
  (∀ (Q:SortKind->Shared->Prop) (E:Ah),Q Od.kd { s with heap:=h6} ->wpAny (model prog w) A (keyKind' vs.toArray) Q E { s with heap:=h6})/\LtOk prog w A { s with heap:=h6}
theorem jK8 [Od]{a:Addr}{vs:Am}{n:Nat}{b:Bool}{P:Fin->Shared->Prop}(ho:s.heap.get? a=some (seqObj "list" vs.toArray n))(hz:vs.length<=sizeLine)(hI:AllI (pairsOf vs).toList)(hk:2<=vs.length->AskOk prog w A s a vs)
  (h:∀ xs:Array Keyed,xs.Perm (pairsOf vs)->STo xs (pairsOf vs).size->P (.done (.ret .none)) { s with heap:=sortedHeap s.heap a vs (turned b (xs.map (·.2)))}):
  wpAny (model prog w) A (Builtin.«list.sort» ⟨[.ref a],[(Str.ofString "reverse", .bool b)]⟩) P E s:=by
 rw[list_sort_rev];have ha:=aK ho;have hz':vs.toArray.size<=sizeLine:=by rw[az]; exact hz
 refine ae (gH ho rfl (ae (eJ ho rfl ?_ hz' (bw _))));obtain⟨e1,ho1⟩:∃ e1,(s.heap.update a (Obj.mapSeq fun _=>#[])).get? a=some (seqObj "list" #[] e1):=⟨_,gm ho _⟩;refine ae (iV ho1 rfl (ae (ku ?_ hz)));refine ae (eI (bX ?_));generalize hh6:((s.heap.update a (Obj.mapSeq fun _=>#[])).push (seqObj "tuple" vs.toArray 0)).push (seqObj "list" #[] 0)=h6;have ho6:h6.get? a=some (seqObj "list" #[] e1):=by
  rw[<- hh6];exact ah _ (ah _ ho1)
 have k6:∀ c o,s.heap.get? c=some o->c≠a->h6.get? c=some o:=fun c o q ne=>by
  rw[<- hh6];exact ah _ (ah _ ((bE _ _ (ev ne)).trans q))
 have sh:∀ out,sortedHeap s.heap a vs out=h6.update a (Obj.mapSeq fun _=>out):=fun out=>by rw[<- hh6]; rfl
 have go:∀ X:Sem Fin,wpAny (model prog w) A X P E { s with heap:=h6} ->wpAny (model prog w) A (if b=true then (do let _ <- rule "list.sort.reverse"; X) else X) P E { s with heap:=h6} :=fun X hX=>by
  cases b with
  | false=>exact hX
  | true=>exact ae (db hX)
 have hend:∀ st':SortSt,(arrOf st').Perm (pairsOf vs)->STo (arrOf st') (pairsOf vs).size->P (.done (.ret .none)) { s with heap:=h6.update a (Obj.mapSeq fun _=>turned b ((arrOf st').map (·.2)))} :=fun st' p1 p2=>by
  rw[<- sh];exact h _ p1 p2
 have hfit:∀ st':SortSt,(arrOf st').Perm (pairsOf vs)->(turned b ((arrOf st').map (·.2))).size<=sizeLine+1:=fun st' p1=>by
  rw[jIZ,size_map,p1.size_eq,pairsOf_size];lia
 dsimp only;refine go _ ?_;by_cases few:vs.toArray.size<2
 ·rw[aq few,aq few];refine ae (aj ?_);rw[StateT.run_pure];refine ae (aj ?_);dsimp only;refine ae (iV ho6 rfl (ae (eJ ho6 rfl ?_ (bw _) (hfit (SortSt.mk' general' _ #[] 7 none) (jCV b vs)))));rw[iW,ak ay];refine aj (hend (SortSt.mk' general' _ #[] 7 none) (jCV b vs) fun i j hij hj=>?_);have:i=j:=by
   rw[pairsOf_size] at hj;rw[az] at few;lia
  rw[this];exact cX _
 ·rw[ak few,ak few];rw[az] at few;obtain⟨kk,ll⟩:=hk Aa h6 k6;refine ae (kk _ _ (ae (cm (wpS_sortRunsAny (a₀:=pairsOf vs) (st:=SortSt.mk' Od.kd _ #[] 7 none)
   (Q:=fun _ st'=>(arrOf st').Perm (pairsOf vs)/\failedOf st'=none/\STo (arrOf st') (pairsOf vs).size)
   hI ⟨jCV b _,rfl,rfl,rfl⟩ (by rw[pairsOf_size]; lia) fun st' a1 a2 a3=>⟨a1,a2,a3⟩) ?_ fun _ _ e=>e)))
  rintro ⟨⟨⟩,st'⟩ s' ⟨rfl,p1,p2,p3⟩;dsimp only;refine ae (iV ho6 rfl (ae (eJ ho6 rfl ?_ (bw _) (hfit st' p1))));rw[p2];dsimp only;rw[iW,ak ay];exact aj (hend st' p1 p3)
theorem jNC (a:Addr):Builtin.«list.sort» ⟨[.ref a],[]⟩=Builtin.«list.sort» ⟨[.ref a],[(Str.ofString "reverse", .bool false)]⟩:=by
 rw[list_sort_plain,list_sort_rev];rfl
abbrev odI:Od:=⟨oneType',fun p=>numOf p.1,fun p=>∃ n t,p.1=Value.int n t⟩
theorem ltI: @LtOk prog w A s odI:= @LtOk.mk prog w A s odI fun {E st x y Q} hk hx hy h=>by
 obtain⟨a,t,ha⟩:=hx;obtain⟨b,u,hb⟩:=hy;have e1: @key odI x=a:=by show numOf x.1=a; rw[ha]; rfl
 have e2: @key odI y=b:=by show numOf y.1=b; rw[hb]; rfl
 rw[e1,e2] at h;rw[lt'_eq];refine aO (gI ?_);rw[show kindOf st=oneType' from hk,keyLt'_oneType,ha,hb];exact aO (h9 (eG (oneLt_int ⟨rfl,aQ h⟩)))
theorem stoI {xs:Array Keyed}{k:Nat}(h: @STo odI xs k):SortedTo xs k:=h
theorem askI {a:Addr}{vs:Am}{ns:Ag}(hI:IntsAre vs ns)(h2:2<=vs.length): @AskOk odI prog w A s a vs:=fun h6 _=>⟨fun Q E h=>by
 obtain⟨u,v,r,rfl⟩:∃ u v r,vs=u::v::r:=by
  match vs,h2 with
  | [_],few=>exact absurd few (show ¬ 2<=1 by decide)
  | u::v::r,_=>exact⟨u,v,r,rfl⟩
 rw[keyKind_ints hI];exact aj h,ltI⟩
theorem sort_rev_any {a:Addr}{vs:Am}{ns:Ag}{n:Nat}{b:Bool}{P:Fin->Shared->Prop}(ho:s.heap.get? a=some (seqObj "list" vs.toArray n))(hI:IntsAre vs ns)(hz:vs.length<=sizeLine)
  (h:∀ (out:Ao) (ns':Ag),IntsAre out.toList ns'->ns'.Perm ns->Ordered b ns'->P (.done (.ret .none)) { s with heap:=sortedHeap s.heap a vs out}):
  wpAny (model prog w) A (Builtin.«list.sort» ⟨[.ref a],[(Str.ofString "reverse", .bool b)]⟩) P E s:=
 @jK8 prog w A E s odI a vs n b P ho hz hI.intKeys (fun h2=>askI hI h2) fun xs p1 p2=>by
  obtain⟨ns',q1,q2,q3⟩:=sorted_out_rev hI p1 (stoI p2) b;exact h _ ns' q1 q2 q3
end
end TM
namespace L2
open PySem PySem.Spec PyProof.Rows
section
variable {prog:Program}{w:World}{A:Around}{E:Ah}{s:Shared}{d:Addr}{kvs:List (Key×Value)}
theorem jFP:∀ {vs:Am}{ks:Ag},vs.length=ks.length->(∀ (j:Nat) (v:Value),vs[j]?=some v->∃ i t,ks[j]?=some i/\v=Value.int i t)->IntsAre vs ks
 | [],[],_,_=> .nil
 | [],_::_,h,_=>by cases h
 | _::_,[],h,_=>by cases h
 | v::vs,a::r,h,hat=>by
  obtain⟨i,t,e1,rfl⟩:=hat 0 v rfl;cases e1;exact .cons _ t (jFP (Nat.succ.inj h) fun j v e=>hat (j+1) v e)
theorem jHD {Q:Ah}{ks:Ag}{b:Bool}(hh:A.handled=none)(lo:(d==sysModules)=false)(D:s.heap.DictOf (kX prog w) d kvs)(hk:kvs.map (·.1)=ks.map Sum.inl)(hz:ks.length<=sizeLine)
  (h:∀ (hf:Heap) (tk:Nat) (l:Addr) (vs:Am) (ns:Ag) (e:Nat),s.heap.objs.size<=l->(∀ b u,s.heap.get? b=some u->hf.get? b=some u)->
   hf.get? l=some { cls:= .type "list",data:= .seq vs.toArray e} ->IntsAre vs ns->ns.Perm ks->Ordered b ns->Q (.ref l) { s with heap:=hf,toks:=tk}):
  wpAny (model prog w) A (call (.builtin "sorted") [.ref d] [(Str.ofString "reverse", .bool b)]) Q E s:=by
 obtain⟨ep,hat⟩:=D.dictAt;have hlen:kvs.length=ks.length:=by
  have:=bW List.length hk
  rwa [af,af] at this
 refine call_function_entry_kw iT ix iy (args_sorted_rev _ _) ?_;unfold Builtin.«sorted»;refine ae (m:=checkCount "sorted" 1 1 _) (aj ?_);refine ae (jJT (A:=A.in1) (PySem.W.kdl_dict (knd:=kX prog w) (kvs:=kvs) (ep:=ep) lo) hh hat Aa fun h1 tk acc hk1 hlt1 hacc=>?_);have hal:acc.toList.length=ks.length:=by rw[aP,hacc.1,hlen]
 have hI:IntsAre acc.toList ks:=jFP hal fun j v e=>by
  obtain⟨k,x,hx,hv⟩:=hacc.2 j v (by rw[<- bY]; exact e);have e2:(kvs.map (·.1))[j]?=some k:=by rw[aV,hx]; rfl
  rw[hk,aV] at e2;cases hq:ks[j]? with
  | none=>rw[hq] at e2; cases e2
  | some i=>
   rw[hq] at e2;cases e2;rcases jA0 (show keyIs (Sum.inl i) v=true from hv) with ⟨i',t,q1,q2⟩ | ⟨x,t,q1,q2⟩
   ·cases q1;exact⟨i,t,rfl,q2⟩
   ·cases q1
 refine ae (eI ?_ Aa);have hL:(h1.push (seqObj "list" acc.toList.toArray 0)).get? h1.objs.size=some (seqObj "list" acc.toList.toArray 0):=aF _ rfl;show wpAny _ _ _ _ _ { s with heap:=h1.push (seqObj "list" acc.toList.toArray 0),toks:=tk};refine ae (bX (wpAny_call_entry_kw gF ⟨_,hL,rfl⟩ gj (TM.sort_rev_any hL hI Aa fun out ns' a1 a2 a3=>⟨_,rfl,?_⟩) (args_list_sort_rev _ _)));obtain⟨e,he⟩:=sortedHeap_at (out:=out) hL;have kept:∀ b u,s.heap.get? b=some u->(sortedHeap (h1.push (seqObj "list" acc.toList.toArray 0)) h1.objs.size acc.toList out).get? b=some u:=fun b u q=>by
  have q1:=hk1 b u q;have hb:b<h1.objs.size:=aK q1;rw[sortedHeap_old (aW hb) (by rw[gY]; exact da hb)];exact ah _ q1
 generalize sortedHeap (h1.push (seqObj "list" acc.toList.toArray 0)) h1.objs.size acc.toList out=hf at he kept ⊢;exact aj ⟨_,rfl,h hf tk h1.objs.size out.toList ns' e (cY hlt1) kept (by rw[cW]; exact he) a1 a2 a3⟩
end
def jQ2 (X:Cx)(f:Value)(ks:An)(r:List V->List V->Hp->VK->Prop):Prop:=
 ∀ (lH:Ai) (s:Shared) (σ:St) (H:Hp) (xs zs:List V) (us ws:Am) (Q:VK),Inv X lH σ H s->Vals xs us->Vals zs ws->r xs zs H Q->
  wpAny (model X.prog X.w) X.A (call f us (ks.zip ws)) (EP X lH σ Q) X.xe s
def tCBK (r:List V->List V->Hp->VK->Prop)(t tk:TA):TE:=fun σ H Q=>t σ H fun vs H1=>tk σ H1 fun zs H2=>r vs zs H2 Q
structure JK (X:Cx)(kws:List Keyword)(t:TA):Prop where
 h:PK X kws t
variable {X:Cx}
section
variable {x:Str}{p pos kpos:Pos}{e:Expr}{es:List Expr}{kws:List Keyword}{t tk:TA}{te:TE}{nm:Option Str}{ks:An}{id:String}{r:List V->List V->Hp->VK->Prop}
theorem jST:JK X [] tNil:=⟨jVZ⟩
theorem jOL (ha:JE X e te)(hr:JK X kws t):JK X (⟨nm,e,kpos⟩::kws) (tCons te t):=⟨jTO ha.h hr.h⟩
theorem jI4 (hc:jQ2 X (.builtin id) ks r)(hg:Gl1 X x)(hm:X.mg x=none)(hv:bootBuiltins x=some (.builtin id))(ha:JA X (e::es) t)(hkw:JK X kws tk)(he:starEach (e::es) X.env=(false,eval e X.env)::starEach es X.env)
  (hn:x≠ "__name__" :=by decide) (hdb:(x==("__debug__" :Str))=false:=by decide) (hall:(backToKw pos (keywordEach kws X.env)).all (·.1.isSome)=true:=by rfl) (hks:(backToKw pos (keywordEach kws X.env)).filterMap (·.1)=ks:=by rfl)
  (hpl:(backTo pos (starEach es X.env)).any (·.1)=false:=by rfl) (hkn:(backToKw pos (keywordEach kws X.env)).any (·.1.isNone)=false:=by rfl):JE X (.Call (.Name x p) (e::es) kws pos) (tCBK r t tk):=by
 refine⟨fun lH s σ H Q I h=>?_⟩;refine cQ (jEO I hg.a hm hv ?_ hn hdb);refine callWith_kw (lJ (ha.h pos lH s σ H _ I h) fun us s1 ⟨vs,H1,I1,r1,q1⟩=>lJ (hkw.h pos lH s1 σ H1 _ I1 q1) fun ws s2 ⟨zs,H2,I2,rz,q2⟩=>?_) (by rw[he]; rfl) (by rw[he]; exact hpl) hall hkn;rw[hks];exact hc lH s2 σ H2 vs zs us ws Q I2 r1 rz q2
theorem jGY (hc:X.calm=true):jQ2 X (.builtin "sorted") [Str.ofString "reverse"] (fun xs zs H Q=>∃ (p:Addr) (kvs:List (Key×V)) (ks:Ag) (b:Bool),xs=[.ref p]/\zs=[.bl b]/\H p=some (.dK kvs)/\kvs.map (·.1)=ks.map Sum.inl/\ks.length<=sizeLine/\
  ∀ (l:Addr) (ns:Ag),H l=none->Ordered b ns->ns.Perm ks->Q (.ref l) (upd H l (.lst (ns.map V.int)))):=by
 intro lH s σ H xs zs us ws Q I r rz h;obtain⟨p,kvs,ks,b,rfl,rfl,hp,hk,hn,q⟩:=h;obtain⟨u,rfl,rx⟩:=r.one;obtain⟨v,rfl,ry⟩:=rz.one;cases rx;cases ry;obtain⟨z,lo,vs,rel,dd⟩:=dk_of I.hok hp;refine jHD (I.ok.hd hc) lo dd (by rw[<- rel.keys]; exact hk) hn fun hf tk l vs ns e hl kp he hi pm srt=>?_;have hz:(ns.map V.int).length<=sizeLine:=by rw[af,pm.length_eq]; exact hn
 have I2:Inv X lH σ (upd H l (.lst (ns.map V.int))) { s with heap:=hf,toks:=tk} :=I.laid (t':=tk) kp hl ⟨hz,vs,e,jAA hi,he⟩;exact⟨.ref l,_,I2,rfl,q l ns (I.hok.fresh hl) srt pm⟩
end
theorem jOT {o:Expr}{to:TE}{name:Str}{apos cpos:Pos}{T id:String}{r:V->List V->Hp->VK->Prop}(pa:PlainAttrs T)(slot:Slot T name id)(hty:typeOf (.builtin id)=pure (.type "method_descriptor"))(hm:MtR X id r)(ho:JE X o to)
  (hbase:attributeBase o name X.env (eval o X.env)=eval o X.env:=by rfl) (hline:(apos.endLine==cpos.line)=true:=by rfl):JE X (.Call (.Attribute o name apos) [] [] cpos) (tBM0 X.K T r to):=⟨jW7 pa slot hty hm ho.h hbase hline⟩
def rBits:V->List V->Hp->VK->Prop:=fun x vs H Q=>∃ i,x= .int i/\vs=[]/\Q (.int (Builtin.Int.intBits i)) H
theorem jO1:MtR X "int.bit_length" rBits:=by
 intro lH s σ H x vs v us Q I rx rv h;obtain⟨i,rfl,rfl,q⟩:=h;obtain⟨t,rfl⟩:=rx;have hus:=rv.zero;subst hus;exact call_int_bit_length ⟨.int _,H,I.tok _,⟨_,rfl⟩,q⟩
theorem jOR {i o:Expr}{ty td:TE}{pos:Pos}(hu:X.A.units+1<cLine)(hi:JE X i ty)(ho:JE X o td)(h1:behindInMarks .NotIn o=false):JT X (.Compare i [.NotIn] [o] pos) (tB (jMX ty td)):=⟨jSB (jNE hu hi.h ho.h) h1⟩
def jVK (i:Int)(b:Bool):TE:=fun _ H Q=>∀ p H',H' p=some (.dK [(.inl i, .bl b)])->Ext H H'->H p=none->Q (.ref p) H'
theorem jR9 {i:Int}{b:Bool}{k1 k2:Nat}{p1 p2 pos:Pos} :JE X (.Dict [some (.Constant (.int i) k1 p1)] [.Constant (.bool b) k2 p2] pos) (jVK i b):=
 ⟨fun lH s σ H Q I h=>jTV (jQF je_int.h je_bl.h jTL) rfl rfl (by intro z; cases z) (by show 1<=15; decide) lH s σ H Q I fun p hp=>⟨j5,[(.inl i, .bl b)],rfl,by show 1<=15; decide,h p _ j5 (((Ext.refl H).new hp _).updNew hp _) hp⟩⟩
theorem jRG {K:W.Frag}{tp:Bool}{l:Addr}{xs:List V}{g:TG}{tb:TS}{D:Ends}{σ:St}{H:Hp}(Pv:Nat->St->Hp->Prop)(h0:Pv 0 σ H)(hl:∀ i σ H,Pv i σ H->Sq tp K H l xs)
  (hs:∀ i x T σ H,xs[i]?=some x->H T=none->Pv i σ H->g (.ref T) σ (upd H T (.tup [.int (i:Int),x])) fun σ2 H2=>tb { D with nx:=Pv (i+1),ct:=Pv (i+1),bk:=D.nx} σ2 H2) (hd:∀ σ H,Pv xs.length σ H->D.nx σ H):
  ∃ W:Nat->Nat->St->Hp->Prop,(∃ m,W 0 m σ H)/\∀ i m σ H,W i m σ H->
   ((Ite tp K l).stop i H/\D.nx σ H)\/((Ite tp K l).go i H/\∃ N:St->Hp->Prop,(∀ σ' H',N σ' H'->∃ m',m'<m/\W (i+1) m' σ' H')/\∀ x H',(Ite tp K l).yld i H x H'->g x σ H' fun σ2 H2=>tb { D with nx:=N,ct:=N,bk:=D.nx} σ2 H2):=by
 refine⟨fun i m σ H=>m=xs.length - i/\i<=xs.length/\Pv i σ H,⟨_,rfl,bw _,h0⟩,?_⟩;rintro i m σ H ⟨rfl,hi,p⟩;have s1:=hl i σ H p;by_cases hlt:i<xs.length
 ·refine .inr ⟨⟨xs,xs[i],s1,by simp [hlt]⟩,Pv (i+1),fun σ' H' p'=>⟨xs.length - (i+1),Aa,rfl,hlt,p'⟩,fun v H'' y=>?_⟩;obtain⟨T,x,e1,e2,e3,e4⟩:=y;subst e2 e3;exact hs i x T σ _ (e4 xs s1) e1 p
 ·have e:i=xs.length:=Aa;subst e;exact .inl ⟨⟨xs,s1,aA _⟩,hd σ H p⟩
def All2 {α β:Type}(R:α->β->Prop):List α->List β->Prop
 | [],[]=>True
 | a::as,b::bs=>R a b/\All2 R as bs
 | _,_=>False
section
variable {α β:Type}{R S:α->β->Prop}
theorem All2.len:∀ {as:List α}{bs:List β},All2 R as bs->as.length=bs.length
 | [],[],_=>rfl
 | _::_,_::_,h=>bW (· +1) (All2.len h.2)
theorem All2.imp (f:∀ a b,R a b->S a b):∀ {as:List α}{bs:List β},All2 R as bs->All2 S as bs
 | [],[],_=>trivial
 | _::_,_::_,h=>⟨f _ _ h.1,All2.imp f h.2⟩
theorem All2.snoc {a:α}{b:β} :∀ {as:List α}{bs:List β},All2 R as bs->R a b->All2 R (as++[a]) (bs++[b])
 | [],[],_,h=>⟨h,trivial⟩
 | _::_,_::_,h,k=>⟨h.1,All2.snoc h.2 k⟩
theorem All2.get:∀ {as:List α}{bs:List β}{i:Nat}{b:β},All2 R as bs->bs[i]?=some b->∃ a,as[i]?=some a/\R a b
 | [],[],i,b,_,h=>by simp at h
 | a::_,_::_,0,b,h,e=>by
  simp at e;subst e;exact⟨a,rfl,h.1⟩
 | _::_,_::_,i+1,b,h,e=>by
  obtain⟨a,h1,h2⟩:=All2.get h.2 (i:=i) (b:=b) (by simpa using e);exact⟨a,by simpa using h1,h2⟩
theorem All2.get':∀ {as:List α}{bs:List β}{i:Nat}{a:α},All2 R as bs->as[i]?=some a->∃ b,bs[i]?=some b/\R a b
 | [],[],i,b,_,h=>by simp at h
 | a::_,b::_,0,x,h,e=>by
  simp at e;subst e;exact⟨b,rfl,h.1⟩
 | _::_,_::_,i+1,x,h,e=>by
  obtain⟨b,h1,h2⟩:=All2.get' h.2 (i:=i) (a:=x) (by simpa using e);exact⟨b,by simpa using h1,h2⟩
theorem All2.append:∀ {as as':List α}{bs bs':List β},All2 R as bs->All2 R as' bs'->All2 R (as++as') (bs++bs')
 | [],_,[],_,_,h=>h
 | _::_,_,_::_,_,h,k=>⟨h.1,All2.append h.2 k⟩
theorem All2.of_get {as:List α}{bs:List β}(hl:as.length=bs.length)(h:∀ (i:Nat) a b,as[i]?=some a->bs[i]?=some b->R a b):All2 R as bs:=by
 induction as generalizing bs with
 | nil=>cases bs with
  | nil=>trivial
  | cons b bs=>cases hl
 | cons a as ih=>cases bs with
  | nil=>cases hl
  | cons b bs=>exact⟨h 0 a b rfl rfl,ih (by simpa using hl) fun i a b h1 h2=>h (i+1) a b (by simpa using h1) (by simpa using h2)⟩
end
def lowN (m:Nat):Nat:=if m % 2=1 then lowN (m / 2)+1 else 0
theorem jEK {m:Nat}(h:m % 2=0):lowN m=0:=by
 unfold lowN;rw[ak Aa]
theorem jGH {m:Nat}(h:m % 2=1):lowN m=lowN (m / 2)+1:=by
 rw[lowN,aq h]
theorem jVB (a b:Nat):a&&&b=2*((a / 2)&&&(b / 2))+(a % 2)*(b % 2):=by
 have h1:(a&&&b) / 2=(a / 2)&&&(b / 2):=Nat.and_div_two;have h2:(a&&&b) % 2=(a % 2)*(b % 2):=by
  have t:=di a b 0;rw[fJ,fJ,fJ] at t;have t':((a&&&b) % 2=1)↔(a % 2=1/\b % 2=1):=by
   rw[<- ic.trans (and_congr br br),<- t,br]
  rcases df a with ha | ha <;> rcases df b with hb | hb <;> rw[ha,hb] at t' ⊢ <;> lia
 lia
theorem jUM (m:Nat):(m+1) - ((m+1)&&&m)=2 ^ lowN m:=by
 induction m using strongRecOn with
 | _ m ih=>
  rw[jVB];rcases df m with h | h
  ·rw[jEK h,show (m+1) / 2=m / 2 by lia,Nat.and_self,h];lia
  ·have:=ih (m / 2) Aa;rw[jGH h,Nat.pow_succ,show (m+1) / 2=m / 2+1 by lia,show (m+1) % 2=0 by lia];lia
theorem jR0 (m:Nat):Builtin.Int.intBits (Builtin.bitAnd (Builtin.bitNot (m:Int)) ((m:Int)+1))=lowN m+1:=by
 have e:Builtin.bitAnd (Builtin.bitNot (m:Int)) ((m:Int)+1)=((2 ^ lowN m:Nat):Int):=by
  unfold Builtin.bitAnd;have h1:¬ (0<=Builtin.bitNot (m:Int)):=by unfold Builtin.bitNot; lia
  have h2:(0:Int)<=(m:Int)+1:=Aa;have h3:(Builtin.bitNot (Builtin.bitNot (m:Int))).toNat=m:=by unfold Builtin.bitNot; lia
  rw[aM h1,ar h2];show ((m:Int)+1) - ((((m:Int)+1).toNat&&&(Builtin.bitNot (Builtin.bitNot (m:Int))).toNat:Nat):Int)=_;rw[h3,show ((m:Int)+1).toNat=m+1 by lia,<- jUM m];have:(m+1)&&&m<=m+1:=Nat.and_le_left;lia
 rw[e];unfold Builtin.Int.intBits;have hp:0<2 ^ lowN m:=bF _;have h0:((((2 ^ lowN m:Nat):Int))==0)=false:=by
  rw[cG];lia
 rw[h0];simp [Nat.log2_two_pow]
theorem jD2 (m:Nat):m.testBit (lowN m)=false:=by
 induction m using strongRecOn with
 | _ m ih=>
  rcases df m with h | h
  ·rw[jEK h,fJ,h];rfl
  ·rw[jGH h,Nat.testBit_succ];exact ih _ Aa
theorem jEJ (m:Nat):∀ j,j<lowN m->m.testBit j=true:=by
 induction m using strongRecOn with
 | _ m ih=>
  intro j hj;rcases df m with h | h
  ·rw[jEK h] at hj;lia
  ·rw[jGH h] at hj;cases j with
   | zero=>rw[fJ,h]; rfl
   | succ j=>
    rw[Nat.testBit_succ];exact ih _ Aa j Aa
theorem jO7 {m t:Nat}(h1:m.testBit t=false)(h2:∀ j,j<t->m.testBit j=true):lowN m=t:=by
 rcases gC (lowN m) t with h | h | h
 ·have:=h2 _ h;rw[jD2] at this;cases this
 ·exact h
 ·have:=jEJ m t h;rw[h1] at this;cases this
theorem jP5 {m w:Nat}(h:m<2 ^ w)(a:∀ j,j<w->m.testBit j=true):m=2 ^ w - 1:=by
 apply cJ;intro i;rw[cI];by_cases hi:i<w
 ·rw[a i hi,ar hi]
 ·rw[aM hi];exact gM (aX h (cj Ac Aa))
theorem qH {m w:Nat}(h:m<2 ^ w)(hn:m≠2 ^ w - 1):lowN m<w:=by
 refine bR fun z=>hn (jP5 h fun j hj=>jEJ m j Aa)
abbrev Ch:=List (List (Int×Nat))
def fullN (ch:Ch):Nat:=2 ^ ch.length - 1
def chAt (ch:Ch)(m:Nat):List (Int×Nat):=(ch.getD (lowN m) []).filter fun c=>c.2&&&m==0
structure ChOk (ch:Ch):Prop where
 w:ch.length<=16
 len:∀ (t:Nat) (cs:List (Int×Nat)),ch[t]?=some cs->cs.length<=33
 it:∀ (t:Nat) (cs:List (Int×Nat)),ch[t]?=some cs->∀ c∈cs,c.2.testBit t=true/\c.2<2 ^ ch.length/\ -1<=c.1/\c.1<32
theorem ChOk.mem {ch:Ch}{m:Nat}{c:Int×Nat}(o:ChOk ch)(h:m<2 ^ ch.length)(hn:m≠fullN ch)(hc:c∈chAt ch m):c.2.testBit (lowN m)=true/\c.2<2 ^ ch.length/\c.2&&&m=0/\ -1<=c.1/\c.1<32:=by
 obtain⟨h1,h2⟩:=aR.mp hc;have hl:=qH h hn;rw[am,aC hl] at h1;obtain⟨a,b,c1,c2⟩:=o.it _ _ (aC hl) c h1;exact⟨a,b,by simpa using h2,c1,c2⟩
theorem ChOk.up {ch:Ch}{m:Nat}{c:Int×Nat}(o:ChOk ch)(h:m<2 ^ ch.length)(hn:m≠fullN ch)(hc:c∈chAt ch m):m<m|||c.2/\m|||c.2<2 ^ ch.length:=by
 obtain⟨a,b,z,_⟩:=o.mem h hn hc;refine⟨?_,iX h b⟩;refine Nat.lt_of_le_of_ne Nat.left_le_or fun e=>?_;have t:m.testBit (lowN m)=(m|||c.2).testBit (lowN m):=bW (fun z=>z.testBit (lowN m)) e;rw[b8,a,gG,jD2] at t;cases t
def gvN {α:Type}(ch:Ch)(e:α)(J:List (Int×α)->α):Nat->Nat->α
 | 0,_=>e
 | n+1,m=>if m=fullN ch then e else J ((chAt ch m).map fun c=>(c.1,gvN ch e J n (m|||c.2)))
def gv {α:Type}(ch:Ch)(e:α)(J:List (Int×α)->α)(m:Nat):α:=gvN ch e J (fullN ch - m) m
theorem jUV {α:Type}{ch:Ch}{e:α}{J:List (Int×α)->α}(o:ChOk ch):∀ (k n m:Nat),fullN ch - m<=k->fullN ch - m<=n->m<2 ^ ch.length->gvN ch e J n m=gvN ch e J k m:=by
 intro k
 induction k with
 | zero=>
  intro n m h1 h2 h3;have:m=fullN ch:=by
   unfold fullN at h1 ⊢;lia
  subst this;cases n with
  | zero=>rfl
  | succ n=>show gvN ch e J (n+1) (fullN ch)=e; rw[gvN,aq rfl]
 | succ k ih=>
  intro n m h1 h2 h3;by_cases hm:m=fullN ch
  ·subst hm;cases n with
   | zero=>show e=gvN ch e J (k+1) (fullN ch); rw[gvN,aq rfl]
   | succ n=>
    have q:∀ i,gvN ch e J (i+1) (fullN ch)=e:=fun i=>by rw[gvN,aq rfl]
    rw[q,q]
  ·have hlt:m<fullN ch:=by
    unfold fullN at hm ⊢;lia
   cases n with
   | zero=>lia
   | succ n=>
    rw[gvN,ak hm,gvN,ak hm];congr 1;refine bI fun c hc=>?_;obtain⟨u1,u2⟩:=o.up h3 hm hc;rw[ih n (m|||c.2) Aa Aa u2]
theorem jUU {α:Type}{ch:Ch}{e:α}{J:List (Int×α)->α} :gv ch e J (fullN ch)=e:=by
 unfold gv;rw[gL,gvN]
theorem jUT {α:Type}{ch:Ch}{e:α}{J:List (Int×α)->α}{m:Nat}(o:ChOk ch)(h:m<2 ^ ch.length)(hn:m≠fullN ch):gv ch e J m=J ((chAt ch m).map fun c=>(c.1,gv ch e J (m|||c.2))):=by
 have hlt:m<fullN ch:=by
  unfold fullN at hn ⊢;lia
 have:gv ch e J m=gvN ch e J ((fullN ch - m - 1)+1) m:=by
  unfold gv;rw[show fullN ch - m - 1+1=fullN ch - m by lia]
 rw[this,gvN,ak hn];congr 1;refine bI fun c hc=>?_;obtain⟨u1,u2⟩:=o.up h hn hc;unfold gv;rw[jUV o (fullN ch - (m|||c.2)) _ _ (aA _) Aa u2]
end L2
namespace L2
open PySem
variable {X:Cx}
section
variable {tg iter elt:Expr}{ifs:List Expr}{sc:Scope}{pos:Pos}{wi:TI}{g:TG}{tt:TT}{te:TE}{m:List (Option Nat)}{Nc:An}
end
end L2
namespace L2
open PySem PySem.Spec PyProof.Rows
def ZC (cl:Aj)(fs:An)(fv:List V):Shared->Hp->Prop:=fun s H=>ClOk cl s H/\FvOk fs fv cl s
theorem ZC.st (cl:Aj)(fs:An)(fv:List V):ZSt (ZC cl fs fv):=by
 rintro fr s s' H H' u ⟨C,F1,F2⟩;have kc:∀ {x c v},cl.lookup x=some c->s.heap.IsCell c v->s'.heap.IsCell c v:=fun {x c v} hc ⟨o,ho,hd⟩=>by
  obtain⟨sl,e⟩:=u.any ho (C.cell x c hc).2 Ad;exact⟨_,e,hd⟩
 refine⟨⟨C.inj,fun x c hc=>?_⟩,F1,fun i x v h1 h2=>?_⟩
 ·obtain⟨⟨v,o,ho,hd⟩,n⟩:=C.cell x c hc;exact⟨⟨v,kc hc ⟨o,ho,hd⟩⟩,u.free c o ho n Ad⟩
 ·obtain⟨c,w,a1,a2,a3⟩:=F2 i x v h1 h2;exact⟨c,w,a1,a2,kc a1 a3⟩
theorem Callee.ofN {P:Program}{w:World}{K:W.Frag}{mg:Ak}{Ar:Heap}{k:Nat}{x q:Str}{args:Arguments}{body:List Stmt}{scope:Scope}{ps fs:An}{sp:List V->Sp}{cl:Aj}{fv:List V}{a c:Addr}(F:FnN P w K mg Ar k x q args body scope ps fs sp):
  Callee P w K mg Ar (ZC cl fs fv) (fun H=>H a=some (.ext (nfP x q args body scope cl a c))/\H c=some (.ext (ncP q c))) k a (sp fv):=by
 refine⟨fun A Aq s H e z=>?_,fun A Aq s H us vs Q E hr e0 hz zh r hsp=>?_⟩
 ·obtain⟨⟨d,m,t,g⟩,_,_⟩:=(show ObjOk P w H s.heap a (.ext _) from e.hok a _ z.1);exact⟨_,_,_,_,g⟩
 ·obtain⟨p1,_,_⟩:=(show ObjOk P w H s.heap a (.ext _) from e0.hok a _ zh.1);obtain⟨p2,_,_⟩:=(show ObjOk P w H s.heap c (.ext _) from e0.hok c _ zh.2);exact F.run A Aq s H a c cl us vs fv Q E hr e0 p1 p2 hz.1 hz.2 r hsp
def jVM {ι:Type}(G:ι->St->Prop)(sp:ι->Sp)(t:TA):TE:=fun σ H Q=>t σ H fun vs H1=>∃ i,G i σ/\sp i vs H1 Q E0
theorem jL2 {ι:Type}{X:Cx}{Z:ι->Shared->Hp->Prop}{G:ι->St->Prop}{k:Nat}{f:Addr}{fd:FuncData}{ps:An}{sp:ι->Sp}{x:Str}{p pos:Pos}{e:Expr}{es:List Expr}{t:TA}(F:∀ i,FnZ X.prog X.w X.K X.mg X.Ar CX0 (Z i) k f fd ps (sp i))(hr:Room k X.A)(hg:Gl1 X x)(hm:X.mg x=some (.ref f))(hk:keepIn X.K (.ref f)=true)(hb:Binds X.K fd ps [])
  (hZ:∀ i lH s σ H,Inv X lH σ H s->G i σ->Z i s H) (ha:JA X (e::es) t) (he:starEach (e::es) X.env=(false,eval e X.env)::starEach es X.env) (hdb:(x==("__debug__" :Str))=false:=by decide) (hpl:(backTo pos (starEach es X.env)).any (·.1)=false:=by rfl):
  JE X (.Call (.Name x p) (e::es) [] pos) (jVM G sp t):=by
 refine⟨fun lH s σ H Q I h=>?_⟩;refine cQ (jJC I hg.a hm ?_ hdb);refine lv (h₀:=X.Ar) I.ok.mod.kin hk (lJ (ha.h pos lH s σ H _ I h) fun us s1 ⟨vs,H1,I1,r,i,gi,q⟩=>⟨I1.kIn,?_⟩) he hpl;have hl:(us++[]).length=ps.length:=by rw[bf,<- r.length]; exact(F i).len _ _ _ _ q
 have b:=hb s1 us I1.kIn hl;rw[bf] at b;refine iI (dS ((F i).run X.A X.stack s1 H1 ⟨us,[]⟩ us vs Q E0 hr I1.env0 b r (hZ i _ _ _ _ I1 gi) q) fun r s' hq=>?_);cases r with
 | error e=>exact hq.elim
 | ok fl=>
  cases fl with
  | ret u=>exact I1.after hq
  | next=>exact False.elim hq
  | brk=>exact False.elim hq
  | cont=>exact False.elim hq
theorem jR7 {P:Program}{w:World}{K:W.Frag}{mg:Ak}{Ar:Heap}{N:An}{qual:Str}{sc:Scope}{f:Addr}{cd:Value}{cl:Aj}{A:Around}{Aq:List Env}{s:Shared}{H:Hp}{x y:Str}{p1 p2 pos:Pos}{k i j:Nat}(hN:N.Nodup)(hi:N[i]?=some x)(hj:N[j]?=some y)(hx:sc.names.lookup x=some .local)(hy:sc.names.lookup y=some .local):
  JG (cxN P w K mg Ar N qual sc f cd cl A Aq s H) (.Tuple [.Name x p1, .Name y p2] k pos) (gTup K 2 (gCons (kR i) (gCons (kR j) gNil))):=
 jON (X:=cxN P w K mg Ar N qual sc f cd cl A Aq s H) rfl (jBJ (jL hN hi (loc_n hx)) (jBJ (jL hN hj (loc_n hy)) jJG jDB) jDB)
end L2
namespace TM
open PySem PySem.Spec PyProof.Rows PySem.W
open HT (lexLt lexLt_cons)
open L2 (All2)
theorem lex_irr:∀ x:Ag,lexLt x x=false
 | []=>rfl
 | a::x=>by rw[lexLt_cons,aq rfl]; exact lex_irr x
theorem lex_tr:∀ {x y z:Ag},lexLt x y=true->lexLt y z=true->lexLt x z=true
 | [],[],_,h,_=>by cases h
 | [],_::_,[],_,h=>by cases h
 | [],_::_,_::_,_,_=>rfl
 | _::_,[],_,h,_=>by cases h
 | _::_,_::_,[],_,h=>by cases h
 | a::x,b::y,c::z,h,k=>by
  rw[lexLt_cons] at h k ⊢;by_cases e1:a=b
  ·rw[aq e1] at h;by_cases e2:b=c
   ·rw[aq e2] at k;rw[aq (e1.trans e2)];exact lex_tr h k
   ·rw[ak e2] at k;rw[ak (e1 ▸ e2),e1];exact k
  ·rw[ak e1] at h;have h:=aG h;by_cases e2:b=c
   ·rw[ak (e2 ▸ e1),<- e2];exact ar h
   ·rw[ak e2] at k;have k:=aG k;rw[ak Aa];exact ar Aa
theorem lex_tot:∀ {x y:Ag},lexLt x y=false->lexLt y x=false->x=y
 | [],[],_,_=>rfl
 | [],_::_,h,_=>by cases h
 | _::_,[],_,h=>by cases h
 | a::x,b::y,h,k=>by
  rw[lexLt_cons] at h k;by_cases e:a=b
  ·rw[aq e] at h;rw[aq e.symm] at k;rw[e,lex_tot h k]
  ·rw[ak e] at h;rw[ak (fun z=>e z.symm)] at k;have:=gu h;have:=gu k;lia
def rk (ws:Af)(x:Ag):Int:=((ws.countP fun z=>lexLt z x:Nat):Int)
theorem jGV {p q:Ag->Bool}(h:∀ z,p z=true->q z=true):∀ ws:Af,ws.countP p<=ws.countP q
 | []=>aA _
 | a::ws=>by
  have:=jGV h ws;rw[cF,cF];have:=h a;cases hp:p a <;> cases hq:q a <;> simp_all <;> lia
theorem jLD {p q:Ag->Bool}(h:∀ z,p z=true->q z=true){x:Ag}(hp:p x=false)(hq:q x=true):∀ {ws:Af},x∈ws->ws.countP p<ws.countP q
 | a::ws,hx=>by
  rw[cF,cF];rcases aI.mp hx with e | hx
  ·have:=jGV h ws;rw[<- e,hp,hq];simp;lia
  ·have:=jLD h hp hq hx;have:=h a;cases hpa:p a <;> cases hqa:q a <;> simp_all <;> lia
theorem rk_lt {ws:Af}{x y:Ag}(hx:x∈ws):decide (rk ws x<rk ws y)=lexLt x y:=by
 unfold rk;cases h:lexLt x y with
 | true=>
  have:=jLD (p:=fun z=>lexLt z x) (q:=fun z=>lexLt z y) (fun z hz=>lex_tr hz h) (lex_irr x) h hx;exact ar Aa
 | false=>
  refine aM ?_;by_cases k:lexLt y x=true
  ·have:=jGV (p:=fun z=>lexLt z y) (q:=fun z=>lexLt z x) (fun z hz=>lex_tr hz k) ws;lia
  ·have:=lex_tot h (ck.mpr k);rw[this];lia
variable {prog:Program}{w:World}{A:Around}{E:Ah}{s:Shared}
section
variable {kd:SortKind}{f:Value->Ag}
abbrev odL (kd:SortKind)(f:Value->Ag)(ks:Am):Od:=⟨kd,fun p=>rk (ks.map f) (f p.1),fun p=>p.1∈ks⟩
theorem ltL {ks:Am}(hlt:∀ u∈ks,∀ v∈ks,∀ (Q:Bool->Shared->Prop) (E:Ah),Q (lexLt (f u) (f v)) s->wpAny (model prog w) A (keyLt' kd u v) Q E s): @LtOk prog w A s (odL kd f ks):= @LtOk.mk prog w A s (odL kd f ks) fun {E st x y Q} hk hx hy h=>by
 have e:decide (@key (odL kd f ks) x< @key (odL kd f ks) y)=lexLt (f x.1) (f y.1):=rk_lt (bJ hx);rw[e] at h;rw[lt'_eq];refine aO (gI ?_);rw[show kindOf st=kd from hk];exact aO (h9 (eG (hlt x.1 hx y.1 hy _ _ ⟨rfl,aQ h⟩)))
theorem jHR {vs:Am}{p:Keyed}(h:p∈(pairsOf vs).toList):p.1=p.2/\p.1∈vs:=by
 rw[pairsOf_toList] at h;exact mem_zip_self h
theorem allL {vs:Am} : @AllI (odL kd f vs) (pairsOf vs).toList:=fun p hp=>(jHR hp).2
theorem sto_out {vs:Am}{xs:Array Keyed}(p:xs.Perm (pairsOf vs))(h: @STo (odL kd f vs) xs (pairsOf vs).size):(xs.map (·.2)).toList.Perm vs/\(xs.map (·.2)).toList.Pairwise fun u v=>lexLt (f v) (f u)=false:=by
 have pl:=cr.mp p;have me:∀ q∈xs.toList,q.1=q.2/\q.1∈vs:=fun q hq=>jHR (pl.mem_iff.mp hq);have sz:xs.size=(pairsOf vs).size:=p.size_eq;rw[Array.toList_map];constructor
 ·have:=pl.map Prod.snd;rw[pairsOf_toList,List.map_snd_zip (aA _)] at this;exact this
 ·rw[bu,bQ];intro i j hi hj hij;rw[aP] at hi hj;have k:=h i j (cY hij) Aa;have ei:xs[i]?=some xs[i]:=iB _ i hi;have ej:xs[j]?=some xs[j]:=iB _ j hj;have m1:=me xs[i] Ad;have m2:=me xs[j] Ad;rw[@KI_key (odL kd f vs) _ _ _ ei,@KI_key (odL kd f vs) _ _ _ ej] at k;have e:decide (@key (odL kd f vs) xs[j]< @key (odL kd f vs) xs[i])=lexLt (f xs[j].1) (f xs[i].1):=rk_lt (bJ m2.2);rw[eF,eF,<- m1.1,<- m2.1,<- e];exact aM Aa
end
def TupI (h:Heap)(v:Value)(l:Ag):Prop:=∃ a n its,v= .ref a/\h.get? a=some { cls:= .type "tuple",data:= .seq its n} /\IntsAre its.toList l
def decV (h:Heap):Value->Ag
 | .ref a=>match h.get? a with
  | some o=>match o.data with
   | .seq xs _=>xs.toList.map numOf
   | _=> []
  | none=> []
 | _=> []
theorem TupI.dec {h:Heap}{v:Value}{l:Ag}(t:TupI h v l):decV h v=l:=by
 obtain⟨a,n,its,rfl,ho,hi⟩:=t;dsimp only [decV];rw[ho];exact hi.nums
theorem jNH {b:Bool}{x y:Int}{t u:Tok}{Q:Bool->Shared->Prop}(h:Q (decide (x<y)) s):wpAny (model prog w) A (oneLt' b (.int x t) (.int y u)) Q E s:=by
 cases b with
 | true=>exact oneLt_int h
 | false=>exact kat_one _ _ (HT.rcLt_int A s x t y u prog w E _ h)
theorem jSQ {b fin:Bool}{Q:Bool->Shared->Prop} :∀ {us:Am}{x:Ag}{vs:Am}{y:Ag}(i:Nat),IntsAre us x->IntsAre vs y->fin=decide (us.length<vs.length)->Q (lexLt x y) s->KatLex prog w A b fin Q (us.zip vs) i s
 | _,_,_,_,i, .nil, .nil,hf,h=>by rw[hf]; exact h
 | _,_,_,_,i, .nil, .cons _ _ _,hf,h=>by rw[hf]; exact h
 | _,_,_,_,i, .cons _ _ _, .nil,hf,h=>by rw[hf]; exact h
 | _,_,_,_,i, .cons (ns:=ns) a t h1, .cons (ns:=ms) c u h2,hf,h=>by
  rw[dX];refine kat_cons (eW a t c u prog w _ _ ?_);rw[lexLt_cons] at h;by_cases e:a=c
  ·rw[aq e] at h;rw[show (a==c)=true by simp [e]];refine kat_yes (jSQ (i+1) h1 h2 ?_ h);rw[hf,aU,aU];exact g0.mpr Aa
  ·rw[ak e] at h;rw[show (a==c)=false by simp [e]];exact kat_no (jNH h)
theorem jO5 {b:Bool}{u v:Value}{x y:Ag}{Q:Bool->Shared->Prop}(hu:TupI s.heap u x)(hv:TupI s.heap v y)(h:Q (lexLt x y) s):wpAny (model prog w) A (keyLt' (tuples' b) u v) Q E s:=by
 obtain⟨a,n,its,rfl,ho,hi⟩:=hu;obtain⟨a2,n2,its2,rfl,ho2,hi2⟩:=hv;exact kat_lt ho rfl ho2 rfl (jSQ 0 hi hi2 rfl h)
theorem jMC (x y:Value):keyLt' general' x y=oneLt' false x y:=rfl
theorem jM5 {u v:Value}{x y:Ag}{Q:Bool->Shared->Prop}(hu:TupI s.heap u x)(hv:TupI s.heap v y)(room:A.units<cLine)(h:Q (lexLt x y) s):wpAny (model prog w) A (keyLt' general' u v) Q E s:=by
 obtain⟨a,n,its,rfl,ho,hi⟩:=hu;obtain⟨a2,n2,its2,rfl,ho2,hi2⟩:=hv;rw[jMC];exact kat_one _ _ (HT.lt_tupInts (items:=its) (items2:=its2) ⟨_,ho,rfl,n,rfl⟩ ⟨_,ho2,rfl,n2,rfl⟩ hi hi2 room h)
theorem jM4 {u v:Value}{x y:Ag}{Q:Bool->Shared->Prop}(hu:TupI s.heap u x)(hv:TupI s.heap v y)(room:A.units<cLine)(h:Q (lexLt x y) s):wpAny (model prog w) A (keyLt' oneType' u v) Q E s:=by
 obtain⟨a,n,its,rfl,ho,hi⟩:=hu;obtain⟨a2,n2,its2,rfl,ho2,hi2⟩:=hv;rw[keyLt'_oneType,oneLt'_eq];simp only [g5];refine ae (wpAny_cRoomFor room ?_);have hT:s.TypeIs (.ref a) "tuple" :=⟨_,ho,rfl⟩;refine ae (wpAny_callSpecialIfBound?_slot hT gQ (gX gQ hT jl (i8 _ _) (HT.tuple_lt_ints a a2 its its2 n n2 _ _ _ _ x y hi hi2) ⟨ho,ho2,?_⟩));exact dI h
def FsOf:List (Ap)->Af->Prop:=All2 fun o l=>(o=none/\l=[])\/∃ n t r,o=some (Value.int n t)/\l=n::r
theorem jSX:∀ {vs:Am}{ws:Af},All2 (TupI s.heap) vs ws->∃ fs,FsOf fs ws/\∀ (Q:List (Ap)->Shared->Prop) (E:Ah),Q fs s->wpAny (model prog w) A (vs.mapM firstOfTuple') Q E s
 | [],[],_=>⟨[],trivial,fun Q E h=>by rw[List.mapM_nil]; exact aj h⟩
 | v::vs,l::ws,⟨⟨a,n,its,e,ho,hi⟩,r⟩=>by
  obtain⟨fs,h1,h2⟩:=jSX r;refine⟨its[0]?::fs,⟨?_,h1⟩,fun Q E h=>?_⟩
  ·obtain⟨li⟩:=its;cases hi with
   | nil=>exact .inl ⟨rfl,rfl⟩
   | cons c t _=>exact .inr ⟨c,t,_,rfl,rfl⟩
  ·rw[List.mapM_cons,e];refine ae ?_;rw[kas_first_eq];refine ae (Looks.here (show Looks (model prog w) s.heap (typeOf (.ref a)) (.type "tuple") from(Looks.ld ho).andThen .now) ?_);rw[ak (by first | decide | simp)];refine ae (gH ho rfl (aj ?_));exact ae (h2 _ _ (aj h))
theorem jP6:∀ {fs:List (Ap)}{ws:Af},FsOf fs ws->fs.all (·.isSome)=ws.all fun x=>!x.isEmpty
 | [],[],_=>rfl
 | o::fs,l::ws,⟨h,r⟩=>by
  rw[ff,ff,jP6 r];rcases h with ⟨rfl,rfl⟩ | ⟨n,t,r,rfl,rfl⟩ <;> rfl
theorem jJN:∀ {fs:List (Ap)}{ws:Af},FsOf fs ws->∀ v∈fs.filterMap id,∃ n t,v=Value.int n t
 | [],[],_,v,h=>by cases h
 | o::fs,l::ws,⟨h,r⟩,v,hv=>by
  rcases h with ⟨rfl,rfl⟩ | ⟨n,t,r',rfl,rfl⟩
  ·exact jJN r v (by simpa using hv)
  ·rw[eO] at hv;rcases aI.mp hv with e | hv
   ·exact⟨n,t,e⟩
   ·exact jJN r v hv
def kdOf (ws:Af):SortKind:=if (ws.all fun x=>!x.isEmpty)=true then tuples' true else if (ws.headD []).isEmpty=true then oneType' else general'
theorem jKO {T:Value}{vs:Am}(ne:vs≠ [])(hT:∀ v∈vs,Looks (model prog w) s.heap (typeOf v) T)(hT2:(T==T)=true){Q:Ap->Shared->Prop}(h:Q (some T) s):wpAny (model prog w) A (oneTypeOnly' vs.toArray) Q E s:=by
 obtain⟨v,r,rfl⟩:=dY ne;rw[oneTypeOnly'_eq,List.mapM_toArray,map_eq_pure_bind];refine ae (ae (kas_mapM (r:=T) _ (fun v hv Q' hq=>(hT v hv).here hq) (aj ?_)));have hall2:((List.map (fun _=>T) (v::r)).toArray.all fun x=>x==T)=true:=by
  simp only [List.all_toArray,iA,bU];intro _ _;exact hT2
 have h0:(List.map (fun _=>T) (v::r)).toArray[0]?=some T:=Ad;rw[h0];simp only [hall2,g5];exact aj h
theorem jQ7 {v:Value}{l:Ag}(h:TupI s.heap v l):Looks (model prog w) s.heap (typeOf v) (.type "tuple"):=by
 obtain⟨a,n,its,rfl,ho,_⟩:=h;exact(Looks.ld ho).andThen .now
theorem jUO {vs:Am}{ws:Af}{Q:SortKind->Shared->Prop}(t:All2 (TupI s.heap) vs ws)(h2:vs≠ [])(h:Q (kdOf ws) s):wpAny (model prog w) A (keyKind' vs.toArray) Q E s:=by
 obtain⟨fs,f1,f2⟩:=jSX (prog:=prog) (w:=w) (A:=A) t;rw[kat_kind_eq,List.mapM_toArray,map_eq_pure_bind];refine ae (ae (f2 _ _ (aj ?_)));have e:=jP6 f1;have ha:(fs.toArray.all fun x=>x.isSome)=fs.all (·.isSome):=Ad;unfold kdOf at h;rw[ha,e];cases hc:(ws.all fun x=>!x.isEmpty) with
 | true=>
  rw[hc,aq rfl] at h;rw[aq rfl];refine ae (db ?_);have hf:(fs.toArray.filterMap id)=(fs.filterMap id).toArray:=Ad;rw[hf];have ne:fs.filterMap id≠ []:=by
   intro z;obtain⟨v,vs',rfl⟩:=dY h2;cases ws with
   | nil=>exact t.elim
   | cons l ws=>
    cases fs with
    | nil=>exact f1.elim
    | cons o fs=>
     rcases f1.1 with ⟨_,q⟩ | ⟨n,t',r,q,_⟩
     ·rw[q] at hc; simp at hc
     ·rw[q,eO] at z; cases z
  refine ae (jKO (T:= .type "int") ne (fun v hv=>?_) rfl (aj ?_))
  ·obtain⟨n,t',e⟩:=jJN f1 v hv;rw[e];exact .now
  ·exact h
 | false=>
  rw[hc,ak ay] at h;rw[ak ay];obtain⟨v,vs',rfl⟩:=dY h2;cases ws with
  | nil=>exact t.elim
  | cons l ws=>
   cases fs with
   | nil=>exact f1.elim
   | cons o fs=>
    have h0:(o::fs).toArray[0]?=some o:=Ad;rw[h0];rcases f1.1 with ⟨q,q2⟩ | ⟨n,t',r,q,q2⟩
    ·rw[q2] at h;rw[q,ak Ad];refine ae (jKO (T:= .type "tuple") h2 (fun u hu=>?_) rfl (aj h));obtain⟨i,hi⟩:=bh hu;obtain⟨l',_,hl⟩:=t.get' hi;exact jQ7 hl
    ·rw[q2] at h;rw[q,aq Ad];exact aj h
theorem lt_kd {ws:Af}{u v:Value}{x y:Ag}{Q:Bool->Shared->Prop}(hu:TupI s.heap u x)(hv:TupI s.heap v y)(room:A.units<cLine)(h:Q (lexLt x y) s):wpAny (model prog w) A (keyLt' (kdOf ws) u v) Q E s:=by
 unfold kdOf;split
 ·exact jO5 hu hv h
 ·split
  ·exact jM4 hu hv room h
  ·exact jM5 hu hv room h
theorem askT {f:Value->Ag}{a:Addr}{vs:Am}{ws:Af}(t:All2 (TupI s.heap) vs ws)(hf:∀ v l,v∈vs->TupI s.heap v l->f v=l)(na:∀ v∈vs,v≠ .ref a)(room:A.units<cLine)(h2:2<=vs.length): @AskOk (odL (kdOf ws) f vs) prog w A s a vs:=fun h6 k6=>by
 have keep:∀ v l,v∈vs->TupI s.heap v l->TupI h6 v l:=fun v l hv ⟨c,n,its,e,ho,hi⟩=>⟨c,n,its,e,k6 _ _ ho fun z=>na v hv (by rw[e,z]),hi⟩;have t6:All2 (TupI h6) vs ws:=by
  have go:∀ {us:Am}{ls:Af},(∀ v∈us,v∈vs)->All2 (TupI s.heap) us ls->All2 (TupI h6) us ls:=by
   intro us
   induction us with
   | nil=>intro ls _ h; cases ls with
    | nil=>trivial
    | cons _ _=>exact h.elim
   | cons u us ih=>intro ls hm h; cases ls with
    | nil=>exact h.elim
    | cons l ls=>exact⟨keep u l (hm u (ai ..)) h.1,ih (fun v hv=>hm v (ag _ hv)) h.2⟩
  exact go (fun v hv=>hv) t
 have ne:vs≠ []:=fun z=>by rw[z] at h2; exact absurd h2 Ac
 refine⟨fun Q E h=>jUO (s:= { s with heap:=h6}) t6 ne h,ltL fun u hu v hv Q E h=>?_⟩;obtain⟨i,hi⟩:=bh hu;obtain⟨j,hj⟩:=bh hv;obtain⟨x,_,hx⟩:=t.get' hi;obtain⟨y,_,hy⟩:=t.get' hj;rw[hf u x hu hx,hf v y hv hy] at h;exact lt_kd (s:= { s with heap:=h6}) (keep _ _ hu hx) (keep _ _ hv hy) room h
theorem sorted_gen [Od]{l:Addr}{vs:Am}{Q:Ah}(hl:s.heap.IsList l vs.toArray)(hz:vs.length<=sizeLine)(hI:AllI (pairsOf vs).toList)
  (hk:2<=vs.length->∀ (h5:Heap) (a:Addr),(∀ c o,s.heap.get? c=some o->h5.get? c=some o)->s.heap.objs.size<=a->AskOk prog w A.in1.in1 { s with heap:=h5} a vs)
  (h:∀ xs:Array Keyed,xs.Perm (pairsOf vs)->STo xs (pairsOf vs).size->Q (.ref (s.heap.objs.size+1)) { s with heap:=sortedAll s.heap vs (xs.map (·.2))}):
  wpAny (model prog w) A (call (.builtin "sorted") [.ref l]) Q E s:=by
 refine fU iT ix iy (args_sorted1 _) ?_;unfold Builtin.«sorted»;refine ae (m:=checkCount "sorted" 1 1 _) (aj ?_);refine ae (collect_list hl ?_ hz);refine ae (eI ?_ hz);have hsz:((s.heap.push (seqObj "list" #[] 0)).update s.heap.objs.size (Obj.mapSeq (· ++vs.toArray))).objs.size=s.heap.objs.size+1:=by
  rw[gZ,gY]
 have hoL:(((s.heap.push (seqObj "list" #[] 0)).update s.heap.objs.size (Obj.mapSeq (· ++vs.toArray))).push (seqObj "list" vs.toArray 0)).get? (s.heap.objs.size+1)=some (seqObj "list" vs.toArray 0):=by
  rw[<- hsz]; exact aF _ rfl
 have k5:∀ c o,s.heap.get? c=some o->(((s.heap.push (seqObj "list" #[] 0)).update s.heap.objs.size (Obj.mapSeq (· ++vs.toArray))).push (seqObj "list" vs.toArray 0)).get? c=some o:=fun c o q=>by
  refine ah _ ?_;rw[bE _ _ (cP (aK q))];exact ah _ q
 show wpAny _ _ _ _ _ { s with heap:=((s.heap.push (seqObj "list" #[] 0)).update s.heap.objs.size (Obj.mapSeq (· ++vs.toArray))).push (seqObj "list" vs.toArray 0)};rw[hsz];refine ae (bX (cE gF ⟨_,hoL,rfl⟩ gj (by
  rw[jNC];exact jK8 hoL hz hI (fun h2=>hk h2 _ _ k5 (dE _)) fun xs p1 p2=>⟨_,rfl,aj ⟨_,rfl,h xs p1 p2⟩⟩) (args_list_sort _)))
end TM
namespace L2
open PySem PySem.Spec PyProof.Rows
variable {X:Cx}
def TsOf (H:Hp)(us:List V)(ws:Af):Prop:=All2 (fun v x=>∃ a,v=V.ref a/\H a=some (.tup (x.map V.int))) us ws
theorem TsOf.tups {lH:Ai}{σ:St}{H:Hp}{s:Shared}(I:Inv X lH σ H s):∀ {us:List V}{its:Am}{ws:Af},Vals us its->TsOf H us ws->All2 (TM.TupI s.heap) its ws
 | [],_,[], .nil,_=>trivial
 | _::_,_,_::_, .cons r rs,⟨⟨a,e,h⟩,t⟩=>by
  subst e;cases r;obtain⟨_,its,r2,n,ho⟩:=(show ObjOk X.prog X.w H s.heap a (.tup _) from I.hok a _ h);exact⟨⟨a,n,its.toArray,rfl,ho,jFQ r2⟩,TsOf.tups I rs t⟩
def refV:Value->V
 | .ref a=> .ref a
 | _=> .non
theorem jK0 {h:Heap} :∀ {its:Am}{ws:Af},All2 (TM.TupI h) its ws->its.map (TM.decV h)=ws
 | [],[],_=>rfl
 | _::_,_::_,⟨t,r⟩=>by rw[bg,t.dec,jK0 r]
theorem ts_at {H:Hp}{us:List V}{its:Am}{ws:Af}{h:Heap}(r:Vals us its)(t:TsOf H us ws)(d:All2 (TM.TupI h) its ws){v:Value}(hv:v∈its):∃ a,v= .ref a/\H a=some (.tup ((TM.decV h v).map V.int)):=by
 induction r generalizing ws with
 | nil=>cases hv
 | cons q rs ih=>
  cases ws with
  | nil=>exact t.elim
  | cons l ws=>
   obtain⟨⟨a,e,ha⟩,t⟩:=t;rcases aI.mp hv with z | hv
   ·subst e;cases q;rw[z,d.1.dec];exact⟨a,rfl,ha⟩
   ·exact ih t d.2 hv
theorem jVH {H:Hp}{h:Heap}{out:Am} :(∀ v∈out,∃ a,v= .ref a/\H a=some (.tup ((TM.decV h v).map V.int)))->Vals (out.map refV) out/\TsOf H (out.map refV) (out.map (TM.decV h)):=by
 induction out with
 | nil=>exact fun _=>⟨.nil,trivial⟩
 | cons v out ih=>
  intro k;obtain⟨a,rfl,ha⟩:=k v (ai ..);obtain⟨i1,i2⟩:=ih fun u hu=>k u (ag _ hu);exact⟨.cons rfl i1,⟨a,rfl,ha⟩,i2⟩
theorem jCO (hu:X.A.units+101<cLine):yV X (.builtin "sorted") (fun xs H Q=>∃ (p:Addr) (us:List V) (ws:Af),xs=[.ref p]/\SqL X.K H p us/\TsOf H us ws/\
  ∀ (l:Addr) (us':List V) (ws':Af),H l=none->TsOf H us' ws'->ws'.Perm ws->ws'.Pairwise (fun x y=>HT.lexLt y x=false)->Q (.ref l) (upd H l (.lst us'))):=by
 intro lH s σ H xs us Q I r h;obtain⟨p,us,ws,rfl,hp,ht,q⟩:=h;obtain⟨u,rfl,rx⟩:=r.one;cases rx;obtain⟨its,r',pl,hz⟩:=I.list hp;have hlen:=r'.length;have d:=TsOf.tups I r' ht;have hat:=fun v (hv:v∈its)=>ts_at r' ht d hv;refine @TM.sorted_gen _ _ _ _ _ (TM.odL (TM.kdOf ws) (TM.decV s.heap) its) _ _ _ pl.isList Aa TM.allL (fun h2 h5 a k5 ha=>?_) fun out p1 p2=>?_
 ·have keep:∀ {vs:Am}{ls:Af},All2 (TM.TupI s.heap) vs ls->All2 (TM.TupI h5) vs ls:=fun h=>All2.imp (fun v l ⟨c,n,its,e,ho,hi⟩=>⟨c,n,its,e,k5 _ _ ho,hi⟩) h;refine TM.askT (s:= { s with heap:=h5}) (keep d) (fun v l hv t=>?_) (fun v hv e=>?_) (by rw[dw,dw]; lia) h2
  ·obtain⟨i,hi⟩:=bh hv;obtain⟨l',hl',t'⟩:=d.get' hi;obtain⟨l2,hl2,t2⟩:=(keep d).get' hi;rw[hl'] at hl2;cases hl2;rw[t'.dec,<- t2.dec];exact t.dec
  ·obtain⟨c,e2,hc⟩:=hat v hv;obtain⟨_,its2,_,n,ho⟩:=(show ObjOk X.prog X.w H s.heap c (.tup _) from I.hok c _ hc);rw[e2] at e;cases e;exact absurd (aK ho) (Nat.not_lt.mpr ha)
 ·obtain⟨o1,o2⟩:=TM.sto_out p1 p2;obtain⟨v1,v2⟩:=jVH (H:=H) (h:=s.heap) (out:=(out.map (·.2)).toList) fun v hv=>hat v (o1.mem_iff.mp hv);obtain⟨e,he⟩:=sortedAll_at s.heap its (out.map (·.2));have hz2:((out.map (·.2)).toList.map refV).length<=sizeLine:=by
   rw[af,o1.length_eq];lia
  have I2:Inv X lH σ (upd H (s.heap.objs.size+1) (.lst ((out.map (·.2)).toList.map refV))) { s with heap:=sortedAll s.heap its (out.map (·.2))} :=I.laid (t':=s.toks) (fun b o e=>sortedAll_old e) (dE _) ⟨hz2,(out.map (·.2)).toList,e,v1,by rw[cW]; exact he⟩;refine⟨.ref _,_,I2,rfl,q _ _ ((out.map (·.2)).toList.map (TM.decV s.heap)) (I.hok.fresh (dE _)) v2 ?_ ?_⟩
  ·rw[<- jK0 d];exact o1.map _
  ·exact bu.mpr o2
theorem jGI:∀ {x y:Af},x.Perm y->x.Pairwise (fun a b=>HT.lexLt b a=false)->y.Pairwise (fun a b=>HT.lexLt b a=false)->x=y
 | [],y,p,_,_=>(List.nil_perm.mp p).symm
 | a::x,[],p,_,_=>absurd (List.perm_nil.mp p) Ad
 | a::x,b::y,p,h,k=>by
  obtain⟨h1,h2⟩:=cR.mp h;obtain⟨k1,k2⟩:=cR.mp k;have e:a=b:=by
   refine TM.lex_tot ?_ ?_
   ·rcases aI.mp (p.mem_iff.mp (ai ..)) with z | z
    ·rw[z]; exact TM.lex_irr b
    ·exact k1 a z
   ·rcases aI.mp (p.mem_iff.mpr (ai ..)) with z | z
    ·rw[z]; exact TM.lex_irr a
    ·exact h1 b z
  subst e;rw[jGI (List.perm_cons a |>.mp p) h2 k2]
structure KeyS where
 TK:Heap->Value->Ag->Prop
 KR:Hp->V->Ag->Prop
 kd:Af->SortKind
 dc:Heap->Value->Ag
structure KeyOk (S:KeyS):Prop where
 of:∀ {P:Program}{w:World}{H:Hp}{h:Heap}{v:V}{u:Value}{l:Ag},HOk P w H h->RelV v u->S.KR H v l->S.TK h u l
 mono:∀ {H H':Hp}{v:V}{l:Ag},TupsK H H'->S.KR H v l->S.KR H' v l
 dec:∀ {h:Heap}{u:Value}{l:Ag},S.TK h u l->S.dc h u=l
 kind:∀ {prog:Program}{w:World}{A:Around}{E:Ah}{s:Shared}{vs:Am}{ws:Af}{Q:SortKind->Shared->Prop},All2 (S.TK s.heap) vs ws->vs≠ []->Q (S.kd ws) s->wpAny (model prog w) A (keyKind' vs.toArray) Q E s
 lt:∀ {prog:Program}{w:World}{A:Around}{E:Ah}{s:Shared}{ws:Af}{u v:Value}{x y:Ag}{Q:Bool->Shared->Prop},S.TK s.heap u x->S.TK s.heap v y->A.units+2<cLine->Q (HT.lexLt x y) s->wpAny (model prog w) A (keyLt' (S.kd ws) u v) Q E s
variable {S:KeyS}
section
variable {prog:Program}{w:World}{A:Around}{E:Ah}{s:Shared}
abbrev odK (S:KeyS)(ws:Af)(h:Heap)(ks:Am):TM.Od:=⟨S.kd ws,fun p=>TM.rk (ks.map (S.dc h)) (S.dc h p.1),fun p=>p.1∈ks⟩
theorem ltK (ok:KeyOk S){ks:Am}{ws:Af}(t:All2 (S.TK s.heap) ks ws)(room:A.units+2<cLine): @TM.LtOk prog w A s (odK S ws s.heap ks):= @TM.LtOk.mk prog w A s (odK S ws s.heap ks) fun {E st x y Q} hk hx hy h=>by
 have e:decide (@TM.key (odK S ws s.heap ks) x< @TM.key (odK S ws s.heap ks) y)=HT.lexLt (S.dc s.heap x.1) (S.dc s.heap y.1):=TM.rk_lt (bJ hx);rw[e] at h;rw[lt'_eq];refine aO (gI ?_);rw[show kindOf st=S.kd ws from hk];obtain⟨i,hi⟩:=bh hx;obtain⟨j,hj⟩:=bh hy;obtain⟨l1,_,t1⟩:=t.get' hi;obtain⟨l2,_,t2⟩:=t.get' hj;rw[ok.dec t1,ok.dec t2] at h;exact aO (h9 (eG (ok.lt t1 t2 room ⟨rfl,aQ h⟩)))
theorem jOE (ok:KeyOk S){D kS:Addr}{its ks:Am}{ws:Af}{e1 e:Nat}{P:PySem.Fin->Shared->Prop}(hl:ks.length=its.length)(hz:its.length<=sizeLine)(t:All2 (S.TK s.heap) ks ws)(room:A.units+2<cLine)
  (hD:s.heap.get? D=some (seqObj "list" #[] e1)) (hK:s.heap.get? kS=some (seqObj "list" ks.toArray e)) (ne:D≠kS)
  (h:∀ ps:List (Value×Value),ps.Perm (ks.zip its)->ps.Pairwise (fun p q=>HT.lexLt (S.dc s.heap q.1) (S.dc s.heap p.1)=false)->
   P (.done (.ret .none)) { s with heap:=(s.heap.update kS (Obj.mapSeq fun _=>#[])).update D (Obj.mapSeq fun _=>(ps.map Prod.snd).toArray)}):
  wpAny (model prog w) A (ksk_end D false its.toArray e1 (.ref kS) ks.toArray) P E s:=by
 have hpz:(ks.toArray.zip its.toArray).toList=ks.zip its:=Ad;have hpn:(ks.toArray.zip its.toArray).size=its.length:=by rw[<- aP,hpz,ke]; lia
 have hD2:(s.heap.update kS (Obj.mapSeq fun _=>(#[]:Ao))).get? D=some (seqObj "list" #[] e1):=(bE _ _ (ev ne)).trans hD;have tail:∀ st:SortSt,failedOf st=none->(arrOf st).Perm (ks.toArray.zip its.toArray)->(arrOf st).toList.Pairwise (fun p q=>HT.lexLt (S.dc s.heap q.1) (S.dc s.heap p.1)=false)->wpAny (model prog w) A (ksk_tail D false e1 (.ref kS) st) P E s:=fun st hf hp hs=>by
  unfold ksk_tail;dsimp only;refine ae (eJ hK rfl ?_ (by rw[az]; lia) (bw _));refine ae (wpAny_letGo ?_);refine ae (iV hD2 rfl ?_);refine ae (eJ hD2 rfl ?_ (bw _) ?_)
  ·rw[hf];simp only [iW,iR,ja];refine aj ?_;have:=h (arrOf st).toList (by rw[<- hpz]; exact cr.mp hp) hs;have e:∀ xs:Array Keyed,(xs.toList.map Prod.snd).toArray=xs.map (·.2):=fun xs=>by rw[<- Array.toList_map,cW]
   rw[e] at this;exact this
  ·simp only [iR,ja];rw[size_map,hp.size_eq,hpn];lia
 unfold ksk_end;dsimp only;simp only [iR,ja];by_cases few:its.toArray.size<2
 ·rw[aq few,aq few];refine ae (aj ?_);rw[StateT.run_pure];refine ae (aj ?_);dsimp only;refine tail (SortSt.mk' general' _ #[] 7 none) rfl (ka _) ?_;show (ks.toArray.zip its.toArray).toList.Pairwise _;rw[hpz];rw[az] at few;have:(ks.zip its).length<=1:=by rw[ke]; lia
  match hq:ks.zip its,this with
  | [],_=>exact .nil
  | [_],_=>exact gz _ _
 ·rw[ak few,ak few];rw[az] at few;have nek:ks≠ []:=fun z=>by rw[z] at hl; simp at hl; lia
  have allk: @TM.AllI (odK S ws s.heap ks) (ks.toArray.zip its.toArray).toList:=fun p hp=>by
   rw[hpz] at hp;exact(dN hp).1
  letI iO:TM.Od:=odK S ws s.heap ks
  haveI iL:TM.LtOk prog w A s:=ltK ok t room
  refine ae (ok.kind t nek (ae (cm (TM.wpS_sortRunsAny (a₀:=ks.toArray.zip its.toArray) (st:=SortSt.mk' (S.kd ws) _ #[] 7 none)
   (Q:=fun _ st'=>(arrOf st').Perm (ks.toArray.zip its.toArray)/\failedOf st'=none/\TM.STo (arrOf st') (ks.toArray.zip its.toArray).size)
   allk ⟨ka _,rfl,rfl,rfl⟩ (by rw[hpn]; lia) fun st' a1 a2 a3=>⟨a1,a2,a3⟩) ?_ fun _ _ e=>e)))
  rintro ⟨⟨⟩,st'⟩ s' ⟨rfl,p1,p2,p3⟩;dsimp only at p1 p2 p3 ⊢;refine tail st' p2 p1 ?_;have pl:=cr.mp p1;rw[bQ];intro i j hi hj hij;rw[aP] at hi hj;have sz:=p1.size_eq;have k:=p3 i j (cY hij) Aa;have ei:(arrOf st')[i]?=some (arrOf st')[i]:=iB _ i hi;have ej:(arrOf st')[j]?=some (arrOf st')[j]:=iB _ j hj;have m2:(arrOf st')[j].1∈ks:=allk _ (pl.mem_iff.mp Ad);rw[@TM.KI_key (odK S ws s'.heap ks) _ _ _ ei,@TM.KI_key (odK S ws s'.heap ks) _ _ _ ej] at k;have e:decide (@TM.key (odK S ws s'.heap ks) (arrOf st')[j]< @TM.key (odK S ws s'.heap ks) (arrOf st')[i])=HT.lexLt (S.dc s'.heap (arrOf st')[j].1) (S.dc s'.heap (arrOf st')[i].1):=TM.rk_lt (bJ m2);rw[eF,eF,<- e];exact aM (Int.not_lt.mpr k)
end
theorem Un.out {fs:List Addr}{H H':Hp}{h h1 h2:Heap}(u:Un fs [] H H' h h1)(k:∀ b,b<h.objs.size->h2.get? b=h1.get? b):Un fs [] H H' h h2 where
 keep b o e n f x:=(k b (aK e)).trans (u.keep b o e n f x)
 slot b o e n f x:=by obtain⟨sl,q⟩:=u.slot b o e n f x; exact⟨sl,(k b (aK e)).trans q⟩
 free:=u.free
 there b o e x:=by obtain⟨o',q⟩:=u.there b o e x; exact⟨o',(k b (aK e)).trans q⟩
 tups:=u.tups
 frzs:=u.frzs
 tbls:=u.tbls
theorem Un.track {P:Program}{w:World}{fs:List Addr}{H H':Hp}{h h1:Heap}{D:Addr}{o:HO}(ok:HOk P w H h)(u:Un fs [] H H' h h1)(hD:h.objs.size<=D):Un fs [] H (upd H' D o) h h1 where
 keep:=u.keep
 slot:=u.slot
 free b ob e n x:=by rw[j9 (aW (aX (aK e) hD))]; exact u.free b ob e n x
 there:=u.there
 tups b xs e:=by rw[j9 (aW (aX (ok.lt e) hD))]; exact u.tups b xs e
 frzs b ob q e:=by rw[j9 (aW (aX (ok.lt e) hD))]; exact u.frzs b ob q e
 tbls b ps e:=by rw[j9 (aW (aX (ok.lt e) hD))]; exact u.tbls b ps e
theorem HOk.adopt {P:Program}{w:World}{H:Hp}{h:Heap}{D:Addr}{o:HO}(ok:HOk P w H h)(hn:H D=none)(new:ObjOk P w (upd H D o) h D o):HOk P w (upd H D o) h:=fun b u e=>by
 by_cases hb:b=D
 ·subst hb; rw[j5] at e; cases e; exact new
 ·rw[j9 hb] at e;exact(ok b u e).stay (fun c v _ q=>q) (fun c q=>by rw[j9 (jA q hn)]; exact q) fun c xs q=>by rw[j9 (jA q hn)]; exact q
theorem Inv.repin {lH:Ai}{σ:St}{H:Hp}{s:Shared}{D kS:Addr}{oD oK oK':Obj}{f:Obj->Obj}(I:Inv X (lH++[(D,oD),(kS,oK)]) σ H s)(fk:FpOk X lH H kS)(ne:D≠kS)(e:(s.heap.update kS f).get? kS=some oK')(hc:∀ v,oK'.data≠ .cell v):
  Inv X (lH++[(D,oD),(kS,oK')]) σ H { s with heap:=s.heap.update kS f} :=by
 obtain⟨f0,f1,f2,f3,f4,f5⟩:=fk;have I1:Inv X (lH++[(D,oD)]) σ H s:=I.pins_of fun p hp=>I.pin p (aB _ (by
  rcases aJ.mp hp with z | z
  ·exact aY _ z
  ·exact aB _ (by rw[aN] at z; rw[z]; exact ai ..)))
 have I2:Inv X (lH++[(D,oD)]) σ H { s with heap:=s.heap.update kS f,toks:=s.toks} :=I1.turned (it:=kS) (fun b o hb q=>(bE _ _ (ev hb)).trans q) f0 f1 f3 f4 fun p hp=>by
  rcases aJ.mp hp with z | z
  ·exact f5 p (aY _ z)
  ·rcases aJ.mp z with z | z
   ·exact f5 p (aB _ z)
   ·rw[aN] at z;rw[z];exact ne
 refine I2.pins_of fun p hp=>?_;rcases aJ.mp hp with z | z
 ·exact I2.pin p (aB _ (aY _ z))
 ·rcases aI.mp z with z | z
  ·exact I2.pin p (aB _ (aB _ (by rw[z]; exact ai ..)))
  ·rw[aN] at z;rw[z];exact⟨e,f0,f1,f2,hc⟩
theorem jKZ (ok:KeyOk S){k:Nat}{q:Addr}{zh:Hp->Prop}{sp:Sp}(F:Callee X.prog X.w X.K X.mg X.Ar ZT zh k q sp)(zo:∀ H H',Ext H H'->zh H->zh H')(hr:Room k X.A.in1.in1){lH:Ai}{σ:St}{H:Hp}{s:Shared}{D kS:Addr}{oD:Obj}{us:List V}{KF:V->Ag}{E:Ah}
  (hkey:∀ v∈us,∀ (H1:Hp) (Q1:VK),Ext H H1->(∀ r H2,S.KR H2 r (KF v)->Ext H1 H2->Q1 r H2)->sp [v] H1 Q1 E0) (fk:FpOk X lH H kS) (ne:D≠kS) (hkS:s.heap.objs.size<=kS)
  {body:Value->PUnit->Sem (ForInStep PUnit)}(hb:∀ x (sj:Shared) (C:ForInStep PUnit->Shared->Prop),wpAny (model X.prog X.w) X.A.in1.in1 (call (.ref q) [x]) (fun kv s''=>∃ ks e,s''.heap.get? kS=some (seqObj "list" ks e)/\ks.size<sizeLine/\C (.yield ⟨⟩) { s'' with heap:=s''.heap.update kS (Obj.mapSeq (·.push kv))}) (fun _ _=>False) sj->wpAny (model X.prog X.w) X.A.in1.in1 (body x ⟨⟩) C E sj):
  ∀ (r:Am) (rv:List V) (ks:Am) (kvs dn:List V) (e:Nat) (sj:Shared) (Hj:Hp),Vals rv r->(∀ v∈rv,v∈us)->ks.length+r.length<=sizeLine->
   Inv X (lH++[(D,oD),(kS,seqObj "list" ks.toArray e)]) σ Hj sj->Un (frs X.stack) [] H Hj s.heap sj.heap->Ext H Hj->zh Hj->Vals kvs ks->All2 (fun kv v=>S.KR Hj kv (KF v)) kvs dn->
   wpAny (model X.prog X.w) X.A.in1.in1 (forIn r PUnit.unit body) (fun _ s'=>∃ ks' kvs' e' H',Inv X (lH++[(D,oD),(kS,seqObj "list" ks'.toArray e')]) σ H' s'/\Un (frs X.stack) [] H H' s.heap s'.heap/\Ext H H'/\Vals kvs' ks'/\All2 (fun kv v=>S.KR H' kv (KF v)) kvs' (dn++rv)) E sj
 | [],rv,ks,kvs,dn,e,sj,Hj,hv,hm,hz,I,u,ex,z,hk,al=>by
  rw[List.forIn_nil];cases hv;exact aj ⟨ks,kvs,e,Hj,I,u,ex,hk,by rw[bf]; exact al⟩
 | x::r,rv,ks,kvs,dn,e,sj,Hj,hv,hm,hz,I,u,ex,z,hk,al=>by
  cases hv with
  | @cons v _ rv' _ rx rs=>
  rw[aU] at hz;rw[List.forIn_cons];refine ae (hb x sj _ ?_);have sp1:=hkey v (hm v (ai ..)) Hj (fun r H2=>S.KR H2 r (KF v)/\Ext Hj H2) ex fun r H2 h1 h2=>⟨h1,h2⟩;refine iI (dS (F.run X.A.in1.in1 X.stack sj Hj [x] [v] _ E0 hr I.env0.in1.in1 trivial z (.cons rx .nil) sp1) fun fr s' hq=>?_);cases fr with
  | error e=>exact hq.elim
  | ok fl=>
   cases fl with
   | ret kv=>
    obtain⟨v',H2,os,bare,un,hok,rel,kr,e2⟩:=hq;have I2:=Inv.call' I os un hok bare fun b z=>absurd z Ad;obtain⟨gk,nk,_,_,_⟩:=I2.pin (kS,seqObj "list" ks.toArray e) (aB _ (aB _ (ag _ (ai ..))));have ea:ks.toArray.push kv=(ks++[kv]).toArray:=Ad;obtain⟨c2,hc2⟩:∃ c2,(s'.heap.update kS (Obj.mapSeq (·.push kv))).get? kS=some (seqObj "list" (ks++[kv]).toArray c2):=⟨_,by rw[<- ea]; exact gm gk (·.push kv)⟩;have I3:=I2.repin (oK':=seqObj "list" (ks++[kv]).toArray c2) ⟨nk,fk.2⟩ ne hc2 (by intro v q; cases q);refine⟨_,e,gk,by rw[az]; lia,?_⟩;show wpAny (model X.prog X.w) X.A.in1.in1 (forIn r PUnit.unit body) _ E _;have u3:=(u.trans un).out (h2:=s'.heap.update kS (Obj.mapSeq (·.push kv))) fun b hb=>bE _ _ (cP (aX hb hkS));have:=jKZ ok F zo hr hkey fk ne hkS hb r rv' (ks++[kv]) (kvs++[v']) (dn++[v]) c2 _ H2 rs (fun w hw=>hm w (ag _ hw)) (by rw[aL,gR]; lia) I3 u3 (ex.trans e2) (zo _ _ e2 z) (hk.append (.cons rel .nil)) (All2.snoc (All2.imp (fun a b q=>ok.mono (fun c xs h=>e2 c _ h) q) al) kr);rw[aZ] at this;exact this
   | next=>exact False.elim hq
   | brk=>exact False.elim hq
   | cont=>exact False.elim hq
theorem jSO (ok:KeyOk S){P:Program}{w:World}{H:Hp}{h:Heap}(hk:HOk P w H h){KF:V->Ag} :∀ {kvs:List V}{ks:Am}{us:List V},Vals kvs ks->All2 (fun kv v=>S.KR H kv (KF v)) kvs us->All2 (S.TK h) ks (us.map KF)
 | [],_,[], .nil,_=>trivial
 | _::_,_,_::_, .cons r rs,⟨t,ts⟩=>⟨ok.of hk r t,jSO ok hk rs ts⟩
theorem jHM:∀ {us:List V}{its:Am},Vals us its->(∀ v∈us,∃ a,v=V.ref a)->its.map refV=us
 | [],_, .nil,_=>rfl
 | v::us,_, .cons r rs,h=>by
  obtain⟨a,e⟩:=h v (ai ..);subst e;cases r;rw[bg,jHM rs fun w hw=>h w (ag _ hw)];rfl
theorem jHL:∀ {its:Am},(∀ u∈its,∃ a,u=Value.ref a)->Vals (its.map refV) its
 | [],_=> .nil
 | u::its,h=>by
  obtain⟨a,e⟩:=h u (ai ..);subst e;exact .cons rfl (jHL fun w hw=>h w (ag _ hw))
theorem jH5:∀ {us:List V}{its:Am},Vals us its->(∀ v∈us,∃ a,v=V.ref a)->∀ u∈its,∃ a,u=Value.ref a
 | [],_, .nil,_,u,hu=>by cases hu
 | v::us,_, .cons r rs,h,u,hu=>by
  obtain⟨a,e⟩:=h v (ai ..);subst e;cases r;rcases aI.mp hu with z | z
  ·exact⟨a,z⟩
  ·exact jH5 rs (fun w hw=>h w (ag _ hw)) u z
theorem jMI {ks its:Am}{f:Value->Ag}{g:Value->Ag} :∀ {ks its:Am}{us:List V}{KF:V->Ag},ks.map f=us.map KF->its.map refV=us->∀ p∈ks.zip its,f p.1=KF (refV p.2)
 | [],_,_,_,_,_,p,hp=>by cases hp
 | _::_,[],_,_,_,_,p,hp=>by cases hp
 | k::ks,u::its,us,KF,e1,e2,p,hp=>by
  subst e2;rw[bg,bg,bg] at e1;injection e1 with q1 q2;rw[dX] at hp;rcases aI.mp hp with z | z
  ·rw[z]; exact q1
  ·exact jMI (ks:=ks) (its:=its) (f:=f) (g:=g) q2 rfl p z
theorem jS0 (ok:KeyOk S){h:Heap} :∀ {ks:Am}{ws:Af},All2 (S.TK h) ks ws->ks.map (S.dc h)=ws
 | [],[],_=>rfl
 | _::_,_::_,⟨t,r⟩=>by rw[bg,ok.dec t,jS0 ok r]
theorem jIG (ok:KeyOk S){k:Nat}{sp:Sp}{zh:Addr->Addr->Hp->Prop}(F:∀ q c,Callee X.prog X.w X.K X.mg X.Ar ZT (zh q c) k q sp)(zo:∀ q c H H',Ext H H'->zh q c H->zh q c H')(hr:Room (k+2) X.A):
  jQ2 X (.builtin "sorted") [Str.ofString "key"] (fun xs zs H Q=>∃ (p:Addr) (us:List V) (q c:Addr) (KF:V->Ag),xs=[.ref p]/\zs=[.ref q]/\SqL X.K H p us/\zh q c H/\(∀ v∈us,∃ a,v=V.ref a)/\
   (∀ v∈us,∀ (H1:Hp) (Q1:VK),Ext H H1->(∀ r H2,S.KR H2 r (KF v)->Ext H1 H2->Q1 r H2)->sp [v] H1 Q1 E0)/\
   ∀ (l:Addr) (us':List V) (H':Hp),H l=none->us'.Perm us->us'.Pairwise (fun u v=>HT.lexLt (KF v) (KF u)=false)->Ext H H'->H' l=some (.lst us')->Q (.ref l) H'):=by
 intro lH s σ H xs zs us0 ws0 Q I r1 r2 h;obtain⟨p,us,q,c,KF,rfl,rfl,hp,hz,hrf,hkey,fin⟩:=h;obtain⟨u,rfl,rx⟩:=r1.one;cases rx;obtain⟨u2,rfl,ry⟩:=r2.one;cases ry;obtain⟨its,rv,pl,hlen⟩:=I.list hp;have rl:=rv.length;show wpAny (model X.prog X.w) X.A (call (.builtin "sorted") [.ref p] [(Str.ofString "key", .ref q)]) (EP X lH σ Q) X.xe s;refine call_function_entry_kw iT ix iy (ksk_s1 _ _) ?_;unfold Builtin.«sorted»;refine ae (m:=checkCount "sorted" 1 1 _) (aj ?_);refine ae (collect_list pl.isList ?_ Aa);refine ae (eI ?_ Aa);have hsz:((s.heap.push (seqObj "list" #[] 0)).update s.heap.objs.size (Obj.mapSeq (· ++its.toArray))).objs.size=s.heap.objs.size+1:=by
  rw[gZ,gY]
 have hoL:(((s.heap.push (seqObj "list" #[] 0)).update s.heap.objs.size (Obj.mapSeq (· ++its.toArray))).push (seqObj "list" its.toArray 0)).get? (s.heap.objs.size+1)=some (seqObj "list" its.toArray 0):=by
  rw[<- hsz]; exact aF _ rfl
 have k5:∀ b o,s.heap.get? b=some o->(((s.heap.push (seqObj "list" #[] 0)).update s.heap.objs.size (Obj.mapSeq (· ++its.toArray))).push (seqObj "list" its.toArray 0)).get? b=some o:=fun b o q=>by
  refine ah _ ?_;rw[bE _ _ (cP (aK q))];exact ah _ q
 have z5:(((s.heap.push (seqObj "list" #[] 0)).update s.heap.objs.size (Obj.mapSeq (· ++its.toArray))).push (seqObj "list" its.toArray 0)).objs.size=s.heap.objs.size+2:=by rw[gY,hsz]
 show wpAny _ _ _ _ _ { s with heap:=((s.heap.push (seqObj "list" #[] 0)).update s.heap.objs.size (Obj.mapSeq (· ++its.toArray))).push (seqObj "list" its.toArray 0)};rw[hsz];generalize ((s.heap.push (seqObj "list" #[] 0)).update s.heap.objs.size (Obj.mapSeq (· ++its.toArray))).push (seqObj "list" its.toArray 0)=h5 at hoL k5 z5;have hD:s.heap.objs.size<=s.heap.objs.size+1:=dE _;have hDk:s.heap.objs.size+1≠h5.objs.size+1:=Aa;have hkS:s.heap.objs.size<=h5.objs.size+1:=Aa;generalize s.heap.objs.size+1=D at hoL hD hDk;refine ae (bX (wpAny_call_entry_kw gF ⟨_,hoL,rfl⟩ gj ?body (ksk_l1 _ _)))
 case body=>
  show wpAny (model X.prog X.w) X.A.in1.in1 (Builtin.«list.sort» ⟨[.ref D],[(Str.ofString "key", .ref q)]⟩) _ _ _;rw[ksk_t1];unfold ksk_tree;refine ae (gH hoL rfl ?_);refine ae (eJ hoL rfl ?_ (by rw[az]; lia) (bw _));obtain⟨e1,ho1⟩:∃ e1,(h5.update D (Obj.mapSeq fun _=>(#[]:Ao))).get? D=some (seqObj "list" #[] e1):=⟨_,gm hoL fun _=>#[]⟩;refine ae (iV ho1 rfl ?_);refine ae (ku ?_ (by show its.length<=_; lia));refine ae (eI ?_ (bw _));refine bX ?_;have hkz:((h5.update D (Obj.mapSeq fun _=>(#[]:Ao))).push (seqObj "tuple" its.toArray 0)).objs.size=h5.objs.size+1:=by rw[gY,gZ]
  have hoK:(((h5.update D (Obj.mapSeq fun _=>(#[]:Ao))).push (seqObj "tuple" its.toArray 0)).push (seqObj "list" #[] 0)).get? (h5.objs.size+1)=some (seqObj "list" #[] 0):=by
   rw[<- hkz]; exact aF _ rfl
  have hoD:(((h5.update D (Obj.mapSeq fun _=>(#[]:Ao))).push (seqObj "tuple" its.toArray 0)).push (seqObj "list" #[] 0)).get? D=some (seqObj "list" #[] e1):=ah _ (ah _ ho1);have k6:∀ b o,s.heap.get? b=some o->(((h5.update D (Obj.mapSeq fun _=>(#[]:Ao))).push (seqObj "tuple" its.toArray 0)).push (seqObj "list" #[] 0)).get? b=some o:=fun b o z=>by
   refine ah _ (ah _ ?_);rw[bE _ _ (cP (aX (aK z) hD))];exact k5 b o z
  show wpAny _ _ (ksk_rest D (.ref q) false its.toArray e1 (.ref ((h5.update D (Obj.mapSeq fun _=>(#[]:Ao))).push (seqObj "tuple" its.toArray 0)).objs.size)) _ _ { s with heap:=((h5.update D (Obj.mapSeq fun _=>(#[]:Ao))).push (seqObj "tuple" its.toArray 0)).push (seqObj "list" #[] 0)};rw[hkz];generalize ((h5.update D (Obj.mapSeq fun _=>(#[]:Ao))).push (seqObj "tuple" its.toArray 0)).push (seqObj "list" #[] 0)=h6 at hoK hoD k6;generalize h5.objs.size+1=kS at hoK hkS hDk;have fD:FpOk X lH H D:=I.fpOk hD (I.hok.fresh hD);have fK:FpOk X lH H kS:=I.fpOk hkS (I.hok.fresh hkS);have I6:Inv X lH σ H { s with heap:=h6,toks:=s.toks} :=I.kept k6;have I7:Inv X (lH++[(D,seqObj "list" #[] e1),(kS,seqObj "list" ([]:Am).toArray 0)]) σ H { s with heap:=h6} :=I6.pins_of fun x hx=>by
   rcases aJ.mp hx with z | z
   ·exact I6.pin x (aB _ z)
   ·rcases aI.mp z with z | z
    ·rw[z]; exact⟨hoD,fD.1,fD.2.1,fD.2.2.1,by intro v q; cases q⟩
    ·rw[aN] at z;rw[z]; exact⟨hoK,fK.1,fK.2.1,fK.2.2.1,by intro v q; cases q⟩
  have u7:Un (frs X.stack) [] H H s.heap h6:=Un.kept k6;unfold ksk_rest;refine ae (db ?_);rw[<- Array.forIn_toList];simp only [List.toList_toArray];refine ae (cm (jKZ ok (F q c) (zo q c) hr.in1.in1 hkey fK hDk hkS (fun x sj C hx=>?_) its us [] [] [] 0 { s with heap:=h6} H rv (fun v hv=>hv) (by rw[cA]; lia) I7 u7 (Ext.refl _) hz .nil trivial) (fun _ s' hd=>?_) fun _ _ x=>x)
  ·refine ae (eG (cm hx (fun kv s'' hk=>?_) fun _ _ hF=>hF.elim));obtain⟨ks,e,gk,sz,hc⟩:=hk;dsimp only;refine ae (eJ gk rfl ?_ (cY sz) (bv (Nat.le_of_eq (Array.size_push ..)) Aa));exact aj hc
  ·obtain⟨ks,kvs,e,HN,IN,uN,eN,vk,al⟩:=hd;rw[im] at al;obtain⟨gD,nD,_,_,_⟩:=IN.pin (D,seqObj "list" #[] e1) (aB _ (aB _ (ai ..)));obtain⟨gK,nK,_,_,_⟩:=IN.pin (kS,seqObj "list" ks.toArray e) (aB _ (aB _ (ag _ (ai ..))));refine ae (gH gK rfl ?_);have tk:=jSO ok IN.hok vk al;have kl:ks.length=its.length:=by rw[<- vk.length,al.len]; exact rl
   have un:=hr.un;refine jOE ok kl Aa tk (by rw[dw,dw]; lia) gD gK hDk fun ps pm pw=>⟨_,rfl,aj ⟨_,rfl,?_⟩⟩;have bk:=jHM rv hrf;have dk:∀ x∈ks.zip its,S.dc s'.heap x.1=KF (refV x.2):=jMI (g:=fun _=> []) (ks:=[]) (its:=[]) (jS0 ok tk) bk;have pi:(ps.map Prod.snd).Perm its:=by
    have:=pm.map Prod.snd;rw[List.map_snd_zip Aa] at this;exact this
   have rf:∀ u∈ps.map Prod.snd,∃ a,u=Value.ref a:=fun u hu=>jH5 rv hrf u (pi.mem_iff.mp hu);have p1:((ps.map Prod.snd).map refV).Perm us:=by rw[<- bk]; exact pi.map _
   have p2:((ps.map Prod.snd).map refV).Pairwise fun u v=>HT.lexLt (KF v) (KF u)=false:=by
    rw[bu,bu];exact(List.Pairwise.and_mem.mp pw).imp fun {a b} h=>by
     rw[<- dk a (pm.mem_iff.mp h.1),<- dk b (pm.mem_iff.mp h.2.1)];exact h.2.2
   obtain⟨e9,he9⟩:∃ e9,((s'.heap.update kS (Obj.mapSeq fun _=>(#[]:Ao))).update D (Obj.mapSeq fun _=>(ps.map Prod.snd).toArray)).get? D=some (seqObj "list" (ps.map Prod.snd).toArray e9):=⟨_,gm ((bE _ _ (ev hDk)).trans gD) fun _=>(ps.map Prod.snd).toArray⟩;have oth:∀ b,b≠D->b≠kS->((s'.heap.update kS (Obj.mapSeq fun _=>(#[]:Ao))).update D (Obj.mapSeq fun _=>(ps.map Prod.snd).toArray)).get? b=s'.heap.get? b:=fun b n1 n2=>(bE _ _ (ev n1)).trans (bE _ _ (ev n2));generalize (s'.heap.update kS (Obj.mapSeq fun _=>(#[]:Ao))).update D (Obj.mapSeq fun _=>(ps.map Prod.snd).toArray)=hf at he9 oth;have nt:∀ b o,HN b=some o->b≠D/\b≠kS:=fun b o z=>⟨fun y=>(by rw[y,nD] at z; cases z),fun y=>(by rw[y,nK] at z; cases z)⟩;have ok1:HOk X.prog X.w HN hf:=fun b o z=>(IN.hok b o z).stay (fun c v hc y=>by
    have:c≠D/\c≠kS:=by
     rcases hc with e | e
     ·rw[e]; exact nt b o z
     ·exact nt c _ e
    rw[oth c this.1 this.2];exact y) (fun _ y=>y) fun _ _ y=>y
   have pz:((ps.map Prod.snd).map refV).length<=sizeLine:=by rw[af,pi.length_eq]; lia
   have ok2:HOk X.prog X.w (upd HN D (.lst ((ps.map Prod.snd).map refV))) hf:=ok1.adopt nD ⟨pz,ps.map Prod.snd,e9,jHL rf,he9⟩;have u9:Un (frs X.stack) [] H (upd HN D (.lst ((ps.map Prod.snd).map refV))) s.heap hf:=(uN.out fun b hb=>oth b (aW (aX hb hD)) (aW (aX hb hkS))).track I.hok hD;have I9:Inv X lH σ (upd HN D (.lst ((ps.map Prod.snd).map refV))) { s' with heap:=hf} :=Inv.call' I (IN.os.trans I.os.symm) u9 ok2 IN.bare fun b z=>absurd z Ad;exact⟨.ref D,_,I9,rfl,fin D _ _ (I.hok.fresh hD) p1 p2 (fun b o z=>by rw[j9 (aW (aX (I.hok.lt z) hD))]; exact eN b o z) j5⟩
end L2
namespace TM
open PySem PySem.Spec PyProof.Rows PySem.W
open L2 (All2)
def TupP (h:Heap)(v:Value)(l:Ag):Prop:=∃ a m n t c lot,v= .ref a/\h.get? a=some { cls:= .type "tuple",data:= .seq #[.int n t, .ref c] m} /\TupI h (.ref c) lot/\l=n::lot
def decP (h:Heap):Value->Ag
 | .ref a=>match h.get? a with
  | some o=>match o.data with
   | .seq xs _=>match xs.toList with
    | [k,c]=>numOf k::decV h c
    | _=> []
   | _=> []
  | none=> []
 | _=> []
theorem TupP.dec {h:Heap}{v:Value}{l:Ag}(t:TupP h v l):decP h v=l:=by
 obtain⟨a,m,n,t,c,lot,rfl,ho,hc,rfl⟩:=t;dsimp only [decP];rw[ho];show n::decV h (.ref c)=_;rw[hc.dec]
section
variable {prog:Program}{w:World}{A:Around}{E:Ah}{s:Shared}
theorem eqTup {u v:Value}{x y:Ag}(hu:TupI s.heap u x)(hv:TupI s.heap v y)(room:A.units+1<cLine):SeqAt.EqAt A s u v (decide (x=y)):=by
 obtain⟨a,n,its,rfl,ho,hi⟩:=hu;obtain⟨b,m,its2,rfl,ho2,hi2⟩:=hv;by_cases e:a=b
 ·subst e;rw[ho] at ho2;cases ho2;have:x=y:=hi.nums.symm.trans hi2.nums;rw[ar this];exact SeqAt.EqAt.same _
 ·refine SeqAt.EqAt.of_refs e ?_;have key:=SeqAt.RcAt.tuples (A:=A) (s:=s) (l:=a) (b:=b) (items:=its) (items2:=its2) (e:=fun j=>decide (x.getD j 0=y.getD j 0)) ⟨_,ho,rfl,n,rfl⟩ ⟨_,ho2,rfl,m,rfl⟩ Aa fun j h1 h2=>by
   have at1:∀ {vs:Am}{ns:Ag},IntsAre vs ns->∀ (j:Nat) (h:j<vs.length),∃ t,vs[j]=Value.int (ns.getD j 0) t:=by
    intro vs ns h
    induction h with
    | nil=>intro j h; cases h
    | cons n t _ ih=>
     intro j h;cases j with
     | zero=>exact⟨t,rfl⟩
     | succ j=>exact ih j (Nat.lt_of_succ_lt_succ h)
   obtain⟨t1,e1⟩:=at1 hi j (by rw[aP]; exact h1);obtain⟨t2,e2⟩:=at1 hi2 j (by rw[aP]; exact h2);rw[eF] at e1 e2;rw[e1,e2];exact eW _ t1 _ t2
  have l1:its.size=x.length:=by rw[<- hi.nums,af,aP]
  have l2:its2.size=y.length:=by rw[<- hi2.nums,af,aP]
  have ee:((List.range (min its.size its2.size)).all (fun j=>decide (x.getD j 0=y.getD j 0))&&its.size==its2.size)=decide (x=y):=by
   rw[bZ,bL,br,bU,fq,l1,l2];constructor
   ·rintro ⟨h1,h2⟩;refine List.ext_getElem h2 fun j q1 q2=>?_;have:=aG (h1 j (bK.mpr Aa));rw[am,am,aC q1,aC q2] at this;exact this
   ·intro z;subst z;exact⟨fun j _=>ar rfl,rfl⟩
  rw[ee] at key;exact key
theorem jEA:∀ {vs:Am}{ws:Af},All2 (TupP s.heap) vs ws->∃ fs:Am,KatTups s.heap vs fs/\fs.length=vs.length/\∀ v∈fs,∃ n t,v=Value.int n t
 | [],[],_=>⟨[],trivial,rfl,fun v h=>by cases h⟩
 | v::vs,l::ws,⟨⟨a,m,n,t,c,lot,e,ho,hc,_⟩,r⟩=>by
  obtain⟨fs,h1,h2,h3⟩:=jEA r;refine⟨.int n t::fs,⟨⟨a,_,_,m,e,ho,rfl,rfl,rfl⟩,h1⟩,bW (· +1) h2,fun v hv=>?_⟩;rcases aI.mp hv with z | z
  ·exact⟨n,t,z⟩
  ·exact h3 v z
theorem pair_kind {vs:Am}{ws:Af}{Q:SortKind->Shared->Prop}(t:All2 (TupP s.heap) vs ws)(h2:vs≠ [])(h:Q (tuples' true) s):wpAny (model prog w) A (keyKind' vs.toArray) Q E s:=by
 obtain⟨fs,f1,f2,f3⟩:=jEA t;refine kat_kind (T:= .type "int") f1 (by rw[f2]; exact List.length_pos_iff.mpr h2) (fun v hv=>?_) rfl h;obtain⟨n,t',e⟩:=f3 v hv;rw[e];exact .now
theorem pair_lt {u v:Value}{x y:Ag}{Q:Bool->Shared->Prop}(hu:TupP s.heap u x)(hv:TupP s.heap v y)(room:A.units+2<cLine)(h:Q (HT.lexLt x y) s):wpAny (model prog w) A (keyLt' (tuples' true) u v) Q E s:=by
 obtain⟨a,m,n,t,c,lot,rfl,ho,hc,rfl⟩:=hu;obtain⟨a2,m2,n2,t2,c2,lot2,rfl,ho2,hc2,rfl⟩:=hv;refine kat_lt ho rfl ho2 rfl ?_;show KatLex prog w A true false Q [(.int n t, .int n2 t2),(.ref c, .ref c2)] 0 s;rw[HT.lexLt_cons] at h;refine kat_cons (eW n t n2 t2 prog w _ _ ?_);by_cases e:n=n2
 ·rw[aq e] at h;rw[show (n==n2)=true by simp [e]];refine kat_yes (kat_cons (eqTup hc hc2 Aa prog w _ _ ?_));by_cases e2:lot=lot2
  ·rw[e2,lex_irr] at h;rw[ar e2];exact kat_yes (kat_nil h)
  ·rw[aM e2];refine kat_no ?_;obtain⟨b1,k1,its1,q1,o1,i1⟩:=hc;obtain⟨b2,k2,its2,q2,o2,i2⟩:=hc2;cases q1;cases q2;exact kat_one _ _ (HT.lt_tupInts (items:=its1) (items2:=its2) ⟨_,o1,rfl,k1,rfl⟩ ⟨_,o2,rfl,k2,rfl⟩ i1 i2 Aa h)
 ·rw[ak e] at h;rw[show (n==n2)=false by simp [e]];exact kat_no (jNH h)
end
end TM
namespace L2
open PySem PySem.Spec PyProof.Rows
def PairR (H:Hp)(v:V)(l:Ag):Prop:=∃ t a n lot,v= .ref t/\H t=some (.tup [.int n, .ref a])/\H a=some (.tup (lot.map V.int))/\l=n::lot
theorem PairR.at {P:Program}{w:World}{H:Hp}{h:Heap}{v:V}{u:Value}{l:Ag}(ok:HOk P w H h)(r:RelV v u)(k:PairR H v l):TM.TupP h u l:=by
 obtain⟨t,a,n,lot,rfl,ht,ha,rfl⟩:=k;cases r;obtain⟨_,its,r2,m,ho⟩:=(show ObjOk P w H h t (.tup _) from ok t _ ht);obtain⟨_,its2,r3,m2,ho2⟩:=(show ObjOk P w H h a (.tup _) from ok a _ ha);cases r2 with
 | cons q1 q2=>
  cases q2 with
  | cons q3 q4=>
   cases q4;obtain⟨tk,rfl⟩:=q1;cases q3;exact⟨t,m,n,tk,a,lot,rfl,ho,⟨a,m2,its2.toArray,rfl,ho2,jFQ r3⟩,rfl⟩
def keyP:KeyS:=⟨TM.TupP,PairR,fun _=>tuples' true,TM.decP⟩
theorem jUP:KeyOk keyP where
 of:=PairR.at
 mono:=fun t k=>let ⟨q,a,n,lot,e,h1,h2,h3⟩:=k; ⟨q,a,n,lot,e,t _ _ h1,t _ _ h2,h3⟩
 dec:=TM.TupP.dec
 kind:=TM.pair_kind
 lt:=TM.pair_lt
section
variable {X:Cx}{S:KeyS}
end
section
variable {P:Program}{w:World}{K:W.Frag}{mg:Ak}{Ar:Heap}{N fs:An}{x:Str}{qual:Str}{scope:Scope}{f:Addr}{cd:Value}{cl:Aj}{A:Around}{Aq:List Env}{s:Shared}{H:Hp}{u:Value}{v:V}{fv:List V}
end
end L2
open PySem L2
variable {P:Program}{w:World}{K:W.Frag}{mg:Ak}{Ar:Heap}{f fT fL fW fR fG fI c0 tb fM fF fA j fC fP fB a c fN tb1 tb2 tb3 tb4:Addr}{fdT fdL fdW fdR fdG fdI fdM fdF fdA fdC fdP fdB fdN:FuncData}{lI cd:Value}{A:Around}{Aq:List Env}{s:Shared}{H0 H H':Hp}{E:XK}{cl:Aj}{Z:Shared->Hp->Prop}{zh:Hp->Prop}{ms m1 m2:Ag}{As p1 p2:Ae}{S:List Addr}{w1 w2:Int}
namespace Eo
open PySem L2
def Keep (H H':Hp)(p:Addr):Prop:=∀ b o,H b=some o->b≠p->H' b=some o
structure Txt (mg:Ak):Prop where
 len:mg "len" =none
 range:mg "range" =none
 tuple:mg "tuple" =none
 sorted:mg "sorted" =none
 set:mg "set" =none
 list:mg "list" =none
 int:mg "int" =none
 isinstance:mg "isinstance" =none
 bool:mg "bool" =none
 str:mg "str" =none
 all:mg "all" =none
 zip:mg "zip" =none
 max:mg "max" =none
 min:mg "min" =none
 any:mg "any" =none
 abs:mg "abs" =none
 sum:mg "sum" =none
 enumerate:mg "enumerate" =none
 dict:mg "dict" =none
structure Can (P:Program)(w:World)(K:W.Frag)(mg:Ak)(Ar:Heap)(x:Str)(k:Nat)(f:Addr)(fd:FuncData)(ps:An)(sp:Sp):Prop where
 G:FnOk P w K mg Ar CX0 k f fd ps sp
 m:mg x=some (.ref f)
 kp:keepIn K (.ref f)=true
 b:Binds K fd ps []
theorem Can.pe {X:Cx}{x:Str}{k:Nat}{f:Addr}{fd:FuncData}{ps:An}{sp:Sp}{e:Expr}{es:List Expr}{t:TA}{p pos:Pos}(C:Can X.prog X.w X.K X.mg X.Ar x k f fd ps sp)(hr:Room k X.A)(hg:Gl X x)(ha:PA X (e::es) t)(hdb:(x==("__debug__" :Str))=false:=by decide)
  (he:starEach (e::es) X.env=(false,eval e X.env)::starEach es X.env:=by rfl) (hpl:(backTo pos (starEach es X.env)).any (·.1)=false:=by rfl):PE X (.Call (.Name x p) (e::es) [] pos) (tCall sp [] E0 t):=
 jU0 C.G hr hg C.m C.kp C.b .nil pass0 ha hdb he hpl
theorem Can.je {X:Cx}{x:Str}{k:Nat}{f:Addr}{fd:FuncData}{ps:An}{sp:Sp}{e:Expr}{es:List Expr}{t:TA}{p pos:Pos}(C:Can X.prog X.w X.K X.mg X.Ar x k f fd ps sp)(hr:Room k X.A)(hg:Gl1 X x)(ha:JA X (e::es) t)(he:starEach (e::es) X.env=(false,eval e X.env)::starEach es X.env)
  (hdb:(x==("__debug__" :Str))=false:=by decide) (hpl:(backTo pos (starEach es X.env)).any (·.1)=false:=by rfl):JE X (.Call (.Name x p) (e::es) [] pos) (tCall sp [] E0 t):=
 ⟨C.pe hr hg.a ha.h hdb he hpl⟩
def jBU (K:W.Frag):Sp:=fun vs H Q _=>∃ (a:Addr) (ns:Ag) (k:Int),vs=[.ref a, .int k]/\SqL K H a (ns.map V.int)/\0<=k/\∀ c:Int,Q (.int c) H
theorem jVP:FnScope ["script","k"] ["script","k"] (j7 sCell):= {}
theorem jUE {f:Addr}{fd:FuncData}(F:Fun K "_law_cell_at" "_law_cell_at" sCell f fd)(T:Txt mg):FnOk P w K mg Ar CX0 1 f fd ["script","k"] (jBU K):=by
 refine F.ok jVP (fun vs H Q E h=>?_) (fun lI A Aq s H vs Q E hr h=>?_)
 ·obtain⟨a,ns,k,rfl,_⟩:=h;rfl
 ·obtain⟨a,ns,k,rfl,hS,h0,q⟩:=h;refine⟨_,kZ (ps_if (jE7 op_lt (pv 1) (jG9 jT (by rfl) T.len PySem.boot_len (kL (pv 0) yO)) (jV _)) (jAX (jDJ (pe_ix jC6 (pv 0) (pv 1) (fun _ _=>rfl)))) jG7) (jAX (jDJ jU)),?_⟩;refine⟨_,rfl,_,rfl,a,_,rfl, .inl hS,_,_,rfl,rfl,_,rfl,?_⟩;refine ite2 (fun hlt=>?_) (fun _=>?_)
  ·have hlt:k<((ns.map V.int).length:Int):=aG hlt;have hk:k.toNat<ns.length:=by rw[af] at hlt; lia
   refine⟨_,rfl,_,rfl,a,_,k, .int (ns[k.toNat]),rfl,rfl,hS,?_,q _⟩;have e:(k.toNat:Int)=k:=Aa;have q2:=qB (xs:=ns.map V.int) (j:=k.toNat) (v:=V.int ns[k.toNat]) (by simp [hk]);rw[e] at q2;exact q2
  ·exact q 0
def yZ:Sp:=fun vs H Q _=>∃ (p:Addr) (N w:Int),vs=[.ref p, .int w]/\H p=some (.lst [.int N])/\0<=N/\0<w/\w<2 ^ 64/\∀ N' r:Int,0<=N'->0<=r->r<w->Q (.int r) (upd H p (.lst [.int N']))
theorem scTake:FnScope ["pot","wide","found"] ["pot","wide"] (j7 sTake):= {}
theorem jU6 {f:Addr}{fd:FuncData}(F:Fun K "_law_take" "_law_take" sTake f fd):FnOk P w K mg Ar CX0 1 f fd ["pot","wide"] yZ:=by
 refine F.ok scTake (fun vs H Q E h=>?_) (fun lI A Aq s H vs Q E hr h=>?_)
 ·obtain⟨a,ns,k,rfl,_⟩:=h;rfl
 ·obtain⟨p,N,w,rfl,hp,h0,h1,h2,q⟩:=h;refine⟨_,kZ (qG (i:=2) scTake.nd rfl (Or.inl rfl) (kW jHT (pe_ix jC6 (pv 0) jU (fun _ _=>rfl)) (pv 1)))
   (kZ (jVY (kW jKL (pe_ix jC6 (pv 0) jU (fun _ _=>rfl)) (pv 1)) (jW2 (pv 0) jU jQA))
   (jAX (jDJ (pv 2)))),?_⟩
  refine⟨_,rfl,p,_,0, .int N,rfl,rfl,SqL.of hp,rfl,_,rfl,_,_,rfl,rfl,h1,?_⟩;refine⟨_,rfl,p,_,0, .int N,rfl,rfl,SqL.of hp,rfl,_,rfl,_,_,rfl,rfl,⟨h1,h2⟩,?_⟩;refine⟨_,rfl,p,_,0,0,rfl,rfl,hp,rfl,_,rfl,?_⟩;exact q _ _ (Int.ediv_nonneg h0 Aa) (Int.emod_nonneg _ Aa) (lC _ h1)
def spPot:Sp:=fun vs H Q _=>∃ c:Int,vs=[.int c]/\∀ (p:Addr) (N:Int),H p=none->0<=N->Q (.ref p) (upd H p (.lst [.int N]))
theorem scPot:FnScope ["cell","number","j","more"] ["cell"] (j7 sPot):= {}
theorem jWD {f:Addr}{fd:FuncData}(F:Fun K "_law_pot" "_law_pot" sPot f fd)(T:Txt mg):FnOk P w K mg Ar CX0 1 f fd ["cell"] spPot:=by
 refine F.ok scPot (fun vs H Q E h=>?_) (fun lI A Aq s H vs Q E hr h=>?_)
 ·obtain⟨c,rfl,_⟩:=h;rfl
 ·obtain⟨c,rfl,q⟩:=h;have one: [V.int 0].length<=sizeLine:=by show 1<=sizeLine; decide
  refine⟨_,kZ (ps_if (jE7 op_ge (pv 0) (kW jNF jU jU) (jV _)) (jAX (jDJ (jKK (kL (kW jEB (pv 0) (kW jNF jU jU)) yO)))) jG7)
   (kZ (qG (i:=1) scPot.nd rfl (Or.inl rfl) jU)
   (kZ (jSC cC rfl (jCE rfl T.range (kL jU yO)) (jG8 (i:=2) scPot.nd rfl (Or.inl rfl))
    (kZ (qG (i:=3) scPot.nd rfl (Or.inl rfl) (kW jHT (kW jCG (kW kU (kW kU (kW jHT (pv 0) jU) (kW jCG jU (pv 2))) jU) jU) jU))
    (kZ (qG (i:=3) scPot.nd rfl (Or.inl rfl) (kW jHT (kW kU (kW kU (kW jCG (pv 3) (pv 3)) (kW jCG jU (pv 2))) jU) jU))
    (jAX (qG (i:=1) scPot.nd rfl (Or.inl rfl) (kW kU (kW jCG (pv 1) jU) (pv 3)))))))
   (jAX (jDJ (jKK (kL (pv 1) yO)))))),?_⟩
  refine⟨_,rfl,_,_,rfl,rfl,⟨Ac,Ac,Ac⟩,_,_,rfl,rfl,_,rfl,?_⟩;refine ite2 (fun hge=>?_) (fun _=>?_)
  ·refine⟨_,rfl,_,_,rfl,rfl,⟨Ac,Ac,Ac⟩,_,_,rfl,rfl,one,fun p hp=>q p _ hp ?_⟩;exact Int.sub_nonneg_of_le (aG hge)
  ·refine⟨64,rfl,Ac,Ac,jEV (n:=64) (fun i σ H2=>∃ (num:Int) (v1 v2:Option V),σ=[some (.int c),some (.int num),v1,v2]/\0<=num/\H2=H) ⟨0,none,none,rfl,cX _,rfl⟩ ?_ ?_⟩
   ·rintro i σ H2 hi ⟨num,v1,v2,rfl,hn,rfl⟩;refine⟨_,rfl,_,_,rfl,rfl,(by show (0:Int)<2147483629; decide),_,rfl,_,_,rfl,rfl, .inl ⟨Ac,Ac⟩,_,_,rfl,rfl,_,_,rfl,rfl,_,_,rfl,rfl, .inr ⟨Ac,Ac⟩,_,_,rfl,rfl,(by show (0:Int)<2147483647; decide),?_⟩;refine⟨_,rfl,_,rfl,_,_,rfl,rfl, .inl ⟨?_,?_⟩,_,rfl,_,_,rfl,rfl, .inl ⟨Ac,Ac⟩,_,_,rfl,rfl,_,_,rfl,rfl,_,_,rfl,rfl,(by show (0:Int)<2147483587; decide),?_⟩
    ·lia
    ·lia
    ·refine⟨_,rfl,_,_,rfl,rfl, .inr ⟨Ac,Ac⟩,_,rfl,_,_,rfl,rfl,?_⟩;refine⟨_,_,_,rfl,?_,rfl⟩;lia
   ·rintro σ H2 ⟨num,v1,v2,rfl,hn,rfl⟩;exact⟨_,rfl,one,fun p hp=>q p num hp hn⟩
theorem jCT {H:Hp}{a:Addr}{o o':HO} :upd (upd H a o) a o'=upd H a o':=by
 funext b;unfold upd;by_cases h:b=a
 ·rw[aq h,aq h]
 ·rw[ak h,ak h,ak h]
theorem yG {H:Hp}{a b:Addr}{o:HO}(h:upd H a o b=none):b≠a/\H b=none:=by
 have h1:b≠a:=fun e=>by rw[e,j5] at h; cases h
 exact⟨h1,by rw[j9 h1] at h; exact h⟩
theorem Keep.refl (H:Hp)(p:Addr):Keep H H p:=fun _ _ h _=>h
theorem Keep.trans {H H1 H2:Hp}{p:Addr}(a:Keep H H1 p)(b:Keep H1 H2 p):Keep H H2 p:=fun c o h n=>b c o (a c o h n) n
theorem Keep.upd {H H1:Hp}{p:Addr}(a:Keep H H1 p)(o:HO):Keep H (upd H1 p o) p:=fun c u h n=>by rw[j9 n]; exact a c u h n
theorem Keep.new {H H1:Hp}{p l:Addr}(a:Keep H H1 p)(hl:H1 l=none)(o:HO):Keep H (L2.upd H1 l o) p:=fun c u h n=>by
 have:=a c u h n;rw[j9 (jA this hl)];exact this
theorem pw {w:Int}(h1:1<=w)(h2:w<=16):(2:Int)<=2 ^ w.toNat/\(2:Int) ^ w.toNat<=65536:=by
 have e:∀ n:Nat,n<17->1<=n->(2:Int)<=2 ^ n/\(2:Int) ^ n<=65536:=Ab;exact e w.toNat Aa Aa
structure Lot (w:Int)(ts:Ag):Prop where
 ris:ts.Pairwise (· < ·)
 bnd:∀ z∈ts,0<=z/\z<w
 ne:ts≠ []
def bits (n:Int)(k:Nat):Ag:=((List.range k).filter fun t=>decide (Builtin.bitAnd (n / 2 ^ t) 1=1)).map fun (t:Nat)=>(t:Int)
theorem jIL (n:Int)(k:Nat):bits n (k+1)=bits n k++(if decide (Builtin.bitAnd (n / 2 ^ k) 1=1)=true then [(k:Int)] else []):=by
 unfold bits;rw[io,bN,aS];congr 1;rw[cN];split <;> rfl
theorem jRQ {n w:Int}(h1:1<=n)(hw:0<=w)(h2:n<2 ^ w.toNat):Lot w (bits n w.toNat):=by
 refine⟨?_,fun z hz=>?_,?_⟩
 ·unfold bits;rw[bu];have:=(gN (n:=w.toNat)).filter (fun t=>decide (Builtin.bitAnd (n / 2 ^ t) 1=1));exact this.imp fun h=>by lia
 ·unfold bits at hz;obtain⟨t,ht,rfl⟩:=aw.mp hz;have:=bK.mp (aR.mp ht).1;lia
 ·obtain⟨m,rfl⟩:∃ m:Nat,n=(m:Int):=⟨n.toNat,Aa⟩;have hm:m≠0:=Aa;have hlt:m<2 ^ w.toNat:=by
   have:((m:Nat):Int)<((2 ^ w.toNat:Nat):Int):=by rw[Int.natCast_pow]; exact h2
   lia
  obtain⟨i,hi⟩:=Nat.exists_testBit_of_ne_zero hm;have hiw:i<w.toNat:=by
   rcases dU i w.toNat with h | h
   ·exact h
   ·rw[gM (aX hlt (cj Aa h))] at hi;cases hi
  have hb:Builtin.bitAnd ((m:Int) / 2 ^ i) 1=1:=by
   have e:((m:Int) / 2 ^ i)=((m / 2 ^ i:Nat):Int):=by rw[Int.natCast_ediv,Int.natCast_pow]; rfl
   rw[e,PyProof.Rows.bitAnd_pp (gq _) Ac];have e2:(((m / 2 ^ i:Nat):Int).toNat&&&(1:Int).toNat)=1:=by
    rw[bz];show (m / 2 ^ i)&&&1=1;rw[lE];have:=hi;rw[gO] at this;exact aG this
   rw[e2];rfl
  intro z;have hmem:(i:Int)∈bits (m:Int) w.toNat:=by
   unfold bits;exact aw.mpr ⟨i,aR.mpr ⟨bK.mpr hiw,ar hb⟩,rfl⟩
  rw[z] at hmem;cases hmem
def qO:Sp:=fun vs H Q _=>∃ (p:Addr) (N w:Int),vs=[.ref p, .int w]/\H p=some (.lst [.int N])/\0<=N/\1<=w/\w<=16/\
 ∀ (q:Addr) (N':Int) (ts:Ag) (H':Hp),0<=N'->Lot w ts->H' q=some (.tup (ts.map V.int))->H' p=some (.lst [.int N'])->Keep H H' p->Q (.ref q) H'
theorem scLot:FnScope ["pot","wide","way","number","start","step","size"] ["pot","wide"] (j7 sLot):= {}
theorem jWF {f fT:Addr}{fd fdT:FuncData}(F:Fun K "_law_lot" "_law_lot" sLot f fd)(T:Txt mg)(CT:Can P w K mg Ar "_law_take" 1 fT fdT ["pot","wide"] yZ):FnOk P w K mg Ar CX0 2 f fd ["pot","wide"] qO:=by
 refine F.ok scLot (fun vs H Q E h=>?_) (fun lI A Aq s H vs Q E hr h=>?_)
 ·obtain⟨a,ns,k,rfl,_⟩:=h;rfl
 ·obtain⟨p,N,w,rfl,hp,hN,h1,h2,q⟩:=h;have hpw:=pw h1 h2;have nd:=scLot.nd;refine⟨_,kZ (qG (i:=2) nd rfl (Or.inl rfl) (CT.pe hr rfl (kL (pv 0) (kL jU yO))))
   (kZ (ps_if (jE7 qQ (pv 2) jU (jV _))
    (kZ (qG (i:=3) nd rfl (Or.inr rfl) (kW kU jU (CT.pe hr rfl (kL (pv 0) (kL (kW jEB (kW jHS jU (pv 1)) jU) yO)))))
    (jAX (jDJ (jCF jP rfl T.tuple Ab (kL
     (jJ3 (m:=[none,some 3]) (Nc:=["t","number"]) rfl (jCE rfl T.range (kL (pv 1) yO)) rfl Ab Ab (jM (psc:=j7 sLot))
      (jH (N:=["pot","wide","way","number","start","step","size"]) rfl rfl Ab)
      (fun cl C fp s H=>jG8 (i:=0) (show (["t","number"]:An).Nodup by decide+kernel) rfl (Or.inl rfl))
      (fun cl C fp s H=>jN7 (jE7 qQ (kW jKN (kW jSH (pv 1) (pv 0)) jU) jU (jV _)))
      (fun cl C fp s H=>pv 0)) yO)))))
    jG7)
   (kZ (qG (i:=4) nd rfl (Or.inr rfl) (CT.pe hr rfl (kL (pv 0) (kL (pv 1) yO))))
   (kZ (qG (i:=5) nd rfl (Or.inr rfl) (kW kU jU (CT.pe hr rfl (kL (pv 0) (kL jU yO)))))
   (kZ (qG (i:=6) nd rfl (Or.inl rfl) (kW kU jU (CT.pe hr rfl (kL (pv 0) (kL (pe_ix jC6 (jKK (kL jU (kL jU (kL jU yO)))) (kW jEB (pv 2) jU) (fun _ _=>rfl)) yO)))))
   (jAX (jDJ (jCF jP rfl T.tuple Ab (kL (jG9 (jF8 rfl) rfl T.sorted Ab (kL (jCF (jPQ rfl) rfl T.set Ab (kL
     (jJ3 (m:=[none,some 4,some 5,some 1]) (Nc:=["j","start","step","wide"]) rfl (jCE rfl T.range (kL (pv 6) yO)) rfl Ab Ab (jM (psc:=j7 sLot))
      (jH (N:=["pot","wide","way","number","start","step","size"]) rfl rfl Ab)
      (fun cl C fp s H=>jG8 (i:=0) (show (["j","start","step","wide"]:An).Nodup by decide+kernel) rfl (Or.inl rfl))
      (fun cl C fp s H=>jN8)
      (fun cl C fp s H=>kW jHT (kW kU (pv 1) (kW jCG (pv 2) (pv 0))) (pv 3))) yO)) yO)) yO)))))))),?_⟩
  refine⟨_,rfl,p,N,4,rfl,hp,hN,Ac,Ac,fun N1 way b1 b2 b3=>?_⟩;have hp1:∀ M,(upd H p (.lst [.int M])) p=some (.lst [.int M]):=fun _=>j5;refine⟨_,rfl,rfl,_,rfl,?_⟩;refine ite2 (fun _=>?_) (fun hw0=>?_)
  ·refine⟨_,rfl,_,rfl,_,_,rfl,rfl,⟨Aa,Aa,Ac⟩,_,_,rfl,rfl,p,N1,_,rfl,hp1 _,b1,Aa,Aa,fun N2 r2 c1 c2 c3=>⟨_,_,rfl,rfl,?_⟩⟩;have hnum:1+r2<2 ^ w.toNat:=Aa;refine⟨_,rfl,w,rfl,Aa,Aa,jBO (n:=w.toNat) (by rw[aE]; lia) (fun D i σ' H' ys=>(∃ v,σ'=[v,some (.int (1+r2))])/\ys=(bits (1+r2) i).map V.int/\H'=upd (upd (upd H p (.lst [.int N1])) p (.lst [.int N2])) D (.lst ys)) ?_ ?_ ?_ ?_⟩
   ·intro D hD;exact⟨⟨_,rfl⟩,rfl,rfl⟩
   ·rintro D i σ' H' ys hD hi ⟨_,e1,e2⟩;refine⟨by rw[e2]; exact j5,?_⟩;rw[e1,af];unfold bits;rw[af];exact bv (bS _ _) (by rw[cx]; exact aA _)
   ·rintro D i σ' H' ys hD hi ⟨⟨v,rfl⟩,rfl,rfl⟩;refine⟨_,rfl,_,rfl,_,_,rfl,rfl,(by show (0:Int)<=0+(i:Int); lia),_,_,rfl,rfl,rfl,_,rfl,?_⟩;have ei:(0+(i:Int)).toNat=i:=Aa;refine ite2 (fun hb=>?_) (fun hb=>?_)
    ·have hb:Builtin.bitAnd ((1+r2) / 2 ^ i) 1=1:=by
      have:=aG hb;rw[ei] at this;exact V.int.inj this
     refine⟨_,rfl,j5,⟨_,rfl⟩,?_,jCT⟩;rw[jIL,aq (ar hb),aS];congr 1;show [V.int (0+(i:Int))]=[V.int (i:Int)];rw[jr]
    ·have hb:¬ Builtin.bitAnd ((1+r2) / 2 ^ i) 1=1:=fun e=>hb (ar (by rw[ei]; exact bW V.int e));refine⟨⟨_,rfl⟩,?_,rfl⟩;rw[jIL,ak (by simpa using hb),bf]
   ·rintro D σ' H' ys hD ⟨_,rfl,rfl⟩;refine⟨D,_,rfl, .inl ⟨SqL.of j5,fun qq hqq=>?_⟩⟩;obtain⟨n1,n2⟩:=yG hqq;have pD:p≠D:=jA j5 hD;have pq:p≠qq:=jA j5 n2;exact q qq N2 (bits (1+r2) w.toNat) _ c1 (jRQ Aa Aa hnum) j5 (by rw[j9 pq,j9 pD,j5]) (((((Keep.refl H p).upd _).upd _).new hD _).new hqq _)
  ·have hway:1<=way:=by
    have:¬ way=0:=fun e=>hw0 (ar (by rw[e]));lia
   refine⟨_,rfl,_,rfl,p,N1,w,rfl,hp1 _,b1,Aa,Aa,fun N2 yC c1 c2 c3=>?_⟩;rw[jCT];refine⟨_,rfl,p,N2,3,rfl,hp1 _,c1,Ac,Ac,fun N3 st d1 d2 d3=>⟨_,_,rfl,rfl,?_⟩⟩;rw[jCT];refine⟨_,rfl,(by show 3<=sizeLine; decide),fun l hl=>?_⟩;have pl:p≠l:=jA (hp1 _) hl;obtain⟨wd,hwd,e1,e2⟩:∃ wd:Int,atI [V.int 1,V.int 2,V.int 4] (way - 1)=some (.int wd)/\1<=wd/\wd<=4:=by
    rcases (show way=1\/way=2\/way=3 by lia) with e | e | e
    ·subst e; exact⟨1,rfl,Ac,Ac⟩
    ·subst e; exact⟨2,rfl,Ac,Ac⟩
    ·subst e; exact⟨4,rfl,Ac,Ac⟩
   refine⟨_,rfl,_,_,rfl,rfl,l,_,_,_,rfl,rfl,SqL.of j5,hwd,p,N3,wd,rfl,by rw[j9 pl]; exact hp1 _,d1,Aa,Aa,fun N4 r4 g1 g2 g3=>⟨_,_,rfl,rfl,?_⟩⟩;have kp:Keep H (upd (upd (upd H p (.lst [.int N3])) l (.lst [V.int 1,V.int 2,V.int 4])) p (.lst [.int N4])) p:=(((Keep.refl H p).upd _).new hl _).upd _;have hp4:(upd (upd (upd H p (.lst [.int N3])) l (.lst [V.int 1,V.int 2,V.int 4])) p (.lst [.int N4])) p=some (.lst [.int N4]):=j5;generalize (upd (upd (upd H p (.lst [.int N3])) l (.lst [V.int 1,V.int 2,V.int 4])) p (.lst [.int N4]))=H4 at kp hp4 ⊢;refine⟨_,rfl,1+r4,rfl,Aa,Aa,jBO (n:=(1+r4).toNat) (by rw[aE]; lia) (fun D i σ' H' ys=>(∃ v,σ'=[v,some (.int yC),some (.int (1+st)),some (.int w)])/\(∃ ns:Ag,ys=ns.map V.int/\ns.length=i/\∀ z∈ns,0<=z/\z<w)/\H'=upd H4 D (.lst ys)) ?_ ?_ ?_ ?_⟩
   ·intro D hD;exact⟨⟨_,rfl⟩,⟨[],rfl,rfl,fun z hz=>by cases hz⟩,rfl⟩
   ·rintro D i σ' H' ys hD hi ⟨_,⟨ns,rfl,e,_⟩,rfl⟩;exact⟨j5,by rw[af,e]; exact aA _⟩
   ·rintro D i σ' H' ys hD hi ⟨⟨v,rfl⟩,⟨ns,rfl,e,hb⟩,rfl⟩;dsimp only [kR,yK];rw[aq rfl];refine⟨_,rfl,_,rfl,_,rfl,_,_,rfl,rfl, .inl ⟨Aa,Aa⟩,_,_,rfl,rfl,_,rfl,_,_,rfl,rfl,(by show 0<w; lia),j5,⟨_,rfl⟩,⟨ns++[(yC+(1+st)*(0+(i:Int))) % w],Ad,by simp [e],fun z hz=>?_⟩,jCT⟩;rcases aJ.mp hz with hz | hz
    ·exact hb z hz
    ·have:z=(yC+(1+st)*(0+(i:Int))) % w:=by simpa using hz
     rw[this];exact⟨Int.emod_nonneg _ Aa,lC _ Aa⟩
   ·rintro D σ' H' ys hD ⟨_,⟨ns,rfl,e,hb⟩,rfl⟩;refine⟨D,ns,rfl,SqL.of j5,Aa,fun z hz=>⟨(hb z hz).1,by have:=(hb z hz).2; lia⟩,fun l1 ks h11 hm1=>?_⟩;refine⟨l1,ks,rfl,j5,fun l2 ms h12 srt hm2=>?_⟩;refine⟨l2,_,rfl, .inl ⟨SqL.of j5,fun qq hqq=>?_⟩⟩;have pD:p≠D:=jA hp4 hD;have p1:p≠l1:=jA hp4 (yG h11).2;have p2:p≠l2:=jA hp4 (yG (yG h12).2).2;have pq:p≠qq:=jA hp4 (yG (yG (yG hqq).2).2).2;refine q qq N4 ms _ g1 ⟨srt,fun z hz=>hb z ((hm1 z).mp ((hm2 z).mp hz)),fun z=>?_⟩ j5 (by rw[j9 pq,j9 p2,j9 p1,j9 pD]; exact hp4) ((((kp.new hD _).new h11 _).new h12 _).new hqq _);subst z;cases ns with
    | nil=>simp at e; lia
    | cons x r=>
     have:=(hm2 x).mpr ((hm1 x).mpr ai);cases this
structure Ris (w:Int)(ts:Ag):Prop where
 ris:ts.Pairwise (· < ·)
 bnd:∀ z∈ts,0<=z/\z<w
theorem Ris.nil (w:Int):Ris w []:=⟨.nil,fun z hz=>by cases hz⟩
theorem Ris.take {w:Int}{ts:Ag}(h:Ris w ts)(k:Nat):Ris w (ts.take k):=⟨h.ris.sublist (eC _ _),fun z hz=>h.bnd z (bV hz)⟩
theorem Ris.drop {w:Int}{ts:Ag}(h:Ris w ts)(k:Nat):Ris w (ts.drop k):=⟨h.ris.sublist (iS _ _),fun z hz=>h.bnd z (cy hz)⟩
theorem Ris.snoc {i:Nat}{ts:Ag}(h:Ris i ts):Ris (i+1:Nat) (ts++[(i:Int)]):=by
 refine⟨cg.mpr ⟨h.ris,gz _ _,fun a ha b hb=>?_⟩,fun z hz=>?_⟩
 ·have:=(h.bnd a ha).2;have e:b=i:=by simpa using hb
  lia
 ·rcases aJ.mp hz with q | q
  ·have:=h.bnd z q;lia
  ·have e:z=i:=by simpa using q
   lia
theorem Ris.step {i:Nat}{ts:Ag}(h:Ris i ts):Ris (i+1:Nat) ts:=⟨h.ris,fun z hz=>by have:=h.bnd z hz; lia⟩
def upto (n:Nat):Ag:=(List.range n).map fun (i:Nat)=>(i:Int)
theorem jP0 (n:Nat):jES n=(upto n).map V.int:=by
 unfold jES upto;rw[bB];rfl
theorem kT (n:Nat):Ris n (upto n):=by
 refine⟨?_,fun z hz=>?_⟩
 ·unfold upto;rw[bu];exact gN.imp fun h=>by lia
 ·unfold upto at hz;obtain⟨t,ht,rfl⟩:=aw.mp hz;have:=bK.mp ht;lia
def Tups (H H':Hp):Prop:=∀ b xs,H b=some (.tup xs)->H' b=some (.tup xs)
theorem Tups.trans {H H1 H2:Hp}(a:Tups H H1)(b:Tups H1 H2):Tups H H2:=fun c o h=>b c o (a c o h)
theorem Keep.tups {H H':Hp}{p:Addr}{xs:List V}(k:Keep H H' p)(hp:H p=some (.lst xs)):Tups H H':=fun b ys hb=>k b _ hb fun e=>by
 subst e;rw[hb] at hp;cases hp
theorem Tups.upd {H:Hp}{p:Addr}{xs:List V}(hp:H p=some (.lst xs))(o:HO):Tups H (upd H p o):=fun b ys hb=>by
 rw[j9 (fun e=>by subst e; rw[hb] at hp; cases hp)];exact hb
theorem Tups.new {H:Hp}{p:Addr}(hp:H p=none)(o:HO):Tups H (L2.upd H p o):=fun b ys hb=>by
 rw[j9 (jA hb hp)];exact hb
def PcAt (H:Hp)(v:V)(pc:List Int×Int):Prop:=∃ a q,v= .ref a/\H a=some (.tup [.ref q, .int pc.2])/\H q=some (.tup (pc.1.map V.int))
def PcsAt (H:Hp):List V->Ae->Prop
 | [],[]=>True
 | v::vs,p::ps=>PcAt H v p/\PcsAt H vs ps
 | _,_=>False
theorem PcAt.mono {H H':Hp}{v:V}{pc:List Int×Int}(h:PcAt H v pc)(t:Tups H H'):PcAt H' v pc:=by
 obtain⟨a,q,rfl,h1,h2⟩:=h;exact⟨a,q,rfl,t _ _ h1,t _ _ h2⟩
theorem PcsAt.mono {H H':Hp}(t:Tups H H'):∀ {vs:List V}{ps:Ae},PcsAt H vs ps->PcsAt H' vs ps
 | [],[],_=>trivial
 | _::_,_::_,h=>⟨h.1.mono t,PcsAt.mono t h.2⟩
 | [],_::_,h=>h.elim
 | _::_,[],h=>h.elim
theorem PcsAt.len {H:Hp} :∀ {vs:List V}{ps:Ae},PcsAt H vs ps->vs.length=ps.length
 | [],[],_=>rfl
 | _::_,_::_,h=>bW (· +1) (PcsAt.len h.2)
 | [],_::_,h=>h.elim
 | _::_,[],h=>h.elim
theorem PcsAt.put {H:Hp}{v:V}{p:List Int×Int}(hv:PcAt H v p):∀ (k:Nat) {vs:List V}{ps:Ae},PcsAt H vs ps->PcsAt H (vs.take k++v::vs.drop k) (ps.take k++p::ps.drop k)
 | 0,_,_,h=>⟨hv,h⟩
 | _+1,[],[],_=>⟨hv,trivial⟩
 | k+1,_::_,_::_,h=>⟨h.1,PcsAt.put hv k h.2⟩
 | _+1,[],_::_,h=>h.elim
 | _+1,_::_,[],h=>h.elim
structure GoodPc (w:Int)(pc:List Int×Int):Prop where
 lot:Lot w pc.1
 lo: -1000000000000<=pc.2
 hi:pc.2<=1000000000000
structure BoxAt (H:Hp)(b:Addr)(w:Int)(mays:Ag)(As:Ae):Prop where
 ex:∃ qm qp vs,H b=some (.tup [.int w, .ref qm, .ref qp])/\H qm=some (.tup (mays.map V.int))/\H qp=some (.tup vs)/\PcsAt H vs As
theorem BoxAt.mono {H H':Hp}{b:Addr}{w:Int}{mays:Ag}{As:Ae}(h:BoxAt H b w mays As)(t:Tups H H'):BoxAt H' b w mays As:=by
 obtain⟨qm,qp,vs,h1,h2,h3,h4⟩:=h.ex;exact⟨qm,qp,vs,t _ _ h1,t _ _ h2,t _ _ h3,h4.mono t⟩
structure Good (mt mp:Int)(w:Int)(mays:Ag)(As:Ae):Prop where
 w0:0<=w
 w1:w<=mt
 mr:Ris w mays
 pl:(As.length:Int)<=mp
 pg:∀ pc∈As,GoodPc w pc
theorem Keep.updNew {H H1:Hp}{p l:Addr}(a:Keep H H1 p)(hl:H l=none)(o:HO):Keep H (L2.upd H1 l o) p:=fun c u h n=>by
 rw[j9 (jA h hl)];exact a c u h n
def spBox:Sp:=fun vs H Q _=>∃ (p:Addr) (N mt mp:Int),vs=[.ref p, .int mt, .int mp]/\H p=some (.lst [.int N])/\0<=N/\0<=mt/\mt<=16/\0<=mp/\mp<=32/\
 ∀ (b:Addr) (N' w:Int) (mays:Ag) (As:Ae) (H':Hp),0<=N'->H' p=some (.lst [.int N'])->BoxAt H' b w mays As->Good mt mp w mays As->Keep H H' p->Q (.ref b) H'
abbrev nBox:An:=["pot","most_things","most_pieces","wide","mays","left","far","pieces","k","size","things"]
theorem scBox:FnScope nBox ["pot","most_things","most_pieces"] (j7 sBox):= {}
abbrev XBox (P:Program)(w:World)(K:W.Frag)(mg:Ak)(Ar:Heap)(f:Addr)(lI:Value)(A:Around)(Aq:List Env)(s:Shared)(H:Hp)(E:XK):Cx:=(cxOf CX0 P w K mg Ar nBox "_law_box" (j7 sBox) f lI A Aq s H E).nox
def jBV:Stmt->List Stmt
 | .For _ _ b _ _=>b
 | _=> []
def boxI {f fT fL:Addr}{fdT fdL:FuncData}{lI:Value}{A:Around}{Aq:List Env}{s:Shared}{H:Hp}{E:XK}(T:Txt mg)(CT:Can P w K mg Ar "_law_take" 1 fT fdT ["pot","wide"] yZ)(CL:Can P w K mg Ar "_law_lot" 2 fL fdL ["pot","wide"] qO)(hr:Room 2 (XBox P w K mg Ar f lI A Aq s H E).A): { t:TS // JSs (XBox P w K mg Ar f lI A Aq s H E) ((jBV ((jC sBox).getD 7 (.Pass ⟨0,0,0,0⟩))).drop 4) t} :=
 have nd:=scBox.nd
 ⟨_,(jE (jEQ (je_bm cw PySem.F.slot_list_insert PySem.F.type_list_insert jO0 (jv 7 rfl vL) (j3 (CT.je (hr.mono Ac) gD (j3 (jv 0 rfl vC) (j3 (jZ kU (jK jT gD T.len Ab (j3 (jv 7 rfl vL) j8 j4) j4) (je_int)) j8 yB) j4) j4) (j3 (jL1 (j3 (jv 10 rfl vL) (j3 (jZ jEB (CT.je (hr.mono Ac) gD (j3 (jv 0 rfl vC) (j3 (jv 6 rfl vL) j8 j4) j4) j4) (jZ jKL (jv 6 rfl vL) (je_int))) j8 yB) j4)) j8 jDF) jG) jG) jY))⟩
def boxL {f fT fL:Addr}{fdT fdL:FuncData}{lI:Value}{A:Around}{Aq:List Env}{s:Shared}{H:Hp}{E:XK}(T:Txt mg)(CT:Can P w K mg Ar "_law_take" 1 fT fdT ["pot","wide"] yZ)(CL:Can P w K mg Ar "_law_lot" 2 fL fdL ["pot","wide"] qO)(hr:Room 2 (XBox P w K mg Ar f lI A Aq s H E).A): { t:TS // JSs (XBox P w K mg Ar f lI A Aq s H E) (jBV ((jC sBox).getD 7 (.Pass ⟨0,0,0,0⟩))) t} :=
 have nd:=scBox.nd
 ⟨_,(jB (jO (i:=9) nd rfl lL (jZ kU (je_int) (CT.je (hr.mono Ac) gD (j3 (jv 0 rfl vC) (j3 (je_int) j8 kO) j4) j4)) jFD)
   (jB (jO (i:=10) nd rfl lL (kI jP gD T.tuple Ab (j3 (jE0 jG4 (jv 5 rfl vL) jGN (jGM (jv 9 rfl vL))) j8 jN) jN) jY)
   (jB (jO (i:=5) nd rfl lL (jE0 jG4 (jv 5 rfl vL) (jGM (jv 9 rfl vL)) jGN) jK3)
   (jB (yF (jW (jWB hr.units0) (jv 10 rfl vL) (jL1 j8) (jV _)) (jE (jO (i:=10) nd rfl lL (CL.je hr gD (j3 (jv 0 rfl vC) (j3 (jv 3 rfl vL) j8 j4) j4) j4) jY)) kN)
   (boxI T CT CL hr).2))))⟩
def boxC {f fT fL:Addr}{fdT fdL:FuncData}{lI:Value}{A:Around}{Aq:List Env}{s:Shared}{H:Hp}{E:XK}(T:Txt mg)(CT:Can P w K mg Ar "_law_take" 1 fT fdT ["pot","wide"] yZ)(CL:Can P w K mg Ar "_law_lot" 2 fL fdL ["pot","wide"] qO)(hr:Room 2 (XBox P w K mg Ar f lI A Aq s H E).A): { t:TS // JSs (XBox P w K mg Ar f lI A Aq s H E) ((jC sBox).drop 5) t} :=
 have nd:=scBox.nd
 ⟨_,(jB (jO (i:=6) nd rfl lL (jI jC6 (jOO (j3 (je_int) (j3 (je_int) (j3 (jX1) j8 yB) kO) kO)) (CT.je (hr.mono Ac) gD (j3 (jv 0 rfl vC) (j3 (je_int) j8 kO) j4) j4) jTF) jK3)
   (jB (jO (i:=7) nd rfl lL (jOO j8) jFC)
   (jB (jBX cC rfl (jAG gD T.range (j3 (jZ jCG (CT.je (hr.mono Ac) gD (j3 (jv 0 rfl vC) (j3 (jZ kU (jv 2 rfl vL) (je_int)) j8 yB) j4) j4) (kI jPR gD T.int Ab (j3 (yQ op_gt (jv 3 rfl vL) (je_int) (jV _)) j8 jS9) jS9)) j8 yB) yB) (jL (i:=8) nd rfl lL) (boxL T CT CL hr).2 y6)
   (jE (jQ (jL1 (j3 (jv 3 rfl vL) (j3 (jv 4 rfl vL) (j3 (kI jP gD T.tuple Ab (j3 (jv 7 rfl vL) j8 j4) j4) j8 jG) j4) j4)))))))⟩
def boxB {f fT fL:Addr}{fdT fdL:FuncData}{lI:Value}{A:Around}{Aq:List Env}{s:Shared}{H:Hp}{E:XK}(T:Txt mg)(CT:Can P w K mg Ar "_law_take" 1 fT fdT ["pot","wide"] yZ)(CL:Can P w K mg Ar "_law_lot" 2 fL fdL ["pot","wide"] qO)(hr:Room 2 (XBox P w K mg Ar f lI A Aq s H E).A): { t:TS // JSs (XBox P w K mg Ar f lI A Aq s H E) ((jC sBox).drop 3) t} :=
 have nd:=scBox.nd
 ⟨_,(jB (jO (i:=5) nd rfl lL (kI (jIH rfl) gD T.list Ab (j3 (kI jJW gD T.range Ab (j3 (jv 3 rfl vL) j8 j4) j4) j8 jG) jG) jY)
   (jB (yF (jW qQ (CT.je (hr.mono Ac) gD (j3 (jv 0 rfl vC) (j3 (je_int) j8 kO) j4) j4) (je_int) (jV _)) (jE (jO (i:=5) nd rfl lL (jOO j8) jFC)) kN)
   (boxC T CT CL hr).2))⟩
def boxA {f fT fL:Addr}{fdT fdL:FuncData}{lI:Value}{A:Around}{Aq:List Env}{s:Shared}{H:Hp}{E:XK}(T:Txt mg)(CT:Can P w K mg Ar "_law_take" 1 fT fdT ["pot","wide"] yZ)(CL:Can P w K mg Ar "_law_lot" 2 fL fdL ["pot","wide"] qO)(hr:Room 2 (XBox P w K mg Ar f lI A Aq s H E).A): { t:TS // JSs (XBox P w K mg Ar f lI A Aq s H E) (jC sBox) t} :=
 have nd:=scBox.nd
 ⟨_,(jB (jO (i:=3) nd rfl lL (CT.je (hr.mono Ac) gD (j3 (jv 0 rfl vC) (j3 (jZ kU (jv 1 rfl vL) (je_int)) j8 yB) j4) j4) jY)
   (jB (jO (i:=4) nd rfl lL (jL1 j8) jS6)
   (jB (yF (jW qQ (CT.je (hr.mono Ac) gD (j3 (jv 0 rfl vC) (j3 (je_int) j8 kO) j4) j4) (je_int) (jV _)) (jE (jO (i:=4) nd rfl lL (kI jP gD T.tuple Ab (j3 (kE (m:=[none,some 0]) (Nc:=["t","pot"]) rfl (jAG gD T.range (j3 (jv 3 rfl vL) j8 j4) j4) rfl Ab Ab (jM (psc:=j7 sBox)) (jH (N:=nBox) rfl rfl Ab) (fun cl C fp s H=>jL (i:=0) (show (["t","pot"]:An).Nodup by decide+kernel) rfl yI) (fun cl C fp s H=>jEP (jW qQ (CT.je (hr.mono Ac) gl_b (j3 (jv 1 rfl kQ) (j3 (je_int) j8 kO) j4) j4) (je_int) (jV _))) (fun cl C fp s H=>(jv 0 rfl jS)) y6) j8 jF) jF) jY)) kN)
   (boxB T CT CL hr).2)))⟩
structure St0 (H H2:Hp)(p:Addr)(w:Int)(qm ql:Addr)(mays lf:Ag)(N:Int):Prop where
 hp:H2 p=some (.lst [.int N])
 hN:0<=N
 hm:H2 qm=some (.tup (mays.map V.int))
 rm:Ris w mays
 hl:H2 ql=some (.lst (lf.map V.int))
 rl:Ris w lf
 ne:ql≠p
 kp:Keep H H2 p
theorem St0.step {H H2 H3:Hp}{p:Addr}{w:Int}{qm ql:Addr}{mays lf:Ag}{N N':Int}(S:St0 H H2 p w qm ql mays lf N)(k:Keep H2 H3 p)(hp:H3 p=some (.lst [.int N']))(hN:0<=N'):St0 H H3 p w qm ql mays lf N':=
 ⟨hp,hN,k qm _ S.hm (ne_of S.hm S.hp (by intro z; cases z)),S.rm,k ql _ S.hl S.ne,S.rl,S.ne,S.kp.trans k⟩
theorem jPJ {w:Int}{lf:Ag}(h:Ris w lf)(lo hi:Option Int):∃ l',cutV (lf.map V.int) lo hi=l'.map V.int/\Ris w l':=by
 refine⟨(lf.drop (HT.sIx lf.length 0 lo)).take (HT.sIx lf.length lf.length hi - HT.sIx lf.length 0 lo),?_,(h.drop _).take _⟩;unfold cutV;rw[af,lj,List.map_drop]
theorem jII (T:Txt mg)(CT:Can P w K mg Ar "_law_take" 1 fT fdT ["pot","wide"] yZ)(CL:Can P w K mg Ar "_law_lot" 2 fL fdL ["pot","wide"] qO)(hr:Room 2 (XBox P w K mg Ar f lI A Aq s H0 E).A)
  {D:Ends}{H H5:Hp}{p qm ql qp qt:Addr}{mt mp w N far:Int}{mays lf ts:Ag}{vs:List V}{As:Ae}{v8 v9:Option V}
  (S:St0 H H5 p w qm ql mays lf N) (hqp:H5 qp=some (.lst vs)) (hv:PcsAt H5 vs As) (hg:∀ pc∈As,GoodPc w pc) (hqt:H5 qt=some (.tup (ts.map V.int))) (lt:Lot w ts) (hf:far=1\/far=10\/far=2000000000001) (hn:As.length<=100) (hH:H qp=none) (hne:ql≠qp) (hpp:p≠qp)
  (nx:∀ H6 N' vs' As',St0 H H6 p w qm ql mays lf N'->H6 qp=some (.lst vs')->PcsAt H6 vs' As'->(∀ pc∈As',GoodPc w pc)->As'.length=As.length+1->D.nx [some (.ref p),some (.int mt),some (.int mp),some (.int w),some (.ref qm),some (.ref ql),some (.int far),some (.ref qp),v8,v9,some (.ref qt)] H6):
  (boxI T CT CL hr).1 D [some (.ref p),some (.int mt),some (.int mp),some (.int w),some (.ref qm),some (.ref ql),some (.int far),some (.ref qp),v8,v9,some (.ref qt)] H5:=by
 have hlen:=hv.len;have h64:(0:Int)<far/\far<2 ^ 64:=by rcases hf with e | e | e <;> subst e <;> decide
 refine⟨_,rfl, .inl ⟨rfl,_,SqL.of hqp⟩,_,rfl,_,rfl,qp,vs,rfl, .inl (SqL.of hqp),_,_,rfl,rfl,p,N,_,rfl,S.hp,S.hN,Aa,Aa,fun N1 i a1 a2 a3=>?_⟩;refine⟨_,rfl,_,rfl,_,rfl,p,N1,far,rfl,j5,a1,h64.1,h64.2,fun N2 r b1 b2 b3=>?_⟩;rw[jCT];refine⟨_,rfl,_,_,rfl,rfl,⟨Ac,Ac⟩,_,_,rfl,rfl,(by show 2<=sizeLine; decide),fun tq htq=>?_⟩;obtain⟨t1,t2⟩:=yG htq;have ht:tq≠qp:=fun e=>by subst e; rw[hqp] at t2; cases t2
 refine⟨qp,vs,i,_,rfl,rfl,by rw[j9 ht.symm,j9 hpp.symm]; exact hqp,a2,Aa,by rw[aE]; lia,?_⟩;have T1:Tups H5 (upd (upd H5 p (.lst [.int N2])) tq (.tup [.ref qt, .int (r - far / 2)])):=(Tups.upd S.hp _).trans (Tups.new htq _);have k1:Keep H5 (upd (upd H5 p (.lst [.int N2])) tq (.tup [.ref qt, .int (r - far / 2)])) p:=((Keep.refl _ _).upd _).new htq _;have S1:=S.step k1 (by rw[j9 t1.symm]; exact j5) b1;have hq1:(upd (upd H5 p (.lst [.int N2])) tq (.tup [.ref qt, .int (r - far / 2)])) qp=some (.lst vs):=by rw[j9 ht.symm,j9 hpp.symm]; exact hqp
 have T2:=T1.trans (Tups.upd hq1 (.lst (vs.take i.toNat++V.ref tq::vs.drop i.toNat)));have pc:PcAt (upd (upd H5 p (.lst [.int N2])) tq (.tup [.ref qt, .int (r - far / 2)])) (.ref tq) (ts,r - far / 2):=⟨tq,qt,rfl,j5,T1 _ _ hqt⟩;refine nx _ N2 _ (As.take i.toNat++(ts,r - far / 2)::As.drop i.toNat) ⟨?_,b1,?_,S.rm,?_,S.rl,S.ne,S1.kp.updNew hH _⟩ j5 ?_ ?_ ?_
 ·rw[j9 hpp]; exact S1.hp
 ·exact(Tups.upd hq1 _) _ _ S1.hm
 ·rw[j9 hne]; exact S1.hl
 ·exact PcsAt.put (pc.mono (Tups.upd hq1 _)) _ (hv.mono T2)
 ·intro c hc;rcases aJ.mp hc with h | h
  ·exact hg c (bV h)
  ·rcases aI.mp h with h | h
   ·subst h;refine⟨lt,?_,?_⟩
    ·show -1000000000000<=r - far / 2;rcases hf with e | e | e <;> subst e <;> lia
    ·show r - far / 2<=1000000000000;rcases hf with e | e | e <;> subst e <;> lia
   ·exact hg c (cy h)
 ·rw[aL,aU,bO,gW];lia
theorem jPS (T:Txt mg)(CT:Can P w K mg Ar "_law_take" 1 fT fdT ["pot","wide"] yZ)(CL:Can P w K mg Ar "_law_lot" 2 fL fdL ["pot","wide"] qO)(hr:Room 2 (XBox P w K mg Ar f lI A Aq s H0 E).A)
  {D:Ends}{H H5:Hp}{p qm ql qp:Addr}{mt mp w N far:Int}{mays lf:Ag}{vs:List V}{As:Ae}{v8 v9 v10:Option V}
  (S:St0 H H5 p w qm ql mays lf N) (hqp:H5 qp=some (.lst vs)) (hv:PcsAt H5 vs As) (hg:∀ pc∈As,GoodPc w pc) (hf:far=1\/far=10\/far=2000000000001) (hn:As.length<=100) (hH:H qp=none) (hpp:p≠qp) (w1:1<=w) (w2:w<=16)
  (nx:∀ H6 N' vs' As' ql' lf' v9' v10',St0 H H6 p w qm ql' mays lf' N'->ql'≠qp->H6 qp=some (.lst vs')->PcsAt H6 vs' As'->(∀ pc∈As',GoodPc w pc)->As'.length=As.length+1->D.nx [some (.ref p),some (.int mt),some (.int mp),some (.int w),some (.ref qm),some (.ref ql'),some (.int far),some (.ref qp),v8,v9',v10'] H6):
  (boxL T CT CL hr).1 D [some (.ref p),some (.int mt),some (.int mp),some (.int w),some (.ref qm),some (.ref ql),some (.int far),some (.ref qp),v8,v9,v10] H5:=by
 refine⟨_,rfl,p,N,3,rfl,S.hp,S.hN,Ac,Ac,fun N1 r1 a1 a2 a3=>⟨_,_,rfl,rfl,?_⟩⟩;have S1:=S.step ((Keep.refl _ _).upd (.lst [.int N1])) j5 a1;have hq1:(upd H5 p (.lst [.int N1])) qp=some (.lst vs):=by rw[j9 hpp.symm]; exact hqp
 have hv1:=hv.mono (Tups.upd S.hp (.lst [.int N1]));generalize upd H5 p (.lst [.int N1])=H6 at S1 hq1 hv1 ⊢;clear S hqp hv;obtain⟨l1,e1,g1⟩:=jPJ S1.rl none (some (1+r1));obtain⟨l2,e2,g2⟩:=jPJ S1.rl (some (1+r1)) none;refine⟨_,rfl,_,rfl,1+r1,rfl,ql,_,rfl,SqL.of S1.hl,fun x hx=>⟨x,_,rfl, .inl ⟨SqL.of j5,fun qt hqt=>?_⟩⟩⟩;rw[e1] at hqt ⊢;have k1:Keep H6 (upd (upd H6 x (.lst (l1.map V.int))) qt (.tup (l1.map V.int))) p:=((Keep.refl _ _).new hx _).new hqt _;obtain⟨t1,t2⟩:=yG hqt;have px:p≠x:=jA S1.hp hx;have pt:p≠qt:=jA S1.hp t2;have qx:qp≠x:=jA hq1 hx;have qq:qp≠qt:=jA hq1 t2;have S2:=S1.step k1 (by rw[j9 pt,j9 px]; exact S1.hp) S1.hN;have hq2:(upd (upd H6 x (.lst (l1.map V.int))) qt (.tup (l1.map V.int))) qp=some (.lst vs):=by rw[j9 qq,j9 qx]; exact hq1
 have hv2:=hv1.mono (k1.tups S1.hp);have ht2:(upd (upd H6 x (.lst (l1.map V.int))) qt (.tup (l1.map V.int))) qt=some (.tup (l1.map V.int)):=j5;generalize upd (upd H6 x (.lst (l1.map V.int))) qt (.tup (l1.map V.int))=H7 at S2 hq2 hv2 ht2 ⊢;clear k1 hqt t2 hx S1 hq1 hv1;refine⟨_,rfl,_,rfl,1+r1,rfl,ql,_,rfl,SqL.of S2.hl,fun ql' hql=>?_⟩;rw[e2];have pl:p≠ql':=jA S2.hp hql;have k2:Keep H7 (upd H7 ql' (.lst (l2.map V.int))) p:=(Keep.refl _ _).new hql _;have S3':=S2.step k2 (by rw[j9 pl]; exact S2.hp) S2.hN;have S3:St0 H (upd H7 ql' (.lst (l2.map V.int))) p w qm ql' mays l2 N1:=⟨S3'.hp,S3'.hN,S3'.hm,S3'.rm,j5,g2,pl.symm,S3'.kp⟩;have hne:qp≠ql':=jA hq2 hql;have hq3:(upd H7 ql' (.lst (l2.map V.int))) qp=some (.lst vs):=by rw[j9 hne]; exact hq2
 have hv3:=hv2.mono (k2.tups S2.hp);have ht3:=k2.tups S2.hp _ _ ht2;generalize upd H7 ql' (.lst (l2.map V.int))=H8 at S3 hq3 hv3 ht3 ⊢;clear k2 S3' S2 hq2 hv2 ht2 hql;refine⟨_,rfl,(by show 0<=sizeLine; exact bw _),fun z hz=>⟨qt,z,l1.map V.int,rfl,rfl,SqT.of ?_,SqT.of j5,_,rfl,?_⟩⟩
 ·rw[j9 (jA ht3 hz)]; exact ht3
 have pz:p≠z:=jA S3.hp hz;have qz:qp≠z:=jA hq3 hz;have k3:Keep H8 (upd H8 z (.tup [])) p:=(Keep.refl _ _).new hz _;have S4:=S3.step k3 (by rw[j9 pz]; exact S3.hp) S3.hN;have hq4:(upd H8 z (.tup [])) qp=some (.lst vs):=by rw[j9 qz]; exact hq3
 have hv4:=hv3.mono (k3.tups S3.hp);have ht4:=k3.tups S3.hp _ _ ht3;generalize upd H8 z (.tup [])=H9 at S4 hq4 hv4 ht4 ⊢;clear k3 S3 hq3 hv3 ht3 hz pz qz;refine ite2 (fun hy=>?_) (fun hy=>?_)
 ·refine⟨_,rfl,_,rfl,p,N1,w,rfl,S4.hp,S4.hN,w1,w2,fun q N2 ts H' b1 lt b2 b3 b4=>?_⟩;exact jII T CT CL hr (S4.step b4 b3 b1) (b4 _ _ hq4 hpp.symm) (hv4.mono (b4.tups S4.hp)) hg b2 lt hf hn hH hne.symm hpp fun H6 N' vs' As' z1 z2 z3 z4 z5=>nx H6 N' vs' As' ql' l2 _ _ z1 hne.symm z2 z3 z4 z5
 ·have nl:l1≠ []:=fun e=>hy (ar (by rw[e]; rfl));exact jII T CT CL hr S4 hq4 hv4 hg ht4 ⟨g1.ris,g1.bnd,nl⟩ hf hn hH hne.symm hpp fun H6 N' vs' As' z1 z2 z3 z4 z5=>nx H6 N' vs' As' ql' l2 _ _ z1 hne.symm z2 z3 z4 z5
def Told (H:Hp)(p:Addr)(mt mp:Int)(R:VK):Prop:=∀ (b:Addr) (N' w:Int) (mays:Ag) (As:Ae) (H':Hp),0<=N'->H' p=some (.lst [.int N'])->BoxAt H' b w mays As->Good mt mp w mays As->Keep H H' p->R (.ref b) H'
theorem jIJ (T:Txt mg)(CT:Can P w K mg Ar "_law_take" 1 fT fdT ["pot","wide"] yZ)(CL:Can P w K mg Ar "_law_lot" 2 fL fdL ["pot","wide"] qO)(hr:Room 2 (XBox P w K mg Ar f lI A Aq s H0 E).A)
  {D:Ends}{H H5:Hp}{p qm ql:Addr}{mt mp w N:Int}{mays lf:Ag}{v6 v7 v8 v9 v10:Option V}
  (S:St0 H H5 p w qm ql mays lf N) (hpH:∃ o,H p=some o) (w0:0<=w) (w1:w<=mt) (w2:mt<=16) (n0:0<=mp) (n1:mp<=32) (q:Told H p mt mp D.rt):
  (boxC T CT CL hr).1 D [some (.ref p),some (.int mt),some (.int mp),some (.int w),some (.ref qm),some (.ref ql),v6,v7,v8,v9,v10] H5:=by
 refine⟨(by show 3<=sizeLine; decide),fun l hl=>?_⟩;have pl:p≠l:=jA S.hp hl;refine⟨_,rfl,p,N,3,rfl,by rw[j9 pl]; exact S.hp,S.hN,Ac,Ac,fun N1 r a1 a2 a3=>?_⟩;obtain⟨far,hfar,hf⟩:∃ far:Int,atI [V.int 1,V.int 10,V.int 2000000000001] r=some (.int far)/\(far=1\/far=10\/far=2000000000001):=by
  rcases (show r=0\/r=1\/r=2 by lia) with e | e | e
  ·subst e; exact⟨_,rfl, .inl rfl⟩
  ·subst e; exact⟨_,rfl, .inr (.inl rfl)⟩
  ·subst e; exact⟨_,rfl, .inr (.inr rfl)⟩
 refine⟨l,_,r,_,rfl,rfl,SqL.of (by rw[j9 pl.symm]; exact j5),hfar,?_⟩;have S1:=S.step ((((Keep.refl _ _).new hl (.lst [V.int 1,V.int 10,V.int 2000000000001])).upd (.lst [.int N1]))) j5 a1;generalize upd (upd H5 l (.lst [V.int 1,V.int 10,V.int 2000000000001])) p (.lst [.int N1])=H6 at S1 ⊢;clear hl S;refine⟨(by show 0<=sizeLine; exact bw _),fun qp hqp=>?_⟩;have pq:p≠qp:=jA S1.hp hqp;have hHq:H qp=none:=by
  cases e:H qp with
  | none=>rfl
  | some o=>
   have:=S1.kp _ _ e pq.symm;rw[hqp] at this;cases this
 have lq:ql≠qp:=jA S1.hl hqp;have S2:=S1.step ((Keep.refl _ _).new hqp (.lst [])) (by rw[j9 pq]; exact S1.hp) S1.hN;have hq2:(upd H6 qp (.lst [])) qp=some (.lst []):=j5;generalize upd H6 qp (.lst [])=H7 at S2 hq2 ⊢;clear hqp S1;refine⟨_,rfl,_,rfl,_,_,rfl,rfl,p,N1,_,rfl,S2.hp,S2.hN,Aa,Aa,fun N2 n b1 b2 b3=>?_⟩;refine⟨_,rfl,_,_,rfl,rfl, .inr ⟨_,rfl,_,_,rfl,rfl, .inl ⟨Aa,Aa⟩,_,rfl,?_⟩⟩;have S3:=S2.step ((Keep.refl _ _).upd (.lst [.int N2])) j5 b1;have hq3:(upd H7 p (.lst [.int N2])) qp=some (.lst []):=by rw[j9 pq.symm]; exact hq2
 generalize upd H7 p (.lst [.int N2])=H8 at S3 hq3 ⊢;clear S2 hq2;obtain⟨m,em,hm,hw⟩:∃ m:Int,n*(if decide (0<w)=true then 1 else 0)=m/\(0<=m/\m<=mp)/\(0<m->1<=w):=by
  by_cases h:0<w
  ·exact⟨n,by simp [h],⟨b2,Aa⟩,fun _=>h⟩
  ·exact⟨0,by simp [h],⟨Aa,n0⟩,fun z=>by lia⟩
 show _/\_/\_;rw[show (n*(if decide (0<w)=true then 1 else 0))=m from em];refine⟨Aa,Aa,jEV (n:=m.toNat) (fun i σ H5=>∃ ql' lf' N' vs As v8 v9 v10,σ=[some (.ref p),some (.int mt),some (.int mp),some (.int w),some (.ref qm),some (.ref ql'),some (.int far),some (.ref qp),v8,v9,v10]/\St0 H H5 p w qm ql' mays lf' N'/\ql'≠qp/\H5 qp=some (.lst vs)/\PcsAt H5 vs As/\(∀ pc∈As,GoodPc w pc)/\As.length=i) ?_ ?_ ?_⟩
 ·exact⟨ql,lf,N2,[],[],_,_,_,rfl,S3,lq,hq3,trivial,(fun _ h=>by cases h),rfl⟩
 ·rintro i σ H9 hi ⟨ql',lf',N',vs,As,x8,x9,x10,rfl,S4,l4,hq4,hv4,hg4,e4⟩;exact jPS T CT CL hr S4 hq4 hv4 hg4 hf Aa hHq pq (hw Aa) Aa fun H6 N' vs' As' ql' lf' v9' v10' z1 z2 z3 z4 z5 z6=>⟨ql',lf',N',vs',As',_,_,_,rfl,z1,z2,z3,z4,z5,Aa⟩
 ·rintro σ H9 ⟨ql',lf',N',vs,As,x8,x9,x10,rfl,S4,l4,hq4,hv4,hg4,e4⟩;refine⟨_,rfl,_,rfl,_,rfl,qp,vs,rfl, .inl ⟨SqL.of hq4,fun tq htq=>⟨(by show 3<=sizeLine; decide),fun b hb=>?_⟩⟩⟩;have k1:Keep H9 (upd H9 tq (.tup vs)) p:=(Keep.refl _ _).new htq _;have k2:Keep H9 (upd (upd H9 tq (.tup vs)) b (.tup [.int w, .ref qm, .ref tq])) p:=k1.new hb _;have tb:=jA j5 hb;have S5:=S4.step k2 (by rw[j9 (yG hb |>.2 |> fun h=>jA S4.hp h),j9 (jA S4.hp htq)]; exact S4.hp) S4.hN;exact q b N' w mays As _ S4.hN S5.hp ⟨qm,tq,vs,j5,S5.hm,by rw[j9 tb]; exact j5,hv4.mono (k2.tups S4.hp)⟩ ⟨w0,w1,S4.rm,Aa,hg4⟩ S5.kp
theorem jIK (T:Txt mg)(CT:Can P w K mg Ar "_law_take" 1 fT fdT ["pot","wide"] yZ)(CL:Can P w K mg Ar "_law_lot" 2 fL fdL ["pot","wide"] qO)(hr:Room 2 (XBox P w K mg Ar f lI A Aq s H0 E).A)
  {D:Ends}{H H5:Hp}{p qm:Addr}{mt mp w N:Int}{mays:Ag}{v5 v6 v7 v8 v9 v10:Option V}
  (hp:H5 p=some (.lst [.int N])) (hN:0<=N) (hm:H5 qm=some (.tup (mays.map V.int))) (rm:Ris w mays) (kp:Keep H H5 p) (hpH:∃ o,H p=some o) (w0:0<=w) (w1:w<=mt) (w2:mt<=16) (n0:0<=mp) (n1:mp<=32) (q:Told H p mt mp D.rt):
  (boxB T CT CL hr).1 D [some (.ref p),some (.int mt),some (.int mp),some (.int w),some (.ref qm),v5,v6,v7,v8,v9,v10] H5:=by
 refine⟨_,rfl,w,rfl,fun x hx=>⟨x,w,rfl,j5,w0,Aa,fun ql hql=>?_⟩⟩;rw[jP0];have px:p≠x:=jA hp hx;have pl:p≠ql:=jA hp (yG hql).2;have k1:Keep H5 (upd (upd H5 x (.rng 0 w)) ql (.lst ((upto w.toNat).map V.int))) p:=((Keep.refl _ _).new hx _).new hql _;have e:((w.toNat:Nat):Int)=w:=Aa;have rl:Ris w (upto w.toNat):=by
  have:=kT w.toNat;rw[e] at this;exact this
 have S:St0 H (upd (upd H5 x (.rng 0 w)) ql (.lst ((upto w.toNat).map V.int))) p w qm ql mays (upto w.toNat) N:=
  ⟨by rw[j9 pl,j9 px]; exact hp,hN,k1 qm _ hm (ne_of hm hp (by intro z; cases z)),rm,j5,rl,pl.symm,kp.trans k1⟩
 generalize upd (upd H5 x (.rng 0 w)) ql (.lst ((upto w.toNat).map V.int))=H6 at S ⊢;clear k1 hql hx hp hm kp;refine⟨_,rfl,p,N,3,rfl,S.hp,S.hN,Ac,Ac,fun N1 r a1 a2 a3=>⟨rfl,_,rfl,?_⟩⟩;have S1:=S.step ((Keep.refl _ _).upd (.lst [.int N1])) j5 a1;generalize upd H6 p (.lst [.int N1])=H7 at S1 ⊢;clear S;refine ite2 (fun hy=>?_) (fun hy=>?_)
 ·refine⟨(by show 0<=sizeLine; exact bw _),fun l hl=>?_⟩;have pl2:p≠l:=jA S1.hp hl;have S2:=S1.step ((Keep.refl _ _).new hl (.lst [])) (by rw[j9 pl2]; exact S1.hp) S1.hN;have S3:St0 H (upd H7 l (.lst [])) p w qm l mays [] N1:=⟨S2.hp,S2.hN,S2.hm,S2.rm,j5,Ris.nil w,pl2.symm,S2.kp⟩;exact jIJ T CT CL hr S3 hpH w0 w1 w2 n0 n1 q
 ·exact jIJ T CT CL hr S1 hpH w0 w1 w2 n0 n1 q
theorem jPT (T:Txt mg)(CT:Can P w K mg Ar "_law_take" 1 fT fdT ["pot","wide"] yZ)(CL:Can P w K mg Ar "_law_lot" 2 fL fdL ["pot","wide"] qO)(hr:Room 2 (XBox P w K mg Ar f lI A Aq s H0 E).A)
  {D:Ends}{H:Hp}{p:Addr}{mt mp N:Int}
  (hp:H p=some (.lst [.int N])) (hN:0<=N) (w0:0<=mt) (w2:mt<=16) (n0:0<=mp) (n1:mp<=32) (q:Told H p mt mp D.rt):
  (boxA T CT CL hr).1 D [some (.ref p),some (.int mt),some (.int mp),none,none,none,none,none,none,none,none] H:=by
 refine⟨_,rfl,_,rfl,_,_,rfl,rfl,p,N,_,rfl,hp,hN,Aa,Aa,fun N1 w a1 a2 a3=>?_⟩;refine⟨(by show 0<=sizeLine; exact bw _),fun t ht=>?_⟩;have pt:p≠t:=(yG ht).1.symm;refine⟨_,rfl,p,N1,3,rfl,by rw[j9 pt]; exact j5,a1,Ac,Ac,fun N2 r b1 b2 b3=>⟨rfl,_,rfl,?_⟩⟩;have k1:Keep H (upd (upd (upd H p (.lst [.int N1])) t (.tup [])) p (.lst [.int N2])) p:=(((Keep.refl _ _).upd _).new ht _).upd _;have hp1:(upd (upd (upd H p (.lst [.int N1])) t (.tup [])) p (.lst [.int N2])) p=some (.lst [.int N2]):=j5;have ht1:(upd (upd (upd H p (.lst [.int N1])) t (.tup [])) p (.lst [.int N2])) t=some (.tup []):=by rw[j9 pt.symm]; exact j5
 generalize upd (upd (upd H p (.lst [.int N1])) t (.tup [])) p (.lst [.int N2])=H1 at k1 hp1 ht1 ⊢;clear ht;refine ite2 (fun hy=>?_) (fun hy=>?_)
 ·refine⟨_,rfl,w,rfl,Aa,Aa,jBO (n:=w.toNat) (by rw[aE]; lia) (fun D i σ' H' ys=>(∃ v,σ'=[v,some (.ref p)])/\(∃ (ms:Ag) (N':Int),ys=ms.map V.int/\ms.length<=i/\Ris i ms/\0<=N'/\H' p=some (.lst [.int N']))/\Keep H1 H' p/\H' D=some (.lst ys)/\D≠p/\H1 D=none) ?_ ?_ ?_ ?_⟩
  ·intro D hD;have:p≠D:=jA hp1 hD;exact⟨⟨_,rfl⟩,⟨[],N2,rfl,aA _,Ris.nil _,b1,by rw[j9 this]; exact hp1⟩,(Keep.refl _ _).new hD _,j5,this.symm,hD⟩
  ·rintro D i σ' H' ys hD hi ⟨_,⟨ms,N',rfl,e,_⟩,_,e2,_⟩;exact⟨e2,by rw[af]; exact e⟩
  ·rintro D i σ' H' ys hD hi ⟨⟨v,rfl⟩,⟨ms,N',rfl,e,rs,n',hp'⟩,kk,e2,dp,hn⟩;refine⟨_,rfl,p,N',3,rfl,hp',n',Ac,Ac,fun N3 r3 c1 c2 c3=>⟨rfl,_,rfl,?_⟩⟩;have k2:Keep H1 (upd H' p (.lst [.int N3])) p:=kk.upd _;have e3:(upd H' p (.lst [.int N3])) D=some (.lst (ms.map V.int)):=by rw[j9 dp]; exact e2
   have hp3:(upd H' p (.lst [.int N3])) p=some (.lst [.int N3]):=j5;generalize upd H' p (.lst [.int N3])=H'' at k2 e3 hp3 ⊢;refine ite2 (fun hz=>?_) (fun hz=>?_)
   ·refine⟨_,rfl,e3,⟨_,rfl⟩,⟨ms++[(i:Int)],N3,?_,?_,rs.snoc,c1,by rw[j9 dp.symm]; exact hp3⟩,k2.updNew hn _,j5,dp,hn⟩
    ·rw[aS];show _++[V.int (0+(i:Int))]=_++[V.int (i:Int)];rw[jr]
    ·rw[aL];show ms.length+1<=i+1;lia
   ·exact⟨⟨_,rfl⟩,⟨ms,N3,rfl,Aa,rs.step,c1,hp3⟩,k2,e3,dp,hn⟩
  ·rintro D σ' H' ys hD ⟨_,⟨ms,N',rfl,e,rs,n',hp'⟩,kk,e2,dp,hn⟩;refine⟨D,_,rfl, .inl ⟨SqL.of e2,fun qm hqm=>?_⟩⟩;have pm:p≠qm:=jA hp' hqm;have e':((w.toNat:Nat):Int)=w:=Aa;rw[e'] at rs;exact jIK T CT CL hr (by rw[j9 pm]; exact hp') n' j5 rs ((k1.trans kk).new hqm _) ⟨_,hp⟩ a2 Aa w2 n0 n1 q
 ·exact jIK T CT CL hr hp1 b1 (mays:=[]) ht1 (Ris.nil w) k1 ⟨_,hp⟩ a2 Aa w2 n0 n1 q
theorem jWJ {f fT fL:Addr}{fd fdT fdL:FuncData}(F:Fun K "_law_box" "_law_box" sBox f fd)(T:Txt mg)(CT:Can P w K mg Ar "_law_take" 1 fT fdT ["pot","wide"] yZ)(CL:Can P w K mg Ar "_law_lot" 2 fL fdL ["pot","wide"] qO):
  FnOk P w K mg Ar CX0 3 f fd ["pot","most_things","most_pieces"] spBox:=by
 refine F.ok scBox (fun vs H Q E h=>?_) (fun lI A Aq s H vs Q E hr h=>?_)
 ·obtain⟨_,_,_,_,rfl,_⟩:=h;rfl
 ·obtain⟨p,N,mt,mp,rfl,hp,hN,m0,m1,n0,n1,q⟩:=h;exact⟨_,(boxA T CT CL hr).2.h,jPT T CT CL hr hp hN m0 m1 n0 n1 q⟩
inductive Ob where
 | int (i:Int)
 | oth
 | tup (os:List Ob)
def OthAt (H:Hp)(v:V):Prop:=v= .non\/(∃ b,v= .bl b)\/(∃ x,v= .str x)\/∃ a,v= .ref a/\((∃ xs,H a=some (.lst xs))\/∃ kvs,H a=some (.dK kvs))
mutual
def At (H:Hp):Ob->V->Prop
 | .int i,v=>v= .int i
 | .oth,v=>OthAt H v
 | .tup os,v=>∃ a vs,v= .ref a/\H a=some (.tup vs)/\vs.length<=100/\Ats H os vs
def Ats (H:Hp):List Ob->List V->Prop
 | [],vs=>vs=[]
 | o::os,vs=>∃ v r,vs=v::r/\At H o v/\Ats H os r
end
structure Kp (H H':Hp):Prop where
 t:Tups H H'
 l:∀ a xs,H a=some (.lst xs)->∃ ys,H' a=some (.lst ys)
 d:∀ a xs,H a=some (.dK xs)->∃ ys,H' a=some (.dK ys)
theorem Kp.of {H H':Hp}(e:Ext H H'):Kp H H':=⟨fun b xs h=>e b _ h,fun a xs h=>⟨xs,e a _ h⟩,fun a xs h=>⟨xs,e a _ h⟩⟩
theorem OthAt.mono {H H':Hp}(k:Kp H H'){v:V}(h:OthAt H v):OthAt H' v:=by
 rcases h with h | h | h | ⟨a,rfl,⟨xs,h⟩ | ⟨xs,h⟩⟩
 ·exact .inl h
 ·exact .inr (.inl h)
 ·exact .inr (.inr (.inl h))
 ·exact .inr (.inr (.inr ⟨a,rfl, .inl (k.l _ _ h)⟩))
 ·exact .inr (.inr (.inr ⟨a,rfl, .inr (k.d _ _ h)⟩))
mutual
theorem At.mono {H H':Hp}(k:Kp H H'):∀ (o:Ob) (v:V),At H o v->At H' o v
 | .int _,_,h=>h
 | .oth,_,h=>OthAt.mono k h
 | .tup os,_,⟨a,vs,e,h,n,r⟩=>⟨a,vs,e,k.t _ _ h,n,Ats.mono k os vs r⟩
theorem Ats.mono {H H':Hp}(k:Kp H H'):∀ (os:List Ob) (vs:List V),Ats H os vs->Ats H' os vs
 | [],_,h=>h
 | o::os,_,⟨v,r,e,h,t⟩=>⟨v,r,e,At.mono k o v h,Ats.mono k os r t⟩
end
theorem At.ext {H H':Hp}(e:Ext H H'){o:Ob}{v:V}(h:At H o v):At H' o v:=At.mono (.of e) o v h
theorem Ats.len {H:Hp} :∀ {os:List Ob}{vs:List V},Ats H os vs->vs.length=os.length
 | [],_,h=>by cases (show _=[] from h); rfl
 | o::os,_,⟨v,r,e,h,t⟩=>by rw[e,aU,aU,Ats.len t]
theorem Ats.get {H:Hp} :∀ {os:List Ob}{vs:List V},Ats H os vs->∀ {i:Nat}{v:V},vs[i]?=some v->∃ o,os[i]?=some o/\At H o v
 | [],_,h,i,v,e=>by cases (show _=[] from h); cases e
 | o::os,_,⟨v,r,e,h,t⟩,0,v',e'=>by subst e; cases e'; exact⟨o,rfl,h⟩
 | o::os,_,⟨v,r,e,h,t⟩,i+1,v',e'=>by subst e; exact Ats.get t (i:=i) e'
theorem Ats.ints {H:Hp} :∀ (l:Ag),Ats H (l.map Ob.int) (l.map V.int)
 | []=>rfl
 | i::r=>⟨.int i,_,rfl,rfl,Ats.ints r⟩
def isInt:Ob->Bool
 | .int _=>true
 | _=>false
def isTup:Ob->Bool
 | .tup _=>true
 | _=>false
def upB (lo hi:Int):Ob->Bool
 | .int i=>decide (lo<=i)&&decide (i<=hi)
 | _=>false
def val:Ob->Int
 | .int i=>i
 | _=>0
def adj (is:Ag):List Bool:=(List.range (is.length - 1)).map fun k=>decide (is.getD k 0<is.getD (k+1) 0)
def risB:Ob->Bool
 | .tup os=>os.all isInt&&(adj (os.map val)).all id
 | _=>false
def lotB (w:Int):Ob->Bool
 | .tup os=>os.all (upB 0 (w - 1))&&(adj (os.map val)).all id
 | _=>false
def lotB' (w:Int)(o:Ob):Bool:=risB o&&match o with
 | .tup os=>decide (os=[]) || (decide (0<=(os.map val).getD 0 0)&&decide ((os.map val).getLastD 0<w))
 | _=>false
theorem jVE {is:Ag}(h:(adj is).all id=true){k:Nat}(hk:k+1<is.length):is.getD k 0<is.getD (k+1) 0:=by
 rw[bU] at h;exact aG (h _ (aw.mpr ⟨k,bK.mpr Aa,rfl⟩))
theorem jPZ {is:Ag}(h:(adj is).all id=true):∀ (j k:Nat),j<=k->k<is.length->is.getD j 0<=is.getD k 0
 | j,0,h1,_=>by
  have:j=0:=by lia
  subst this;exact cX _
 | j,k+1,h1,h2=>by
  rcases dU k j with q | q
  ·have:j=k+1:=by lia
   subst this;exact cX _
  ·have a:=jPZ h j k q Aa;have b:=jVE h h2;lia
theorem jWP (w:Int)(o:Ob):lotB' w o=lotB w o:=by
 cases o with
 | int i=>rfl
 | oth=>rfl
 | tup os=>
  rw[bZ];unfold lotB' risB lotB;simp only [bL,fb,iY];constructor
  ·rintro ⟨⟨a,b⟩,c⟩;refine⟨?_,b⟩;rw[bU] at a ⊢;intro x hx;obtain⟨j,hj,rfl⟩:=eQ hx;have hi:=a _ hx;have e:os≠ []:=fun e=>by subst e; cases hx
   obtain⟨c1,c2⟩:=c.resolve_left e;have hl:(os.map val).length=os.length:=af _;have g:(os.map val).getD j 0=val os[j]:=by
    rw[am,aV];simp [hj]
   have l1:=jPZ b 0 j Aa Aa;have l2:=jPZ b j (os.length - 1) Aa Aa;have l3:(os.map val).getLastD 0=(os.map val).getD (os.length - 1) 0:=by
    rw[fY,fZ,am,hl]
   rw[g] at l1 l2;rw[l3] at c2;cases e2:os[j] with
   | int i=>
    rw[e2] at l1 l2;simp only [val] at l1 l2;simp only [upB,bL,iY];lia
   | oth=>rw[e2] at hi; cases hi
   | tup r=>rw[e2] at hi; cases hi
  ·rintro ⟨a,b⟩;rw[bU] at a;refine⟨⟨?_,b⟩,?_⟩
   ·rw[bU];intro x hx;have:=a x hx;cases x with
    | int i=>rfl
    | oth=>cases this
    | tup r=>cases this
   ·by_cases e:os=[]
    ·exact .inl e
    ·refine .inr ?_;have key:∀ j,j<os.length->0<=(os.map val).getD j 0/\(os.map val).getD j 0<w:=fun j hj=>by
      have g:(os.map val).getD j 0=val os[j]:=by
       rw[am,aV];simp [hj]
      have:=a os[j] (cU hj);rw[g];cases e2:os[j] with
      | int i=>
       rw[e2] at this;simp only [upB,bL,iY] at this;simp only [val];lia
      | oth=>rw[e2] at this; cases this
      | tup r=>rw[e2] at this; cases this
     have hpos:0<os.length:=by
      cases os with
      | nil=>exact absurd rfl e
      | cons _ _=>simp
     have l3:(os.map val).getLastD 0=(os.map val).getD (os.length - 1) 0:=by
      rw[fY,fZ,am,af]
     rw[l3];exact⟨(key 0 hpos).1,(key (os.length - 1) Aa).2⟩
theorem Ats.allInt {H:Hp} :∀ {os:List Ob}{vs:List V},Ats H os vs->os.all isInt=true->vs=(os.map val).map V.int
 | [],_,h,_=>by cases (show _=[] from h); rfl
 | o::os,_,⟨v,r,e,h,t⟩,ha=>by
  rw[ff,bL] at ha;subst e;rw[bg,bg,<- Ats.allInt t ha.2];cases o with
  | int i=>cases (show v= .int i from h); rfl
  | oth=>cases ha.1
  | tup _=>cases ha.1
theorem jXD (l:List Ob)(F:Ob->Bool):(l.map F).all id=l.all F:=by
 rw[iA];rfl
theorem jVD (is:Ag):(adj is).length=is.length - 1:=by
 unfold adj;rw[af,cx]
theorem jXE {is:Ag}{k:Nat}(h:k<is.length - 1):(adj is)[k]?=some (decide (is.getD k 0<is.getD (k+1) 0)):=by
 unfold adj;rw[aV,dh h];rfl
theorem jRT {is:Ag}{k:Nat}(h:k<is.length - 1):(adj is).take (k+1)=(adj is).take k++[decide (is.getD k 0<is.getD (k+1) 0)]:=by
 rw[be,jXE h];rfl
theorem getI {is:Ag}{k:Nat}(h:k<is.length):(is.map V.int)[k]?=some (.int (is.getD k 0)):=by
 rw[aV,am];simp [h]
theorem At.ty (K:W.Frag){H:Hp}{o:Ob}{v:V}(h:At H o v):∃ t,TyOf K H v t/\kitOne K t (.type "tuple")=some (isTup o)/\∃ b1 b2,kitOne K t (.type "int")=some b1/\kitOne K t (.type "bool")=some b2/\(b1&&!b2)=isInt o:=by
 cases o with
 | int i=>
  cases (show v= .int i from h);exact⟨_, .int i,rfl,true,false,rfl,rfl,rfl⟩
 | oth=>
  rcases (show OthAt H v from h) with rfl | ⟨b,rfl⟩ | ⟨x,rfl⟩ | ⟨a,rfl,⟨xs,e⟩ | ⟨xs,e⟩⟩
  ·exact⟨_, .non,rfl,false,false,rfl,rfl,rfl⟩
  ·exact⟨_, .bl b,rfl,true,true,rfl,rfl,rfl⟩
  ·exact⟨_, .str x,rfl,false,false,rfl,rfl,rfl⟩
  ·exact⟨_, .lst e,rfl,false,false,rfl,rfl,rfl⟩
  ·exact⟨_, .dK e,rfl,false,false,rfl,rfl,rfl⟩
 | tup os=>
  obtain⟨a,vs,rfl,e,_⟩:=h;exact⟨_, .tup e,rfl,false,false,rfl,rfl,rfl⟩
theorem At.tupOf {H:Hp}{o:Ob}{v:V}(h:At H o v)(t:isTup o=true):∃ os a vs,o= .tup os/\v= .ref a/\H a=some (.tup vs)/\vs.length<=100/\Ats H os vs:=by
 cases o with
 | int i=>cases t
 | oth=>cases t
 | tup os=>
  obtain⟨a,vs,e1,e2,e4,e3⟩:=h;exact⟨os,a,vs,rfl,e1,e2,e4,e3⟩
theorem jPL {K:W.Frag}{m:List (Option Nat)}{g:TG}{tt:TT}{te:TE}{σ:St}{H1:Hp}{Q:VK}{a:Addr}{xs:List V}{os:List Ob}{F:Ob->Bool}(ha:H1 a=some (.tup xs))(hx:Ats H1 os xs)(hn:xs.length<sizeLine)(σP:St->Prop)(h0:σP (blkσ m σ))
  (step:∀ (σ':St) (H':Hp) (v:V) (o:Ob) (R:St->V->Hp->Prop) (S:St->Hp->Prop),σP σ'->Ext H1 H'->At H' o v->(∀ σ2 H'',σP σ2->Ext H' H''->R σ2 (.bl (F o)) H'')->g v σ' H' fun σ2 H2=>tt σ2 H2 fun b H3=>if b=true then te σ2 H3 (R σ2) else S σ2 H3)
  (hd:∀ D H',Ext H1 H'->H' D=some (.lst ((os.map F).map V.bl))->Q (.ref D) H'):qL m g tt te σ Q (Itt K a) H1:=by
 have hl:=hx.len;refine jAH (xs:=xs) hn (fun D i σ' H' zs=>σP σ'/\Ext H1 H'/\H' D=some (.lst zs)/\H1 D=none/\zs=((os.take i).map F).map V.bl) ?_ ?_ ?_ ?_
 ·intro D hD;exact⟨h0,(Ext.refl _).new hD _,j5,hD,rfl⟩
 ·rintro D i σ' H' zs hD ⟨_,e,h2,_,rfl⟩;refine⟨e _ _ ha,h2,?_⟩;rw[af,af,bO];lia
 ·rintro D i σ' H' zs x hD hi ⟨p,e,h2,hn,rfl⟩;obtain⟨o,ho,hAt⟩:=hx.get hi;refine step σ' H' x o _ _ p e (hAt.ext e) fun σ2 H'' p2 e2=>⟨e2 _ _ h2,p2,(e.trans e2).updNew hn _,j5,hn,?_⟩;have:os.take (i+1)=os.take i++[o]:=by
   rw[be,ho];rfl
  rw[this,aS,aS];rfl
 ·rintro D σ' H' zs hD ⟨_,e,h2,_,rfl⟩;rw[hl,bq] at h2;exact hd D H' e h2
abbrev XOf (N:An)(q:Str)(st:Stmt)(P:Program)(w:World)(K:W.Frag)(mg:Ak)(Ar:Heap)(f:Addr)(lI:Value)(A:Around)(Aq:List Env)(s:Shared)(H:Hp)(E:XK):Cx:=(cxOf CX0 P w K mg Ar N q (j7 st) f lI A Aq s H E).nox
abbrev jNW:An:=["thing"]
theorem scWhole0:FnScope jNW ["thing"] (j7 jC0):= {}
def spWh:Sp:=fun vs H Q _=>∃ v o,vs=[v]/\At H o v/\Q (.bl (isInt o)) H
def jT5 (T:Txt mg): { t:TS // JSs (XOf jNW "is_whole" jC0 P w K mg Ar f lI A Aq s H0 E) (jC jC0) t} :=
 have nd:=scWhole0.nd
 ⟨_,(jE (jQ ((jOU (jK jC8 gD T.isinstance Ab (j3 (jv 0 rfl vL) (j3 (jJI (v:= .ty "int") gD T.int Ab rfl) j8 j4) j4) j4) (jI3 (jWZ (jK jC8 gD T.isinstance Ab (j3 (jv 0 rfl vL) (j3 (jJI (v:= .ty "bool") gD T.bool Ab rfl) j8 j4) j4) j4)))))))⟩
theorem jNJ {fd:FuncData}(F:Fun K "is_whole" "is_whole" jC0 f fd)(T:Txt mg):FnOk P w K mg Ar CX0 1 f fd ["thing"] spWh:=by
 refine F.ok scWhole0 (fun vs H Q E h=>?_) (fun lI A Aq s H vs Q E hr h=>?_)
 ·obtain⟨_,_,rfl,_⟩:=h;rfl
 ·obtain⟨v,o,rfl,hA,q⟩:=h;obtain⟨t,ty,_,b1,b2,k1,k2,e⟩:=hA.ty K;refine⟨_,(jT5 T).2.h,?_⟩;refine⟨_,rfl,_,_,_,b1,rfl,ty,k1,b1,rfl,?_⟩;rw[<- e] at q;cases b1 with
  | true=>exact iteT ⟨_,rfl,_,_,_,b2,rfl,ty,k2,b2,rfl,q⟩
  | false=>exact iteF q
abbrev jEF:An:=["thing"]
theorem scRising:FnScope jEF ["thing"] (j7 jAM):= {}
def spB (F:Ob->Bool):Sp:=fun vs H Q _=>∃ v o,vs=[v]/\At H o v/\∀ H',Ext H H'->Q (.bl (F o)) H'
def jTB (T:Txt mg)(CW:Can P w K mg Ar "is_whole" 1 fW fdW ["thing"] spWh)(hr:Room 1 (XOf jEF "is_rising" jAM P w K mg Ar f lI A Aq s H0 E).A): { t:TS // JSs (XOf jEF "is_rising" jAM P w K mg Ar f lI A Aq s H0 E) (jC jAM) t} :=
 have nd:=scRising.nd
 ⟨_,(jB (yF (jDM (jBW (jK jC8 gD T.isinstance Ab (j3 (jv 0 rfl vC) (j3 (jJI (v:= .ty "tuple") gD T.tuple Ab rfl) j8 j4) j4) j4) jAJ)) (jE (jQ (je_bl))) kN)
   (jB (yF (jDM (jBW (jK (jCP rfl) gD T.all Ab (j3 (kE (m:=[none]) (Nc:=["number"]) rfl (qC (jv 0 rfl vC)) rfl Ab Ab (jM (psc:=j7 jAM)) (jH (N:=jEF) rfl rfl Ab) (fun cl C fp s H=>jL (i:=0) (show (["number"]:An).Nodup by decide+kernel) rfl yI) (fun cl C fp s H=>kP) (fun cl C fp s H=>(CW.je hr gl_b (j3 (jv 0 rfl jS) j8 j4) j4)) yM) j8 jF) jF) jAJ)) (jE (jQ (je_bl))) kN)
   (jE (jQ (jK (jCP rfl) gD T.all Ab (j3 (kE (m:=[none,some 0]) (Nc:=["k","thing"]) rfl (jOM gD T.range (j3 (je_int) (j3 (jK jT gD T.len Ab (j3 (jv 0 rfl vC) j8 j4) j4) j8 jG) kO) kO jG) rfl Ab Ab (jM (psc:=j7 jAM)) (jH (N:=jEF) rfl rfl Ab) (fun cl C fp s H=>jL (i:=0) (show (["k","thing"]:An).Nodup by decide+kernel) rfl yI) (fun cl C fp s H=>kP) (fun cl C fp s H=>(yQ op_lt (jI y0 (jv 1 rfl kQ) (jZ jEB (jv 0 rfl jS) (je_int)) jSA) (jI y0 (jv 1 rfl kQ) (jv 0 rfl jS) jB6) (jV _))) y6) j8 jF) jF)))))⟩
theorem jNK {fd:FuncData}(F:Fun K "is_rising" "is_rising" jAM f fd)(T:Txt mg)(CW:Can P w K mg Ar "is_whole" 1 fW fdW ["thing"] spWh):FnOk P w K mg Ar CX0 2 f fd ["thing"] (spB risB):=by
 refine F.ok scRising (fun vs H Q E h=>?_) (fun lI A Aq s H vs Q E hr h=>?_)
 ·obtain⟨_,_,rfl,_⟩:=h;rfl
 ·obtain⟨v,o,rfl,hA,q⟩:=h;obtain⟨t,ty,kt,_⟩:=hA.ty K;refine⟨_,(jTB T CW hr).2.h,?_⟩;refine⟨_,rfl,_,_,_,_,rfl,ty,kt,_,rfl,?_⟩;cases ht:isTup o with
  | false=>
   refine iteT ?_;have:risB o=false:=by cases o <;> first | rfl | cases ht
   rw[<- this];exact q H (Ext.refl H)
  | true=>
   refine iteF ?_;obtain⟨os,a,vs,rfl,rfl,ha,h100,hx⟩:=hA.tupOf ht;have hl:=hx.len;have hn:vs.length<sizeLine:=by rw[aE]; lia
   ·refine⟨_,rfl,a,rfl,⟨_,SqT.of ha⟩,jPL (F:=isInt) ha hx hn (fun σ'=>∃ v,σ'=[v]) ⟨_,rfl⟩ ?_ ?_⟩
    ·rintro σ' H' v o R S ⟨u,rfl⟩ e hA k;dsimp only [kR,yK];rw[aq rfl];exact⟨_,rfl,v,o,rfl,hA,k _ H' ⟨_,rfl⟩ (Ext.refl _)⟩
    ·intro D H1 e1 hD;refine⟨D,_,rfl,SqL.of hD,_,rfl,?_⟩;rw[jXD];cases hi:os.all isInt with
     | false=>
      refine iteT ?_;have:risB (.tup os)=false:=by
       show (os.all isInt&&_)=false;rw[hi];rfl
      rw[<- this];exact q H1 e1
     | true=>
      refine iteF ?_;have hv:=hx.allInt hi;have hN:(os.map val).length=os.length:=af _;refine⟨_,rfl,a,_,rfl, .inr (SqT.of (e1 _ _ ha)),1,_,rfl,⟨Ac,Ac,Aa,by rw[aE] at hn; lia⟩,jBO (n:=((vs.length:Int) - 1).toNat) Aa (fun D i σ' H' zs=>(∃ v,σ'=[v,some (.ref a)])/\zs=((adj (os.map val)).take i).map V.bl/\H'=upd H1 D (.lst zs)) ?_ ?_ ?_ ?_⟩
      ·intro D hD;exact⟨⟨_,rfl⟩,rfl,rfl⟩
      ·rintro D i σ' H' zs hD hi2 ⟨_,rfl,rfl⟩;refine⟨j5,?_⟩;rw[af,bO];lia
      ·rintro D i σ' H' zs hD hi2 ⟨⟨v,rfl⟩,rfl,rfl⟩;have hi3:i<(os.map val).length - 1:=Aa;have ha':(upd H1 D (.lst (((adj (os.map val)).take i).map V.bl))) a=some (.tup ((os.map val).map V.int)):=by
        rw[j9 (jA (e1 _ _ ha) hD),e1 _ _ ha,hv]
       dsimp only [kR,yK];rw[aq rfl];have e0:(1+(i:Int)) - 1=(i:Int):=Aa;have e2:(1+(i:Int))=((i+1:Nat):Int):=Aa;refine⟨_,rfl,_,rfl,_,_,rfl,rfl,a,_,_,_,rfl,rfl,SqT.of ha',by rw[e0]; exact qB (getI Aa),_,rfl,_,rfl,a,_,_,_,rfl,rfl,SqT.of ha',by rw[e2]; exact qB (getI Aa),_,_,rfl,rfl,j5,⟨_,rfl⟩,?_,jCT⟩;rw[jRT hi3,aS];rfl
      ·rintro D2 σ' H' zs hD2 ⟨_,rfl,rfl⟩;have hlen:((vs.length:Int) - 1).toNat=(adj (os.map val)).length:=by rw[jVD]; lia
       rw[hlen,bq];refine⟨D2,_,rfl,SqL.of j5,?_⟩;have:(adj (os.map val)).all id=risB (.tup os):=by
        show _=(os.all isInt&&(adj (os.map val)).all id);rw[hi,eL]
       rw[this];exact q _ (e1.new hD2 _)
end Eo
namespace L2
open PySem
theorem px_un {op:UnaryOp}{a:Expr}{pos:Pos} :jB2 (.UnaryOp op a pos):=fun _ _=>rfl
theorem jVA {α:Type}{xs:List α}{v:α}(h:xs[xs.length - 1]?=some v):atI xs (-1)=some v:=by
 have hj:xs.length - 1<xs.length:=(ao.mp h).1;have e:ixN xs.length (-1)=some (xs.length - 1):=by
  unfold ixN;rw[ak Aa,aq Aa];congr 1;lia
 unfold atI;rw[e];exact h
theorem qb {Q:VK}{H:Hp}{a b:Bool}(q:Q (.bl a) H)(e:a=b):Q (.bl b) H:=e ▸ q
end L2
namespace Eo
open PySem L2
section
variable {fPs:Addr}{fdPs:FuncData}
abbrev jNZ:An:=["thing","many"]
theorem scIsLot:FnScope jNZ ["thing","many"] (j7 jDI):= {}
def spB2 (F:Int->Ob->Bool):Sp:=fun vs H Q _=>∃ v o w,vs=[v, .int w]/\At H o v/\∀ H',Ext H H'->Q (.bl (F w o)) H'
def jX2 (T:Txt mg)(CR:Can P w K mg Ar "is_rising" 2 fR fdR ["thing"] (spB risB))(hr:Room 2 (XOf jNZ "is_lot" jDI P w K mg Ar f lI A Aq s H0 E).A): { t:TS // JSs (XOf jNZ "is_lot" jDI P w K mg Ar f lI A Aq s H0 E) (jC jDI) t} :=
 have nd:=scIsLot.nd
 ⟨_,(jB (yF (jDM (jBW (CR.je hr gD (j3 (jv 0 rfl vL) j8 j4) j4) jAJ)) (jE (jQ (je_bl))) kN)
   (jE (jQ ((je_or (yQ qQ (jK jT gD T.len Ab (j3 (jv 0 rfl vL) j8 j4) j4) (je_int) (jV _)) (jI3 ((jOU (yQ op_ge (jI jJ (jv 0 rfl vL) (je_int) jD) (je_int) (jV _)) (jI3 (yQ op_lt (jI jJ (jv 0 rfl vL) (je_un jRW (je_int)) px_un) (jv 1 rfl vL) (jV _)))))))))))⟩
theorem jQT {fd:FuncData}(F:Fun K "is_lot" "is_lot" jDI f fd)(T:Txt mg)(CR:Can P w K mg Ar "is_rising" 2 fR fdR ["thing"] (spB risB)):FnOk P w K mg Ar CX0 3 f fd ["thing","many"] (spB2 lotB):=by
 refine F.ok scIsLot (fun vs H Q E h=>?_) (fun lI A Aq s H vs Q E hr h=>?_)
 ·obtain⟨_,_,_,rfl,_⟩:=h;rfl
 ·obtain⟨v,o,w,rfl,hA,q⟩:=h;refine⟨_,(jX2 T CR hr).2.h,?_⟩;refine⟨_,rfl,v,o,rfl,hA,fun H1 e1=>⟨_,rfl,?_⟩⟩;have eq:=jWP w o;cases hR:risB o with
  | false=>
   refine iteT (qb (q H1 e1) ?_);rw[<- eq];unfold lotB';rw[hR];rfl
  | true=>
   refine iteF ?_;have ht:isTup o=true:=by cases o <;> first | rfl | cases hR
   obtain⟨os,a,vs,rfl,rfl,ha,h100,hx⟩:=hA.tupOf ht;have hl:=hx.len;have hi:os.all isInt=true:=by
    have:(os.all isInt&&(adj (os.map val)).all id)=true:=hR;rw[bL] at this;exact this.1
   have hv:=hx.allInt hi;have ha1:=e1 _ _ ha;refine⟨_,rfl,a,_,rfl, .inr (SqT.of ha1),rfl,_,rfl,ite2 (fun hy=>?_) (fun hy=>?_)⟩
   ·have h0:=V.int.inj (aG hy);have e0:os=[]:=gy.mp Aa;refine qb (q H1 e1) ?_;rw[<- eq];unfold lotB';rw[hR];simp [e0]
   ·have h0:0<vs.length:=Nat.pos_of_ne_zero fun h=>hy (ar (by rw[h]; rfl));have hml:(os.map val).length=vs.length:=by rw[af,hl]
    refine⟨_,rfl,a,_,0, .int ((os.map val).getD 0 0),rfl,rfl,SqT.of ha1,?_,_,_,rfl,rfl,_,rfl,ite2 (fun hz=>?_) (fun hz=>?_)⟩
    ·rw[hv];exact qB (j:=0) (getI Aa)
    ·refine⟨_,rfl,_,rfl,a,_,_, .int ((os.map val).getLastD 0),rfl,rfl,SqT.of ha1,?_,_,rfl,_,_,rfl,rfl,qb (q H1 e1) ?_⟩
     ·show atI vs (-1)=_;refine jVA ?_;rw[hv,af,getI Aa,fY,fZ,am]
     ·rw[<- eq];unfold lotB';rw[hR];have e0:¬ os=[]:=fun e=>by rw[e] at hl; have:vs.length=0:=hl; lia
      have hz:=aG hz;simp [e0];intro hh;simpa using hz
    ·refine qb (q H1 e1) ?_;rw[<- eq];unfold lotB';rw[hR];have e0:¬ os=[]:=fun e=>by rw[e] at hl; have:vs.length=0:=hl; lia
     have hz:¬ (0<=(os.map val).getD 0 0):=fun h=>hz (ar h);simp only [e0,decide_false,g8,eL,aM hz,dC]
end
end Eo
namespace L2
open PySem
section
variable {P:Program}{w:World}{K:W.Frag}{mg:Ak}{Ar:Heap}{N:An}{qual:Str}{sc:Scope}{f:Addr}{lI:Value}{A:Around}{Aq:List Env}{s:Shared}{H:Hp}{E:XK}{x y z:Str}{p1 p2 p3 pos:Pos}{k i j l:Nat}
theorem jL0 (hN:N.Nodup)(hi:N[i]?=some x)(hj:N[j]?=some y)(hx:sc.names.lookup x=some .local)(hy:sc.names.lookup y=some .local):
  JG (cxOf CX0 P w K mg Ar N qual sc f lI A Aq s H E).nox (.Tuple [.Name x p1, .Name y p2] k pos) (gTup K 2 (gCons (kR i) (gCons (kR j) gNil))):=
 jON (X:=(cxOf CX0 P w K mg Ar N qual sc f lI A Aq s H E).nox) rfl (jBJ (jL hN hi (loc_l hx)) (jBJ (jL hN hj (loc_l hy)) jJG jDB) jDB)
end
section
variable {K:W.Frag}{m:List (Option Nat)}{g:TG}{tt:TT}{te:TE}{σ:St}{H1:Hp}{Q:VK}
end
end L2
namespace Eo
open PySem L2
theorem jJL {α:Type}{l:List α}{i:Nat}{d:α}(h:i<l.length):l.getD i d=l[i]:=by
 rw[am,aC h];rfl
theorem jA5 (l:Ag):(l.map V.int).all qR=true:=by
 rw[bU];intro x hx;obtain⟨i,_,rfl⟩:=aw.mp hx;rfl
theorem jBK (i:Int)(l:Ag):inV (.int i) (l.map V.int)=decide (i∈l):=by
 unfold inV;rw[bZ,dW,br];constructor
 ·rintro ⟨x,hx,e⟩;obtain⟨j,hj,rfl⟩:=aw.mp hx;have:j=i:=eq_of_beq e;rw[<- this];exact hj
 ·intro h;exact⟨.int i,aw.mpr ⟨i,h,rfl⟩,by simp [eqV]⟩
theorem jPK (i:Int):∀ (l:Ag),((l.map V.int).countP fun z=>eqV z (.int i))=l.count i
 | []=>rfl
 | a::r=>by
  rw[bg,cF,jPK i r,List.count_cons];rfl
theorem jAN:∀ (ts:Ag) (lo w:Int),ts.Pairwise (· < ·)->(∀ z∈ts,lo<=z/\z<w)->(ts.length:Int)<=max (w - lo) 0
 | [],lo,w,_,_=>by show (0:Int)<=_; lia
 | a::r,lo,w,hp,hb=>by
  have h1:=hb a ai;have hp':=cR.mp hp;have:=jAN r (a+1) w hp'.2 fun z hz=>⟨by have:=hp'.1 z hz; lia,(hb z (ag _ hz)).2⟩;rw[aU];lia
def j6 (As:Ae)(k:Int):Ag:=(As.getD k.toNat ([],0)).1
theorem PcsAt.get {H:Hp} :∀ {vs:List V}{ps:Ae},PcsAt H vs ps->∀ {k:Nat},k<ps.length->∃ v,vs[k]?=some v/\PcAt H v (ps.getD k ([],0))
 | v::vs,p::ps,h,0,_=>⟨v,rfl,h.1⟩
 | v::vs,p::ps,h,k+1,hk=>PcsAt.get h.2 (k:=k) (by simpa using hk)
 | [],[],_,k,hk=>absurd hk (eZ _)
 | [],_::_,h,_,_=>h.elim
 | _::_,[],h,_,_=>h.elim
theorem Good.at {mt mp w:Int}{ms:Ag}{As:Ae}(g:Good mt mp w ms As){k:Nat}(hk:k<As.length):GoodPc w (As.getD k ([],0)):=by
 have e:As.getD k ([],0)=As[k]:=by simp [List.getD,hk]
 rw[e];exact g.pg _ (cU hk)
theorem jE4 {n i:Nat}(h:i<n):(upto n).take (i+1)=(upto n).take i++[(i:Int)]:=by
 unfold upto;rw[<- lj,<- lj,List.take_range,List.take_range,show min (i+1) n=i+1 by lia,show min i n=i by lia,io,aS];rfl
theorem jAU (n:Nat):(upto n).length=n:=by
 unfold upto;rw[af,cx]
theorem jFZ {n i:Nat}(h:i<n):(upto n)[i]?=some (i:Int):=by
 unfold upto;rw[aV,dh h];rfl
theorem jT1 {H:Hp}{a:Addr}{vs:List V}{os:List Ob}(h:H a=some (.tup vs))(n:vs.length<=100)(r:Ats H os vs):At H (.tup os) (.ref a):=⟨a,vs,rfl,h,n,r⟩
theorem _root_.L2.Ext.tups {H H':Hp}(e:Ext H H'):Tups H H':=fun b xs h=>e b _ h
theorem PcsAt.at {H:Hp} :∀ {vs:List V}{ps:Ae},PcsAt H vs ps->∀ {i:Nat}{v:V},vs[i]?=some v->∃ pc,ps[i]?=some pc/\PcAt H v pc
 | [],[],_,i,v,e=>by cases e
 | x::vs,p::ps,h,0,v,e=>by cases e; exact⟨p,rfl,h.1⟩
 | x::vs,p::ps,h,i+1,v,e=>PcsAt.at h.2 (i:=i) e
 | [],_::_,h,_,_,_=>h.elim
 | _::_,[],h,_,_,_=>h.elim
theorem PcsAt.snoc {H:Hp}{v:V}{p:List Int×Int}(hv:PcAt H v p):∀ {vs:List V}{ps:Ae},PcsAt H vs ps->PcsAt H (vs++[v]) (ps++[p])
 | [],[],_=>⟨hv,trivial⟩
 | x::vs,q::ps,h=>⟨h.1,PcsAt.snoc hv h.2⟩
 | [],_::_,h=>h.elim
 | _::_,[],h=>h.elim
theorem Good.wide {mt mp w mt' mp':Int}{ms:Ag}{As:Ae}(g:Good mt mp w ms As)(h1:mt<=mt')(h2:mp<=mp'):Good mt' mp' w ms As:=⟨g.w0,de g.w1 h1,g.mr,de g.pl h2,g.pg⟩
theorem jNR (n:Nat):∀ (ds:Ag),ds.Nodup->(∀ t∈ds,0<=t/\t<(n:Int))->ds.length<=n:=by
 intro ds h1 h2;have h3:(ds.map Int.toNat).Nodup:=by
  rw[List.Nodup,bu];refine i6 (R:=(· ≠ ·)) (fun {a b} ha hb hne e=>hne ?_) h1;have:=h2 a ha;have:=h2 b hb;lia
 have h4:(ds.map Int.toNat).length<=(List.range n).length:=h3.length_le_of_subset fun x hx=>by
  obtain⟨t,ht,rfl⟩:=aw.mp hx;have:=h2 t ht;exact bK.mpr Aa
 rw[af,cx] at h4;exact h4
theorem jL4 {H:Hp} :∀ l:Ag,TsAt H (l.map Tr.int) (l.map V.int)
 | []=>rfl
 | i::r=>⟨.int i,_,rfl,rfl,jL4 r⟩
theorem jF0:∀ l:Ag,deps (l.map Tr.int)=0
 | []=>by simp [deps]
 | i::r=>by simp [deps,dep,jF0 r]
theorem iteN {A B:Prop}{c:Bool}(hc:c=false)(h:B):if c=true then A else B:=by
 rw[hc];exact iteF h
abbrev leI:Int->Int->Bool:=fun a b=>decide (a<=b)
def srt (l:Ag):Ag:=l.mergeSort leI
theorem jAB (l:Ag):(srt l).Perm l:=la _ _
theorem jK5 (l:Ag):(srt l).Pairwise (· <= ·):=by
 have:=jf (le:=leI) (fun a b c h1 h2=>ar (de (aG h1) (aG h2))) (fun a b=>by
  rw[fb];rcases Int.le_total a b with h | h
  ·exact .inl (ar h)
  ·exact .inr (ar h)) l
 exact this.imp fun h=>aG h
theorem jE5 {l m:Ag}(h1:m.Pairwise (· <= ·))(h2:m.Perm l):m=srt l:=
 List.Perm.eq_of_pairwise (fun a b _ _ h1 h2=>Int.le_antisymm h1 h2) h1 (jK5 l) (h2.trans (jAB l).symm)
theorem jS7 {l:Ag}(h:l.Pairwise (· <= ·)):srt l=l:=(jE5 h (.refl _)).symm
theorem jN0 (l:Ag):(srt l).length=l.length:=(jAB l).length_eq
theorem jE6 {a b:Ag}(ra:a.Pairwise (· < ·))(rb:b.Pairwise (· < ·))(h:∀ x,x∈a↔x∈b):a=b:=by
 have na:a.Nodup:=ra.imp fun {a b} h=>by lia
 have nb:b.Nodup:=rb.imp fun {a b} h=>by lia
 have pm:a.Perm b:=(fw na nb).mpr h;rw[jE5 (ra.imp fun {a b} h=>by lia) pm,jS7 (rb.imp fun {a b} h=>by lia)]
def plcs (ts lot:Ag):Ag:=(lot.filter fun t=>decide (t∈ts)).map fun t=>((ts.idxOf t:Nat):Int)
def nmd (ts lot:Ag):Ag:=srt (plcs ts lot)
theorem jKJ (ts lot:Ag):(plcs ts lot).length<=lot.length:=by
 unfold plcs;rw[af];exact bS _ _
def pick (ts:Ag)(As:Ae)(ks:Ag):Ae:=ks.map fun k=>(nmd ts (j6 As k),(As.getD k.toNat ([],0)).2)
def plKv (ts:Ag):List (Key×V):=(List.range ts.length).map fun i=>(Sum.inl (ts.getD i 0),V.int (i:Int))
theorem jQH (ts:Ag):(plKv ts).length=ts.length:=by
 unfold plKv;rw[af,cx]
theorem jE9 (ts:Ag):(plKv ts).map (·.1)=ts.map Sum.inl:=by
 unfold plKv;rw[bB];refine List.ext_getElem Ad fun i h1 h2=>?_;have:i<ts.length:=by simpa using h1
 simp [List.getD,this]
theorem jQI {ts:Ag}{i:Nat}{k:Key}{v:V}(h:(plKv ts)[i]?=some (k,v)):∃ t,ts[i]?=some t/\k=Sum.inl t/\v=V.int (i:Int):=by
 unfold plKv at h;rw[aV] at h;by_cases hi:i<ts.length
 ·rw[dh hi] at h;simp only [map_some,gE,Prod.mk.injEq] at h;refine⟨ts[i],by simp [hi],?_,h.2.symm⟩;rw[<- h.1];simp [List.getD,hi]
 ·rw[dv (by simp; lia)] at h;cases h
theorem jQ5 {κ:Type} [DecidableEq κ]{kvs:List (κ×V)}{k:κ}(h:k∉kvs.map (·.1)):valV kvs k=none:=by
 unfold valV;rw[List.find?_eq_none.mpr fun x hx=>?_]
 ·rfl
 ·intro e;exact h (aw.mpr ⟨x,hx,aG e⟩)
theorem jRV {κ:Type} [DecidableEq κ]:∀ {kvs:List (κ×V)}{i:Nat}{k:κ}{v:V},(kvs.map (·.1)).Nodup->kvs[i]?=some (k,v)->valV kvs k=some v
 | [],_,_,_,_,h=>by simp at h
 | p::r,0,k,v,_,h=>by
  simp at h;subst h;exact jBB rfl
 | p::r,i+1,k,v,nd,h=>by
  rw[bg,ce] at nd;have h:r[i]?=some (k,v):=by simpa using h
  have hm:k∈r.map (·.1):=aw.mpr ⟨_,aH h,rfl⟩;have ne:¬ p.1=k:=fun e=>nd.1 (by rw[e]; exact hm);have:=jRV (i:=i) nd.2 h;unfold valV at this ⊢;rw[ek,aM ne];exact this
theorem jHU {ts:Ag}(h:ts.Nodup):(ts.map (Sum.inl:Int->Key)).Nodup:=by
 rw[List.Nodup,bu];exact h.imp fun hne e=>hne (hG e)
theorem jQG {ts:Ag}(nd:ts.Nodup)(t:Int):valV (plKv ts) (Sum.inl t)=if t∈ts then some (.int ((ts.idxOf t:Nat):Int)) else none:=by
 by_cases h:t∈ts
 ·rw[aq h];have hi:=cn.mpr h;refine jRV (i:=ts.idxOf t) (by rw[jE9]; exact jHU nd) ?_;unfold plKv;rw[aV,dh hi];show some (Sum.inl (ts.getD (ts.idxOf t) 0),_)=_;rw[show ts.getD (ts.idxOf t) 0=t by simp [List.getD,hi,gw]]
 ·rw[ak h];refine jQ5 ?_;rw[jE9];intro z;obtain⟨x,hx,e⟩:=aw.mp z;exact h (hG e ▸ hx)
abbrev qA:Stmt:=(jC y9).getD 1 (.Pass ⟨0,0,0,0⟩)
abbrev jKQ:An:=["lot","places"]
theorem scNamed:NScope jKQ ["lot"] ["places"] (j7 qA):=⟨rfl,rfl,rfl,Ab,rfl,Ab,Ab,fun x h=>by
 have:=cf h;revert this;have hl:∀ y∈(j7 qA).names,y.2= .free->y.1= "places" :=Ab;intro m;have:=hl _ m rfl;exact this ▸ ai,Ab⟩
def jN1:List V->Sp:=fun fv vs H Q _=>∃ (d a:Addr) (ts lot:Ag),fv=[.ref d]/\vs=[.ref a]/\ts.Nodup/\H d=some (.dK (plKv ts))/\H a=some (.tup (lot.map V.int))/\lot.length<64/\∀ r H',H' r=some (.tup ((nmd ts lot).map V.int))->Ext H H'->Q (.ref r) H'
def jWL (T:Txt mg)(hr:Room 0 (cxN P w K mg Ar jKQ "picked.<locals>.named" (j7 qA) f cd cl A Aq s H0).A): { t:TS // JSs (cxN P w K mg Ar jKQ "picked.<locals>.named" (j7 qA) f cd cl A Aq s H0) (jC qA) t} :=
 have nd:=scNamed.nd
 ⟨_,(jE (jQ (kI jP gl_n T.tuple Ab (j3 (jK jIF gl_n T.sorted Ab (j3 (kE (m:=[none,some 1]) (Nc:=["thing","places"]) rfl (qC (jv 0 rfl yX)) rfl Ab Ab (jM (psc:=j7 qA)) (jH (N:=jKQ) rfl rfl Ab) (fun cl C fp s H=>jL (i:=0) (show (["thing","places"]:An).Nodup by decide+kernel) rfl yI) (fun cl C fp s H=>jEP (jX0 (hu_of hr) (jv 0 rfl jS) (jv 1 rfl kQ) rfl)) (fun cl C fp s H=>(jGO (hu_of hr) (jv 1 rfl kQ) (jv 0 rfl jS) jB6)) yM) j8 jF) jF) j8 jG) jG)))⟩
theorem jQN (T:Txt mg):FnN P w K mg Ar 1 "named" "picked.<locals>.named" (y8 qA) (jC qA) (j7 qA) ["lot"] ["places"] jN1:=by
 refine jSW scNamed (fun fv vs H Q E h=>?_) (fun cl doc pm c ctv us hl=>?_) (fun A Aq s H a c cl vs fv Q E hr h=>?_)
 ·obtain⟨_,_,_,_,_,rfl,_⟩:=h;rfl
 ·match us,hl with
  | [u],_=>rfl
 ·obtain⟨d,a,ts,lot,rfl,rfl,nd,hd,ha,hl,q⟩:=h;refine⟨_,(jWL T hr).2.h,?_⟩;refine⟨_,rfl,a,rfl,⟨_,SqT.of ha⟩,jAH (xs:=lot.map V.int) (by rw[af,aE]; lia) (fun D j σ' H' zs=>(∃ v,σ'=[v,some (.ref d)])/\Ext H H'/\H' D=some (.lst zs)/\H D=none/\zs=(plcs ts (lot.take j)).map V.int) ?_ ?_ ?_ ?_⟩
  ·intro D hD;exact⟨⟨_,rfl⟩,(Ext.refl _).new hD _,j5,hD,rfl⟩
  ·rintro D j σ' H' zs hD ⟨_,e,h2,_,rfl⟩;refine⟨e _ _ ha,h2,?_⟩;rw[af];have:=jKJ ts (lot.take j);have:=bC j lot;lia
  ·rintro D j σ' H' zs x hD hx ⟨⟨v,rfl⟩,e,h2,hn,rfl⟩;obtain⟨z,hz,rfl⟩:∃ z:Int,lot[j]?=some z/\V.int z=x:=by
    rw[aV] at hx;cases hq:lot[j]? with
    | none=>rw[hq] at hx; cases hx
    | some z=>rw[hq] at hx; cases hx; exact⟨z,rfl,rfl⟩
   have ht:plcs ts (lot.take (j+1))=plcs ts (lot.take j)++(if z∈ts then [((ts.idxOf z:Nat):Int)] else []):=by
    unfold plcs;rw[be,hz,bN,aS];congr 1;by_cases hzz:z∈ts <;> simp [hzz]
   have hD':H' d=some (.dK (plKv ts)):=e _ _ hd;have gv:=jQG nd z;refine⟨_,rfl,_,rfl,d,_,rfl,DGet.k (k:=Sum.inl z) hD',_,rfl,?_⟩;rw[gv];by_cases hzz:z∈ts
   ·rw[aq hzz] at gv ht ⊢;refine⟨_,rfl,_,rfl,d,_,rfl,by rw[<- gv]; exact DGet.k (k:=Sum.inl z) hD',h2,⟨_,rfl⟩,e.updNew hn _,j5,hn,?_⟩;rw[ht,aS];rfl
   ·rw[ak hzz] at gv ht ⊢;refine⟨⟨_,rfl⟩,e,h2,hn,?_⟩;rw[ht,bf]
  ·rintro D σ' H' zs hD ⟨_,e,h2,hn,rfl⟩;rw[af,bq] at h2;refine⟨D,_,rfl,SqL.of h2,?_,fun l ns hl hs hp=>?_⟩
   ·have:=jKJ ts lot;lia
   refine⟨l,_,rfl, .inl ⟨SqL.of j5,fun r hr=>?_⟩⟩;refine q r _ ?_ ((e.new hl _).new hr _);rw[j5,jE5 hs hp];rfl
theorem jHO {H:Hp}{vs:List V}{As:Ae}(h:PcsAt H vs As){k:Int}(h0:0<=k)(h1:k<As.length):∃ a q,atI vs k=some (.ref a)/\H a=some (.tup [.ref q, .int (As.getD k.toNat ([],0)).2])/\H q=some (.tup ((j6 As k).map V.int)):=by
 obtain⟨v,hv,a,q,rfl,b1,b2⟩:=h.get (k:=k.toNat) Aa;refine⟨a,q,?_,b1,b2⟩;have e:((k.toNat:Nat):Int)=k:=Aa;have:=qB hv;rw[e] at this;exact this
abbrev jCZ:An:=["box","things","pieces","places","named"]
theorem scPicked:FnScope jCZ ["box","things","pieces"] (j7 y9):= {}
abbrev jSE:Pos:=match qA with
 | .FunctionDef _ _ _ _ _ _ _ _ _ p=>p
 | _=>⟨0,0,0,0⟩
abbrev TabP (H:Hp)(tb:Addr):Prop:=TabOk H tb jSE "picked.<locals>.named"
theorem jL9:∀ x∈(["places"]:An),(j7 qA).names.lookup x=some .free:=by decide+kernel
theorem jEU:FsAt (XOf jCZ "picked" y9 P w K mg Ar f (.ref c0) A Aq s H0 E) ["places"] [3]:=⟨rfl,fun k x h=>by
 cases k with
 | zero=>cases h; exact⟨3,rfl,rfl, .inl (show (j7 y9).names.lookup ("places" :Str)=some NameKind.cell by decide+kernel)⟩
 | succ k=>cases h⟩
def jDR (tb:Addr):Sp:=fun vs H Q _=>∃ (b a c:Addr) (tp tq:Bool) (w:Int) (ms:Ag) (As:Ae) (ts ks:Ag),vs=[.ref b, .ref a, .ref c]/\BoxAt H b w ms As/\AtS tp H a (ts.map V.int)/\AtS tq H c (ks.map V.int)/\ts.Nodup/\ts.length<=100/\ms.length<64/\(∀ p∈As,p.1.length<64)/\(∀ k∈ks,0<=k/\k<As.length)/\ks.length<=1000/\TabP H tb/\
 ∀ r H',BoxAt H' r ts.length (nmd ts ms) (pick ts As ks)->ExtT tb H H'->TabP H' tb->Q (.ref r) H'
def jTP (T:Txt mg)(CH:PySem.W.CodeHd Ar c0 tb)(BM:qN Ar mg)(FN:FnN P w K mg Ar 1 "named" "picked.<locals>.named" (y8 qA) (jC qA) (j7 qA) ["lot"] ["places"] jN1)(hr:Room 1 (XOf jCZ "picked" y9 P w K mg Ar f (.ref c0) A Aq s H0 E).A): { t:TS // JSs (XOf jCZ "picked" y9 P w K mg Ar f (.ref c0) A Aq s H0 E) (jC y9) t} :=
 have nd:=scPicked.nd
 ⟨_,(jB (jO (i:=3) nd rfl loc_c (kI (jMH rfl) gD T.dict Ab (j3 (kE (m:=[none,none]) (Nc:=["place","thing"]) rfl (jJF gD T.enumerate (j3 (jv 1 rfl vL) j8 j4) j4) rfl Ab Ab (jM (psc:=j7 y9)) (jH (N:=jCZ) rfl rfl Ab) (fun cl C fp s H=>jCJ (i:=0) (j:=1) rfl (show (["place","thing"]:An).Nodup by decide+kernel) rfl rfl Ab Ab) (fun cl C fp s H=>kP) (fun cl C fp s H=>(y4 (j3 (jv 1 rfl jS) (j3 (jv 0 rfl jS) j8 j4) j4))) y6) j8 jF) jF) jY)
   (jB (jSS (j:=4) nd rfl loc_c rfl CH BM (jM (psc:=j7 y9)) rfl rfl)
   (jE (jQ (y4 (j3 (jK jT gD T.len Ab (j3 (jv 1 rfl vL) j8 j4) j4) (j3 (jUR (j:=4) FN hr rfl vC (jM (psc:=j7 y9)) jL9 jEU (j3 (jI jJ (jv 0 rfl vC) (je_int) jD) j8 jN) jN) (j3 (kI jP gD T.tuple Ab (j3 (jRB (m:=[none,some 4,some 0]) (Nc:=["piece","named","box"]) rfl (jWY (jv 2 rfl vL)) rfl Ab Ab (jM (psc:=j7 y9)) (jH (N:=jCZ) rfl rfl Ab) (fun cl C fp s H=>jL (i:=0) (show (["piece","named","box"]:An).Nodup by decide+kernel) rfl yI) (fun cl C fp s H=>kP) (fun cl C fp s H lH σ I0 hfp=>(y4 (j3 (jR8 (j:=1) I0 hfp FN hr rfl kQ (jM (psc:=j7 y9)) jL9 jEU (j3 (jI y0 (jI y0 (jI y0 (jv 2 rfl kQ) (je_int) jD) (jv 0 rfl jS) jB6) (je_int) jD) j8 jN) jN) (j3 (jI y0 (jI y0 (jI y0 (jv 2 rfl kQ) (je_int) jD) (jv 0 rfl jS) jB6) (je_int) jD) j8 jN) jG))) yM) j8 jF) jF) j8 jG) jG) jG))))))⟩
theorem jNL {fd:FuncData}(F:FunC K "picked" "picked" y9 f fd c0)(T:Txt mg)(CH:PySem.W.CodeHd Ar c0 tb)(BM:qN Ar mg):FnOk P w K mg Ar CX0 2 f fd ["box","things","pieces"] (jDR tb):=by
 refine F.ok scPicked (fun vs H Q E h=>?_) (fun A Aq s H vs Q E hr h=>?_)
 ·obtain⟨_,_,_,_,_,_,_,_,_,_,rfl,_⟩:=h;rfl
 ·obtain⟨b,a,c,tp,tq,w,ms,As,ts,ks,rfl,hB,ha,hc,nd,lts,lms,lpc,hks,lks,tab,q⟩:=h;refine⟨_,(jTP T CH BM (jQN T) hr).2.h,?_⟩;obtain⟨qm,qp,ps,b1,b2,b3,b4⟩:=id hB.ex;have pl:=b4.len;refine⟨_,rfl,tp,a,rfl,⟨_,ha.sq⟩,jIC (xs:=ts.map V.int) (by rw[af,aE]; lia) (fun D j σ' H' zs=>(∃ v v',σ'=[v,v'])/\Ext H H'/\H' D=some (.lst zs)/\H D=none/\zs.length=j/\∀ i,i<j->∃ r:Addr,zs[i]?=some (V.ref r)/\H' r=some (.tup [.int (ts.getD i 0), .int (i:Int)])) ?_ ?_ ?_ ?_⟩
  ·intro D hD;exact⟨⟨_,_,rfl⟩,(Ext.refl _).new hD _,j5,hD,rfl,fun i hi=>absurd hi (eZ _)⟩
  ·rintro D j σ' H' zs hD ⟨_,e,h2,_,hl,_⟩;exact⟨(ha.ext e).sq,h2,Aa⟩
  ·rintro D j σ' H' zs x X hD hx hX ⟨⟨v,v',rfl⟩,e,h2,hn,hl,hz⟩;obtain⟨z,hz1,rfl⟩:∃ z:Int,ts[j]?=some z/\V.int z=x:=by
    rw[aV] at hx;cases hq:ts[j]? with
    | none=>rw[hq] at hx; cases hx
    | some z=>rw[hq] at hx; cases hx; exact⟨z,rfl,rfl⟩
   have hgd:ts.getD j 0=z:=by rw[am,hz1]; rfl
   refine⟨X,_,rfl,SqT.of j5,rfl,_,_,rfl,_,_,rfl,rfl,?_⟩;dsimp only [kR,yK];rw[aq rfl];refine⟨_,rfl,_,rfl,by show (2:Nat)<=_; decide,fun r H2 d2 e2=>?_⟩;have e1:Ext H' (L2.upd H' X (.tup [.int (j:Int), .int z])):=(Ext.refl _).new hX _;have hD2:H2 D=some (.lst zs):=e2 _ _ (e1 _ _ h2);have rD:r≠D:=fun z=>by rw[z,hD2] at d2; cases d2
   refine⟨hD2,⟨_,_,rfl⟩,((e.trans e1).trans e2).updNew hn _,j5,hn,by rw[aL,hl]; rfl,fun i hi=>?_⟩;by_cases hij:i=j
   ·subst hij;refine⟨r,?_,?_⟩
    ·rw[bi Aa,hl,gL];rfl
    ·rw[j9 rD,d2,hgd]
   ·obtain⟨r',z1,z2⟩:=hz i Aa;have z3:=e2 _ _ (e1 _ _ z2);refine⟨r',?_,?_⟩
    ·rw[b7 Aa];exact z1
    ·rw[j9 (fun y=>by rw[y,hD2] at z3; cases z3)];exact z3
  ·rintro D σ' H1 zs hD ⟨_,e1,h2,hn,hl,hz⟩;rw[af] at hl hz;refine⟨D,zs,plKv ts,rfl,h2,by rw[jQH]; exact hl,fun i k v hk=>?_,by rw[jE9]; exact jHU nd,fun d hd=>?_⟩
   ·obtain⟨t,z1,rfl,rfl⟩:=jQI hk;obtain⟨r,z2,z3⟩:=hz i (ao.mp z1).1;refine⟨r,z2,?_⟩;rw[z3];show _=some (HO.tup [V.int t,V.int (i:Int)]);rw[am,z1];rfl
   have e2:Ext H (L2.upd H1 d (.dK (plKv ts))):=e1.new hd _;have d2:(L2.upd H1 d (.dK (plKv ts))) d=some (.dK (plKv ts)):=j5;generalize L2.upd H1 d (.dK (plKv ts))=H2 at e2 d2;refine⟨tab.ext e2,fun fa fc H3 k1 k2 k3 k4 k5=>?_⟩;have tab3:TabP H3 tb:= .inr ⟨fc,k3,k2⟩;have E3:ExtT tb H H3:=(ExtT.of e2).trans k4;have B1:=E3.at tab b1;have B2:=E3.at tab b2;have B3:=E3.at tab b3;have dd:=k4.at (tab.ext e2) d2;have aa:=E3.seq tab ha;have cc:=E3.seq tab hc;refine⟨_,rfl,a,_,rfl,aa.or,?_⟩;refine⟨fa,rfl,_,rfl,b,_,1,_,rfl,rfl,SqT.of B1,rfl,fc,[.ref d],k1,k2,rfl,d,qm,ts,ms,rfl,rfl,nd,dd,B2,lms,fun r1 H4 d4 e4=>?_⟩;refine jRL (tp:=tq) (xs:=ks.map V.int) (cc.ext e4) (fun Q h=>⟨_,rfl,h⟩) (by rw[af,aE]; lia) (fun D j σ' H' zs=>(∃ v,σ'=[v,some (.ref fa),some (.ref b)])/\Ext H4 H'/\H' D=some (.lst zs)/\H4 D=none/\PcsAt H' zs (pick ts As (ks.take j))) ?_ ?_ ?_ ?_
   ·intro D hD;exact⟨⟨_,rfl⟩,(Ext.refl _).new hD _,j5,hD,trivial⟩
   ·rintro D j σ' H' zs hD ⟨_,e,h2,_,pz⟩;refine⟨cc.ext (e4.trans e),h2,?_⟩;rw[pz.len];unfold pick;rw[af];exact bC _ _
   ·rintro D j σ' H' zs x hD hx ⟨⟨v,rfl⟩,e,h2,hn,pz⟩;obtain⟨k,hk,rfl⟩:∃ z:Int,ks[j]?=some z/\V.int z=x:=by
     rw[aV] at hx;cases hq:ks[j]? with
     | none=>rw[hq] at hx; cases hx
     | some z=>rw[hq] at hx; cases hx; exact⟨z,rfl,rfl⟩
    have hkb:=hks k (aH hk);have e34:=e4.trans e;obtain⟨pa,pq,g1,g2,g3⟩:=jHO b4 hkb.1 hkb.2;have g2':=e34 _ _ (E3.at tab g2);have g3':=e34 _ _ (E3.at tab g3);have hlen:(j6 As k).length<64:=by
     unfold j6;rw[jJL Aa];exact lpc _ (cU _)
    dsimp only [kR,yK];rw[aq rfl];refine⟨fa,rfl,_,rfl,b,_,2,_,rfl,rfl,SqT.of (e34 _ _ B1),rfl,_,rfl,qp,_,k,_,rfl,rfl,SqT.of (e34 _ _ B3),g1,pa,_,0,_,rfl,rfl,SqT.of g2',rfl,fc,[.ref d],e34 _ _ k1,e34 _ _ k2,rfl,d,pq,ts,j6 As k,rfl,rfl,nd,e34 _ _ dd,g3',hlen,fun r2 H5 d5 e5=>?_⟩;have e35:=e34.trans e5;refine⟨_,rfl,b,_,2,_,rfl,rfl,SqT.of (e35 _ _ B1),rfl,_,rfl,qp,_,k,_,rfl,rfl,SqT.of (e35 _ _ B3),g1,pa,_,1,_,rfl,rfl,SqT.of (e5 _ _ g2'),rfl,by show (2:Nat)<=_; decide,fun r3 H6 d6 e6=>?_⟩;have hD6:H6 D=some (.lst zs):=e6 _ _ (e5 _ _ h2);refine⟨hD6,⟨_,rfl⟩,((e.trans e5).trans e6).updNew hn _,j5,hn,?_⟩;have ez:pick ts As (ks.take (j+1))=pick ts As (ks.take j)++[(nmd ts (j6 As k),(As.getD k.toNat ([],0)).2)]:=by
     unfold pick;rw[be,hk,aS];rfl
    rw[ez];exact PcsAt.mono (Tups.upd hD6 _) (PcsAt.snoc (p:=(nmd ts (j6 As k),(As.getD k.toNat ([],0)).2)) ⟨r3,r2,rfl,d6,e6 _ _ d5⟩ (pz.mono (e5.trans e6).tups))
   ·rintro D σ' H5 zs hD ⟨_,e5,h5,hn5,pz⟩;rw[af,bq] at pz;refine⟨D,_,rfl, .inl ⟨SqL.of h5,fun l hl=>?_⟩⟩;have e6:Ext H5 (L2.upd H5 l (.tup zs)):=(Ext.refl _).new hl _;have d6:(L2.upd H5 l (.tup zs)) l=some (.tup zs):=j5;generalize L2.upd H5 l (.tup zs)=H6 at e6 d6;refine⟨by show (3:Nat)<=_; decide,fun r H7 d7 e7=>?_⟩;have e47:=(e5.trans e6).trans e7;refine q r H7 ⟨r1,l,zs,?_,e47 _ _ d4,e7 _ _ d6,pz.mono (e6.trans e7).tups⟩ (E3.trans (ExtT.of (e4.trans e47))) (tab3.ext (e4.trans e47));rw[d7,af]
theorem jEL {n:Int}{ks:Ag}(h:ks.Pairwise (· < ·))(hb:∀ k∈ks,0<=k/\k<n):lotB n (.tup (ks.map Ob.int))=true:=by
 have hv:(ks.map Ob.int).map val=ks:=by rw[bB]; exact ie _
 show ((ks.map Ob.int).all (upB 0 (n - 1))&&(adj ((ks.map Ob.int).map val)).all id)=true;rw[hv,bL,bU,bU];refine⟨fun x hx=>?_,fun x hx=>?_⟩
 ·obtain⟨k,hk,rfl⟩:=aw.mp hx;have:=hb k hk;show (decide (0<=k)&&decide (k<=n - 1))=true;rw[ar Aa,ar Aa];rfl
 ·unfold adj at hx;obtain⟨i,hi,rfl⟩:=aw.mp hx;have hi:=bK.mp hi;refine ar ?_;rw[jJL Aa,jJL Aa];exact bQ.mp h i (i+1) Aa Aa Aa
theorem jPC {α:Type}{p:α->Bool}{l:List α}{i:Nat}{x:α}(h:l[i]?=some x):(l.take (i+1)).filter p=(l.take i).filter p++(if p x=true then [x] else []):=by
 rw[be,h,bN];congr 1;rw[Option.toList,cN];split <;> rfl
theorem jLB {f:Int->Ag} :∀ {ks:Ag},(∀ k∈ks,(f k).length<=16)->∀ (i:Nat),ks.length<=i->(ks.flatMap f).length<=16*i
 | [],_,_,_=>by rw[List.flatMap_nil]; exact bw _
 | a::r,h,i,hi=>by
  rw[dM,aL];have h1:=h a ai;rw[aU] at hi;have:=jLB (f:=f) (ks:=r) (fun k hk=>h k (ag _ hk)) (i - 1) Aa;lia
theorem jAZ {w:Int}{ts:Ag}(h:ts.Pairwise (· < ·))(b:∀ z∈ts,0<=z/\z<w)(hw:w<=16):ts.length<=16:=by
 have:=jAN ts 0 w h b;lia
theorem jFB {w:Int}{ms:Ag}{As:Ae}(g:Good 16 32 w ms As){k:Int}(h0:0<=k)(h1:k<As.length):(j6 As k).length<=16:=by
 have:=g.at (k:=k.toNat) Aa;exact jAZ this.lot.ris this.lot.bnd g.w1
theorem jP1 {K:W.Frag}{m:List (Option Nat)}{σ:St}{H:Hp}{Q:VK}{q t:Addr}{tp:Bool}{lot ts:Ag}(hq:H q=some (.tup (lot.map V.int)))(ht:AtS tp H t (ts.map V.int))(hl:lot.length<=1000)(h0:blkσ m σ=[none,some (.ref t)])
  (k:∀ D H',H' D=some (.lst ((lot.map fun x=>decide (x∈ts)).map V.bl))->Ext H H'->H D=none->Q (.ref D) H'):qL m (kR 0) yK (tOp (rIn K false) (tVar 0) (tVar 1)) σ Q (Itt K q) H:=by
 refine jAH (xs:=lot.map V.int) (by rw[af,aE]; lia) (fun D j σ' H' zs=>(∃ v,σ'=[v,some (.ref t)])/\Ext H H'/\H' D=some (.lst zs)/\H D=none/\zs=((lot.take j).map fun x=>decide (x∈ts)).map V.bl) ?_ ?_ ?_ ?_
 ·intro D hD;exact⟨⟨_,h0⟩,(Ext.refl _).new hD _,j5,hD,rfl⟩
 ·rintro D j σ' H' zs hD ⟨_,e,h2,_,rfl⟩;refine⟨e _ _ hq,h2,?_⟩;rw[af,af];exact bC _ _
 ·rintro D j σ' H' zs x hD hx ⟨⟨v,rfl⟩,e,h2,hn,rfl⟩;obtain⟨z,hz,rfl⟩:∃ z:Int,lot[j]?=some z/\V.int z=x:=by
   rw[aV] at hx;cases hq:lot[j]? with
   | none=>rw[hq] at hx; cases hx
   | some z=>rw[hq] at hx; cases hx; exact⟨z,rfl,rfl⟩
  dsimp only [kR,yK];rw[aq rfl];refine⟨_,rfl,_,rfl,t,_,rfl,(ht.ext e).or,rfl,jA5 _,h2,⟨_,rfl⟩,e.updNew hn _,j5,hn,?_⟩;have:lot.take (j+1)=lot.take j++[z]:=by
   rw[be,hz];rfl
  rw[this,aS,aS];show _++[V.bl (inV (.int z) (ts.map V.int))]=_;rw[jBK];rfl
 ·rintro D σ' H' zs hD ⟨_,e,h2,hn,rfl⟩;rw[af,bq] at h2;exact k D H' h2 e hn
theorem jXC {lot:Ag}{p:Int->Bool} :(lot.map p).all id=lot.all p:=by rw[iA]; rfl
theorem jXB {lot:Ag}{p:Int->Bool} :(lot.map p).any id=lot.any p:=by rw[lG]; rfl
theorem pc_lt {w:Int}{ms:Ag}{As:Ae}(g:Good 16 32 w ms As):∀ p∈As,p.1.length<64:=fun p hp=>by
 have:=g.pg p hp;have:=jAZ this.lot.ris this.lot.bnd g.w1;lia
theorem jX3 {ts:Ag}(h:ts.Pairwise (· < ·)){a b:Int}(ha:a∈ts)(hb:b∈ts)(hab:a<b):ts.idxOf a<ts.idxOf b:=by
 have ia:=cn.mpr ha;have ib:=cn.mpr hb;have ea:=gw ia;have eb:=gw ib;rcases gC (ts.idxOf a) (ts.idxOf b) with q | q | q
 ·exact q
 ·exfalso;have e2:ts[ts.idxOf a]=ts[ts.idxOf b]:=by congr 1
  lia
 ·exfalso;have:=bQ.mp h _ _ ib ia q;lia
theorem jKI {ts lot:Ag}(h:ts.Pairwise (· < ·))(hl:lot.Pairwise (· < ·)):(plcs ts lot).Pairwise (· < ·):=by
 unfold plcs;rw[bu];refine i6 (R:=fun a b=>a<b) (fun {a b} ha hb hab=>?_) (hl.sublist dP);have:=jX3 h (aG (aR.mp ha).2) (aG (aR.mp hb).2) hab;lia
theorem jNS {ts lot:Ag}(h:ts.Pairwise (· < ·))(hl:lot.Pairwise (· < ·)):nmd ts lot=plcs ts lot:=jS7 ((jKI h hl).imp fun h=>by lia)
theorem mem_upto {n:Nat}{t:Int} :t∈upto n↔0<=t/\t<n:=by
 constructor
 ·exact fun h=>(kT n).bnd t h
 ·intro h;unfold upto;exact aw.mpr ⟨t.toNat,bK.mpr Aa,Aa⟩
theorem jCK {ts:Ag}{t:Int}(h:t∈ts):ts[ts.idxOf t]?=some t/\∀ m,m<ts.idxOf t->ts[m]?≠some t:=by
 have hi:=cn.mpr h;refine⟨by rw[aC hi,gw],fun m hm e=>?_⟩;have hm':m<ts.length:=Aa;rw[aC hm'] at e;have:=List.not_of_lt_findIdx (p:=(· ==t)) (xs:=ts) (i:=m) (by unfold List.idxOf at hm; exact hm);rw[bD e] at this;simp at this
abbrev nMask:An:=["lot"]
theorem scMask:FnScope nMask ["lot"] (j7 sMask):= {}
def jHB:Sp:=fun vs H Q _=>∃ (q:Addr) (ts:Ag),vs=[.ref q]/\H q=some (.tup (ts.map V.int))/\(∀ t∈ts,0<=t/\t<64)/\ts.length<=64/\∀ H',Ext H H'->Q (.int ((maskN ts:Nat):Int)) H'
def maskA (T:Txt mg): { t:TS // JSs (XOf nMask "mask_of" sMask P w K mg Ar f lI A Aq s H0 E) (jC sMask) t} :=
 have nd:=scMask.nd
 ⟨_,(jE (jQ (jK (jIE rfl) gD T.sum Ab (j3 (kE (m:=[none]) (Nc:=["thing"]) rfl (qC (jv 0 rfl vL)) rfl Ab Ab (jM (psc:=j7 sMask)) (jH (N:=nMask) rfl rfl Ab) (fun cl C fp s H=>jL (i:=0) (show (["thing"]:An).Nodup by decide+kernel) rfl yI) (fun cl C fp s H=>kP) (fun cl C fp s H=>(jZ jHS (je_int) (jv 0 rfl jS))) yM) j8 jF) jF)))⟩
theorem jM2 (ts:Ag)(h:∀ t∈ts,0<=t):(ts.map fun t=>(1:Int)*2 ^ t.toNat).sum=((maskN ts:Nat):Int):=by
 induction ts with
 | nil=>rfl
 | cons t r ih=>
  have e:maskN (t::r)=2 ^ t.toNat+maskN r:=by simp [maskN]
  rw[bg,g9,ih fun x hx=>h x (ag _ hx),e];push_cast;lia
theorem jU8 {fd:FuncData}(F:Fun K "mask_of" "mask_of" sMask f fd)(T:Txt mg):FnOk P w K mg Ar CX0 1 f fd ["lot"] jHB:=by
 refine F.ok scMask (fun vs H Q E h=>?_) (fun lI A Aq s H vs Q E hr h=>?_)
 ·obtain⟨_,_,rfl,_⟩:=h;rfl
 ·obtain⟨q,ts,rfl,hq,hb,hl,k⟩:=h;refine⟨_,(maskA T).2.h,?_⟩;refine⟨_,rfl,q,rfl,⟨_,SqT.of hq⟩,jAH (xs:=ts.map V.int) (by rw[af,aE]; lia) (fun D i σ' H' zs=>(∃ v,σ'=[v])/\Ext H H'/\H' D=some (.lst zs)/\H D=none/\zs=((ts.take i).map fun t=>(1:Int)*2 ^ t.toNat).map V.int) ?_ ?_ ?_ ?_⟩
  ·intro D hD;exact⟨⟨_,rfl⟩,(Ext.refl _).new hD _,j5,hD,rfl⟩
  ·rintro D i σ' H' zs hD ⟨_,e,h2,_,rfl⟩;refine⟨e _ _ hq,h2,?_⟩;rw[af,af,bO];lia
  ·rintro D i σ' H' zs x hD hx ⟨⟨v,rfl⟩,e,h2,hn,rfl⟩;obtain⟨z,hz,rfl⟩:∃ z:Int,ts[i]?=some z/\V.int z=x:=by
    rw[aV] at hx;cases hq:ts[i]? with
    | none=>rw[hq] at hx; cases hx
    | some z=>rw[hq] at hx; cases hx; exact⟨z,rfl,rfl⟩
   have hzb:=hb z (aH hz);dsimp only [kR,yK];rw[aq rfl];refine⟨_,rfl,_,_,rfl,rfl,⟨?_,?_,?_⟩,h2,⟨_,rfl⟩,e.updNew hn _,j5,hn,?_⟩
   ·first | lia | decide
   ·first | lia | decide
   ·first | lia | decide
   ·have:ts.take (i+1)=ts.take i++[z]:=by
     rw[be,hz];rfl
    rw[this,aS,aS];rfl
  ·rintro D σ' H' zs hD ⟨_,e,h2,hn,rfl⟩;refine⟨D,_,rfl,SqL.of h2,?_⟩;rw[af,bq,jM2 ts fun t ht=>(hb t ht).1];exact k H' e
end Eo
namespace L2
open PySem
theorem jOQ {X:Cx}{a b c:Expr}{pos:Pos}{ta tb:TE}{tc:TT}(hc:JT X c tc)(ha:JE X a ta)(hb:JE X b tb):JE X (.IfExp c a b pos) (tIf tc ta tb):=⟨jQL hc.h ha.h hb.h⟩
theorem jVO {a b c:Expr}{pos:Pos}{es:List Expr}{env:Env} :starEach (.IfExp c a b pos::es) env=(false,eval (.IfExp c a b pos) env)::starEach es env:=rfl
end L2
namespace Eo
open PySem L2
def PrAt (H:Hp)(v:V)(c:Int×Nat):Prop:=∃ q,v= .ref q/\H q=some (.tup [.int c.1, .int ((c.2:Nat):Int)])
theorem PrAt.mono {H H':Hp}(t:Tups H H'){v:V}{c:Int×Nat}(h:PrAt H v c):PrAt H' v c:=let ⟨q,e,z⟩:=h; ⟨q,e,t _ _ z⟩
def RowAt (H:Hp)(l:Addr)(cs:List (Int×Nat)):Prop:=∃ vs,H l=some (.lst vs)/\All2 (PrAt H) vs cs
structure ChAt (H:Hp)(L:Addr)(ch:Ch):Prop where
 ex:∃ ls:List Addr,H L=some (.lst (ls.map V.ref))/\ls.Nodup/\All2 (RowAt H) ls ch
theorem RowAt.keep {H H':Hp}{l:Addr}{cs:List (Int×Nat)}(h:RowAt H l cs)(k:∀ xs,H l=some (.lst xs)->H' l=some (.lst xs))(t:Tups H H'):RowAt H' l cs:=let ⟨vs,a,b⟩:=h; ⟨vs,k _ a,b.imp fun _ _=>PrAt.mono t⟩
theorem ChAt.keep {H H':Hp}{L:Addr}{ch:Ch}(h:ChAt H L ch)(k:∀ b xs,H b=some (.lst xs)->H' b=some (.lst xs))(t:Tups H H'):ChAt H' L ch:=by
 obtain⟨ls,a,b,c⟩:=h.ex;exact⟨ls,k _ _ a,b,c.imp fun l cs r=>r.keep (k l) t⟩
theorem ChAt.ext {H H':Hp}{L:Addr}{ch:Ch}(h:ChAt H L ch)(e:Ext H H'):ChAt H' L ch:=h.keep (fun b xs z=>e _ _ z) e.tups
theorem ChAt.len {H:Hp}{L:Addr}{ch:Ch}(h:ChAt H L ch):∃ ls:List Addr,H L=some (.lst (ls.map V.ref))/\ls.length=ch.length:=by
 obtain⟨ls,a,b,c⟩:=h.ex;exact⟨ls,a,c.len⟩
def kY (ms:Ag)(As:Ae)(n t:Nat):List (Int×Nat):=
 (if (t:Int)∈ms then [(-1,2 ^ t)] else [])++(((upto As.length).take n).filter fun k=>decide ((j6 As k).headD 0=(t:Int))).map fun k=>(k,maskN (j6 As k))
def chsN (w:Nat)(ms:Ag)(As:Ae)(n:Nat):Ch:=(List.range w).map (kY ms As n)
def chs (w:Nat)(ms:Ag)(As:Ae):Ch:=chsN w ms As As.length
theorem kJ (w:Nat)(ms:Ag)(As:Ae)(n:Nat):(chsN w ms As n).length=w:=by
 unfold chsN;rw[af,cx]
theorem yE {w:Nat}{ms:Ag}{As:Ae}{n t:Nat}(h:t<w):(chsN w ms As n)[t]?=some (kY ms As n t):=by
 unfold chsN;rw[aV,dh h];rfl
theorem jHX {ts:Ag}{t:Nat}(hp:ts.Pairwise (· < ·))(h0:∀ x∈ts,0<=x)(h:(t:Int)∈ts):(maskN ts).testBit t=true:=by
 rw[jA2 ts t hp h0,ar h]
theorem jEI {ts:Ag}{w:Nat}(hp:ts.Pairwise (· < ·))(h0:∀ x∈ts,0<=x/\x<(w:Int)):maskN ts<2 ^ w:=by
 refine Nat.lt_pow_two_of_testBit _ fun i hi=>?_;rw[jA2 ts i hp fun x hx=>(h0 x hx).1,aM];intro z;have:=(h0 _ z).2;lia
theorem jE1 {l:Ag}(h:l≠ []):l.headD 0∈l:=by
 cases l with
 | nil=>exact absurd rfl h
 | cons a r=>exact ai ..
theorem yP {w:Int}{ms:Ag}{As:Ae}{n:Nat}(g:Good 16 32 w ms As):ChOk (chsN w.toNat ms As n):=by
 have w0:=g.w0;have w1:=g.w1;have gpl:=g.pl;refine⟨by rw[kJ]; lia,fun t cs h=>?_,fun t cs h c hc=>?_⟩
 ·have ht:t<w.toNat:=by
   have:=(ao.mp h).1
   rwa [kJ] at this
  rw[yE ht] at h;cases h;unfold kY;rw[aL,af];have:=bS (fun k=>decide ((j6 As k).headD 0=(t:Int))) ((upto As.length).take n);have:=bC n (upto As.length);have:=jAU As.length;have:((upto As.length).take n).length<=(upto As.length).length:=by rw[bO]; lia
  split <;> simp only [aU,cA] <;> lia
 ·have ht:t<w.toNat:=by
   have:=(ao.mp h).1
   rwa [kJ] at this
  rw[yE ht] at h;cases h;unfold kY at hc;rw[kJ];rcases aJ.mp hc with hc | hc
  ·split at hc
   ·rw[aN] at hc;subst hc;exact⟨by simp [cO],hV Ac ht,by show (-1:Int)<= -1; decide,by show (-1:Int)<32; decide⟩
   ·cases hc
  ·obtain⟨k,hk,rfl⟩:=aw.mp hc;obtain⟨hk1,hk2⟩:=aR.mp hk;have kb:=(kT As.length).bnd k (bV hk1);have gp:=g.at (k:=k.toNat) Aa;have hk2:=aG hk2;have hne:j6 As k≠ []:=gp.lot.ne;have hm:(t:Int)∈j6 As k:=by
    rw[<- hk2];exact jE1 hne
   exact⟨jHX gp.lot.ris (fun x hx=>(gp.lot.bnd x hx).1) hm,jEI gp.lot.ris fun x hx=>⟨(gp.lot.bnd x hx).1,by have:=(gp.lot.bnd x hx).2; lia⟩,Aa,Aa⟩
abbrev jBF:An:=["box","choices","number","piece"]
theorem scChoices:FnScope jBF ["box"] (j7 yH):= {}
def jAR:Sp:=fun vs H Q _=>∃ (b:Addr) (w:Int) (ms:Ag) (As:Ae),vs=[.ref b]/\BoxAt H b w ms As/\Good 16 32 w ms As/\∀ r H',ChAt H' r (chs w.toNat ms As)->Ext H H'->Q (.ref r) H'
def jV5 (T:Txt mg)(CM:Can P w K mg Ar "mask_of" 1 fM fdM ["lot"] jHB)(hr:Room 1 (XOf jBF "choices_of" yH P w K mg Ar f lI A Aq s H0 E).A): { t:TS // JSs (XOf jBF "choices_of" yH P w K mg Ar f lI A Aq s H0 E) (jBV ((jC yH).getD 1 (.Pass ⟨0,0,0,0⟩))) t} :=
 have nd:=scChoices.nd
 ⟨_,(jE (jEQ (je_bm cw gf gh jCH (jI jC6 (jv 1 rfl vL) (jI jJ (jI jJ (jv 3 rfl vL) (je_int) jD) (je_int) jD) jVS) (j3 (y4 (j3 (jv 2 rfl vL) (j3 (CM.je hr gD (j3 (jI jJ (jv 3 rfl vL) (je_int) jD) j8 jN) jN) j8 jG) j4)) j8 jDF) jDF) jY))⟩
def jRN (T:Txt mg)(CM:Can P w K mg Ar "mask_of" 1 fM fdM ["lot"] jHB)(hr:Room 1 (XOf jBF "choices_of" yH P w K mg Ar f lI A Aq s H0 E).A): { t:TS // JSs (XOf jBF "choices_of" yH P w K mg Ar f lI A Aq s H0 E) (jC yH) t} :=
 have nd:=scChoices.nd
 ⟨_,(jB (jUQ (i:=1) nd rfl lL ⟨by rfl⟩ (m:=[none,some 0]) (Nc:=["thing","box"]) rfl (jAG gD T.range (j3 (jI jJ (jv 0 rfl vC) (je_int) jD) j8 jN) jN) rfl Ab Ab (jM (psc:=j7 yH)) (jH (N:=jBF) rfl rfl Ab) (fun cl C fp s H=>jL (i:=0) (show (["thing","box"]:An).Nodup by decide+kernel) rfl yI) (fun cl C fp s H=>kP) (fun cl C fp s H=>(jOQ (jW jED (jv 0 rfl jS) (jI y0 (jv 1 rfl kQ) (je_int) jD) jNU) (jB0 (j3 (y4 (j3 (je_un jRW (je_int)) (j3 (jZ jHS (je_int) (jv 0 rfl jS)) j8 yB) se_un)) j8 jDF)) (jB0 j8))) y6) (jB (jBX cC rfl (jJF gD T.enumerate (j3 (jI jJ (jv 0 rfl vC) (je_int) jD) j8 jN) jN) (jL0 (i:=2) (j:=3) nd rfl rfl Ab Ab) (jV5 T CM hr).2 y6) (jE (jQ (jv 1 rfl vL)))))⟩
abbrev nFull:An:=["choices"]
theorem scFull:FnScope nFull ["choices"] (j7 sFull):= {}
def jFG:Sp:=fun vs H Q _=>∃ (L:Addr) (ch:Ch),vs=[.ref L]/\ChAt H L ch/\ch.length<=16/\Q (.int ((fullN ch:Nat):Int)) H
def fullA (T:Txt mg): { t:TS // JSs (XOf nFull "full_mask" sFull P w K mg Ar f lI A Aq s H0 E) (jC sFull) t} :=
 have nd:=scFull.nd
 ⟨_,(jE (jQ (jZ jEB (jZ jHS (je_int) (jK jT gD T.len Ab (j3 (jv 0 rfl vL) j8 j4) j4)) (je_int))))⟩
abbrev nAt:An:=["choices","mask","least_lacked"]
theorem scAt:FnScope nAt ["choices","mask"] (j7 sAt):= {}
def spAt:Sp:=fun vs H Q _=>∃ (L:Addr) (ch:Ch) (m:Nat),vs=[.ref L, .int (m:Int)]/\ChAt H L ch/\ChOk ch/\m<2 ^ ch.length/\m≠fullN ch/\∀ r H',RowAt H' r (chAt ch m)->Ext H H'->H r=none->Q (.ref r) H'
def atA (T:Txt mg): { t:TS // JSs (XOf nAt "choices_at" sAt P w K mg Ar f lI A Aq s H0 E) (jC sAt) t} :=
 have nd:=scAt.nd
 ⟨_,(jB (jO (i:=2) nd rfl lL (jZ jEB (jOT jt iC iE jO1 (jZ jKN (je_un jVG (jv 1 rfl vC)) (jZ kU (jv 1 rfl vC) (je_int)))) (je_int)) jFD)
   (jE (jQ (kE (m:=[none,some 1]) (Nc:=["choice","mask"]) rfl (yL (jI jC6 (jv 0 rfl vL) (jv 2 rfl vL) jB6)) rfl Ab Ab (jM (psc:=j7 sAt)) (jH (N:=nAt) rfl rfl Ab) (fun cl C fp s H=>jL (i:=0) (show (["choice","mask"]:An).Nodup by decide+kernel) rfl yI) (fun cl C fp s H=>jEP (jW qQ (jZ jKN (jI y0 (jv 0 rfl jS) (je_int) jD) (jv 1 rfl kQ)) (je_int) (jV _))) (fun cl C fp s H=>(jv 0 rfl jS)) jI8))))⟩
theorem jDA (ms:Ag)(As:Ae)(t:Nat):kY ms As 0 t=if (t:Int)∈ms then [(-1,2 ^ t)] else []:=by
 unfold kY;rw[iP];simp
theorem jPN {w n:Nat}{ms:Ag}{As:Ae}(hn:n<As.length)(t:Nat)(ht:(j6 As (n:Int)).headD 0=(t:Int)):chsN w ms As (n+1)=(chsN w ms As n).set t (kY ms As n t++[((n:Int),maskN (j6 As n))]):=by
 have key:∀ u,kY ms As (n+1) u=kY ms As n u++if u=t then [((n:Int),maskN (j6 As n))] else []:=fun u=>by
  unfold kY;rw[jE4 hn,bN,aS,aZ];congr 2;rw[cN,ht];by_cases hu:u=t
  ·subst hu;rw[aq (ar rfl),aq rfl];rfl
  ·rw[ak (by rw[br]; lia),ak hu];rfl
 refine List.ext_getElem? fun i=>?_;rw[List.getElem?_set,kJ];by_cases hi:i<w
 ·rw[yE hi,yE hi,key];by_cases h:t=i
  ·subst h;rw[aq rfl,aq rfl,aq hi]
  ·rw[ak h,ak (fun z=>h z.symm),bf]
 ·rw[dv (by rw[kJ]; lia),dv (by rw[kJ]; lia)];split
  ·rw[ak Aa]
  ·rfl
theorem ChAt.app {H:Hp}{L:Addr}{ch:Ch}{t:Nat}{l:Addr}{ls:List Addr}{vs:List V}{cs:List (Int×Nat)}{v:V}{c:Int×Nat}(hL:H L=some (.lst (ls.map V.ref)))(nd:ls.Nodup)(al:All2 (RowAt H) ls ch)(hl:ls[t]?=some l)(hc:ch[t]?=some cs)(hv:H l=some (.lst vs))(av:All2 (PrAt H) vs cs)(pv:PrAt H v c)(ne:l≠L):
  (L2.upd H l (.lst (vs++[v]))) L=some (.lst (ls.map V.ref))/\All2 (RowAt (L2.upd H l (.lst (vs++[v])))) ls (ch.set t (cs++[c])):=by
 have tu:Tups H (L2.upd H l (.lst (vs++[v]))):=Tups.upd hv _;refine⟨by rw[j9 ne.symm]; exact hL,?_⟩;refine All2.of_get (by rw[List.length_set]; exact al.len) fun i a b h1 h2=>?_;rw[List.getElem?_set] at h2;by_cases hi:t=i
 ·subst hi;rw[aq rfl,aq (ao.mp hc).1] at h2;cases h2;rw[hl] at h1;cases h1;exact⟨_,j5,(av.imp fun _ _=>PrAt.mono tu).snoc (pv.mono tu)⟩
 ·rw[ak hi] at h2;obtain⟨b',hb',r⟩:=al.get' h1;rw[h2] at hb';cases hb';refine r.keep (fun xs hx=>?_) tu;rw[j9 fun z=>hi ?_]
  ·exact hx
  ·exact(fj (ao.mp hl).1 nd).mp (by rw[hl,h1,z])
theorem jLZ {fd:FuncData}(F:Fun K "choices_of" "choices_of" yH f fd)(T:Txt mg)(CM:Can P w K mg Ar "mask_of" 1 fM fdM ["lot"] jHB):FnOk P w K mg Ar CX0 2 f fd ["box"] jAR:=by
 refine F.ok scChoices (fun vs H Q E h=>?_) (fun lI A Aq s H vs Q E hr h=>?_)
 ·obtain⟨_,_,_,_,rfl,_⟩:=h;rfl
 ·obtain⟨b,w,ms,As,rfl,hB,g,q⟩:=h;refine⟨_,(jRN T CM hr).2.h,?_⟩;obtain⟨qm,qp,ps,b1,b2,b3,b4⟩:=id hB.ex;have pl:=b4.len;have w0:=g.w0;have w1:=g.w1;have gpl:=g.pl;refine⟨_,rfl,b,_,0,_,rfl,rfl,SqT.of b1,rfl,w,rfl,Aa,Aa,jBO (n:=w.toNat) (by rw[aE]; lia) (fun D i σ' H' zs=>(∃ v,σ'=[v,some (.ref b)])/\Ext H H'/\H' D=some (.lst zs)/\H D=none/\∃ ls:List Addr,zs=ls.map V.ref/\ls.Nodup/\D∉ls/\(∀ a∈ls,H a=none)/\All2 (RowAt H') ls ((List.range i).map (kY ms As 0))) ?_ ?_ ?_ ?_⟩
  ·intro D hD;exact⟨⟨_,rfl⟩,(Ext.refl _).new hD _,j5,hD,[],rfl,ko,Ad,Ad,trivial⟩
  ·rintro D i σ' H' zs hD hi ⟨_,e,h2,_,ls,rfl,_,_,_,al⟩;refine⟨h2,?_⟩;rw[af,al.len,af,cx];lia
  ·rintro D i σ' H' zs hD hi ⟨⟨v,rfl⟩,e,h2,hn,ls,rfl,nd,hDl,nol,al⟩;dsimp only [kR,yK];rw[aq rfl];have e0:(0+(i:Int))=(i:Int):=Aa;have key:∀ (l:Addr) (H2:Hp),Ext H' H2->H' l=none->RowAt H2 l (kY ms As 0 i)->H2 D=some (.lst (ls.map V.ref))/\((∃ v,[some (V.int (i:Int)),some (.ref b)]=[v,some (.ref b)])/\Ext H (L2.upd H2 D (.lst (ls.map V.ref++[.ref l])))/\(L2.upd H2 D (.lst (ls.map V.ref++[.ref l]))) D=some (.lst (ls.map V.ref++[.ref l]))/\H D=none/\∃ ls':List Addr,ls.map V.ref++[.ref l]=ls'.map V.ref/\ls'.Nodup/\D∉ls'/\(∀ a∈ls',H a=none)/\All2 (RowAt (L2.upd H2 D (.lst (ls.map V.ref++[.ref l])))) ls' ((List.range (i+1)).map (kY ms As 0))):=fun l H2 e2 nl rl=>by
    have hD2:=e2 _ _ h2;have lD:l≠D:=fun z=>by rw[z,h2] at nl; cases nl
    have tu:Tups H2 (L2.upd H2 D (.lst (ls.map V.ref++[.ref l]))):=Tups.upd hD2 _;have kp:∀ a xs,a≠D->H2 a=some (.lst xs)->(L2.upd H2 D (.lst (ls.map V.ref++[.ref l]))) a=some (.lst xs):=fun a xs ha h=>by rw[j9 ha]; exact h
    refine⟨hD2,⟨_,rfl⟩,(e.trans e2).updNew hn _,j5,hn,ls++[l],by rw[aS]; rfl,?_,?_,?_,?_⟩
    ·rw[fh];refine⟨nd,Ad,fun a ha b hb z=>?_⟩;rw[aN] at hb;subst hb z;obtain⟨j,hj⟩:=bh ha;obtain⟨cs,_,vs,r,_⟩:=al.get' hj;rw[nl] at r;cases r
    ·rw[aJ,aN];rintro (z | z)
     ·exact hDl z
     ·exact lD z.symm
    ·intro a ha;rcases aJ.mp ha with z | z
     ·exact nol a z
     ·rw[aN] at z;subst z;cases y:H a with
      | none=>rfl
      | some o=>rw[e _ _ y] at nl; cases nl
    ·rw[io,aS];refine(All2.of_get al.len fun j a c h1 h2'=>?_).snoc (rl.keep (fun xs=>kp l xs lD) tu);obtain⟨c',hc',r⟩:=al.get' h1;rw[h2'] at hc';cases hc';have aD:a≠D:=fun z=>hDl (z ▸ aH h1);exact r.keep (fun xs hx=>kp a xs aD (e2 _ _ hx)) (e2.tups.trans tu)
   refine⟨_,rfl,_,rfl,b,_,1,_,rfl,rfl,SqT.of (e _ _ b1),rfl,qm,_,rfl, .inr (SqT.of (e _ _ b2)),rfl,jA5 ms,_,rfl,?_⟩;rw[e0,jBK];refine ite2 (fun hz=>?_) (fun hz=>?_)
   ·have hz:=aG hz;refine⟨_,rfl,_,rfl,_,_,rfl,rfl,⟨Aa,Aa,Ac⟩,by show (2:Nat)<=_; decide,fun r H2 d2 e2=>⟨by show (1:Nat)<=_; decide,fun l H3 d3 e3 n3=>?_⟩⟩;have nl:H' l=none:=by
     cases z:H' l with
     | none=>rfl
     | some o=>rw[e2 _ _ z] at n3; cases n3
    refine key l H3 (e2.trans e3) nl ⟨_,d3,?_⟩;rw[jDA,aq hz];refine⟨⟨r,rfl,?_⟩,trivial⟩;have:(1:Int)*2 ^ (i:Int).toNat=((2 ^ i:Nat):Int):=by
     rw[bz];push_cast;lia
    rw[e3 _ _ d2];show some (HO.tup [V.int (-1),V.int ((1:Int)*2 ^ (i:Int).toNat)])=_;rw[this]
   ·refine⟨by show (0:Nat)<=_; decide,fun l H3 d3 e3 n3=>?_⟩;refine key l H3 e3 n3 ⟨_,d3,?_⟩;rw[jDA,ak (fun z=>hz (ar z))];trivial
  ·rintro D σ' H1 zs hD ⟨_,e1,h2,hn,ls,rfl,nd,hDl,nol,al⟩;refine⟨_,rfl,b,_,2,_,rfl,rfl,SqT.of (e1 _ _ b1),rfl,true,qp,rfl,⟨_,SqT.of (e1 _ _ b3)⟩,jRG (tp:=true) (xs:=ps) (fun i σ H'=>(∃ v2 v3,σ=[some (.ref b),some (.ref D),v2,v3])/\Ext H H'/\H' D=some (.lst (ls.map V.ref))/\All2 (RowAt H') ls (chsN w.toNat ms As i)) ⟨⟨_,_,rfl⟩,e1,h2,al⟩ (fun i σ H' ⟨_,e,_⟩=>SqT.of (e _ _ b3)) ?_ ?_⟩
   ·rintro i x t σ H' hx ht ⟨⟨v2,v3,rfl⟩,e,h3,al3⟩;obtain⟨pc,hpc,hPc⟩:=b4.at hx;obtain⟨pa,pq,rfl,c1,c2⟩:=id hPc;have hi:i<As.length:=(ao.mp hpc).1;have gp:=g.pg pc (aH hpc);have et:j6 As (i:Int)=pc.1:=by
     unfold j6;rw[bz,am,hpc];rfl
    have lt:=jAN _ 0 w gp.lot.ris gp.lot.bnd;have e':=e.new ht (.tup [.int (i:Int), .ref pa]);have k':Ext H' (L2.upd H' t (.tup [.int (i:Int), .ref pa])):=(Ext.refl _).new ht _;refine⟨t,_,rfl,SqT.of j5,rfl,_,_,rfl,_,_,rfl,rfl,?_⟩;have h5:=k' _ _ h3;have al5:=al3.imp fun l cs r=>r.keep (fun xs z=>k' _ _ z) k'.tups;generalize L2.upd H' t (.tup [.int (i:Int), .ref pa])=H5 at e' h5 al5 ⊢;obtain⟨hd,tl,hp1⟩:∃ hd tl,pc.1=hd::tl:=by
     cases z:pc.1 with
     | nil=>exact absurd z gp.lot.ne
     | cons a r=>exact⟨a,r,rfl⟩
    have hb:=gp.lot.bnd hd (by rw[hp1]; exact ai ..);have hdl:(j6 As (i:Int)).headD 0=((hd.toNat:Nat):Int):=by
     rw[et,hp1];show hd=_;lia
    have hw:hd.toNat<w.toNat:=Aa;obtain⟨l,hl,vs,hv,av⟩:=al5.get (yE hw);have lne:l≠D:=fun z=>hDl (z ▸ aH hl);have iD:atI (ls.map V.ref) hd=some (.ref l):=by
     have:=qB (xs:=ls.map V.ref) (j:=hd.toNat) (v:= .ref l) (by rw[aV,hl]; rfl)
     rwa [show ((hd.toNat:Nat):Int)=hd by lia] at this
    have c2':H5 pq=some (.tup (pc.1.map V.int)):=e' _ _ c2;refine⟨_,rfl,_,rfl,pa,_,0,_,rfl,rfl,SqT.of (e' _ _ c1),rfl,pq,_,0, .int hd,rfl,rfl,SqT.of c2',by rw[hp1]; exact qB (j:=0) rfl,D,_,_,_,rfl,rfl,SqL.of h5,iD, .inl ⟨rfl,_,SqL.of hv⟩,_,rfl,_,rfl,pa,_,0,_,rfl,rfl,SqT.of (e' _ _ c1),rfl,pq,pc.1,rfl,c2',fun x hx=>?_,Aa,fun H6 e6=>?_⟩
    ·have:=gp.lot.bnd x hx;lia
    refine⟨by show (2:Nat)<=_; decide,fun r H7 d7 e7=>?_⟩;have E7:=e6.trans e7;have hv7:=E7 _ _ hv;have vl:vs.length<=33:=by
     rw[av.len];exact(yP g).len _ _ (yE hw)
    have ap:=ChAt.app (v:= .ref r) (c:=((i:Int),maskN (j6 As (i:Int)))) (E7 _ _ h5) nd (al5.imp fun l cs r=>r.keep (fun xs z=>E7 _ _ z) E7.tups) hl (yE hw) hv7 (av.imp fun _ _=>PrAt.mono E7.tups) ⟨r,rfl,by rw[et]; exact d7⟩ lne;have nH:H l=none:=by
     cases z:H l with
     | none=>rfl
     | some o=>
      exfalso;rw[nol l (aH hl)] at z;cases z
    refine⟨l,_,_,rfl,rfl,hv7,by rw[aE]; lia,⟨_,_,rfl⟩,?_,ap.1,?_⟩
    ·exact(e'.trans E7).updNew nH _
    ·rw[jPN hi hd.toNat hdl];exact ap.2
   ·rintro σ H' ⟨⟨v2,v3,rfl⟩,e,h3,al3⟩;refine⟨_,rfl,q D H' ⟨ls,h3,nd,?_⟩ e⟩;rw[pl] at al3;exact al3
theorem jUB {fd:FuncData}(F:Fun K "full_mask" "full_mask" sFull f fd)(T:Txt mg):FnOk P w K mg Ar CX0 1 f fd ["choices"] jFG:=by
 refine F.ok scFull (fun vs H Q E h=>?_) (fun lI A Aq s H vs Q E hr h=>?_)
 ·obtain⟨_,_,rfl,_⟩:=h;rfl
 ·obtain⟨L,ch,rfl,hL,hw,q⟩:=h;refine⟨_,(fullA T).2.h,?_⟩;obtain⟨ls,h1,h2⟩:=hL.len;refine⟨_,rfl,L,_,rfl, .inl (SqL.of h1),_,_,rfl,rfl,⟨?_,?_,?_⟩,_,_,rfl,rfl,?_⟩
  ·first | lia | decide
  ·rw[af]; lia
  ·first | lia | decide
  ·have e:(1:Int)*2 ^ (((ls.map V.ref).length:Nat):Int).toNat - 1=((fullN ch:Nat):Int):=by
    rw[af,h2,bz];unfold fullN;have:=bF ch.length;have e2:((2 ^ ch.length:Nat):Int)=(2:Int) ^ ch.length:=by push_cast; rfl
    lia
   show Q (V.int ((1:Int)*2 ^ (((ls.map V.ref).length:Nat):Int).toNat - 1)) H;rw[e];exact q
theorem ok_at {fd:FuncData}(F:Fun K "choices_at" "choices_at" sAt f fd)(T:Txt mg):FnOk P w K mg Ar CX0 1 f fd ["choices","mask"] spAt:=by
 refine F.ok scAt (fun vs H Q E h=>?_) (fun lI A Aq s H vs Q E hr h=>?_)
 ·obtain⟨_,_,_,rfl,_⟩:=h;rfl
 ·obtain⟨L,ch,m,rfl,hL,ok,hm,hf,q⟩:=h;refine⟨_,(atA T).2.h,?_⟩;obtain⟨ls,h1,nd,al⟩:=hL.ex;have hlow:=qH hm hf;have w16:=ok.w;refine⟨_,rfl,_,rfl,_,rfl,_,_,rfl,rfl,_,_,rfl,rfl,rfl,_,rfl,rfl,_,_,rfl,rfl,?_⟩;have el:(Builtin.Int.intBits (Builtin.bitAnd (Builtin.bitNot (m:Int)) ((m:Int)+1)):Int) - 1=((lowN m:Nat):Int):=by
   rw[jR0];lia
  show kR 2 (V.int ((Builtin.Int.intBits (Builtin.bitAnd (Builtin.bitNot (m:Int)) ((m:Int)+1)):Int) - 1)) _ _ _;rw[el];obtain⟨l,hl,vs,hv,av⟩:=al.get (aC hlow);have vl:vs.length<=33:=by
   rw[av.len];exact ok.len _ _ (aC hlow)
  have er:ch.getD (lowN m) []=ch[lowN m]:=by
   rw[am,aC hlow];rfl
  refine⟨_,rfl,_,rfl,L,_,_,_,rfl,rfl,SqL.of h1,qB (by rw[aV,hl]; rfl),l,rfl,⟨_,SqL.of hv⟩,jB1 (xs:=vs) (fun σ=>∃ v,σ=[v,some (.int (m:Int))]) (fun H' zs j=>All2 (PrAt H') zs (((ch[lowN m]).take j).filter fun c=>c.2&&&m==0)) ⟨fun H=>trivial,fun H H' zs j t h=>h.imp fun _ _=>PrAt.mono t,fun H zs j h=>?_⟩ hv (by rw[aE]; lia) ⟨_,rfl⟩ ?_ ?_⟩
  ·rw[h.len];exact bv (bS _ _) (bC _ _)
  ·rintro j x σ' H' zs hx ⟨v,rfl⟩ e hz R S yes no;obtain⟨c,hc,qa,rfl,hq⟩:=av.get' hx;have hq':=e _ _ hq;have et:(ch[lowN m]).take (j+1)=(ch[lowN m]).take j++[c]:=by
    rw[be,hc];rfl
   refine⟨_,rfl,qa,_,1,_,rfl,rfl,SqT.of hq',rfl,_,rfl,_,_,rfl,rfl,rfl,_,rfl,?_⟩;have ez:decide (V.int (Builtin.bitAnd ((c.2:Nat):Int) (m:Int))=V.int 0)=(c.2&&&m==0):=by
    rw[jFU,bZ,br,fq];exact⟨fun h=>by have:=V.int.inj h; lia,fun h=>by rw[h]; rfl⟩
   show if decide (V.int (Builtin.bitAnd ((c.2:Nat):Int) (m:Int))=V.int 0)=true then _ else _
   rw[ez];refine ite2 (fun h=>?_) (fun h=>?_)
   ·refine⟨_,rfl,yes _ _ _ ⟨_,rfl⟩ (Ext.refl _) ?_⟩;show All2 _ _ (((ch[lowN m]).take (j+1)).filter _);rw[et,bN,cN,aq h];exact hz.snoc ⟨qa,rfl,hq'⟩
   ·refine no _ _ ⟨_,rfl⟩ (Ext.refl _) ?_;show All2 _ _ (((ch[lowN m]).take (j+1)).filter _);rw[et,bN,cN,ak h,kf,bf];exact hz
  ·rintro D H' zs hD e hn hz;rw[av.len,bq] at hz;refine q D H' ⟨zs,hD,?_⟩ e hn;unfold chAt;rw[er];exact hz
end Eo
namespace L2
open PySem
theorem jMY {ks:List (Option Expr)}{vs:List Expr}{pos:Pos}{o:Option Expr} :SwOk (.Dict ks vs pos) o:=⟨fun _ _=>rfl⟩
end L2
namespace Eo
open PySem L2
abbrev natV (n:Nat):V:= .int (n:Int)
structure MetOk (ch:Ch)(ns:List Nat):Prop where
 zero:0∈ns
 bnd:∀ m∈ns,m<2 ^ ch.length
 up:∀ m∈ns,m≠fullN ch->∀ c∈chAt ch m,(m|||c.2)∈ns
def trK (ks:List Nat):List (Key×V):=ks.map fun (k:Nat)=>(Sum.inl (k:Int),V.bl true)
def jT6:Stmt->List Stmt
 | .While _ b _ _=>b
 | _=> []
theorem jIY (n:Nat):∀ ks:List Nat,valV (trK ks) (.inl (n:Int))=if n∈ks then some (.bl true) else none
 | []=>rfl
 | k::ks=>by
  show valV ((Sum.inl (k:Int),V.bl true)::trK ks) _=_;by_cases h:k=n
  ·subst h;rw[jBB rfl,aq (ai ..)]
  ·rw[jBC (by intro z; have:=hG z; lia),jIY n ks];by_cases h2:n∈ks
   ·rw[aq h2,aq (ag _ h2)]
   ·rw[ak h2,ak];intro z;rcases aI.mp z with z | z
    ·exact h z.symm
    ·exact h2 z
theorem jV2 {H:Hp}{M:Addr}{ks:List Nat}{m c:Nat}(h:H M=some (.dK (trK ks))):DGet H M (.int (Builtin.bitOr (m:Int) (c:Int))) (if (m|||c)∈ks then some (.bl true) else none):=by
 rw[jCQ,<- jIY];exact DGet.k (k:=Sum.inl (((m|||c:Nat):Nat):Int)) h
theorem jV1 {H:Hp}{M:Addr}{ks:List Nat}{m c:Nat}(h:H M=some (.dK (trK ks)))(hn:¬ (m|||c)∈ks)(hl:(trK ks).length<sizeLine):DPut H M (.int (Builtin.bitOr (m:Int) (c:Int))) (.bl true) (L2.upd H M (.dK (trK (ks++[m|||c])))):=by
 rw[jCQ];have:=DPut.k (k:=Sum.inl (((m|||c:Nat):Nat):Int)) (v:= .bl true) h hl;rw[jKG _ (by rw[jIY,ak hn])] at this;unfold trK;rw[aS];exact this
theorem jAY {n:Nat}{ks:List Nat}(nd:ks.Nodup)(hb:∀ k∈ks,k<n):ks.length<=n:=by
 have:(ks.map fun k:Nat=>(k:Int)).length<=n:=jNR n _ (bu.mpr (nd.imp fun h=>by lia)) fun t ht=>by
  obtain⟨k,hk,rfl⟩:=aw.mp ht;have:=hb k hk;lia
 rwa [af] at this
abbrev nMet:An:=["choices","full","met","waiting","mask","number","more"]
theorem scMet:FnScope nMet ["choices"] (j7 sMet):= {}
def spMet:Sp:=fun vs H Q _=>∃ (L:Addr) (ch:Ch),vs=[.ref L]/\ChAt H L ch/\ChOk ch/\∀ (r:Addr) (ns:List Nat) (H':Hp),H' r=some (.lst (ns.map natV))->ns.Pairwise (· > ·)->MetOk ch ns->Ext H H'->H r=none->Q (.ref r) H'
def jKV (T:Txt mg)(CA:Can P w K mg Ar "choices_at" 1 fA fdA ["choices","mask"] spAt)(hr:Room 1 (XOf nMet "masks_met" sMet P w K mg Ar f lI A Aq s H0 E).A): { t:TS // JSs (XOf nMet "masks_met" sMet P w K mg Ar f lI A Aq s H0 E) (jT6 ((jC sMet).getD 3 (.Pass ⟨0,0,0,0⟩))) t} :=
 have nd:=scMet.nd
 ⟨_,(jB (jO (i:=4) nd rfl lL (jOT cw PySem.F.slot_list_pop PySem.F.type_list_pop jWM (jv 3 rfl vL)) jY)
   (jE (yF (jW op_ne (jv 4 rfl vL) (jv 1 rfl vL) (jV _)) (jE (jBX cC rfl (yL (CA.je hr gD (j3 (jv 0 rfl vL) (j3 (jv 4 rfl vL) j8 j4) j4) j4)) (jL0 (i:=5) (j:=6) nd rfl rfl Ab Ab) (jE (yF (jOR (hu_of hr) (jZ op_or (jv 4 rfl vL) (jv 6 rfl vL)) (jv 2 rfl vL) rfl) (jB (jJD (hu_of hr) (jv 2 rfl vL) (jZ op_or (jv 4 rfl vL) (jv 6 rfl vL)) (je_bl) jK4)
   (jE (jEQ (je_bm cw gf gh jCH (jv 3 rfl vL) (j3 (jZ op_or (jv 4 rfl vL) (jv 6 rfl vL)) j8 yB) yB) jY))) kN)) y6)) kN)))⟩
def metA (T:Txt mg)(CF:Can P w K mg Ar "full_mask" 1 fF fdF ["choices"] jFG)(CA:Can P w K mg Ar "choices_at" 1 fA fdA ["choices","mask"] spAt)(hr:Room 1 (XOf nMet "masks_met" sMet P w K mg Ar f lI A Aq s H0 E).A): { t:TS // JSs (XOf nMet "masks_met" sMet P w K mg Ar f lI A Aq s H0 E) (jC sMet) t} :=
 have nd:=scMet.nd
 ⟨_,(jB (jO (i:=1) nd rfl lL (CF.je (hr.mono Ac) gD (j3 (jv 0 rfl vL) j8 j4) j4) jY) (jB (jO (i:=2) nd rfl lL (jR9) jMY) (jB (jO (i:=3) nd rfl lL (jB0 (j3 (je_int) j8 kO)) jFC) (jB (jR5 cC (jW op_gt (jK jT gD T.len Ab (j3 (jv 3 rfl vL) j8 j4) j4) (je_int) (jV _)) (jKV T CA hr).2) (jE (jQ (jI4 (jGY rfl) gD T.sorted Ab (j3 (jv 2 rfl vL) j8 j4) (jOL je_bl jST) j4)))))))⟩
theorem jQW (T:Txt mg)(CA:Can P w K mg Ar "choices_at" 1 fA fdA ["choices","mask"] spAt)(hr:Room 1 (XOf nMet "masks_met" sMet P w K mg Ar f lI A Aq s H0 E).A)
  {D:Ends}{H:Hp}{L M W:Addr}{ch:Ch}{ks ws:List Nat}{m:Nat}{v4 v5 v6:Option V}(hL:ChAt H L ch) (ok:ChOk ch) (hM:H M=some (.dK (trK ks))) (hW:H W=some (.lst ((ws++[m]).map natV))) (nd:ks.Nodup) (hb:∀ k∈ks,k<2 ^ ch.length) (hm:m∈ks) (wln:ws.length<=ks.length)
  (nx:∀ (H':Hp) (new:List Nat) (v4 v5 v6:Option V),(∀ b o,H b=some o->b≠M->b≠W->H' b=some o)->H' M=some (.dK (trK (ks++new)))->H' W=some (.lst ((ws++new).map natV))->(ks++new).Nodup->(∀ k∈ks++new,k<2 ^ ch.length)->(m≠fullN ch->∀ c∈chAt ch m,(m|||c.2)∈ks++new)->D.nx [some (.ref L),some (natV (fullN ch)),some (.ref M),some (.ref W),v4,v5,v6] H'):
  (jKV T CA hr).1 D [some (.ref L),some (natV (fullN ch)),some (.ref M),some (.ref W),v4,v5,v6] H:=by
 have MW:M≠W:=fun z=>by rw[z,hW] at hM; cases hM
 have LW:∀ ls:List Addr,H L=some (.lst (ls.map V.ref))->L≠W:=fun ls h z=>by
  rw[z,hW] at h;have h:=HO.lst.inj (bD h);have h2:natV m∈ls.map V.ref:=by rw[<- h]; simp
  obtain⟨a,_,ha⟩:=aw.mp h2;cases ha
 have rw':∀ l cs,RowAt H l cs->l≠W:=fun l cs ⟨vs,h1,h2⟩ z=>by
  rw[z,hW] at h1;have h1:=HO.lst.inj (bD h1);have h3:vs[ws.length]?=some (natV m):=by rw[<- h1]; simp
  obtain⟨_,_,q,e,_⟩:=h2.get' h3;cases e
 have w16:=ok.w;have hm2:=hb m hm;have wl:((ws++[m]).map natV)[((ws++[m]).map natV).length - 1]?=some (natV m):=by
  rw[af,aL,aV,bi Ad];simp
 have dl:((ws++[m]).map natV).dropLast=ws.map natV:=by
  rw[aS];simp
 refine⟨_,rfl, .inl ⟨rfl,_,SqL.of hW⟩,W,_,_,rfl,rfl,hW,wl,?_⟩;rw[dl];have hM1:(L2.upd H W (.lst (ws.map natV))) M=some (.dK (trK ks)):=by rw[j9 MW]; exact hM
 have hW1:(L2.upd H W (.lst (ws.map natV))) W=some (.lst (ws.map natV)):=j5;have k1:∀ b o,H b=some o->b≠W->(L2.upd H W (.lst (ws.map natV))) b=some o:=fun b o h n=>by rw[j9 n]; exact h
 have hL1:ChAt (L2.upd H W (.lst (ws.map natV))) L ch:=by
  obtain⟨ls,a1,a2,a3⟩:=hL.ex;exact⟨ls,k1 _ _ a1 (LW _ a1),a2,a3.imp fun l cs r=>r.keep (fun xs z=>k1 _ _ z (rw' _ _ r)) (Tups.upd hW _)⟩
 generalize L2.upd H W (.lst (ws.map natV))=H1 at hM1 hW1 k1 hL1;refine⟨_,rfl,_,rfl,rfl,_,rfl,?_⟩;have nf:(!decide (natV m=natV (fullN ch)))=true↔m≠fullN ch:=by
  rw[cH,eT];refine not_congr ⟨fun h=>?_,fun h=>by rw[h]⟩;have:=V.int.inj h;lia
 refine ite2 (fun h=>?_) (fun h=>?_)
 ·have h:=nf.mp h;refine⟨_,rfl,_,rfl,L,ch,m,rfl,hL1,ok,hm2,h,fun r H2 ⟨vs,hr2,av⟩ e2 nr=>?_⟩;have hM2:=e2 _ _ hM1;have hW2:=e2 _ _ hW1;have rW:r≠W:=fun z=>by rw[z,hW1] at nr; cases nr
  have rM:r≠M:=fun z=>by rw[z,hM1] at nr; cases nr
  refine⟨r,rfl,⟨_,SqL.of hr2⟩,jBM (xs:=vs) (fun i σ H'=>(∃ v5 v6,σ=[some (.ref L),some (natV (fullN ch)),some (.ref M),some (.ref W),some (natV m),v5,v6])/\(∀ b o,H2 b=some o->b≠M->b≠W->H' b=some o)/\∃ new:List Nat,H' M=some (.dK (trK (ks++new)))/\H' W=some (.lst ((ws++new).map natV))/\(ks++new).Nodup/\(∀ k∈ks++new,k<2 ^ ch.length)/\∀ c∈(chAt ch m).take i,(m|||c.2)∈ks++new) ⟨⟨_,_,rfl⟩,fun b o h _ _=>h,[],by rw[bf]; exact hM2,by rw[bf]; exact hW2,by rw[bf]; exact nd,by rw[bf]; exact hb,fun c hc=>by cases hc⟩ (fun i σ H' _ ⟨_,k,_⟩=>SqL.of (k _ _ hr2 rM rW)) ?_ ?_⟩
  ·rintro i x σ H' hx ⟨⟨v5,v6,rfl⟩,k,new,hM',hW',nd',hb',cl⟩;obtain⟨c,hc,q,rfl,hq⟩:=av.get' hx;have qM:q≠M:=fun z=>by rw[z,hM2] at hq; cases hq
   have qW:q≠W:=fun z=>by rw[z,hW2] at hq; cases hq
   have hcm:=aH hc;obtain⟨u1,u2⟩:=ok.up hm2 h hcm;have tk:(chAt ch m).take (i+1)=(chAt ch m).take i++[c]:=by rw[be,hc]; rfl
   refine⟨q,_,rfl,SqT.of (k _ _ hq qM qW),rfl,_,_,rfl,_,_,rfl,rfl,?_⟩;refine⟨_,rfl,_,rfl,_,_,rfl,rfl,_,rfl,M,_,rfl,jV2 hM',_,rfl,?_⟩;by_cases hin:(m|||c.2)∈ks++new
   ·rw[aq hin];refine iteF ⟨⟨_,_,rfl⟩,k,new,hM',hW',nd',hb',fun c' hc'=>?_⟩;rw[tk] at hc';rcases aJ.mp hc' with z | z
    ·exact cl c' z
    ·rw[aN] at z;rw[z];exact hin
   ·rw[ak hin];have ndn:(ks++(new++[m|||c.2])).Nodup:=by
     rw[<- aZ,fh];refine⟨nd',Ad,fun a ha b hb z=>?_⟩;rw[aN] at hb;exact hin (hb ▸ z ▸ ha)
    have bdn:∀ k∈ks++(new++[m|||c.2]),k<2 ^ ch.length:=fun k hk=>by
     rw[<- aZ] at hk;rcases aJ.mp hk with z | z
     ·exact hb' k z
     ·rw[aN] at z;rw[z];exact u2
    have sz:(ks++(new++[m|||c.2])).length<=2 ^ 16:=bv (jAY ndn bdn) (cj Ac w16);rw[aL,aL] at sz;have kl:(trK (ks++new)).length<sizeLine:=by
     unfold trK;rw[af,aL,aE];simp at sz;lia
    refine iteT ⟨_,rfl,_,rfl,_,rfl,_,_,rfl,rfl,M,_,rfl,jV1 hM' hin kl,?_⟩;have hW3:(L2.upd H' M (.dK (trK (ks++new++[m|||c.2])))) W=some (.lst ((ws++new).map natV)):=by rw[j9 MW.symm]; exact hW'
    have hM3:(L2.upd H' M (.dK (trK (ks++new++[m|||c.2])))) M=some (.dK (trK (ks++(new++[m|||c.2])))):=by rw[j5,aZ]
    have k3:∀ b o,H2 b=some o->b≠M->b≠W->(L2.upd H' M (.dK (trK (ks++new++[m|||c.2])))) b=some o:=fun b o hbo n1 n2=>by rw[j9 n1]; exact k b o hbo n1 n2
    generalize L2.upd H' M (.dK (trK (ks++new++[m|||c.2])))=H3 at hW3 hM3 k3;refine⟨_,rfl, .inl ⟨rfl,_,SqL.of hW3⟩,_,rfl,_,rfl,_,_,rfl,rfl,W,_,_,rfl,rfl,hW3,?_,⟨_,_,rfl⟩,fun b o hbo n1 n2=>by rw[j9 n2]; exact k3 b o hbo n1 n2,new++[m|||c.2],by rw[j9 MW]; exact hM3,?_,ndn,bdn,fun c' hc'=>?_⟩
    ·skip
     rw[af,aL,aE];simp at sz;lia
    ·rw[j5];show some (HO.lst ((ws++new).map natV++[V.int (Builtin.bitOr (m:Int) (c.2:Int))]))=_;rw[jCQ,<- aZ];exact bW (fun z=>some (HO.lst z)) (aS (f:=natV) (l₁:=ws++new) (l₂:=[m|||c.2])).symm
    ·rw[<- aZ,aJ];rw[tk] at hc';rcases aJ.mp hc' with z | z
     ·exact .inl (cl c' z)
     ·rw[aN] at z;rw[z];exact .inr (aN.mpr rfl)
  ·rintro σ H' ⟨⟨v5,v6,rfl⟩,k,new,hM',hW',nd',hb',cl⟩;have:(chAt ch m).take vs.length=chAt ch m:=by rw[av.len,bq]
   rw[this] at cl;exact nx H' new _ _ _ (fun b o hbo n1 n2=>k _ _ (e2 _ _ (k1 _ _ hbo n2)) n1 n2) hM' hW' nd' hb' fun _=>cl
 ·have h:m=fullN ch:=bR fun z=>h (nf.mpr z);exact nx H1 [] _ _ _ (fun b o hbo n1 n2=>k1 _ _ hbo n2) (by rw[bf]; exact hM1) (by rw[bf]; exact hW1) (by rw[bf]; exact nd) (by rw[bf]; exact hb) fun z=>absurd h z
theorem jWE {fd:FuncData}(F:Fun K "masks_met" "masks_met" sMet f fd)(T:Txt mg)(CF:Can P w K mg Ar "full_mask" 1 fF fdF ["choices"] jFG)(CA:Can P w K mg Ar "choices_at" 1 fA fdA ["choices","mask"] spAt):FnOk P w K mg Ar CX0 2 f fd ["choices"] spMet:=by
 refine F.ok scMet (fun vs H Q E h=>?_) (fun lI A Aq s H vs Q E hr h=>?_)
 ·obtain⟨_,_,rfl,_⟩:=h;rfl
 ·obtain⟨L,ch,rfl,hL,ok,q⟩:=h;refine⟨_,(metA T CF CA hr).2.h,?_⟩;have w16:=ok.w;refine⟨_,rfl,L,ch,rfl,hL,w16,?_⟩;refine fun M H1 hM1 e1 nM=>?_;refine⟨by show (1:Nat)<=_; decide,fun W H2 hW2 e2 nW=>?_⟩;have hM2:=e2 _ _ hM1;have nW0:H W=none:=by
   cases z:H W with
   | none=>rfl
   | some o=>rw[e1 _ _ z] at nW; cases nW
  have E2:=e1.trans e2;have pz:(0:Nat)<2 ^ ch.length:=bF _;refine⟨fun n σ H'=>(∃ v4 v5 v6,σ=[some (.ref L),some (natV (fullN ch)),some (.ref M),some (.ref W),v4,v5,v6])/\Ext H H'/\∃ ks ws:List Nat,n=2*(2 ^ ch.length - ks.length)+ws.length/\H' M=some (.dK (trK ks))/\H' W=some (.lst (ws.map natV))/\ks.Nodup/\(∀ k∈ks,k<2 ^ ch.length)/\(∀ k∈ws,k∈ks)/\ws.length<=ks.length/\0∈ks/\∀ k∈ks,k∉ws->k≠fullN ch->∀ c∈chAt ch k,(k|||c.2)∈ks,⟨_,⟨_,_,_,rfl⟩,E2,[0],[0],rfl,hM2,hW2,Ad,fun k hk=>by rw[aN] at hk; lia,fun k hk=>hk,aA _,Ad,fun k h1 h2=>absurd h1 h2⟩,?_⟩;rintro n σ H' ⟨⟨v4,v5,v6,rfl⟩,e,ks,ws,rfl,hM',hW',nd,hb,sub,wl,z0,cl⟩;refine⟨_,rfl,W,_,rfl, .inl (SqL.of hW'),_,_,rfl,rfl,_,rfl,?_⟩;rcases List.eq_nil_or_concat ws with hws | ⟨ws',m,hws⟩
  ·subst hws;refine iteF ?_;have ksl:=jAY nd hb;have p16:2 ^ ch.length<=2 ^ 16:=cj Ac w16;refine⟨_,rfl,M,trK ks,ks.map fun k:Nat=>(k:Int),true,rfl,rfl,hM',by unfold trK; rw[bB,bB]; rfl,by rw[af,aE]; lia,fun l ns hl ord pm=>?_⟩;obtain⟨js,rfl⟩:∃ js:List Nat,ns=js.map fun k:Nat=>(k:Int):=by
    refine⟨ns.map Int.toNat,?_⟩;rw[bB];refine(ie ns).symm.trans (bI fun x hx=>?_);obtain⟨k,_,rfl⟩:=aw.mp (pm.mem_iff.mp hx);show ((k:Nat):Int)=(((k:Nat):Int).toNat:Int);lia
   have pm':js.Perm ks:=by
    have:=pm.map Int.toNat;rw[bB,bB] at this;have e:∀ l:List Nat,l.map (Int.toNat ∘ fun k:Nat=>(k:Int))=l:=fun l=>(bI fun x _=>by show ((x:Nat):Int).toNat=x; lia).trans (ie l)
    rwa [e,e] at this
   refine q l js _ ?_ ?_ ⟨pm'.mem_iff.mpr z0,fun m hm=>hb m (pm'.mem_iff.mp hm),fun m hm hf c hc=>pm'.mem_iff.mpr (cl m (pm'.mem_iff.mp hm) Ad hf c hc)⟩ ((Ext.refl _).trans (e.new hl _)) ?_
   ·rw[j5,bB];rfl
   ·have nj:js.Nodup:=pm'.nodup_iff.mpr nd;have:js.Pairwise (fun (a b:Nat)=>(b:Int)<=(a:Int)):=bu.mp ord;exact(this.and nj).imp fun {a b} h=>by lia
   ·cases z:H l with
    | none=>rfl
    | some o=>rw[e _ _ z] at hl; cases hl
  ·have hws:ws=ws'++[m]:=by rw[hws,List.concat_eq_append]
   subst hws;have lp:decide ((0:Int)<(((ws'++[m]).map natV).length:Int))=true:=by
    rw[br,af,aL];show (0:Int)<((ws'.length+1:Nat):Int);lia
   show if decide ((0:Int)<(((ws'++[m]).map natV).length:Int))=true then _ else _
   rw[aq lp];rw[aL] at wl;refine⟨fun σ' H''=>(∃ v4 v5 v6,σ'=[some (.ref L),some (natV (fullN ch)),some (.ref M),some (.ref W),v4,v5,v6])/\Ext H H''/\∃ new:List Nat,H'' M=some (.dK (trK (ks++new)))/\H'' W=some (.lst ((ws'++new).map natV))/\(ks++new).Nodup/\(∀ k∈ks++new,k<2 ^ ch.length)/\(m≠fullN ch->∀ c∈chAt ch m,(m|||c.2)∈ks++new),?_,jQW T CA hr (ks:=ks) (ws:=ws') (m:=m) (hL.ext e) ok hM' hW' nd hb (sub m Ad) Aa ?_⟩
   ·rintro σ' H'' ⟨hσ,e',new,a1,a2,a3,a4,a5⟩;have sl:=jAY a3 a4;rw[aL] at sl;refine⟨_,?_,hσ,e',ks++new,ws'++new,rfl,a1,a2,a3,a4,fun k hk=>?_,?_,aY _ z0,fun k hk hkw hf c hc=>?_⟩
    ·rw[aL,aL,aL];simp only [aU,cA];lia
    ·rcases aJ.mp hk with z | z
     ·exact aY _ (sub k (aY _ z))
     ·exact aB _ z
    ·rw[aL,aL];lia
    ·by_cases hkm:k=m
     ·subst hkm;exact a5 hf c hc
     ·rcases aJ.mp hk with z | z
      ·refine aY _ (cl k z (fun y=>?_) hf c hc);rcases aJ.mp y with y | y
       ·exact hkw (aY _ y)
       ·exact hkm (aN.mp y)
      ·exact absurd (aB _ z) hkw
   ·intro H'' new v4 v5 v6 kp a1 a2 a3 a4 a5;refine⟨⟨_,_,_,rfl⟩,fun b o hbo=>?_,new,a1,a2,a3,a4,a5⟩;refine kp b o (e b o hbo) (fun z=>?_) fun z=>?_
    ·rw[z,nM] at hbo; cases hbo
    ·rw[z,nW0] at hbo; cases hbo
end Eo
namespace L2
open PySem
theorem jT8 {x:Str}{pos:Pos}{o:Option Expr} :SwOk (.Name x pos) o:=⟨fun _ _=>rfl⟩
end L2
namespace Eo
open PySem L2
structure HpOk (φ:Hp->Prop):Prop where
 keep:∀ (H H':Hp) (D:Addr) (kvs:List (Key×V)),H D=some (.dK kvs)->(∀ b o,H b=some o->b≠D->H' b=some o)->φ H->φ H'
 ext:∀ H H',Ext H H'->φ H->φ H'
abbrev RepT:=Nat->Hp->V->Prop
def RepOk (R:RepT):Prop:=∀ m v,HpOk fun H=>R m H v
def ItAt (R:RepT)(m:Nat)(H:Hp)(v:V)(c:Int×Nat):Prop:=∃ q u,v= .ref q/\H q=some (.tup [.int c.1,u])/\R (m|||c.2) H u
def jFF (ch:Ch)(R:RepT):Sp:=fun vs H Q _=>∃ (l:Addr) (us:List V) (m:Nat),vs=[.ref l]/\H l=some (.lst us)/\m<2 ^ ch.length/\m≠fullN ch/\All2 (ItAt R m H) us (chAt ch m)/\∀ r H',R m H' r->Ext H H'->Q r H'
def gvs (ns:List Nat)(us:List V):List (Key×V):=(ns.zip us).map fun p:Nat×V=>(Sum.inl (p.1:Int),p.2)
structure GotAt (H:Hp)(r:Addr)(ch:Ch)(R:RepT)(ns:List Nat):Prop where
 ex:∃ us,H r=some (.dK (gvs ns us))/\All2 (fun n u=>R n H u) ns us
theorem jFX {R:Nat->V->Prop} :∀ {ns:List Nat}{us:List V}{n:Nat},All2 R ns us->ns.Nodup->n∈ns->∃ u,valV (gvs ns us) (.inl (n:Int))=some u/\R n u
 | [],_,_,_,_,h=>by cases h
 | k::ns,[],_,h,_,_=>h.elim
 | k::ns,u::us,n,h,nd,hm=>by
  show ∃ x,valV ((Sum.inl (k:Int),u)::gvs ns us) _=_/\_;by_cases hk:k=n
  ·subst hk;exact⟨u,jBB rfl,h.1⟩
  ·rw[jBC (by intro z; have:=hG z; lia)];rcases aI.mp hm with z | z
   ·exact absurd z.symm hk
   ·exact jFX h.2 (ce.mp nd).2 z
theorem jC9:∀ {ns:List Nat}{us:List V}{n:Nat},n∉ns->valV (gvs ns us) (.inl (n:Int))=none
 | [],_,_,_=>by
  unfold gvs;rw[List.zip_nil_left];rfl
 | k::ns,[],_,_=>rfl
 | k::ns,u::us,n,h=>by
  show valV ((Sum.inl (k:Int),u)::gvs ns us) _=_;rw[jBC (by intro z; have:=hG z; exact h (by rw[show n=k by lia]; exact ai ..))];exact jC9 fun z=>h (ag _ z)
theorem jRE {ns:List Nat}{us:List V}{n:Nat}{u:V}(h:ns.length=us.length):gvs (ns++[n]) (us++[u])=gvs ns us++[(Sum.inl (n:Int),u)]:=by
 unfold gvs;rw[List.zip_append h,aS];rfl
section
variable {ch:Ch}{R:RepT}
abbrev nGath:An:=["choices","at_end","join","full","values","mask"]
theorem scGath:FnScope nGath ["choices","at_end","join"] (j7 qS):= {}
def jN4 (j:Addr)(zh:Hp->Prop)(ch:Ch)(R:RepT):Sp:=fun vs H Q _=>∃ (L:Addr) (ve:V),vs=[.ref L,ve, .ref j]/\ChAt H L ch/\R (fullN ch) H ve/\zh H/\∀ (r:Addr) (ns:List Nat) (H':Hp),GotAt H' r ch R ns->ns.Pairwise (· > ·)->MetOk ch ns->Ext H H'->H r=none->Q (.ref r) H'
def jP4 (T:Txt mg)(CA:Can P w K mg Ar "choices_at" 1 fA fdA ["choices","mask"] spAt)(CJ:Callee P w K mg Ar Z zh 3 j (jFF ch R))(zs:ZSt Z)(hz:Z s H0)(hr:Room 3 (XOf nGath "gathered" qS P w K mg Ar f lI A Aq s H0 E).A): { t:TS // JSs (XOf nGath "gathered" qS P w K mg Ar f lI A Aq s H0 E) (jBV ((jC qS).getD 2 (.Pass ⟨0,0,0,0⟩))) t} :=
 have nd:=scGath.nd
 ⟨_,(jE (yF (jW qQ (jv 5 rfl vC) (jv 3 rfl vL) (jV _)) (jE (jJD (hu_of hr) (jv 4 rfl vC) (jv 5 rfl vC) (jv 1 rfl vL) jT8)) (jE (jJD (hu_of hr) (jv 4 rfl vC) (jv 5 rfl vC) (jL3 (j:=2) CJ (hr.mono Ac) zs hz rfl rfl vL (j3 (kE (m:=[none,none,some 4,some 5]) (Nc:=["number","more","values","mask"]) rfl (yL (CA.je (hr.mono Ac) gD (j3 (jv 0 rfl vL) (j3 (jv 5 rfl vC) j8 j4) j4) j4)) rfl Ab Ab (jM (psc:=j7 qS)) (jH (N:=nGath) rfl rfl Ab) (fun cl C fp s H=>jCJ (i:=0) (j:=1) rfl (show (["number","more","values","mask"]:An).Nodup by decide+kernel) rfl rfl Ab Ab) (fun cl C fp s H=>kP) (fun cl C fp s H=>(y4 (j3 (jv 0 rfl jS) (j3 (jGO (hu_of hr) (jv 2 rfl kQ) (jZ op_or (jv 3 rfl kQ) (jv 1 rfl jS)) jSA) j8 jN) j4))) y6) j8 jF) jF) jY))))⟩
def gathA (T:Txt mg)(CF:Can P w K mg Ar "full_mask" 1 fF fdF ["choices"] jFG)(CM:Can P w K mg Ar "masks_met" 2 fM fdM ["choices"] spMet)(CA:Can P w K mg Ar "choices_at" 1 fA fdA ["choices","mask"] spAt)(CJ:Callee P w K mg Ar Z zh 3 j (jFF ch R))(zs:ZSt Z)(hz:Z s H0)(hr:Room 3 (XOf nGath "gathered" qS P w K mg Ar f lI A Aq s H0 E).A): { t:TS // JSs (XOf nGath "gathered" qS P w K mg Ar f lI A Aq s H0 E) (jC qS) t} :=
 have nd:=scGath.nd
 ⟨_,(jB (jO (i:=3) nd rfl lL (CF.je (hr.mono Ac) gD (j3 (jv 0 rfl vL) j8 j4) j4) jY) (jB (jO (i:=4) nd rfl loc_c (jRA) jMY) (jB (jBX cC rfl (yL (CM.je (hr.mono Ac) gD (j3 (jv 0 rfl vL) j8 j4) j4)) (jL (i:=5) nd rfl loc_c) (jP4 T CA CJ zs hz hr).2 y6) (jE (jQ (jv 4 rfl vC))))))⟩
theorem jNN {fd:FuncData}(F:Fun K "gathered" "gathered" qS f fd)(T:Txt mg)(CF:Can P w K mg Ar "full_mask" 1 fF fdF ["choices"] jFG)(CM:Can P w K mg Ar "masks_met" 2 fM fdM ["choices"] spMet)(CA:Can P w K mg Ar "choices_at" 1 fA fdA ["choices","mask"] spAt)(CJ:Callee P w K mg Ar Z zh 3 j (jFF ch R))(zs:ZSt Z)(zo:HpOk zh)(ro:RepOk R)(ok:ChOk ch):FnZ P w K mg Ar CX0 Z 4 f fd ["choices","at_end","join"] (jN4 j zh ch R):=by
 refine F.okZ scGath (fun vs H Q E h=>?_) (fun lI A Aq s H vs Q E hr hz h=>?_)
 ·obtain⟨_,_,rfl,_⟩:=h;rfl
 ·obtain⟨L,ve,rfl,hL,he,hzh,q⟩:=h;refine⟨_,(gathA T CF CM CA CJ zs hz hr).2.h,?_⟩;have w16:=ok.w;have p16:2 ^ ch.length<=2 ^ 16:=cj Ac w16;refine⟨_,rfl,L,ch,rfl,hL,w16,?_⟩;refine fun D nD=>?_;have e1:Ext H (L2.upd H D (.dK [])):=(Ext.refl _).new nD _;have hD1:(L2.upd H D (.dK [])) D=some (.dK []):=j5;generalize L2.upd H D (.dK [])=H1 at e1 hD1;refine⟨_,rfl,L,ch,rfl,hL.ext e1,ok,fun r ns H2 hr2 srt mt e2 nr=>?_⟩;have hD2:=e2 _ _ hD1;have rD:r≠D:=fun z=>by rw[z,hD1] at nr; cases nr
  have E2:=e1.trans e2;have nsn:ns.Nodup:=srt.imp fun {a b} h=>by lia
  have nsl:=jAY nsn mt.bnd;refine⟨r,rfl,⟨_,SqL.of hr2⟩,jBM (xs:=ns.map natV) (fun i σ H'=>(∃ v5,σ=[some (.ref L),some ve,some (.ref j),some (natV (fullN ch)),some (.ref D),v5])/\(∀ b o,H2 b=some o->b≠D->H' b=some o)/\GotAt H' D ch R (ns.take i)) ⟨⟨_,rfl⟩,fun b o h _=>h,[],hD2,trivial⟩ (fun i σ H' _ ⟨_,k,_⟩=>SqL.of (k _ _ hr2 rD)) ?_ ?_⟩
  ·rintro i x σ H' hx ⟨⟨v5,rfl⟩,k,us,hD',au⟩;obtain⟨m,hm,rfl⟩:∃ m,ns[i]?=some m/\natV m=x:=by
    rw[aV] at hx;cases hq:ns[i]? with
    | none=>rw[hq] at hx; cases hx
    | some z=>rw[hq] at hx; cases hx; exact⟨z,rfl,rfl⟩
   have hmn:=aH hm;have hm2:=mt.bnd m hmn;have il:i<ns.length:=(ao.mp hm).1;have tk:ns.take (i+1)=ns.take i++[m]:=by rw[be,hm]; rfl
   have kl:(gvs (ns.take i) us).length<sizeLine:=by
    unfold gvs;rw[af,ke,bO,aE];lia
   have kH:∀ b o,H b=some o->H' b=some o:=fun b o h=>k _ _ (E2 _ _ h) fun z=>by rw[z,nD] at h; cases h
   have mi:m∉ns.take i:=fun z=>by
    obtain⟨a,ha⟩:=bh z;have al:a<i:=by have:=(ao.mp ha).1; rw[bO] at this; lia
    rw[cD al] at ha;have:=(fj Aa nsn).mp (ha.trans hm.symm);lia
   have fin:∀ (u:V) (H3:Hp),(∀ b o,H' b=some o->H3 b=some o)->R m H3 u->DPut H3 D (natV m) u (L2.upd H3 D (.dK (gvs (ns.take (i+1)) (us++[u]))))/\((∃ v5,[some (V.ref L),some ve,some (.ref j),some (natV (fullN ch)),some (.ref D),some (natV m)]=[some (V.ref L),some ve,some (.ref j),some (natV (fullN ch)),some (.ref D),v5])/\(∀ b o,H2 b=some o->b≠D->(L2.upd H3 D (.dK (gvs (ns.take (i+1)) (us++[u])))) b=some o)/\GotAt (L2.upd H3 D (.dK (gvs (ns.take (i+1)) (us++[u])))) D ch R (ns.take (i+1))):=fun u H3 e3 ru=>by
    have hD3:=e3 _ _ hD';have up:∀ b o,H3 b=some o->b≠D->(L2.upd H3 D (.dK (gvs (ns.take (i+1)) (us++[u])))) b=some o:=fun b o h n=>by rw[j9 n]; exact h
    refine⟨?_,⟨_,rfl⟩,fun b o h n=>up b o (e3 _ _ (k b o h n)) n,us++[u],j5,?_⟩
    ·have:=DPut.k (k:=Sum.inl ((m:Nat):Int)) (v:=u) hD3 kl;rw[jKG _ (jC9 mi),<- jRE au.len,<- tk] at this;exact this
    ·rw[tk];refine All2.snoc ?_ ((ro m u).keep _ _ D _ hD3 (by rw[<- tk]; exact up) ru);rw[<- tk];exact au.imp fun n u h=>(ro n u).keep _ _ D _ hD3 up ((ro n u).ext _ _ e3 h)
   refine⟨_,rfl,_,rfl,rfl,_,rfl,?_⟩;have ef:decide (natV m=natV (fullN ch))=true↔m=fullN ch:=by
    rw[br];exact⟨fun h=>by have:=V.int.inj h; lia,fun h=>by rw[h]⟩
   refine ite2 (fun h=>?_) (fun h=>?_)
   ·have h:=ef.mp h;obtain⟨f1,f2⟩:=fin ve H' (fun b o h=>h) (by rw[h]; exact(ro _ _).ext _ _ kH he);exact⟨_,rfl,_,rfl,_,rfl,D,_,rfl,f1,f2⟩
   ·have h:m≠fullN ch:=fun z=>h (ef.mpr z);refine⟨rfl,_,rfl,_,rfl,L,ch,m,rfl,hL.ext kH,ok,hm2,h,fun r4 H4 ⟨vs4,hr4,av4⟩ e4 n4=>?_⟩;have hD4:=e4 _ _ hD';have vl4:vs4.length<=33:=by
     rw[av4.len];have hlow:=qH hm2 h;refine bv (bS _ _) ?_;rw[am,aC hlow];exact ok.len _ _ (aC hlow)
    refine⟨r4,rfl,⟨_,SqL.of hr4⟩,jB1 (xs:=vs4) (fun σ=>∃ v1 v2,σ=[v1,v2,some (.ref D),some (natV m)]) (fun H' zs t=>All2 (fun v c=>∃ q u,v= .ref q/\H' q=some (.tup [.int c.1,u])/\R (m|||c.2) H4 u) zs ((chAt ch m).take t)) ⟨fun H=>trivial,fun H H' zs t tu hz=>hz.imp fun v c ⟨q,u,a1,a2,a3⟩=>⟨q,u,a1,tu _ _ a2,a3⟩,fun H zs t hz=>?_⟩ hr4 (by rw[aE]; lia) ⟨_,_,rfl⟩ ?_ ?_⟩
    ·rw[hz.len];exact bC _ _
    ·rintro t x σ' H5 zs hx ⟨v1,v2,rfl⟩ e5 hz5 S1 S2 yes no;obtain⟨c,hc,qa,rfl,hq⟩:=av4.get' hx;have hcm:=aH hc;obtain⟨u1,u2⟩:=ok.up hm2 h hcm;have ut:=mt.up m hmn h c hcm;have up:(m|||c.2)∈ns.take i:=by
      obtain⟨a,ha⟩:=bh ut;have al:a<i:=by
       refine bR fun z=>?_;have a1:=(ao.mp ha);have m1:=(ao.mp hm);rcases dU i a with y | y
       ·have:=bQ.mp srt i a il a1.1 y;rw[a1.2,m1.2] at this;lia
       ·have:a=i:=by lia
        subst this;rw[hm] at ha;have:=bD ha;lia
      exact aH (i:=a) (by rw[cD al]; exact ha)
     obtain⟨u,hu,ru⟩:=jFX au (nsn.sublist (eC _ _)) up;have et:(chAt ch m).take (t+1)=(chAt ch m).take t++[c]:=by rw[be,hc]; rfl
     have dg:DGet H5 D (.int (Builtin.bitOr (m:Int) (c.2:Int))) (some u):=by
      rw[jCQ,<- hu];exact DGet.k (k:=Sum.inl (((m|||c.2:Nat):Nat):Int)) (e5 _ _ hD4)
     refine⟨qa,_,rfl,SqT.of (e5 _ _ hq),rfl,_,_,rfl,_,_,rfl,rfl,?_⟩;dsimp only [yK];rw[aq rfl];refine⟨_,rfl,_,rfl,_,rfl,_,rfl,_,_,rfl,rfl,D,u,rfl,dg,by show (2:Nat)<=_; decide,fun r6 H6 d6 e6=>yes _ _ _ ⟨_,_,rfl⟩ e6 ?_⟩;show All2 _ _ ((chAt ch m).take (t+1));rw[et];exact(hz5.imp fun v c ⟨q,u,a1,a2,a3⟩=>⟨q,u,a1,e6 _ _ a2,a3⟩).snoc ⟨r6,u,rfl,d6,(ro _ _).ext _ _ e4 ru⟩
    ·rintro D7 H7 zs hD7 e7 n7 hz7;rw[av4.len,bq] at hz7;refine⟨zo.ext _ _ (fun b o h=>e7 _ _ (e4 _ _ (kH b o h))) hzh,D7,zs,m,rfl,hD7,hm2,h,hz7.imp fun v c ⟨q,u,a1,a2,a3⟩=>⟨q,u,a1,a2,(ro _ _).ext _ _ e7 a3⟩,fun rr H8 r8 e8=>?_⟩;obtain⟨f1,f2⟩:=fin rr H8 (fun b o h=>e8 _ _ (e7 _ _ (e4 _ _ h))) r8;exact⟨_,rfl,_,rfl,D,_,rfl,f1,f2⟩
  ·rintro σ H' ⟨⟨v5,rfl⟩,k,got⟩;rw[af,bq] at got;exact⟨_,rfl,q D ns H' got srt mt (fun b o h=>k _ _ (E2 _ _ h) fun z=>by rw[z,nD] at h; cases h) nD⟩
end
end Eo
namespace L2
open PySem
def spEx {α:Type}(p:α->Prop)(sp:α->Sp):Sp:=fun vs H Q E=>∃ a,p a/\sp a vs H Q E
theorem FnOk.ex {α:Type}{p:α->Prop}{sp:α->Sp}{P:Program}{w:World}{K:W.Frag}{mg:Ak}{Ar:Heap}{CX:CXT}{k:Nat}{f:Addr}{fd:FuncData}{ps:An}(h:∀ a,p a->FnOk P w K mg Ar CX k f fd ps (sp a)):FnOk P w K mg Ar CX k f fd ps (spEx p sp):=
 ⟨fun vs H Q E ⟨a,pa,q⟩=>(h a pa).len vs H Q E q,fun A Aq s H args us vs Q E hr he hb hv ⟨a,pa,q⟩=>(h a pa).run A Aq s H args us vs Q E hr he hb hv q⟩
theorem Callee.mono {P:Program}{w:World}{K:W.Frag}{mg:Ak}{Ar:Heap}{Z:Shared->Hp->Prop}{zh:Hp->Prop}{i k:Nat}{a:Addr}{sp:Sp}(C:Callee P w K mg Ar Z zh i a sp)(h:i<=k):Callee P w K mg Ar Z zh k a sp:=
 ⟨C.fn,fun A Aq s H us vs Q E hr=>C.run A Aq s H us vs Q E (hr.mono h)⟩
theorem Callee.imp {P:Program}{w:World}{K:W.Frag}{mg:Ak}{Ar:Heap}{Z Z':Shared->Hp->Prop}{zh:Hp->Prop}{k:Nat}{a:Addr}{sp:Sp}(C:Callee P w K mg Ar Z zh k a sp)(h:∀ s H,Z' s H->Z s H):Callee P w K mg Ar Z' zh k a sp:=
 ⟨C.fn,fun A Aq s H us vs Q E hr he hz=>C.run A Aq s H us vs Q E hr he (h _ _ hz)⟩
theorem FnOk.never {P:Program}{w:World}{K:W.Frag}{mg:Ak}{Ar:Heap}{CX:CXT}{k:Nat}{f:Addr}{fd:FuncData}{ps:An} :FnOk P w K mg Ar CX k f fd ps (fun _ _ _ _=>False):=
 ⟨fun _ _ _ _ h=>h.elim,fun _ _ _ _ _ _ _ _ _ _ _ _ _ h=>h.elim⟩
theorem jS8 {a:Arguments}{b:Expr}{sc:Scope}{pos:Pos}{es:List Expr}{env:Env} :starEach (.Lambda a b sc pos::es) env=(false,eval (.Lambda a b sc pos) env)::starEach es env:=rfl
end L2
namespace Eo
open PySem L2
theorem got0 {H:Hp}{r:Addr}{ch:Ch}{R:RepT}{ns:List Nat}(g:GotAt H r ch R ns)(nd:ns.Pairwise (· > ·))(m:MetOk ch ns):∃ u,DGet H r (.int 0) (some u)/\R 0 H u:=by
 obtain⟨us,h1,h2⟩:=g.ex;obtain⟨u,hu,ru⟩:=jFX h2 (nd.imp fun {a b} h=>by lia) m.zero;refine⟨u,?_,ru⟩;have:=DGet.k (k:=Sum.inl (0:Int)) h1;rw[show valV (gvs ns us) (Sum.inl (0:Int))=some u from hu] at this;exact this
end Eo
namespace L2
open PySem PySem.Spec PyProof.Rows
end L2
namespace Eo
open PySem L2
def yS (pc:List Int×Int):Int:=pc.1.getD 0 0
def cntF (As:Ae)(t:Int):Nat:=As.countP fun pc=>decide (t<=yS pc)
def lead (As:Ae)(t:Int)(i:Nat):Nat:=(As.take i).countP fun pc=>decide (yS pc=t)
theorem jID (t:Int):∀ As:Ae,cntF As t=cntF As (t+1)+As.countP fun pc=>decide (yS pc=t)
 | []=>rfl
 | p::r=>by
  have ih:=jID t r;unfold cntF at ih ⊢;rw[cF,cF,cF,ih];by_cases h1:yS p=t
  ·have h2:t<=yS p:=Aa;have h3:¬ t+1<=yS p:=Aa;have h4:¬ t+1<=t:=Aa;simp [h1,h4]
   try lia
  ·by_cases h2:t<=yS p
   ·have h3:t+1<=yS p:=Aa;simp [h1,h2,h3];lia
   ·have h3:¬ t+1<=yS p:=Aa;simp [h1,h2,h3]
theorem jX7 (As:Ae)(t:Int):cntF As t<=As.length:=List.countP_le_length
theorem jR2 (As:Ae)(t:Int):2 ^ cntF As (t+1)*(1+lead As t As.length)<=2 ^ cntF As t:=by
 unfold lead;rw[bq,jID t As,iZ];refine gb _ ?_;have:=Nat.lt_two_pow_self (n:=As.countP fun pc=>decide (yS pc=t));lia
theorem jOD {As:Ae}{t:Int}{i:Nat}{pc:List Int×Int}(h:As[i]?=some pc):lead As t (i+1)=lead As t i+if yS pc=t then 1 else 0:=by
 unfold lead;rw[be,h];show ((As.take i)++[pc]).countP _=_;rw[List.countP_append,cF,List.countP_nil];simp
theorem jJ2 {As:Ae}{t:Int}(h:As.length<=16):2 ^ cntF As t<=65536:=by
 have:=jX7 As t;exact bv (cj Ac (bv this h)) Ac
def wJ (l:List (Int×Af)):Af:=l.flatMap fun p=>p.2.map fun x=>if p.1<0 then x else p.1::x
def wk (ch:Ch)(m:Nat):Af:=gv ch [[]] wJ m
theorem jH4 (a b:List (Int×Af)):wJ (a++b)=wJ a++wJ b:=lb
theorem jAI (ch:Ch):wk ch (fullN ch)=[[]]:=jUU
theorem yW {ch:Ch}{m:Nat}(o:ChOk ch)(h:m<2 ^ ch.length)(hn:m≠fullN ch):wk ch m=wJ ((chAt ch m).map fun c=>(c.1,wk ch (m|||c.2))):=jUT o h hn
theorem jGG (w:Nat):lowN (2 ^ w - 1)=w:=by
 refine jO7 ?_ fun j hj=>?_
 ·rw[cI,aM Aa]
 ·rw[cI,ar hj]
theorem jSK {m c:Nat}(h:c.testBit (lowN m)=true):lowN m<lowN (m|||c):=by
 refine bR fun z=>?_;have n1:=jD2 (m|||c);rw[b8] at n1;rcases dU (lowN (m|||c)) (lowN m) with y | y
 ·rw[jEJ m _ y] at n1;cases n1
 ·rw[show lowN (m|||c)=lowN m by lia,h,gG] at n1;cases n1
theorem jBA {ch:Ch}(o:ChOk ch){P:Nat->Prop}(h0:P (fullN ch))(hs:∀ m,m<2 ^ ch.length->m≠fullN ch->(∀ c∈chAt ch m,P (m|||c.2))->P m):∀ m,m<2 ^ ch.length->P m:=by
 intro m hm;generalize hk:fullN ch - m=k
 induction k using strongRecOn generalizing m with
 | _ k ih=>
  by_cases hf:m=fullN ch
  ·rw[hf];exact h0
  ·have hlt:m<fullN ch:=by
    unfold fullN at hf ⊢;lia
   refine hs m hm hf fun c hc=>?_;obtain⟨u1,u2⟩:=o.up hm hf hc;exact ih (fullN ch - (m|||c.2)) Aa _ u2 rfl
theorem mem_wJ {l:List (Int×Af)}{x:Ag} :x∈wJ l↔∃ p∈l,∃ y∈p.2,x=if p.1<0 then y else p.1::y:=by
 unfold wJ;rw[List.mem_flatMap];refine exists_congr fun p=>kg fun _=>?_;rw[aw];exact exists_congr fun y=>kg fun _=>eq_comm
theorem jFA {ch:Ch}(o:ChOk ch):∀ m,m<2 ^ ch.length->∀ x∈wk ch m,(∀ k∈x,0<=k/\k<32)/\x.length+lowN m<=ch.length:=by
 refine jBA o ?_ ?_
 ·intro x hx;rw[jAI,aN] at hx;subst hx;refine⟨fun k hk=>(by cases hk),?_⟩;unfold fullN;rw[jGG];simp
 ·intro m hm hf ih x hx;rw[yW o hm hf] at hx;obtain⟨p,hp,y,hy,rfl⟩:=mem_wJ.mp hx;obtain⟨c,hc,rfl⟩:=aw.mp hp;obtain⟨i1,i2⟩:=ih c hc y hy;obtain⟨m1,m2,m3,m4,m5⟩:=o.mem hm hf hc;have lo:=jSK m1;dsimp only;split
  ·exact⟨i1,Aa⟩
  ·refine⟨fun k hk=>?_,by rw[aU]; lia⟩;rcases aI.mp hk with z | z
   ·subst z;lia
   ·exact i1 k z
theorem jMB (l:Ag):l.getD 0 0=l.headD 0:=by cases l <;> rfl
theorem jM7 (As:Ae)(t:Nat)(i:Nat)(hi:i<=As.length):(((upto As.length).take i).filter fun k=>decide ((j6 As k).headD 0=(t:Int))).length=lead As t i:=by
 induction i with
 | zero=>rfl
 | succ i ih=>
  have hil:i<As.length:=Aa;rw[jE4 hil,bN,aL,ih Aa,jOD (aC hil)];congr 1;rw[cN,kf];have e:j6 As (i:Int)=As[i].1:=by
   unfold j6;rw[bz,am,aC hil];rfl
  unfold yS;rw[e,jMB];by_cases h:As[i].1.headD 0=(t:Int)
  ·rw[aq (ar h),aq h];rfl
  ·rw[ak (fun z=>h (aG z)),ak h];rfl
theorem jRM (As:Ae){s t:Int}(h:s<=t):cntF As t<=cntF As s:=by
 unfold cntF;refine List.countP_mono_left fun x _ hx=>?_;have:=aG hx;exact ar Aa
theorem jI9 {α β:Type}(f:α->List β)(B:Nat):∀ (l:List α),(∀ a∈l,(f a).length<=B)->(l.flatMap f).length<=l.length*B
 | [],_=>by simp
 | a::l,h=>by
  rw[dM,aL,aU,Nat.succ_mul];have h1:=h a (ai ..);have h2:=jI9 f B l fun x hx=>h x (ag _ hx);lia
theorem jML {w:Int}{ms:Ag}{As:Ae}(g:Good 16 32 w ms As):∀ m,m<2 ^ (chs w.toNat ms As).length->(wk (chs w.toNat ms As) m).length<=2 ^ cntF As (lowN m:Nat):=by
 have o:ChOk (chs w.toNat ms As):=yP g;refine jBA o ?_ ?_
 ·rw[jAI];exact Nat.one_le_two_pow
 ·intro m hm hf ih;have hl:lowN m<w.toNat:=by
   have:=qH hm hf;unfold chs at this
   rwa [kJ] at this
  rw[yW o hm hf];unfold wJ;refine bv (jI9 _ (2 ^ cntF As ((lowN m:Nat)+1:Int)) _ fun p hp=>?_) ?_
  ·obtain⟨c,hc,rfl⟩:=aw.mp hp;rw[af];have lo:=jSK (o.mem hm hf hc).1;exact bv (ih c hc) (cj Ac (jRM As Aa))
  ·rw[af,Nat.mul_comm];refine bv (gb _ ?_) (jR2 As (lowN m:Nat));unfold chAt;refine bv (bS _ _) ?_;unfold chs;rw[am,yE hl];show (kY ms As As.length (lowN m)).length<=_;unfold kY;rw[aL,af,jM7 As _ _ (aA _)];split <;> simp only [aU,cA] <;> lia
theorem jF1 (a b:Int):decide (V.int a=V.int b)=decide (a=b):=by
 rw[bZ,br,br];exact⟨fun h=>V.int.inj h,fun h=>by rw[h]⟩
def LsAt (H:Hp)(us:List V)(ws:Af):Prop:=All2 (fun v x=>∃ a,v=V.ref a/\H a=some (.tup (x.map V.int))) us ws
theorem LsAt.mono {H H':Hp}{us:List V}{ws:Af}(t:Tups H H')(h:LsAt H us ws):LsAt H' us ws:=All2.imp (fun v x ⟨a,e,q⟩=>⟨a,e,t _ _ q⟩) h
def cvs (w:Int)(ms:Ag)(As:Ae):Af:=(wk (chs w.toNat ms As) 0).map srt
structure MkOk (w:Nat)(t:Nat)(hs:Ag)(m:Nat):Prop where
 lt:m<2 ^ w
 lo:∀ j,j<t->m.testBit j=true
 hi:∀ j,t<=j->j<w->(m.testBit j=true↔(j:Int)∈hs)
theorem MkOk.full {w:Nat}{hs:Ag}{m:Nat}(h:MkOk w w hs m):m=2 ^ w - 1:=jP5 h.lt h.lo
theorem MkOk.held {w t:Nat}{hs:Ag}{m:Nat}(h:MkOk w t hs m)(ht:t<w)(hm:(t:Int)∈hs):MkOk w (t+1) hs m:=by
 refine⟨h.lt,fun j hj=>?_,fun j h1 h2=>h.hi j Aa h2⟩;rcases dU j t with y | y
 ·exact h.lo j y
 ·rw[show j=t by lia];exact(h.hi t (aA _) ht).mpr hm
theorem MkOk.low {w t:Nat}{hs:Ag}{m:Nat}(h:MkOk w t hs m)(ht:t<w)(hm:¬ (t:Int)∈hs):lowN m=t:=
 jO7 (ck.mpr fun z=>hm ((h.hi t (aA _) ht).mp z)) h.lo
theorem MkOk.ne {w t:Nat}{hs:Ag}{m:Nat}(h:MkOk w t hs m)(ht:t<w)(hm:¬ (t:Int)∈hs):m≠2 ^ w - 1:=fun z=>by
 have:=h.low ht hm;rw[z,jGG] at this;lia
theorem MkOk.may {w t:Nat}{hs:Ag}{m:Nat}(h:MkOk w t hs m)(ht:t<w):MkOk w (t+1) hs (m|||2 ^ t):=by
 refine⟨iX h.lt (hV Ac ht),fun j hj=>?_,fun j h1 h2=>?_⟩
 ·rw[b8,cO];rcases dU j t with y | y
  ·rw[h.lo j y];rfl
  ·rw[show j=t by lia,ar rfl,gG]
 ·rw[b8,cO,aM Aa,Bool.or_false];exact h.hi j Aa h2
theorem MkOk.piece {w t:Nat}{hs:Ag}{m:Nat}{own:Ag}(h:MkOk w t hs m)(ht:t<w)(l:Lot (w:Int) own)(hd:(t:Int)∈own):MkOk w (t+1) (hs++own) (m|||maskN own):=by
 have b0:∀ x∈own,0<=x:=fun x hx=>(l.bnd x hx).1;refine⟨iX h.lt (jEI l.ris l.bnd),fun j hj=>?_,fun j h1 h2=>?_⟩
 ·rw[b8,jA2 own j l.ris b0];rcases dU j t with y | y
  ·rw[h.lo j y];rfl
  ·rw[show j=t by lia,ar hd,gG]
 ·rw[b8,jA2 own j l.ris b0,fb,br,aJ];exact or_congr (h.hi j Aa h2) Iff.rfl
theorem MkOk.fits {w t:Nat}{hs:Ag}{m:Nat}{own:Ag}(h:MkOk w t hs m)(l:Lot (w:Int) own)(hd:own.headD 0=(t:Int)):(maskN own&&&m==0)=!(own.any fun x=>decide (x∈hs)):=by
 have b0:∀ x∈own,0<=x:=fun x hx=>(l.bnd x hx).1;have ge:∀ x∈own,(t:Int)<=x:=fun x hx=>by
  cases ho:own with
  | nil=>rw[ho] at hx; cases hx
  | cons a r=>
   rw[ho] at hd hx;have hd:a=t:=hd;have lr:=l.ris;rw[ho] at lr;rcases aI.mp hx with z | z
   ·lia
   ·have:=(cR.mp lr).1 x z;lia
 rw[bZ,fq,cH,List.any_eq_false];constructor
 ·intro z x hx hh;have hh:=aG hh;have bx:=l.bnd x hx;have t1:=(h.hi x.toNat (by have:=ge x hx; lia) Aa).mpr (by rw[show ((x.toNat:Nat):Int)=x by lia]; exact hh);have t2:(maskN own).testBit x.toNat=true:=by
   rw[jA2 own _ l.ris b0,br,show ((x.toNat:Nat):Int)=x by lia];exact hx
  have t3:=bW (fun y=>y.testBit x.toNat) z;simp only [di,t1,t2,dy] at t3;cases t3
 ·intro z;apply cJ;intro i;rw[di,dy,jA2 own i l.ris b0];by_cases hi:(i:Int)∈own
  ·have bx:=l.bnd _ hi;have gi:=ge _ hi;rw[ar hi,eL];refine ck.mpr fun y=>?_;exact z _ hi (ar ((h.hi i Aa Aa).mp y))
  ·rw[aM hi];rfl
def wkI (ch:Ch)(ms:Ag)(As:Ae)(m t i:Nat):Af:=wJ (((kY ms As i t).filter fun c=>c.2&&&m==0).map fun c=>(c.1,wk ch (m|||c.2)))
theorem jMG {n:Nat}{ms:Ag}{As:Ae}(hn:n<As.length)(u:Nat):kY ms As (n+1) u=kY ms As n u++if (j6 As (n:Int)).headD 0=(u:Int) then [((n:Int),maskN (j6 As n))] else []:=by
 unfold kY;rw[jE4 hn,bN,aS,aZ];congr 2;rw[cN];by_cases hu:(j6 As (n:Int)).headD 0=(u:Int)
 ·rw[aq (ar hu),aq hu];rfl
 ·rw[ak (fun z=>hu (aG z)),ak hu];rfl
theorem jQ3 {ch:Ch}{ms:Ag}{As:Ae}{m t:Nat}(hb:m.testBit t=false):wkI ch ms As m t 0=if (t:Int)∈ms then wk ch (m|||2 ^ t) else []:=by
 unfold wkI;rw[jDA];by_cases h:(t:Int)∈ms
 ·have e:(2 ^ t&&&m==0)=true:=by
   rw[fq];apply cJ;intro i;rw[di,dy,cO];by_cases hi:t=i
   ·subst hi;rw[hb,dD]
   ·rw[aM hi];rfl
  rw[aq h,aq h,cN,aq e];show wJ [(-1,wk ch (m|||2 ^ t))]=_;unfold wJ;rw[gP];exact(bI fun x _=>aq (show (-1:Int)<0 by decide)).trans (ie _)
 ·rw[ak h,ak h];rfl
theorem jJY {ch:Ch}{ms:Ag}{As:Ae}{m t i:Nat}(hi:i<As.length):wkI ch ms As m t (i+1)=wkI ch ms As m t i++if (j6 As (i:Int)).headD 0=(t:Int)/\(maskN (j6 As (i:Int))&&&m==0)=true then (wk ch (m|||maskN (j6 As (i:Int)))).map ((i:Int):: ·) else []:=by
 unfold wkI;rw[jMG hi,bN,aS,jH4];congr 1;by_cases h1:(j6 As (i:Int)).headD 0=(t:Int)
 ·rw[aq h1,cN];by_cases h2:(maskN (j6 As (i:Int))&&&m==0)=true
  ·rw[aq h2,aq ⟨h1,h2⟩];show wJ [((i:Int),wk ch (m|||maskN (j6 As (i:Int))))]=_;unfold wJ;rw[gP];exact bI fun x _=>ak Aa
  ·rw[ak h2,ak (fun z=>h2 z.2)];rfl
 ·rw[ak h1,ak (fun z=>h1 z.1)];rfl
theorem jT3 {w:Int}{ms:Ag}{As:Ae}{m t:Nat}(g:Good 16 32 w ms As)(hm:m<2 ^ w.toNat)(hf:m≠2 ^ w.toNat - 1)(hl:lowN m=t)(ht:t<w.toNat):wkI (chs w.toNat ms As) ms As m t As.length=wk (chs w.toNat ms As) m:=by
 have o:ChOk (chs w.toNat ms As):=yP g;have el:(chs w.toNat ms As).length=w.toNat:=kJ _ _ _ _;rw[yW o (by rw[el]; exact hm) (by unfold fullN; rw[el]; exact hf)];unfold wkI chAt;have:(chs w.toNat ms As).getD (lowN m) []=kY ms As As.length t:=by
  rw[hl,am];unfold chs;rw[yE ht];rfl
 rw[this]
theorem jQ4 {ch:Ch}{ms:Ag}{As:Ae}{m t i:Nat}(hi:i<=As.length):(wkI ch ms As m t i).length<=(wkI ch ms As m t As.length).length:=by
 have key:∀ d i,i+d=As.length->(wkI ch ms As m t i).length<=(wkI ch ms As m t As.length).length:=by
  intro d
  induction d with
  | zero=>intro i h; rw[show i=As.length by lia]; exact aA _
  | succ d ih=>
   intro i h;refine bv ?_ (ih (i+1) Aa);rw[jJY Aa,aL];lia
 exact key (As.length - i) i Aa
def jFH (d:Nat):Sp:=fun vs H Q _=>∃ (b h:Addr) (w:Int) (t:Nat) (ms:Ag) (As:Ae) (hs:Ag) (m:Nat),vs=[.ref b, .int (t:Int), .ref h]/\BoxAt H b w ms As/\Good 16 16 w ms As/\(t:Int)<=w/\w - t<=d/\H h=some (.tup (hs.map V.int))/\hs.length<=16*t/\MkOk w.toNat t hs m/\
 ∀ l us H',H' l=some (.lst us)->LsAt H' us (wk (chs w.toNat ms As) m)->Ext H H'->Q (.ref l) H'
def spNo:Sp:=fun _ _ _ _=>False
def jG2:Nat->Sp
 | 0=>spNo
 | d+1=>jFH d
theorem ok_no {k:Nat}{f:Addr}{fd:FuncData}{ps:An} :FnOk P w K mg Ar CX0 k f fd ps spNo:=⟨fun _ _ _ _ h=>h.elim,fun _ _ _ _ _ _ _ _ _ _ _ _ _ h=>h.elim⟩
abbrev nFrom:An:=["box","thing","held","found","k","own"]
theorem scFrom:FnScope nFrom ["box","thing","held"] (j7 qT):= {}
abbrev XFrom (P:Program)(w:World)(K:W.Frag)(mg:Ak)(Ar:Heap)(f:Addr)(lI:Value)(A:Around)(Aq:List Env)(s:Shared)(H:Hp)(E:XK):Cx:=XOf nFrom "_law_from" qT P w K mg Ar f lI A Aq s H E
def fromL {d:Nat}{sp:Sp}(T:Txt mg)(CF:Can P w K mg Ar "_law_from" (d+1) fF fdF ["box","thing","held"] sp)(hr:Room (d+1) (XFrom P w K mg Ar f lI A Aq s H0 E).A): { t:TS // JSs (XFrom P w K mg Ar f lI A Aq s H0 E) (jBV ((jC qT).getD 4 (.Pass ⟨0,0,0,0⟩))) t} :=
 have nd:=scFrom.nd
 ⟨_,(jB (jO (i:=5) nd rfl lL (jI jJ (jI jJ (jI jJ (jv 0 rfl vL) (je_int) jD) (jv 4 rfl vC) jB6) (je_int) jD) jK3)
   (jE (yF (jt_w (jSR (jW qQ (jI jJ (jv 5 rfl vL) (je_int) jD) (jv 1 rfl vL) (jV _)) (jOJ (jDM (jBW (jK (jF3 rfl) gD T.any Ab (j3 (kE (m:=[none,some 2]) (Nc:=["t","held"]) rfl (qC (jv 5 rfl vL)) rfl Ab Ab (jM (psc:=j7 qT)) (jH (N:=nFrom) rfl rfl Ab) (fun cl C fp s H=>jL (i:=0) (show (["t","held"]:An).Nodup by decide+kernel) rfl yI) (fun cl C fp s H=>kP) (fun cl C fp s H=>(yQ jED (jv 0 rfl jS) (jv 1 rfl kQ) jGB)) yM) j8 jF) jF) jAJ))))) (jE (jO (i:=3) nd rfl lL (jZ jKM (jv 3 rfl vL) (kE (m:=[none,some 4]) (Nc:=["rest","k"]) rfl (yL (CF.je hr gD (j3 (jv 0 rfl vL) (j3 (jZ kU (jv 1 rfl vL) (je_int)) (j3 (jZ jC2 (jv 2 rfl vC) (jv 5 rfl vL)) j8 yB) yB) j4) j4)) rfl Ab Ab (jM (psc:=j7 qT)) (jH (N:=nFrom) rfl rfl Ab) (fun cl C fp s H=>jL (i:=0) (show (["rest","k"]:An).Nodup by decide+kernel) rfl yI) (fun cl C fp s H=>kP) (fun cl C fp s H=>(jZ jC2 (y4 (j3 (jv 1 rfl kQ) j8 j4)) (jv 0 rfl jS))) y6)) jFD)) kN)))⟩
def fromB {d:Nat}{sp:Sp}(T:Txt mg)(CF:Can P w K mg Ar "_law_from" (d+1) fF fdF ["box","thing","held"] sp)(hr:Room (d+1) (XFrom P w K mg Ar f lI A Aq s H0 E).A): { t:TS // JSs (XFrom P w K mg Ar f lI A Aq s H0 E) ((jC qT).drop 4) t} :=
 have nd:=scFrom.nd
 ⟨_,(jB (jBX cC rfl (jAG gD T.range (j3 (jK jT gD T.len Ab (j3 (jI jJ (jv 0 rfl vL) (je_int) jD) j8 jN) jN) j8 jG) jG) (jL (i:=4) nd rfl loc_c) (fromL T CF hr).2 y6) (jE (jQ (jv 3 rfl vL))))⟩
def fromA {d:Nat}{sp:Sp}(T:Txt mg)(CF:Can P w K mg Ar "_law_from" (d+1) fF fdF ["box","thing","held"] sp)(hr:Room (d+1) (XFrom P w K mg Ar f lI A Aq s H0 E).A): { t:TS // JSs (XFrom P w K mg Ar f lI A Aq s H0 E) (jC qT) t} :=
 have nd:=scFrom.nd
 ⟨_,(jB (yF (jW qQ (jv 1 rfl vL) (jI jJ (jv 0 rfl vL) (je_int) jD) (jV _)) (jE (jQ (jB0 (j3 (y4 j8) j8 jDF)))) kN) (jB (yF (jW jEC (jv 1 rfl vL) (jv 2 rfl vC) jGB) (jE (jQ (CF.je hr gD (j3 (jv 0 rfl vL) (j3 (jZ kU (jv 1 rfl vL) (je_int)) (j3 (jv 2 rfl vC) j8 j4) yB) j4) j4))) kN) (jB (jO (i:=3) nd rfl lL (jB0 j8) jFC) (jB (yF (jW jEC (jv 1 rfl vL) (jI jJ (jv 0 rfl vL) (je_int) jD) jNU) (jE (jO (i:=3) nd rfl lL (CF.je hr gD (j3 (jv 0 rfl vL) (j3 (jZ kU (jv 1 rfl vL) (je_int)) (j3 (jv 2 rfl vC) j8 j4) yB) j4) j4) jY)) kN) (fromB T CF hr).2))))⟩
theorem jFR {d:Nat}(T:Txt mg)(CF:Can P w K mg Ar "_law_from" (d+1) fF fdF ["box","thing","held"] (jG2 d))(hr:Room (d+1) (XFrom P w K mg Ar f lI A Aq s H0 E).A)
  {H H1:Hp}{b h l:Addr}{wi:Int}{t m:Nat}{ms:Ag}{As:Ae}{hs:Ag}{us:List V}{v4 v5:Option V}{D:Ends}(hB:BoxAt H b wi ms As) (g:Good 16 16 wi ms As) (t1:(t:Int)<wi) (hd:wi - t<=d) (hh:H h=some (.tup (hs.map V.int))) (hl:hs.length<=16*t) (mk:MkOk wi.toNat t hs m) (hnt:¬ (t:Int)∈hs)
  (e1:Ext H H1) (hf:H1 l=some (.lst us)) (fc:LsAt H1 us (wkI (chs wi.toNat ms As) ms As m t 0))
  (q:∀ l us H',H' l=some (.lst us)->LsAt H' us (wk (chs wi.toNat ms As) m)->Ext H H'->D.rt (.ref l) H'):
  (fromB T CF hr).1 D [some (.ref b),some (.int (t:Int)),some (.ref h),some (.ref l),v4,v5] H1:=by
 obtain⟨qm,qp,ps,b1,b2,b3,b4⟩:=hB.ex;have pl:=b4.len;have gl:=g.pl;have w0:=g.w0;have w1:=g.w1;have g32:Good 16 32 wi ms As:=g.wide Aa Aa;have tw:t<wi.toNat:=Aa;have o:ChOk (chs wi.toNat ms As):=yP g32;have el:(chs wi.toNat ms As).length=wi.toNat:=kJ _ _ _ _;have all:=jT3 (As:=As) (ms:=ms) g32 mk.lt (mk.ne tw hnt) (mk.low tw hnt) tw;have wlen:(wk (chs wi.toNat ms As) m).length<=65536:=bv (jML g32 m (by rw[el]; exact mk.lt)) (jJ2 Aa);refine⟨_,rfl,b,_,2,_,rfl,rfl,SqT.of (e1 _ _ b1),rfl,qp,_,rfl, .inr (SqT.of (e1 _ _ b3)),_,rfl,Aa,Aa,jEV (fun i σ H'=>(∃ l us v4 v5,σ=[some (.ref b),some (.int (t:Int)),some (.ref h),some (.ref l),v4,v5]/\H' l=some (.lst us)/\LsAt H' us (wkI (chs wi.toNat ms As) ms As m t i))/\Ext H H') ⟨⟨_,_,_,_,rfl,hf,fc⟩,e1⟩ ?_ ?_⟩
 ·rintro i σ H2 hi ⟨⟨l2,us2,v4,v5,rfl,g1,g3⟩,e2⟩;have hil:i<ps.length:=Aa;have hip:i<As.length:=Aa;have hy1:ps[i]?=some ps[i]:=aC hil;obtain⟨pc,hpc,pa,pq,hpe,c1,c2⟩:=b4.at hy1;have hlot:=(g.pg pc (aH hpc)).lot;have et:j6 As (i:Int)=pc.1:=by
   unfold j6;rw[bz,am,hpc];rfl
  have lt2:pc.1.length<=16:=by
   have:=jAN _ 0 wi hlot.ris hlot.bnd;lia
  have lt0:atI (pc.1.map V.int) 0=some (.int (pc.1.headD 0)):=by
   cases z:pc.1 with
   | nil=>exact absurd z hlot.ne
   | cons a r=>exact qB (j:=0) rfl
  have at1:atI ps (0+(i:Int))=some (.ref pa):=by rw[jr]; exact qB (by rw[hy1,hpe])
  have hsu:=jJY (ch:=chs wi.toNat ms As) (ms:=ms) (m:=m) (t:=t) hip;rw[et] at hsu;have ul:us2.length<=65536:=by
   rw[g3.len];exact bv (jQ4 Aa) (by rw[all]; exact wlen)
  have keep:∀ (v4 v5:Option V) (H3:Hp),Ext H2 H3->wkI (chs wi.toNat ms As) ms As m t (i+1)=wkI (chs wi.toNat ms As) ms As m t i->(∃ l us v4' v5',([some (.ref b),some (.int (t:Int)),some (.ref h),some (.ref l2),v4,v5]:St)=[some (.ref b),some (.int (t:Int)),some (.ref h),some (.ref l),v4',v5']/\H3 l=some (.lst us)/\LsAt H3 us (wkI (chs wi.toNat ms As) ms As m t (i+1)))/\Ext H H3:=fun v4 v5 H3 e3 ez=>⟨⟨l2,us2,v4,v5,rfl,e3 _ _ g1,by rw[ez]; exact g3.mono e3.tups⟩,e2.trans e3⟩;refine⟨_,rfl,b,_,2,_,rfl,rfl,SqT.of (e2 _ _ b1),rfl,_,rfl,qp,_,_,_,rfl,rfl,SqT.of (e2 _ _ b3),at1,pa,_,0,_,rfl,rfl,SqT.of (e2 _ _ c1),rfl,?_⟩;refine⟨_,rfl,pq,_,0,_,rfl,rfl,SqT.of (e2 _ _ c2),lt0,_,rfl,rfl,_,rfl,?_⟩;rw[jF1];refine ite2 (fun h1=>?_) (fun h1=>?_)
  ·have h1:pc.1.headD 0=(t:Int):=aG h1;have fi:=mk.fits (own:=pc.1) (by rw[show ((wi.toNat:Nat):Int)=wi by lia]; exact hlot) h1;refine⟨_,rfl,pq,rfl,⟨_,SqT.of (e2 _ _ c2)⟩,jLE (xs:=pc.1.map V.int) (fun σ=>∃ v,σ=[v,some (.ref h)]) (mapZ pc.1 fun x=>V.bl (decide (x∈hs))) (mapZ.ok _ _) (e2 _ _ c2) (by rw[af,aE]; lia) ⟨_,rfl⟩ ?_ ?_⟩
   ·rintro j x σ' H' zs hx ⟨v,rfl⟩ e hz S1 S2 yes no;obtain⟨z,hz',rfl⟩:=int_at hx;dsimp only [kR,yK];rw[aq rfl];refine⟨_,rfl,_,rfl,h,_,rfl, .inr (SqT.of (e _ _ (e2 _ _ hh))),rfl,jA5 _,?_⟩;rw[jBK];exact yes _ _ _ ⟨_,rfl⟩ (Ext.refl _) (hz.yes hz')
   ·rintro D' H3 zs h2 e3 hn hz;have hz:=hz.all (by rw[af]; exact aA _);have hz2:zs=(pc.1.map fun x=>decide (x∈hs)).map V.bl:=by rw[hz,bB]; rfl
    rw[hz2] at h2;refine⟨D',_,rfl,SqL.of h2,_,rfl,?_⟩;have ea:((pc.1.map fun x=>decide (x∈hs)).any id)=pc.1.any fun x=>decide (x∈hs):=by rw[lG]; rfl
    rw[ea];have E3:=e2.trans e3;refine ite2 (fun h3=>?_) (fun h3=>keep _ _ H3 e3 ?_)
    ·have h3:(maskN pc.1&&&m==0)=true:=by rw[fi]; exact h3
     rw[aq ⟨h1,h3⟩] at hsu;cases d with
     | zero=>lia
     | succ d=>
     have htm:(t:Int)∈pc.1:=by rw[<- h1]; exact jE1 hlot.ne
     refine⟨_,rfl,_,rfl,_,rfl,_,_,rfl,rfl,_,rfl,_,rfl,h,pq,_,_,rfl,rfl,E3 _ _ hh,E3 _ _ c2,by rw[af,af,aE]; lia,fun r H4 hr4 e4=>?_⟩;have E4:=E3.trans e4;refine⟨b,r,wi,t+1,ms,As,hs++pc.1,m|||maskN pc.1,rfl,hB.mono E4.tups,g,Aa,Aa,by rw[aS]; exact hr4,by rw[aL]; lia,mk.piece tw (by rw[show ((wi.toNat:Nat):Int)=wi by lia]; exact hlot) htm,fun l5 us5 H5 hl5 hc5 e5=>?_⟩;have E5:=E4.trans e5;have mlt:m|||maskN pc.1<2 ^ (chs wi.toNat ms As).length:=by
      rw[el];exact(mk.piece tw (by rw[show ((wi.toNat:Nat):Int)=wi by lia]; exact hlot) htm).lt
     have u5:us5.length<=65536:=by
      rw[hc5.len];exact bv (jML g32 _ mlt) (jJ2 Aa)
     refine⟨l5,rfl,⟨_,SqL.of hl5⟩,jB1 (xs:=us5) (fun σ=>∃ v,σ=[v,some (.int (0+(i:Int)))]) (fun H' zs j=>LsAt H' zs (((wk (chs wi.toNat ms As) (m|||maskN pc.1)).take j).map ((i:Int):: ·))) ⟨fun H=>trivial,fun H H' zs j tt h=>h.mono tt,fun H zs j h=>?_⟩ hl5 (by rw[aE]; lia) ⟨_,rfl⟩ ?_ ?_⟩
     ·rw[h.len,af];exact bC _ _
     ·rintro j x σ' H' zs hx ⟨v,rfl⟩ e hz S1 S2 yes no;obtain⟨ks,hks,a,rfl,ha⟩:=hc5.get' hx;have kl:=(jFA o _ mlt ks (aH hks)).2;dsimp only [kR,yK];rw[aq rfl];refine⟨_,rfl,by rw[aE]; show 1<=_; lia,fun r6 H6 hr6 e6=>⟨_,rfl,r6,a,_,_,rfl,rfl,hr6,e6 _ _ (e _ _ ha),by rw[af,aE]; show 1+_<=_; lia,fun r7 H7 hr7 e7=>?_⟩⟩;have e67:=e6.trans e7;refine yes _ _ _ ⟨_,rfl⟩ e67 ?_;show LsAt H7 _ (((wk (chs wi.toNat ms As) (m|||maskN pc.1)).take (j+1)).map ((i:Int):: ·));rw[be,hks,aS];refine All2.snoc (LsAt.mono e67.tups hz) ⟨r7,rfl,?_⟩;rw[hr7,jr];rfl
     ·rintro D6 H6 zs h26 e6 hn6 hz6;rw[hc5.len,bq] at hz6;have zl:zs.length<=65536:=by
       rw[hz6.len,af,<- hc5.len];exact u5
      refine⟨l2,D6,_,_,rfl,rfl,e6 _ _ (e5 _ _ (e4 _ _ (e3 _ _ g1))),h26,by rw[aE]; lia,fun r7 H7 hr7 e7 hn7=>?_⟩;have E37:=((e3.trans e4).trans e5).trans (e6.trans e7);refine⟨⟨r7,_,_,_,rfl,hr7,?_⟩,e2.trans E37⟩;rw[hsu];exact All2.append (LsAt.mono E37.tups g3) (LsAt.mono e7.tups hz6)
    ·rw[hsu,ak,bf];rintro ⟨_,z⟩;rw[fi] at z;exact h3 z
  ·refine iteF (keep _ _ H2 (Ext.refl _) ?_);rw[hsu,ak,bf];rintro ⟨z,_⟩;exact h1 (ar z)
 ·rintro σ H2 ⟨⟨l2,us2,v4,v5,rfl,g1,g3⟩,e2⟩;have em:((ps.length:Int)).toNat=As.length:=Aa;rw[em,all] at g3;exact⟨_,rfl,q l2 us2 H2 g1 g3 e2⟩
theorem jI7 {fd:FuncData}(d:Nat)(F:Fun K "_law_from" "_law_from" qT f fd)(T:Txt mg)(CF:Can P w K mg Ar "_law_from" (d+1) f fd ["box","thing","held"] (jG2 d)):
  FnOk P w K mg Ar CX0 (d+2) f fd ["box","thing","held"] (jFH d):=by
 refine F.ok scFrom (fun vs H Q E h=>?_) (fun lI A Aq s H vs Q E hr h=>?_)
 ·obtain⟨_,_,_,_,_,_,_,_,rfl,_⟩:=h;rfl
 ·obtain⟨b,h,wi,t,ms,As,hs,m,rfl,hB,g,t1,hd,hh,hl,mk,q⟩:=h;obtain⟨qm,qp,ps,b1,b2,b3,b4⟩:=hB.ex;have gl:=g.pl;have w0:=g.w0;have w1:=g.w1;have el:(chs wi.toNat ms As).length=wi.toNat:=kJ _ _ _ _;refine⟨_,(fromA T CF hr).2.h,?_⟩;refine⟨_,rfl,_,rfl,b,_,0,_,rfl,rfl,SqT.of b1,rfl,rfl,_,rfl,?_⟩;rw[jF1];refine ite2 (fun h1=>?_) (fun h1=>?_)
  ·have h1:(t:Int)=wi:=aG h1;have tw:t=wi.toNat:=Aa;subst tw;have mf:m=fullN (chs wi.toNat ms As):=by
    unfold fullN;rw[el];exact mk.full
   rw[mf,jAI] at q;refine⟨by rw[aE]; show 0<=_; lia,fun r1 H1 hr1 e1=>⟨by rw[aE]; show 1<=_; lia,fun r2 H2 hr2 e2 _=>?_⟩⟩;exact q r2 _ H2 hr2 ⟨⟨r1,rfl,e2 _ _ hr1⟩,trivial⟩ (e1.trans e2)
  ·have h1:¬ (t:Int)=wi:=fun h=>h1 (ar h);have tw:t<wi.toNat:=Aa;refine⟨_,rfl,_,rfl,h,_,rfl, .inr (SqT.of hh),rfl,jA5 _,_,rfl,?_⟩;have hd1:∃ d',d=d'+1:=⟨d - 1,Aa⟩;obtain⟨d',rfl⟩:=hd1;have call:∀ (m':Nat) (H1:Hp) (Q':VK),MkOk wi.toNat (t+1) hs m'->Ext H H1->(∀ l us H',H' l=some (.lst us)->LsAt H' us (wk (chs wi.toNat ms As) m')->Ext H H'->Q' (.ref l) H')->jG2 (d'+1) [.ref b, .int ((t:Int)+1), .ref h] H1 Q' E0:=fun m' H1 Q' mk' e1 k=>by
    exact⟨b,h,wi,t+1,ms,As,hs,m',rfl,hB.mono e1.tups,g,Aa,Aa,e1 _ _ hh,Aa,mk',fun l us H' a1 a2 a3=>k l us H' a1 a2 (e1.trans a3)⟩
   rw[jBK];refine ite2 (fun h2=>?_) (fun h2=>?_)
   ·have h2:(t:Int)∈hs:=aG h2;refine⟨_,rfl,_,rfl,_,_,rfl,rfl,_,rfl,call m H _ (mk.held tw h2) (Ext.refl _) fun l us H' a1 a2 a3=>?_⟩;exact q l us H' a1 a2 a3
   ·have h2:¬ (t:Int)∈hs:=fun z=>h2 (ar z);have hb:m.testBit t=false:=ck.mpr fun z=>h2 ((mk.hi t (aA _) tw).mp z);refine⟨by rw[aE]; show 0<=_; lia,fun l1 H1 hl1 e1 _=>?_⟩;refine⟨_,rfl,_,rfl,b,_,1,_,rfl,rfl,SqT.of (e1 _ _ b1),rfl,qm,_,rfl, .inr (SqT.of (e1 _ _ b2)),rfl,jA5 _,_,rfl,?_⟩;rw[jBK];have hz:=jQ3 (ch:=chs wi.toNat ms As) (ms:=ms) (As:=As) hb;refine ite2 (fun h3=>?_) (fun h3=>?_)
    ·rw[aq (aG h3)] at hz;refine⟨_,rfl,_,rfl,_,_,rfl,rfl,_,rfl,(show jG2 (d'+1) [.ref b, .int ((t:Int)+1), .ref h] H1 (fun x H2=>(fromB T CF hr).1 { nx:=fun x H'=>Q V.non H',rt:=Q} [some (.ref b),some (.int (t:Int)),some (.ref h),some x,none,none] H2) E0 from call (m|||2 ^ t) H1 _ (mk.may tw) e1 fun l us H' a1 a2 a3=>?_)⟩;exact jFR T CF hr hB g Aa hd hh hl mk h2 a3 a1 (by rw[hz]; exact a2) q
    ·rw[ak (fun z=>h3 (ar z))] at hz;exact jFR T CF hr hB g Aa hd hh hl mk h2 e1 hl1 (by rw[hz]; trivial) q
theorem jNO {fd:FuncData}(F:Fun K "_law_from" "_law_from" qT f fd)(T:Txt mg)(hm:mg "_law_from" =some (.ref f))(kp:keepIn K (.ref f)=true)(hb:Binds K fd ["box","thing","held"] []):
  ∀ d:Nat,FnOk P w K mg Ar CX0 (d+2) f fd ["box","thing","held"] (jFH d)
 | 0=>jI7 0 F T ⟨ok_no,hm,kp,hb⟩
 | d+1=>jI7 (d+1) F T ⟨jNO F T hm kp hb d,hm,kp,hb⟩
def jBS:Sp:=fun vs H Q _=>∃ (b:Addr) (w:Int) (ms:Ag) (As:Ae),vs=[.ref b]/\BoxAt H b w ms As/\Good 16 16 w ms As/\
 ∀ l us H',H' l=some (.lst us)->LsAt H' us (cvs w ms As)->us.length<=65536->Ext H H'->Q (.ref l) H'
abbrev nCovs:An:=["box"]
theorem scCovs:FnScope nCovs ["box"] (j7 sCovs):= {}
def covsA (T:Txt mg)(CF:Can P w K mg Ar "_law_from" 18 fF fdF ["box","thing","held"] (jFH 16))(hr:Room 18 (XOf nCovs "_law_coverings" sCovs P w K mg Ar f lI A Aq s H0 E).A): { t:TS // JSs (XOf nCovs "_law_coverings" sCovs P w K mg Ar f lI A Aq s H0 E) (jC sCovs) t} :=
 have nd:=scCovs.nd
 ⟨_,(jE (jQ (kE (m:=[none]) (Nc:=["some"]) rfl (yL (CF.je hr gD (j3 (jv 0 rfl vL) (j3 (je_int) (j3 (y4 j8) j8 jDF) kO) j4) j4)) rfl Ab Ab (jM (psc:=j7 sCovs)) (jH (N:=nCovs) rfl rfl Ab) (fun cl C fp s H=>jL (i:=0) (show (["some"]:An).Nodup by decide+kernel) rfl yI) (fun cl C fp s H=>kP) (fun cl C fp s H=>(kI jF2 gl_b T.tuple Ab (j3 (jK jDN gl_b T.sorted Ab (j3 (jv 0 rfl jS) j8 j4) j4) j8 jG) jG)) y6)))⟩
theorem jUK (w:Nat):MkOk w 0 [] 0:=⟨bF _,fun j hj=>by lia,fun j _ _=>by simp⟩
theorem jUC {fd:FuncData}(F:Fun K "_law_coverings" "_law_coverings" sCovs f fd)(T:Txt mg)(CF:Can P w K mg Ar "_law_from" 18 fF fdF ["box","thing","held"] (jFH 16)):FnOk P w K mg Ar CX0 19 f fd ["box"] jBS:=by
 refine F.ok scCovs (fun vs H Q E h=>?_) (fun lI A Aq s H vs Q E hr h=>?_)
 ·obtain⟨_,_,_,_,rfl,_⟩:=h;rfl
 ·obtain⟨b,wi,ms,As,rfl,hB,g,q⟩:=h;have gl:=g.pl;have w0:=g.w0;have w1:=g.w1;have g32:Good 16 32 wi ms As:=g.wide Aa Aa;have o:ChOk (chs wi.toNat ms As):=yP g32;have el:(chs wi.toNat ms As).length=wi.toNat:=kJ _ _ _ _;have z0:0<2 ^ (chs wi.toNat ms As).length:=bF _;refine⟨_,(covsA T CF hr).2.h,?_⟩;refine⟨_,rfl,by rw[aE]; show 0<=_; lia,fun r1 H1 hr1 e1=>⟨b,r1,wi,0,ms,As,[],0,rfl,hB.mono e1.tups,g,Aa,Aa,hr1,by show 0<=_; lia,jUK _,fun l us H2 a1 a3 a4=>?_⟩⟩;have ul:us.length<=65536:=by
   rw[a3.len];exact bv (jML g32 _ z0) (jJ2 Aa)
  refine⟨l,rfl,⟨_,SqL.of a1⟩,jB1 (xs:=us) (fun σ=>∃ v,σ=[v]) (fun H' zs j=>LsAt H' zs (((wk (chs wi.toNat ms As) 0).take j).map srt)) ⟨fun H=>trivial,fun H H' zs j tt h=>h.mono tt,fun H zs j h=>?_⟩ a1 (by rw[aE]; lia) ⟨_,rfl⟩ ?_ ?_⟩
  ·rw[h.len,af];exact bC _ _
  ·rintro j x σ' H' zs hx ⟨v,rfl⟩ e hz S1 S2 yes no;obtain⟨ks,hks,a,rfl,ha⟩:=a3.get' hx;have kl:=(jFA o _ z0 ks (aH hks)).2;dsimp only [kR,yK];rw[aq rfl];refine⟨_,rfl,a,ks,rfl,e _ _ ha,Aa,fun l6 ns hl6 sr pm=>⟨l6,_,rfl, .inl ⟨SqL.of j5,fun l7 hl7=>?_⟩⟩⟩;have e6:Ext H' (L2.upd H' l6 (.lst (ns.map V.int))):=(Ext.refl _).new hl6 _;have e7:Ext H' (L2.upd (L2.upd H' l6 (.lst (ns.map V.int))) l7 (.tup (ns.map V.int))):=e6.new hl7 _;refine yes _ _ _ ⟨_,rfl⟩ e7 ?_;show LsAt _ _ (((wk (chs wi.toNat ms As) 0).take (j+1)).map srt);rw[be,hks,aS];refine All2.snoc (LsAt.mono e7.tups hz) ⟨l7,rfl,?_⟩;rw[j5,jE5 sr pm]
  ·rintro D6 H6 zs h26 e6 hn6 hz6;rw[a3.len,bq] at hz6;exact q D6 zs H6 h26 hz6 (by rw[hz6.len,af,<- a3.len]; exact ul) ((e1.trans a4).trans e6)
theorem jX8 {w:Int}{ms:Ag}{As:Ae}{m:Nat}{c:Int×Nat}(hm:m<2 ^ (chs w.toNat ms As).length)(hf:m≠fullN (chs w.toNat ms As))(hc:c∈chAt (chs w.toNat ms As) m):c.1<As.length:=by
 have hl:lowN m<w.toNat:=by
  have:=qH hm hf;unfold chs at this
  rwa [kJ] at this
 obtain⟨h1,_⟩:=aR.mp hc;unfold chs at h1;rw[am,yE hl] at h1;have h1:c∈kY ms As As.length (lowN m):=h1;unfold kY at h1;rcases aJ.mp h1 with z | z
 ·split at z
  ·rw[aN] at z;rw[z];show (-1:Int)<_;lia
  ·cases z
 ·obtain⟨k,hk,rfl⟩:=aw.mp z;exact((kT As.length).bnd k (bV (aR.mp hk).1)).2
theorem jGF {w:Int}{ms:Ag}{As:Ae}{m:Nat}{c:Int×Nat}(hl:lowN m<w.toNat):c∈chAt (chs w.toNat ms As) m↔c.2&&&m=0/\((c=(-1,2 ^ lowN m)/\(lowN m:Int)∈ms)\/∃ k:Int,c=(k,maskN (j6 As k))/\0<=k/\k<As.length/\(j6 As k).headD 0=(lowN m:Int)):=by
 unfold chAt;rw[aR,fq,and_comm];refine kg fun _=>?_;unfold chs;rw[am,yE hl];show c∈kY ms As As.length (lowN m)↔_;unfold kY;rw[aJ];refine or_congr ?_ ?_
 ·by_cases h:(lowN m:Int)∈ms
  ·rw[aq h,aN];exact⟨fun z=>⟨z,h⟩,fun z=>z.1⟩
  ·rw[ak h];exact⟨fun z=>(by cases z),fun z=>absurd z.2 h⟩
 ·rw[b9 (by rw[jAU]; exact aA _),aw];constructor
  ·rintro ⟨k,hk,rfl⟩;obtain⟨h1,h2⟩:=aR.mp hk;have b:=(kT As.length).bnd k h1;exact⟨k,rfl,b.1,b.2,aG h2⟩
  ·rintro ⟨k,rfl,h1,h2,h3⟩;refine⟨k,aR.mpr ⟨?_,ar h3⟩,rfl⟩;unfold upto;exact aw.mpr ⟨k.toNat,bK.mpr Aa,Aa⟩
structure CovM (w:Int)(ms:Ag)(As:Ae)(m:Nat)(x:Ag):Prop where
 nd:x.Nodup
 bnd:∀ k∈x,0<=k/\k<As.length
 off:∀ k∈x,∀ t∈j6 As k,m.testBit t.toNat=false
 dis:∀ k∈x,∀ k'∈x,k≠k'->∀ t∈j6 As k,t∉j6 As k'
 cov:∀ t:Nat,t<w.toNat->m.testBit t=false->(t:Int)∉ms->∃ k∈x,(t:Int)∈j6 As k
section
variable {w:Int}(g:Good 16 32 w ms As)
include g
theorem jAP {k:Int}(h0:0<=k)(h1:k<As.length):Lot w (j6 As k):=(g.at (k:=k.toNat) Aa).lot
theorem jFJ {k:Int}(h0:0<=k)(h1:k<As.length)(t:Nat):(maskN (j6 As k)).testBit t=decide ((t:Int)∈j6 As k):=jA2 _ t (jAP g h0 h1).ris fun x hx=>((jAP g h0 h1).bnd x hx).1
theorem jSD {k:Int}(h0:0<=k)(h1:k<As.length){m:Nat} :maskN (j6 As k)&&&m=0↔∀ t∈j6 As k,m.testBit t.toNat=false:=by
 have l:=jAP g h0 h1;constructor
 ·intro h t ht;have bt:=l.bnd t ht;have q:=bW (fun z=>z.testBit t.toNat) h;simp only [di,dy,jFJ g h0 h1] at q;rw[show ((t.toNat:Nat):Int)=t by lia,ar ht,eL] at q;exact q
 ·intro h;apply cJ;intro i;rw[di,dy,jFJ g h0 h1];by_cases hi:(i:Int)∈j6 As k
  ·have:=h _ hi;rw[bz] at this;rw[this,dD]
  ·rw[aM hi];rfl
theorem jD5 {k:Int}(h0:0<=k)(h1:k<As.length):(j6 As k).headD 0∈j6 As k/\∀ t∈j6 As k,(j6 As k).headD 0<=t:=by
 have l:=jAP g h0 h1;refine⟨jE1 l.ne,fun t ht=>?_⟩;have r:=l.ris;cases z:j6 As k with
 | nil=>rw[z] at ht; cases ht
 | cons a q=>
  rw[z] at ht r;show a<=t;rcases aI.mp ht with y | y
  ·lia
  ·have:=(cR.mp r).1 t y;lia
theorem jDP:∀ m,m<2 ^ (chs w.toNat ms As).length->∀ x∈wk (chs w.toNat ms As) m,CovM w ms As m x:=by
 have o:ChOk (chs w.toNat ms As):=yP g;have el:(chs w.toNat ms As).length=w.toNat:=kJ _ _ _ _;refine jBA o ?_ ?_
 ·intro x hx;rw[jAI,aN] at hx;subst hx;refine⟨ko,fun k hk=>(by cases hk),fun k hk=>(by cases hk),fun k hk=>(by cases hk),fun t ht hb _=>?_⟩;unfold fullN at hb;rw[el,cI,ar ht] at hb;cases hb
 ·intro m hm hf ih x hx;have hl:lowN m<w.toNat:=by have:=qH hm hf; rwa [el] at this
  rw[yW o hm hf] at hx;obtain⟨p,hp,y,hy,rfl⟩:=mem_wJ.mp hx;obtain⟨c,hc,rfl⟩:=aw.mp hp;have I:=ih c hc y hy;have offm:∀ k∈y,∀ t∈j6 As k,m.testBit t.toNat=false:=fun k hk t ht=>by
   have:=I.off k hk t ht;rw[b8,ig] at this;exact this.1
  obtain⟨hz,hcase⟩:=(jGF hl).mp hc;rcases hcase with ⟨rfl,hms⟩ | ⟨k,rfl,k0,k1,hd⟩
  ·dsimp only;rw[aq (show (-1:Int)<0 by decide)];refine⟨I.nd,I.bnd,offm,I.dis,fun t ht hb hn=>?_⟩;refine I.cov t ht ?_ hn;rw[b8,hb,g8,cO,aM];intro z;subst z;exact hn hms
  ·dsimp only at I hz ⊢;rw[ak Aa];have ky:∀ t∈j6 As k,∀ k'∈y,t∉j6 As k':=fun t ht k' hk' ht'=>by
    have:=I.off k' hk' t ht';have bt:=(jAP g k0 k1).bnd t ht;rw[b8,jFJ g k0 k1,show ((t.toNat:Nat):Int)=t by lia,ar ht,gG] at this;cases this
   have hhd:=(jD5 g k0 k1).1;refine⟨ce.mpr ⟨fun z=>ky _ hhd k z hhd,I.nd⟩,fun k' hk'=>?_,fun k' hk' t ht=>?_,fun k1' h1' k2' h2' ne t ht=>?_,fun t ht hb hn=>?_⟩
   ·rcases aI.mp hk' with z | z
    ·rw[z]; exact⟨k0,k1⟩
    ·exact I.bnd k' z
   ·rcases aI.mp hk' with z | z
    ·rw[z] at ht;exact(jSD g k0 k1).mp hz t ht
    ·exact offm k' z t ht
   ·rcases aI.mp h1' with z | z <;> rcases aI.mp h2' with u | u
    ·exact absurd (z.trans u.symm) ne
    ·rw[z] at ht;exact ky t ht _ u
    ·rw[u];intro q;exact ky t q _ z ht
    ·exact I.dis _ z _ u ne t ht
   ·by_cases hk:(t:Int)∈j6 As k
    ·exact⟨k,ai .., hk⟩
    ·obtain⟨k',h1,h2⟩:=I.cov t ht (by rw[b8,hb,jFJ g k0 k1,aM hk]; rfl) hn;exact⟨k',ag _ h1,h2⟩
theorem jIX:∀ m,m<2 ^ (chs w.toNat ms As).length->∀ x,CovM w ms As m x->∃ y∈wk (chs w.toNat ms As) m,∀ k,k∈y↔k∈x:=by
 have o:ChOk (chs w.toNat ms As):=yP g;have el:(chs w.toNat ms As).length=w.toNat:=kJ _ _ _ _;have w0:=g.w0;refine jBA o ?_ ?_
 ·intro x C;refine⟨[],by rw[jAI]; exact aN.mpr rfl,fun k=>⟨fun z=>(by cases z),fun hk=>?_⟩⟩;exfalso;have b:=C.bnd k hk;have hh:=(jD5 g b.1 b.2).1;have hb:=(jAP g b.1 b.2).bnd _ hh;have:=C.off k hk _ hh;unfold fullN at this;rw[el,cI,ar Aa] at this;cases this
 ·intro m hm hf ih x C;have hl:lowN m<w.toNat:=by have:=qH hm hf; rwa [el] at this
  have hstep:=yW o hm hf;by_cases hx:∃ k∈x,(lowN m:Int)∈j6 As k
  ·obtain⟨k,hk,ht⟩:=hx;have b:=C.bnd k hk;have hd:(j6 As k).headD 0=(lowN m:Int):=by
    obtain⟨h1,h2⟩:=jD5 g b.1 b.2;have h3:=h2 _ ht;have hb:=(jAP g b.1 b.2).bnd _ h1;have h4:=C.off k hk _ h1;rcases Int.lt_or_eq_of_le h3 with z | z
    ·have:=jEJ m ((j6 As k).headD 0).toNat Aa;rw[this] at h4;cases h4
    ·exact z
   have fit:maskN (j6 As k)&&&m=0:=(jSD g b.1 b.2).mpr (C.off k hk);have hc:((k,maskN (j6 As k)):Int×Nat)∈chAt (chs w.toNat ms As) m:=(jGF hl).mpr ⟨fit, .inr ⟨k,rfl,b.1,b.2,hd⟩⟩;have memE:∀ j,j∈x.erase k↔j≠k/\j∈x:=fun j=>C.nd.mem_erase_iff;obtain⟨y,hy,hye⟩:=ih _ hc (x.erase k) ⟨C.nd.erase k,fun j hj=>C.bnd j ((memE j).mp hj).2,fun j hj t ht'=>by
     obtain⟨n1,n2⟩:=(memE j).mp hj;have bj:=C.bnd j n2;have bt:=(jAP g bj.1 bj.2).bnd t ht';have:=C.dis j n2 k hk n1 t ht';rw[b8,C.off j n2 t ht',jFJ g b.1 b.2,show ((t.toNat:Nat):Int)=t by lia,aM this];rfl,fun j1 h1 j2 h2=>C.dis j1 ((memE j1).mp h1).2 j2 ((memE j2).mp h2).2,fun t ht' hb hn=>by
     rw[b8,ig,jFJ g b.1 b.2,eT] at hb;obtain⟨j,hj,hjt⟩:=C.cov t ht' hb.1 hn;exact⟨j,(memE j).mpr ⟨fun z=>hb.2 (z ▸ hjt),hj⟩,hjt⟩⟩
   refine⟨k::y,?_,fun j=>?_⟩
   ·rw[hstep,mem_wJ];exact⟨_,bJ hc,y,hy,by dsimp only; rw[ak Aa]⟩
   ·rw[aI,hye,memE];constructor
    ·rintro (z | z)
     ·rw[z]; exact hk
     ·exact z.2
    ·intro z;by_cases hj:j=k
     ·exact .inl hj
     ·exact .inr ⟨hj,z⟩
  ·have hms:(lowN m:Int)∈ms:=bR fun z=>hx (C.cov (lowN m) hl (jD2 m) z);have fit:2 ^ lowN m&&&m=0:=by
    apply cJ;intro i;rw[di,dy,cO];by_cases hi:lowN m=i
    ·rw[<- hi,jD2,dD]
    ·rw[aM hi];rfl
   have hc:((-1,2 ^ lowN m):Int×Nat)∈chAt (chs w.toNat ms As) m:=(jGF hl).mpr ⟨fit, .inl ⟨rfl,hms⟩⟩;obtain⟨y,hy,hye⟩:=ih _ hc x ⟨C.nd,C.bnd,fun j hj t ht'=>by
     have bj:=C.bnd j hj;have bt:=(jAP g bj.1 bj.2).bnd t ht';rw[b8,C.off j hj t ht',g8,cO,aM];intro z;refine hx ⟨j,hj,?_⟩;rw[z,show ((t.toNat:Nat):Int)=t by lia];exact ht',C.dis,fun t ht' hb hn=>by
     rw[b8,ig] at hb;exact C.cov t ht' hb.1 hn⟩
   refine⟨y,?_,hye⟩;rw[hstep,mem_wJ];exact⟨_,bJ hc,y,hy,by dsimp only; rw[aq Ac]⟩
end
structure IsCov (w:Int)(ms:Ag)(As:Ae)(c:Ag):Prop where
 ris:Ris As.length c
 dis:∀ k∈c,∀ k'∈c,k≠k'->∀ t∈j6 As k,t∉j6 As k'
 cov:∀ t:Int,0<=t->t<w->t∉ms->∃ k∈c,t∈j6 As k
section
variable {w:Int}(g:Good 16 32 w ms As)
include g
theorem jEH {c:Ag} :c∈cvs w ms As↔IsCov w ms As c:=by
 have z0:0<2 ^ (chs w.toNat ms As).length:=bF _;have w0:=g.w0;unfold cvs;rw[aw];constructor
 ·rintro ⟨x,hx,rfl⟩;have C:=jDP g 0 z0 x hx;have me:∀ k,k∈srt x↔k∈x:=fun k=>(jAB x).mem_iff;refine⟨⟨?_,fun k hk=>C.bnd k ((me k).mp hk)⟩,fun k hk k' hk'=>C.dis k ((me k).mp hk) k' ((me k').mp hk'),fun t t0 t1 hn=>?_⟩
  ·exact(List.Pairwise.and (jK5 x) ((jAB x).nodup_iff.mpr C.nd)).imp fun {a b} h=>by lia
  ·obtain⟨k,hk,hkt⟩:=C.cov t.toNat Aa (dy _) (by rw[show ((t.toNat:Nat):Int)=t by lia]; exact hn);exact⟨k,(me k).mpr hk,by rwa [show ((t.toNat:Nat):Int)=t by lia] at hkt⟩
 ·intro C;obtain⟨y,hy,hye⟩:=jIX g 0 z0 c ⟨C.ris.ris.imp fun {a b} h=>by lia,C.ris.bnd,fun k hk t ht=>dy _,C.dis,fun t ht _ hn=>C.cov t Aa Aa hn⟩;refine⟨y,hy,?_⟩;have ny:=(jDP g 0 z0 y hy).nd;have nc:c.Nodup:=C.ris.ris.imp fun {a b} h=>by lia
  have pm:c.Perm y:=(fw nc ny).mpr fun k=>(hye k).symm;exact(jE5 (C.ris.ris.imp fun {a b} h=>by lia) pm).symm
end
theorem jGU (w:Int)(ms:Ag)(As:Ae):(cvs w ms As).length=(wk (chs w.toNat ms As) 0).length:=af ..
theorem jD4 {α β:Type} [DecidableEq β](f:α->β):∀ {l:List α}{m:List β},l.Nodup->(∀ a∈l,f a∈m)->(∀ a∈l,∀ b∈l,f a=f b->a=b)->l.length<=m.length
 | [],m,_,_,_=>bw _
 | a::l,m,nd,h,inj=>by
  have ha:=h a (ai ..);obtain⟨n1,n2⟩:=ce.mp nd;have:=jD4 f (m:=m.erase (f a)) n2 (fun b hb=>(List.mem_erase_of_ne fun e=>n1 (inj _ (ag _ hb) _ (ai ..) e ▸ hb)).mpr (h b (ag _ hb))) fun b hb c hc=>inj b (ag _ hb) c (ag _ hc);rw[List.length_erase_of_mem ha] at this;have:=List.length_pos_of_mem ha;rw[aU];lia
def lamOf (s:Stmt):Arguments×Expr×Scope×Pos:=match jC s with
 | [.Return (some (.Call _ [_,_, .Lambda a b sc p] _ _)) _]=>(a,b,sc,p)
 | _=>(y8 s, .Constant .none 0 ⟨0,0,0,0⟩,j7 s,⟨0,0,0,0⟩)
abbrev lamA:Arguments:=(lamOf qP).1
abbrev lamB:Expr:=(lamOf qP).2.1
abbrev lamS:Scope:=(lamOf qP).2.2.1
abbrev lamP:Pos:=(lamOf qP).2.2.2
abbrev nLam:An:=["behind"]
theorem scLam:NScope nLam ["behind"] [] lamS:=⟨rfl,rfl,rfl,Ab,rfl,Ab,Ab,fun x h=>by
  have hl:∀ y∈lamS.names,y.2≠ .free:=Ab;exact absurd rfl (hl _ (cf h)),Ab⟩
def RWay (ch:Ch):RepT:=fun m _ v=>v=natV (wk ch m).length
theorem RWay.ok (ch:Ch):RepOk (RWay ch):=fun _ _=>⟨fun _ _ _ _ _ _ h=>h,fun _ _ _ h=>h⟩
theorem jVF (l:List (Int×Af)):(wJ l).length=(l.map fun p=>p.2.length).sum:=by
 unfold wJ;rw[lc];congr 1;refine bI fun p _=>?_;rw[af]
abbrev qLam:Str:= "ways_of.<locals>.<lambda>"
def jR3 (T:Txt mg): { t:TE // JE (cxN P w K mg Ar nLam qLam lamS a (.ref c) cl A Aq s H0) lamB t} :=⟨_,(jK (jIE rfl) gl_n T.sum Ab (j3 (kE (m:=[none,none]) (Nc:=["number","ways"]) rfl (yL (jv 0 rfl yX)) rfl Ab Ab (fun y hy hf=>absurd hf (by revert y; decide+kernel)) (jH (N:=nLam) rfl rfl Ab) (fun cl C fp s H=>jCJ (i:=0) (j:=1) rfl (show (["number","ways"]:An).Nodup by decide+kernel) rfl rfl Ab Ab) (fun cl C fp s H=>kP) (fun cl C fp s H=>(jv 1 rfl jS)) yM) j8 jF) jF)⟩
def zhW (a c:Addr):Hp->Prop:=fun H=>H a=some (.ext (nlP qLam lamA lamB lamS [] a c))/\H c=some (.ext (ncP qLam c))
theorem zhW.ok (a c:Addr):HpOk (zhW a c):=⟨fun H H' D kvs hD k h=>⟨k _ _ h.1 fun z=>(by rw[<- z,h.1] at hD; cases hD),k _ _ h.2 fun z=>(by rw[<- z,h.2] at hD; cases hD)⟩,fun H H' e h=>⟨e _ _ h.1,e _ _ h.2⟩⟩
theorem jWH {ch:Ch}(o:ChOk ch)(T:Txt mg):Callee P w K mg Ar ZT (zhW a c) 1 a (jFF ch (RWay ch)):=by
 refine Callee.imp (jP9 (fv:=[]) scLam (fun vs H Q E h=>?_) (fun pm ctv us hl=>?_) fun A Aq s H vs Q E hr h=>?_) fun s H _=>⟨⟨fun x y c h=>(by cases h),fun x c h=>(by cases h)⟩,rfl,fun i x v h=>(by cases h)⟩
 ·obtain⟨_,_,_,rfl,_⟩:=h;rfl
 ·match us,hl with
  | [_],_=>rfl
 ·obtain⟨l,us,m,rfl,hl,hm,hf,av,q⟩:=h;refine⟨_,(jR3 T).2.h,?_⟩;have vl:us.length<=33:=by
   rw[av.len];have hlow:=qH hm hf;refine bv (bS _ _) ?_;rw[am,aC hlow];exact o.len _ _ (aC hlow)
  refine⟨_,rfl,l,rfl,⟨_,SqL.of hl⟩,jB1 (xs:=us) (fun σ=>∃ v1 v2,σ=[v1,v2]) (mapZ (chAt ch m) fun c=>natV (wk ch (m|||c.2)).length) (mapZ.ok _ _) hl (by rw[aE]; lia) ⟨_,_,rfl⟩ ?_ ?_⟩
  ·rintro j x σ' H' zs hx ⟨v1,v2,rfl⟩ e hz S1 S2 yes no;obtain⟨c,hc,p,u,rfl,hp,hR⟩:=av.get' hx;have hR:u=natV (wk ch (m|||c.2)).length:=hR;subst hR;refine⟨p,_,rfl,SqT.of (e _ _ hp),rfl,_,_,rfl,_,_,rfl,rfl,?_⟩;dsimp only [yK];rw[aq rfl];exact⟨_,rfl,yes _ _ _ ⟨_,_,rfl⟩ (Ext.refl _) (hz.yes hc)⟩
  ·rintro D H' zs hD e nD hz;have hz:=hz.all (by rw[av.len]; exact aA _);have hz2:zs=((chAt ch m).map fun c=>((wk ch (m|||c.2)).length:Int)).map V.int:=by rw[hz,bB]; rfl
   rw[hz2] at hD;refine⟨D,_,rfl,SqL.of hD,q _ _ ?_ e⟩;show V.int _=natV _;rw[yW o hm hf,jVF,bB];congr 1;generalize chAt ch m=cs
   induction cs with
   | nil=>rfl
   | cons a r ih=>
    rw[bg,g9,bg,g9,ih];push_cast;rfl
abbrev nWays:An:=["choices"]
theorem scWays:FnScope nWays ["choices"] (j7 qP):= {}
abbrev TabW (H:Hp)(tb:Addr):Prop:=TabOk H tb lamP qLam
def jJ0:Sp:=spEx (fun x:Addr×Addr×Ch=>ChOk x.2.2) fun x=>jN4 x.1 (zhW x.1 x.2.1) x.2.2 (RWay x.2.2)
def jK6 (tb:Addr):Sp:=fun vs H Q _=>∃ (L:Addr) (ch:Ch),vs=[.ref L]/\ChAt H L ch/\ChOk ch/\TabW H tb/\∀ (r:Addr) (ns:List Nat) (H':Hp),GotAt H' r ch (RWay ch) ns->ns.Pairwise (· > ·)->MetOk ch ns->ExtT tb H H'->TabW H' tb->H r=none->Q (.ref r) H'
def waysA (T:Txt mg)(CH:PySem.W.CodeHd Ar c0 tb)(BM:qN Ar mg)(CG:Can P w K mg Ar "gathered" 4 fG fdG ["choices","at_end","join"] jJ0)(hr:Room 4 (XOf nWays "ways_of" qP P w K mg Ar f (.ref c0) A Aq s H0 E).A): { t:TS // JSs (XOf nWays "ways_of" qP P w K mg Ar f (.ref c0) A Aq s H0 E) (jC qP) t} :=
 have nd:=scWays.nd
 ⟨_,(jE (jQ (CG.je hr gD (j3 (jv 0 rfl vL) (j3 je_int (j3 (jOP rfl CH BM (fun y hy hf=>absurd hf (by revert y; decide+kernel)) rfl) j8 jS8) kO) j4) j4)))⟩
theorem jU5 {fd:FuncData}(F:FunC K "ways_of" "ways_of" qP f fd c0)(T:Txt mg)(CH:PySem.W.CodeHd Ar c0 tb)(BM:qN Ar mg)(CG:Can P w K mg Ar "gathered" 4 fG fdG ["choices","at_end","join"] jJ0):FnOk P w K mg Ar CX0 5 f fd ["choices"] (jK6 tb):=by
 refine F.ok scWays (fun vs H Q E h=>?_) (fun A Aq s H vs Q E hr h=>?_)
 ·obtain⟨_,_,rfl,_⟩:=h;rfl
 ·obtain⟨L,ch,rfl,hL,o,tab,q⟩:=h;refine⟨_,(waysA T CH BM CG hr).2.h,?_⟩;refine⟨_,rfl,tab,fun a c H1 k1 k2 k3 e1 na=>?_⟩;have hL1:ChAt H1 L ch:=hL.keep (fun b xs h=>e1.at tab h) fun b xs h=>e1.at tab h;refine⟨(a,c,ch),o,L,_,rfl,hL1,?_,⟨k1,k2⟩,fun r ns H2 got srt mt e2 n2=>?_⟩
  ·show V.int 1=natV _;rw[jAI];rfl
  ·refine q r ns H2 got srt mt (fun b o hb hn=>e2 _ _ (e1 b o hb hn)) (.inr ⟨c,e2 _ _ k3,e2 _ _ k2⟩) ?_;cases z:H r with
   | none=>rfl
   | some o=>
    by_cases hr:r=tb
    ·rw[hr,k3] at n2;cases n2
    ·rw[e1 _ _ z hr] at n2;cases n2
abbrev nMany:An:=["box"]
theorem scMany:FnScope nMany ["box"] (j7 sMany):= {}
def qD (tb:Addr):Sp:=fun vs H Q _=>∃ (b:Addr) (w:Int) (ms:Ag) (As:Ae),vs=[.ref b]/\BoxAt H b w ms As/\Good 16 32 w ms As/\TabW H tb/\∀ H',ExtT tb H H'->TabW H' tb->Q (natV (wk (chs w.toNat ms As) 0).length) H'
def manyA (T:Txt mg)(CC:Can P w K mg Ar "choices_of" 2 fC fdC ["box"] jAR)(CW:Can P w K mg Ar "ways_of" 5 fW fdW ["choices"] (jK6 tb))(hr:Room 5 (XOf nMany "many" sMany P w K mg Ar f lI A Aq s H0 E).A): { t:TS // JSs (XOf nMany "many" sMany P w K mg Ar f lI A Aq s H0 E) (jC sMany) t} :=
 have nd:=scMany.nd
 ⟨_,(jE (jQ (jGO (hu_of hr) (CW.je hr gD (j3 (CC.je (hr.mono Ac) gD (j3 (jv 0 rfl vL) j8 j4) j4) j8 jG) jG) je_int jD)))⟩
theorem jU9 {fd:FuncData}(F:Fun K "many" "many" sMany f fd)(T:Txt mg)(CC:Can P w K mg Ar "choices_of" 2 fC fdC ["box"] jAR)(CW:Can P w K mg Ar "ways_of" 5 fW fdW ["choices"] (jK6 tb)):FnOk P w K mg Ar CX0 6 f fd ["box"] (qD tb):=by
 refine F.ok scMany (fun vs H Q E h=>?_) (fun lI A Aq s H vs Q E hr h=>?_)
 ·obtain⟨_,_,_,_,rfl,_⟩:=h;rfl
 ·obtain⟨b,wi,ms,As,rfl,hB,g,tab,q⟩:=h;refine⟨_,(manyA T CC CW hr).2.h,?_⟩;refine⟨_,rfl,b,wi,ms,As,rfl,hB,g,fun L H1 hL1 e1=>?_⟩;refine⟨L,_,rfl,hL1,yP g,tab.ext e1,fun r ns H2 got srt mt e2 t2 n2=>?_⟩;obtain⟨u,dg,ru⟩:=got0 got srt mt;have ru:u=natV _:=ru;subst ru;exact⟨r,_,rfl,dg,q H2 ((ExtT.of e1).trans e2) t2⟩
theorem mem_nmd {ts lot:Ag}{p:Int} :p∈nmd ts lot↔∃ t∈lot,t∈ts/\p=((ts.idxOf t:Nat):Int):=by
 unfold nmd;rw[(jAB _).mem_iff];unfold plcs;rw[aw];constructor
 ·rintro ⟨t,ht,rfl⟩;obtain⟨h1,h2⟩:=aR.mp ht;exact⟨t,h1,aG h2,rfl⟩
 ·rintro ⟨t,h1,h2,rfl⟩;exact⟨t,aR.mpr ⟨h1,ar h2⟩,rfl⟩
theorem jA6 {ts:Ag}{As:Ae}{ks:Ag}{j:Int}(h0:0<=j)(h1:j<ks.length):j6 (pick ts As ks) j=nmd ts (j6 As (ks.getD j.toNat 0)):=by
 have hj:j.toNat<ks.length:=Aa;unfold pick;show ((ks.map _).getD j.toNat ([],0)).1=_;rw[am,aV,am,aC hj];rfl
theorem jJJ {ts:Ag}{a b:Int}(ha:a∈ts)(hb:b∈ts)(h:((ts.idxOf a:Nat):Int)=((ts.idxOf b:Nat):Int)):a=b:=by
 have e:ts.idxOf a=ts.idxOf b:=Aa;have h1:=(jCK ha).1;rw[e,(jCK hb).1] at h1;exact(bD h1).symm
theorem jNT {ts lot:Ag}(h:ts.Pairwise (· < ·))(hl:lot.Pairwise (· < ·)):Ris ts.length (nmd ts lot):=by
 rw[jNS h hl];refine⟨jKI h hl,fun z hz=>?_⟩;unfold plcs at hz;obtain⟨t,ht,rfl⟩:=aw.mp hz;have:=cn.mpr (aG (aR.mp ht).2);lia
section
variable {fK fH:Addr}{fdK fdH:FuncData}
abbrev jJ8:An:=["one","other"]
theorem scCommon:FnScope jJ8 ["one","other"] (j7 jB5):= {}
def jDT:Sp:=fun vs H Q _=>∃ (q t:Addr) (lot ts:Ag),vs=[.ref q, .ref t]/\H q=some (.tup (lot.map V.int))/\H t=some (.tup (ts.map V.int))/\lot.length<=1000/\∀ H',Ext H H'->Q (.bl (lot.any fun x=>decide (x∈ts))) H'
def jV4 (T:Txt mg): { t:TS // JSs (XOf jJ8 "have_common" jB5 P w K mg Ar f lI A Aq s H0 E) (jC jB5) t} :=
 have nd:=scCommon.nd
 ⟨_,(jE (jQ (jK (jF3 rfl) gD T.any Ab (j3 (kE (m:=[none,some 1]) (Nc:=["thing","other"]) rfl (qC (jv 0 rfl vL)) rfl Ab Ab (jM (psc:=j7 jB5)) (jH (N:=jJ8) rfl rfl Ab) (fun cl C fp s H=>jL (i:=0) (show (["thing","other"]:An).Nodup by decide+kernel) rfl yI) (fun cl C fp s H=>kP) (fun cl C fp s H=>(yQ jED (jv 0 rfl jS) (jv 1 rfl kQ) jGB)) yM) j8 jF) jF)))⟩
theorem jNP {fd:FuncData}(F:Fun K "have_common" "have_common" jB5 f fd)(T:Txt mg):FnOk P w K mg Ar CX0 1 f fd ["one","other"] jDT:=by
 refine F.ok scCommon (fun vs H Q E h=>?_) (fun lI A Aq s H vs Q E hr h=>?_)
 ·obtain⟨_,_,_,_,rfl,_⟩:=h;rfl
 ·obtain⟨q,t,lot,ts,rfl,hq,ht,hl,k⟩:=h;refine⟨_,(jV4 T).2.h,?_⟩;refine⟨_,rfl,q,rfl,⟨_,SqT.of hq⟩,jP1 (tp:=true) hq ht hl rfl fun D H1 k1 e1 n1=>?_⟩;refine⟨D,_,rfl,SqL.of k1,?_⟩;rw[jXB];exact k H1 e1
abbrev jGC:An:=["box","lot"]
theorem scNarrow:FnScope jGC ["box","lot"] (j7 jAW):= {}
def lkP (As:Ae)(ts:Ag):Ag:=(upto As.length).filter fun k=>(j6 As k).any fun t=>decide (t∈ts)
def jDS (tb:Addr):Sp:=fun vs H Q _=>∃ (b a:Addr) (w:Int) (ms:Ag) (As:Ae) (ts:Ag),vs=[.ref b, .ref a]/\BoxAt H b w ms As/\Good 16 32 w ms As/\H a=some (.tup (ts.map V.int))/\Ris w ts/\TabP H tb/\
 ∀ r H',BoxAt H' r ts.length (nmd ts ms) (pick ts As (lkP As ts))->ExtT tb H H'->TabP H' tb->Q (.ref r) H'
def jUJ (T:Txt mg)(CL:Can P w K mg Ar "is_lot" 3 fL fdL ["thing","many"] (spB2 lotB))(CK:Can P w K mg Ar "picked" 2 fK fdK ["box","things","pieces"] (jDR tb))(CH:Can P w K mg Ar "have_common" 1 fH fdH ["one","other"] jDT)(hr:Room 3 (XOf jGC "narrowed" jAW P w K mg Ar f lI A Aq s H0 E).A): { t:TS // JSs (XOf jGC "narrowed" jAW P w K mg Ar f lI A Aq s H0 E) (jC jAW) t} :=
 have nd:=scNarrow.nd
 ⟨_,(jB (yF (jDM (jBW (CL.je (hr.mono Ac) gD (j3 (jv 1 rfl vC) (j3 (jI jJ (jv 0 rfl vL) (je_int) jD) j8 jN) j4) j4) jAJ)) (jE (jOK)) kN)
   (jE (jQ (CK.je (hr.mono Ac) gD (j3 (jv 0 rfl vL) (j3 (jv 1 rfl vC) (j3 (kE (m:=[none,none,some 1]) (Nc:=["number","piece","lot"]) rfl (jJF gD T.enumerate (j3 (jI jJ (jv 0 rfl vL) (je_int) jD) j8 jN) jN) rfl Ab Ab (jM (psc:=j7 jAW)) (jH (N:=jGC) rfl rfl Ab) (fun cl C fp s H=>jCJ (i:=0) (j:=1) rfl (show (["number","piece","lot"]:An).Nodup by decide+kernel) rfl rfl Ab Ab) (fun cl C fp s H=>jEP (jBW (CH.je (hr.mono Ac) gl_b (j3 (jI y0 (jv 1 rfl jS) (je_int) jD) (j3 (jv 2 rfl kQ) j8 j4) jN) jN) jAJ)) (fun cl C fp s H=>(jv 0 rfl jS)) y6) j8 jF) j4) j4) j4))))⟩
theorem jJB {As:Ae}{ts:Ag} :∀ k∈lkP As ts,0<=k/\k<As.length:=fun k hk=>(kT As.length).bnd k (aR.mp hk).1
theorem jOB (As:Ae)(ts:Ag):(lkP As ts).length<=As.length:=by
 have:=bS (fun k=>(j6 As k).any fun t=>decide (t∈ts)) (upto As.length);rw[jAU] at this;exact this
theorem jNM {fd:FuncData}(F:Fun K "narrowed" "narrowed" jAW f fd)(T:Txt mg)(CL:Can P w K mg Ar "is_lot" 3 fL fdL ["thing","many"] (spB2 lotB))(CK:Can P w K mg Ar "picked" 2 fK fdK ["box","things","pieces"] (jDR tb))(CH:Can P w K mg Ar "have_common" 1 fH fdH ["one","other"] jDT):FnOk P w K mg Ar CX0 4 f fd ["box","lot"] (jDS tb):=by
 refine F.ok scNarrow (fun vs H Q E h=>?_) (fun lI A Aq s H vs Q E hr h=>?_)
 ·obtain⟨_,_,_,_,_,_,rfl,_⟩:=h;rfl
 ·obtain⟨b,a,w,ms,As,ts,rfl,hB,g,ha,rk,tab,q⟩:=h;refine⟨_,(jUJ T CL CK CH hr).2.h,?_⟩;obtain⟨qm,qp,ps,b1,b2,b3,b4⟩:=id hB.ex;have pl:=b4.len;have w0:=g.w0;have w1:=g.w1;have gpl:=g.pl;have kris:=rk.ris;have kbnd:=rk.bnd;have tl16:=jAZ rk.ris rk.bnd w1;refine⟨_,rfl,_,rfl,b,_,0,_,rfl,rfl,SqT.of b1,rfl, .ref a,_,_,rfl,jT1 ha (by rw[af]; lia) (Ats.ints ts),fun H1 e1=>⟨_,rfl,?_⟩⟩;rw[jEL rk.ris rk.bnd];refine iteF ?_;have ha1:=e1 _ _ ha;refine⟨_,rfl,_,rfl,_,rfl,b,_,2,_,rfl,rfl,SqT.of (e1 _ _ b1),rfl,true,qp,rfl,⟨_,SqT.of (e1 _ _ b3)⟩,jIC (xs:=ps) (by rw[pl,aE]; lia) (fun D j σ' H' zs=>(∃ v v',σ'=[v,v',some (.ref a)])/\Ext H1 H'/\H' D=some (.lst zs)/\H1 D=none/\zs=(((upto As.length).take j).filter fun k=>(j6 As k).any fun x=>decide (x∈ts)).map V.int) ?_ ?_ ?_ ?_⟩
  ·intro D hD;exact⟨⟨_,_,rfl⟩,(Ext.refl _).new hD _,j5,hD,rfl⟩
  ·rintro D j σ' H' zs hD ⟨_,e,h2,_,rfl⟩;refine⟨SqT.of (e _ _ (e1 _ _ b3)),h2,?_⟩;rw[af];exact bv (bS _ _) (bC _ _)
  ·rintro D j σ' H' zs x X hD hx hX ⟨⟨v,v',rfl⟩,e,h2,hn,rfl⟩;have hj:j<As.length:=by
    rw[<- pl];exact(ao.mp hx).1
   obtain⟨x',hx',pa,pq,rfl,c1,c2⟩:=b4.get hj;rw[hx] at hx';cases hx';have e7:Ext H' (L2.upd H' X (.tup [.int (j:Int), .ref pa])):=(Ext.refl _).new hX _;have E7:=(e1.trans e).trans e7;refine⟨X,_,rfl,SqT.of j5,rfl,_,_,rfl,_,_,rfl,rfl,?_⟩;dsimp only [kR];have ll:(As.getD j ([],0)).1.length<=16:=by
    have:=jFB g (k:=j) Aa Aa;unfold j6 at this;rw[bz] at this;exact this
   refine⟨_,rfl,pa,_,0,_,rfl,rfl,SqT.of (E7 _ _ c1),rfl,_,rfl,pq,a,_,ts,rfl,E7 _ _ c2,e7 _ _ (e _ _ ha1),Aa,fun H8 e8=>⟨_,rfl,?_⟩⟩;have h8:=e8 _ _ (e7 _ _ h2);have et:j6 As (j:Int)=(As.getD j ([],0)).1:=by unfold j6; rw[bz]
   have E8:=(e.trans e7).trans e8;rw[<- et,jPC (jFZ hj)];refine ite2 (fun hz=>?_) (fun hz=>?_)
   ·refine⟨_,rfl,h8,⟨_,_,rfl⟩,E8.updNew hn _,j5,hn,?_⟩;rw[aq hz,aS];rfl
   ·refine⟨⟨_,_,rfl⟩,E8,h8,hn,?_⟩;rw[ak hz,bf]
  ·rintro D σ' H7 zs hD ⟨_,e7,h7,n7,rfl⟩;have hap:((upto As.length).take ps.length).filter (fun k=>(j6 As k).any fun x=>decide (x∈ts))=lkP As ts:=by
    rw[pl,b9 (by rw[jAU]; exact aA _)];rfl
   rw[hap] at h7;have E7:=e1.trans e7;have tln:=jAZ kris kbnd w1;have aln:=jOB As ts;refine⟨b,a,D,true,false,w,ms,As,ts,lkP As ts,rfl,hB.mono E7.tups,E7 _ _ ha,h7,kris.imp fun h=>by lia,Aa,?_,pc_lt g,jJB,Aa,tab.ext E7,fun r1 H8 B8 e8 t8=>?_⟩
   ·have:=jAZ g.mr.ris g.mr.bnd w1;lia
   exact q r1 H8 B8 ((ExtT.of E7).trans e8) t8
theorem jET {w mp:Int}{ms:Ag}{As:Ae}{ts:Ag}(g:Good 16 mp w ms As)(rk:Ris w ts):Good 16 mp ts.length (nmd ts ms) (pick ts As (lkP As ts)):=by
 have tl16:=jAZ rk.ris rk.bnd g.w1;have gpl:=g.pl;have ll:=jOB As ts;refine⟨Aa,Aa,jNT rk.ris g.mr.ris,?_,fun pc hpc=>?_⟩
 ·unfold pick;rw[af];lia
 ·unfold pick at hpc;obtain⟨k,hk,rfl⟩:=aw.mp hpc;have kb:=jJB k hk;have gp:=g.at (k:=k.toNat) Aa;have r:=jNT rk.ris (lot:=j6 As k) gp.lot.ris;refine⟨⟨r.ris,r.bnd,fun z=>?_⟩,gp.lo,gp.hi⟩;have hany:=(aR.mp hk).2;obtain⟨x,hx,hx2⟩:=dW.mp hany;have:(plcs ts (j6 As k)).length=0:=by
   rw[<- jNS (lot:=j6 As k) rk.ris gp.lot.ris];exact bW List.length z
  unfold plcs at this;rw[af] at this;have mem:x∈(j6 As k).filter fun t=>decide (t∈ts):=aR.mpr ⟨hx,hx2⟩;rw[dH this] at mem;cases mem
end
structure Tb2 (H:Hp)(tb1 tb2:Addr):Prop where
 p:TabP H tb1
 w:TabW H tb2
 ne:tb1≠tb2
def Ex2 (tb1 tb2:Addr)(H H':Hp):Prop:=∀ b o,H b=some o->b≠tb1->b≠tb2->H' b=some o
theorem TabOk.extO {H H':Hp}{T U:Addr}{pos:Pos}{q:Str}(t:TabOk H T pos q)(ne:T≠U)(u:∀ c,H c=some (.ext (ncP q c))->c≠U)(e:ExtT U H H'):TabOk H' T pos q:=by
 rcases t with h | ⟨c,h,h2⟩
 ·exact .inl (e _ _ h ne)
 ·exact .inr ⟨c,e _ _ h ne,e _ _ h2 (u c h2)⟩
theorem Tb2.ext {H H':Hp}{tb1 tb2:Addr}(t:Tb2 H tb1 tb2)(e:Ext H H'):Tb2 H' tb1 tb2:=⟨t.p.ext e,t.w.ext e,t.ne⟩
theorem Tb2.extP {H H':Hp}{tb1 tb2:Addr}(t:Tb2 H tb1 tb2)(e:ExtT tb1 H H')(p:TabP H' tb1):Tb2 H' tb1 tb2:=⟨p,TabOk.extO t.w t.ne.symm (fun c h=>t.p.ne h (by intro _ z; cases z)) e,t.ne⟩
theorem Tb2.extW {H H':Hp}{tb1 tb2:Addr}(t:Tb2 H tb1 tb2)(e:ExtT tb2 H H')(p:TabW H' tb2):Tb2 H' tb1 tb2:=⟨TabOk.extO t.p t.ne (fun c h=>t.w.ne h (by intro _ z; cases z)) e,p,t.ne⟩
theorem Ex2.ofP {H H':Hp}{tb1 tb2:Addr}(e:ExtT tb1 H H'):Ex2 tb1 tb2 H H':=fun b o h n _=>e b o h n
theorem Ex2.ofW {H H':Hp}{tb1 tb2:Addr}(e:ExtT tb2 H H'):Ex2 tb1 tb2 H H':=fun b o h _ n=>e b o h n
theorem Ex2.trans {H H1 H2:Hp}{tb1 tb2:Addr}(a:Ex2 tb1 tb2 H H1)(b:Ex2 tb1 tb2 H1 H2):Ex2 tb1 tb2 H H2:=fun c o h n m=>b c o (a c o h n m) n m
theorem Ex2.at {H H':Hp}{tb1 tb2:Addr}(e:Ex2 tb1 tb2 H H')(t:Tb2 H tb1 tb2){b:Addr}{o:HO}(h:H b=some o)(ho:∀ ps,o≠ .tbl ps:=by intro _ z; cases z):H' b=some o:=e b o h (t.p.ne h ho) (t.w.ne h ho)
theorem Ex2.tups {H H':Hp}{tb1 tb2:Addr}(e:Ex2 tb1 tb2 H H')(t:Tb2 H tb1 tb2):Tups H H':=fun b xs h=>e.at t h
abbrev nBar:An:=["box","lot"]
theorem scBar:FnScope nBar ["box","lot"] (j7 sBar):= {}
def wkN (ms:Ag)(As:Ae)(ts:Ag):Af:=wk (chs ts.length (nmd ts ms) (pick ts As (lkP As ts))) 0
def spBar (tb1 tb2:Addr):Sp:=fun vs H Q _=>∃ (b a:Addr) (w:Int) (ms:Ag) (As:Ae) (ts:Ag),vs=[.ref b, .ref a]/\BoxAt H b w ms As/\Good 16 32 w ms As/\H a=some (.tup (ts.map V.int))/\Ris w ts/\Tb2 H tb1 tb2/\
 ∀ H',Ex2 tb1 tb2 H H'->Tb2 H' tb1 tb2->Q (.bl (decide (wkN ms As ts=[]))) H'
def barA (CN:Can P w K mg Ar "narrowed" 4 fN fdN ["box","lot"] (jDS tb1))(CM:Can P w K mg Ar "many" 6 fM fdM ["box"] (qD tb2))(hr:Room 6 (XOf nBar "is_bar" sBar P w K mg Ar f lI A Aq s H0 E).A): { t:TS // JSs (XOf nBar "is_bar" sBar P w K mg Ar f lI A Aq s H0 E) (jC sBar) t} :=
 have nd:=scBar.nd
 ⟨_,(jE (jQ (yQ qQ (CM.je hr gD (j3 (CN.je (hr.mono Ac) gD (j3 (jv 0 rfl vL) (j3 (jv 1 rfl vL) j8 j4) j4) j4) j8 jG) jG) (je_int) (jV _))))⟩
theorem jWK {fd:FuncData}(F:Fun K "is_bar" "is_bar" sBar f fd)(CN:Can P w K mg Ar "narrowed" 4 fN fdN ["box","lot"] (jDS tb1))(CM:Can P w K mg Ar "many" 6 fM fdM ["box"] (qD tb2)):FnOk P w K mg Ar CX0 7 f fd ["box","lot"] (spBar tb1 tb2):=by
 refine F.ok scBar (fun vs H Q E h=>?_) (fun lI A Aq s H vs Q E hr h=>?_)
 ·obtain⟨_,_,_,_,_,_,rfl,_⟩:=h;rfl
 ·obtain⟨b,a,w,ms,As,ts,rfl,hB,g,ha,rk,tab,q⟩:=h;refine⟨_,(barA CN CM hr).2.h,?_⟩;refine⟨_,rfl,_,rfl,b,a,w,ms,As,ts,rfl,hB,g,ha,rk,tab.p,fun r H1 B1 e1 t1=>?_⟩;have T1:=tab.extP e1 t1;refine⟨r,_,_,_,rfl,B1,jET g rk,T1.w,fun H2 e2 t2=>?_⟩;refine⟨rfl,?_⟩;have ed:decide (natV (wk (chs ((ts.length:Int)).toNat (nmd ts ms) (pick ts As (lkP As ts))) 0).length=V.int 0)=decide (wkN ms As ts=[]):=by
   rw[bz];refine g0.mpr ⟨fun z=>?_,fun z=>?_⟩
   ·have:((wkN ms As ts).length:Int)=0:=V.int.inj z;exact dH Aa
   ·show natV (wkN ms As ts).length=_;rw[z];rfl
  rw[ed];exact q H2 ((Ex2.ofP e1).trans (Ex2.ofW e2)) (T1.extW e2 t2)
def btsN (n m:Nat):Ag:=((List.range n).filter fun t=>m.testBit t).map fun (t:Nat)=>(t:Int)
theorem jD6 (p:Nat->Bool):∀ (d b:Nat),(∀ t,b<=t->p t=false)->(List.range (b+d)).filter p=(List.range b).filter p
 | 0,_,_=>rfl
 | d+1,b,h=>by
  rw[show b+(d+1)=(b+d)+1 by lia,io,bN,jD6 p d b h,cN,ak (by rw[h _ Aa]; exact ay),kf,bf]
theorem jRP {m a b:Nat}(ha:m<2 ^ a)(hb:m<2 ^ b):btsN a m=btsN b m:=by
 have f:∀ c,m<2 ^ c->∀ t,c<=t->m.testBit t=false:=fun c hc t ht=>gM (aX hc (cj Ac ht));unfold btsN;congr 1;rcases Nat.le_total a b with h | h
 ·obtain⟨d,rfl⟩:∃ d,b=a+d:=⟨b - a,Aa⟩;exact(jD6 _ d a (f a ha)).symm
 ·obtain⟨d,rfl⟩:∃ d,a=b+d:=⟨a - b,Aa⟩;exact jD6 _ d b (f b hb)
theorem jV8 (m:Nat):m<2 ^ Builtin.Int.intBits (m:Int):=by
 unfold Builtin.Int.intBits;by_cases h:m=0
 ·subst h;decide
 ·have:(((m:Nat):Int)==0)=false:=cG.mpr Aa;rw[this,lF];exact Nat.lt_log2_self
theorem jV9 {m n:Nat}(h:m<2 ^ n):Builtin.Int.intBits (m:Int)<=n:=by
 unfold Builtin.Int.intBits;by_cases h0:m=0
 ·subst h0;exact bw _
 ·have:(((m:Nat):Int)==0)=false:=cG.mpr Aa;rw[this,lF];exact(Nat.log2_lt h0).mpr h
theorem jRR (m t:Nat):decide (V.int (Builtin.bitAnd ((m:Int) / 2 ^ ((t:Nat):Int).toNat) 1)=V.int 1)=m.testBit t:=by
 have e:(m:Int) / 2 ^ ((t:Nat):Int).toNat=((m / 2 ^ t:Nat):Int):=by
  rw[bz];push_cast;rfl
 rw[e,show Builtin.bitAnd ((m / 2 ^ t:Nat):Int) 1=((m / 2 ^ t&&&1:Nat):Int) from jFU _ 1,lE,gO,bZ,br,br];constructor
 ·intro h;have:=V.int.inj h;lia
 ·intro h;rw[h];rfl
theorem jLH (n m:Nat):Ris (n:Int) (btsN n m):=by
 unfold btsN;refine⟨bu.mpr ((gN.filter _).imp fun h=>by lia),fun z hz=>?_⟩;obtain⟨t,ht,rfl⟩:=aw.mp hz;have:=bK.mp (aR.mp ht).1;lia
abbrev jNY:An:=["mask"]
theorem scLotOf:FnScope jNY ["mask"] (j7 jDH):= {}
def jG1:Sp:=fun vs H Q _=>∃ (m n:Nat),vs=[natV m]/\m<2 ^ n/\n<=64/\∀ r H',H' r=some (.tup ((btsN n m).map V.int))->Ext H H'->Q (.ref r) H'
def jWQ (T:Txt mg): { t:TS // JSs (XOf jNY "lot_of" jDH P w K mg Ar f lI A Aq s H0 E) (jC jDH) t} :=
 have nd:=scLotOf.nd
 ⟨_,(jE (jQ (kI jP gD T.tuple Ab (j3 (kE (m:=[none,some 0]) (Nc:=["thing","mask"]) rfl (jAG gD T.range (j3 (jOT jt iC iE jO1 (jv 0 rfl vC)) j8 jG) jG) rfl Ab Ab (jM (psc:=j7 jDH)) (jH (N:=jNY) rfl rfl Ab) (fun cl C fp s H=>jL (i:=0) (show (["thing","mask"]:An).Nodup by decide+kernel) rfl yI) (fun cl C fp s H=>jEP (jW qQ (jZ jKN (jZ jSH (jv 1 rfl kQ) (jv 0 rfl jS)) (je_int)) (je_int) (jV _))) (fun cl C fp s H=>(jv 0 rfl jS)) y6) j8 jF) jF)))⟩
theorem jQP {fd:FuncData}(F:Fun K "lot_of" "lot_of" jDH f fd)(T:Txt mg):FnOk P w K mg Ar CX0 1 f fd ["mask"] jG1:=by
 refine F.ok scLotOf (fun vs H Q E h=>?_) (fun lI A Aq s H vs Q E hr h=>?_)
 ·obtain⟨_,_,rfl,_⟩:=h;rfl
 ·obtain⟨m,n,rfl,hm,hn,q⟩:=h;refine⟨_,(jWQ T).2.h,?_⟩;have bl:=jV9 hm;refine⟨_,rfl,rfl,_,rfl,rfl,_,rfl,Aa,Aa,jGW (n:=(Builtin.Int.intBits (m:Int):Int).toNat) (fun σ=>∃ v,σ=[v,some (natV m)]) (outZ (List.range (Builtin.Int.intBits (m:Int):Int).toNat) (fun t=>m.testBit t) natV) (outZ.ok _ _ _) (by rw[aE]; lia) ⟨_,rfl⟩ ?_ ?_⟩
  ·rintro j σ' H' zs hj ⟨v,rfl⟩ e hz S1 S2 yes no;have e0:(0+(j:Int))=(j:Int):=Aa;have hg:(List.range (Builtin.Int.intBits (m:Int):Int).toNat)[j]?=some j:=dh hj;refine⟨_,rfl,_,rfl,_,_,rfl,rfl,Aa,_,_,rfl,rfl,rfl,_,rfl,?_⟩;show if decide (V.int (Builtin.bitAnd ((m:Int) / 2 ^ (0+(j:Int)).toNat) 1)=V.int 1)=true then _ else _
   rw[e0,jRR];refine ite2 (fun h=>?_) (fun h=>?_)
   ·refine⟨_,rfl,yes _ _ _ ⟨_,rfl⟩ (Ext.refl _) (hz.yes hg h)⟩
   ·exact no _ _ ⟨_,rfl⟩ (Ext.refl _) (hz.no hg (ck.mpr h))
  ·rintro D H' zs hD e nD hz;have hz:=hz.all (by rw[cx]; exact aA _);refine⟨D,_,rfl, .inl ⟨SqL.of hD,fun r hr'=>q r _ ?_ ((e.trans ((Ext.refl _).new hr' _)))⟩⟩;rw[j5,hz];have:=jRP (a:=n) hm (jV8 m);rw[this];unfold btsN;rw[bB];rfl
theorem jC4 {H:Hp} :∀ {us:List V}{ws:Af},LsAt H us ws->TsAt H (ws.map fun x=>Tr.tup (x.map Tr.int)) us
 | [],[],_=>rfl
 | v::us,x::ws,⟨⟨a,e,h⟩,r⟩=>⟨v,us,rfl,⟨a,_,e,h,jL4 x⟩,jC4 r⟩
theorem jD1:∀ (ws:Af),deps (ws.map fun x=>Tr.tup (x.map Tr.int))<=100
 | []=>by show (0:Nat)<=100; decide
 | x::ws=>by
  refine Nat.max_le.mpr ⟨?_,jD1 ws⟩;show deps (x.map Tr.int)+1<=100;rw[jF0];decide
theorem jKX (ws:Af):eqTs (ws.map fun x=>Tr.tup (x.map Tr.int)) []=decide (ws=[]):=by
 cases ws <;> rfl
def lsZ {α:Type}(l:List α)(p:α->Bool)(f:α->Ag):Hp->List V->Nat->Prop:=fun H zs j=>LsAt H zs (((l.take j).filter p).map f)
theorem LsAt.len {H:Hp}{us:List V}{ws:Af}(h:LsAt H us ws):us.length=ws.length:=All2.len h
theorem lsZ.ok {α:Type}(l:List α)(p:α->Bool)(f:α->Ag):ZOk (lsZ l p f):=⟨fun _=>trivial,fun _ _ _ _ t h=>LsAt.mono t h,fun _ zs j h=>by
 rw[LsAt.len h,af];exact bv (bS _ _) (bC _ _)⟩
theorem LsAt.snoc {H:Hp}{us:List V}{ws:Af}{a:Addr}{x:Ag}(h:LsAt H us ws)(ha:H a=some (.tup (x.map V.int))):LsAt H (us++[.ref a]) (ws++[x]):=All2.snoc h ⟨a,rfl,ha⟩
theorem lsZ.yes {α:Type}{l:List α}{p:α->Bool}{f:α->Ag}{H H':Hp}{zs:List V}{j:Nat}{x:α}{a:Addr}(h:lsZ l p f H zs j)(t:Tups H H')(hx:l[j]?=some x)(hp:p x=true)(ha:H' a=some (.tup ((f x).map V.int))):lsZ l p f H' (zs++[.ref a]) (j+1):=by
 unfold lsZ;rw[be,hx,bN,aS];have e:((some x).toList.filter p).map f=[f x]:=by simp [hp]
 rw[e];exact LsAt.snoc (LsAt.mono t h) ha
theorem lsZ.all {α:Type}{l:List α}{p:α->Bool}{f:α->Ag}{H:Hp}{zs:List V}{n:Nat}(h:lsZ l p f H zs n)(hn:l.length<=n):LsAt H zs ((l.filter p).map f):=by
 unfold lsZ at h;rw[b9 hn] at h;exact h
structure TT where
 a:Addr
 p:Pos
 q:Str
def ads (L:List TT):List Addr:=L.map TT.a
structure TbS (L:List TT)(H:Hp):Prop where
 nd:(ads L).Nodup
 ok:∀ t∈L,TabOk H t.a t.p t.q
def ExS (S:List Addr)(H H':Hp):Prop:=∀ b o,H b=some o->b∉S->H' b=some o
section
variable {S':List Addr}{L:List TT}{H'':Hp}
theorem ExS.of (e:Ext H H'):ExS S H H':=fun b o h _=>e b o h
theorem ExS.trans (a:ExS S H H')(b:ExS S H' H''):ExS S H H'':=fun c o h n=>b c o (a c o h n) n
theorem ExS.mono (h:∀ x∈S,x∈S')(e:ExS S H H'):ExS S' H H':=fun b o z n=>e b o z fun y=>n (h b y)
theorem ExS.ofT {T:Addr}(e:ExtT T H H')(h:T∈S):ExS S H H':=fun b o z n=>e b o z fun y=>n (y ▸ h)
theorem TbS.ext (t:TbS L H)(e:Ext H H'):TbS L H':=⟨t.nd,fun x hx=>(t.ok x hx).ext e⟩
theorem TbS.off (t:TbS L H){b:Addr}{o:HO}(h:H b=some o)(ho:∀ ps,o≠ .tbl ps:=by intro _ z; cases z):b∉ads L:=fun z=>by
 obtain⟨x,hx,e⟩:=aw.mp z;exact(t.ok x hx).ne h ho e.symm
theorem TbS.at (t:TbS L H)(e:ExS (ads L) H H'){b:Addr}{o:HO}(h:H b=some o)(ho:∀ ps,o≠ .tbl ps:=by intro _ z; cases z):H' b=some o:=e b o h (t.off h ho)
theorem TbS.tups (t:TbS L H)(e:ExS (ads L) H H'):Tups H H':=fun b xs h=>t.at e h
theorem TbS.sq {K:W.Frag}{a:Addr}{xs:List V}(t:TbS L H)(e:ExS (ads L) H H')(h:SqL K H a xs):SqL K H' a xs:=by
 rcases h with h | h
 ·rcases h with h | ⟨o,h⟩
  ·exact .inl (.inl (t.at e h))
  ·exact .inl (.inr ⟨o,t.at e h⟩)
 ·exact .inr h
theorem TbS.set (t:TbS L H)(hs:∀ s∈S,s∈ads L)(e:ExS S H H')(k:∀ x∈L,x.a∈S->TabOk H' x.a x.p x.q):TbS L H':=⟨t.nd,fun x hx=>by
 by_cases z:x.a∈S
 ·exact k x hx z
 ·rcases t.ok x hx with h | ⟨c,h,h2⟩
  ·exact .inl (e _ _ h z)
  ·exact .inr ⟨c,e _ _ h z,e _ _ h2 fun y=>t.off h2 (by intro _ z; cases z) (hs c y)⟩⟩
theorem TbS.setT (t:TbS L H){x:TT}(hx:x∈L)(e:ExtT x.a H H')(k:TabOk H' x.a x.p x.q):TbS L H':=t.set (S:=[x.a]) (fun s hs=>by rw[aN.mp hs]; exact bJ hx) (ExS.ofT e (aN.mpr rfl)) fun y hy hm=>by
 have e1:=aN.mp hm;have:y=x:=by
  have nd:=t.nd;obtain⟨i,hi⟩:=bh hy;obtain⟨j,hj⟩:=bh hx;have hi':(ads L)[i]?=some x.a:=by unfold ads; rw[aV,hi,<- e1]; rfl
  have hj':(ads L)[j]?=some x.a:=by unfold ads; rw[aV,hj]; rfl
  have li:i<(ads L).length:=(ao.mp hi').1;have ij:=(fj li nd).mp (hi'.trans hj'.symm);rw[ij,hj] at hi;exact(bD hi).symm
 rw[this];exact k
end
def keyL (x:Ag):Ag:=(x.length:Int)::x
def jB8 (n:Nat):Af:=(List.range (2 ^ n)).map (btsN n)
def leK (a b:Ag):Bool:=!HT.lexLt (keyL b) (keyL a)
def yA (n:Nat):Af:=(jB8 n).mergeSort leK
theorem jBE (n:Nat):(yA n).Perm (jB8 n):=la _ _
theorem jHI (n:Nat):(yA n).Pairwise fun a b=>HT.lexLt (keyL b) (keyL a)=false:=by
 refine(jf (le:=leK) (fun a b c h1 h2=>?_) (fun a b=>?_) (jB8 n)).imp fun {a b} h=>by
  unfold leK at h;exact cH _ |>.mp h
 ·unfold leK at h1 h2 ⊢;rw[cH] at h1 h2 ⊢;by_cases z:HT.lexLt (keyL c) (keyL a)=true
  ·by_cases y:HT.lexLt (keyL a) (keyL b)=true
   ·rw[TM.lex_tr z y] at h2;cases h2
   ·have:=TM.lex_tot (ck.mpr y) h1;rw[this,h2] at z;cases z
  ·exact ck.mpr z
 ·unfold leK;rw[fb,cH,cH];by_cases z:HT.lexLt (keyL b) (keyL a)=true
  ·right;by_cases y:HT.lexLt (keyL a) (keyL b)=true
   ·have:=TM.lex_tr z y;rw[TM.lex_irr] at this;cases this
   ·exact ck.mpr y
  ·exact .inl (ck.mpr z)
theorem jI2 (l:Af):(l.map keyL).map List.tail=l:=by
 rw[bB];exact List.map_id'' (fun _=>rfl) l
theorem jLU {n:Nat}{ws:Af}(p:ws.Perm (jB8 n))(s:(ws.map keyL).Pairwise fun a b=>HT.lexLt b a=false):ws=yA n:=by
 have:=jGI ((p.trans (jBE n).symm).map keyL) s (bu.mpr (jHI n));rw[<- jI2 ws,this,jI2]
theorem jR1 {n:Nat}{x:Ag}(h:x∈jB8 n):Ris (n:Int) x:=by
 obtain⟨m,_,rfl⟩:=aw.mp h;exact jLH n m
theorem jCD {n:Nat}{x:Ag}(h:x∈yA n):Ris (n:Int) x:=jR1 ((jBE n).mem_iff.mp h)
theorem jHJ (n:Nat):(yA n).length=2 ^ n:=by
 rw[(jBE n).length_eq];unfold jB8;rw[af,cx]
def inB (y x:Ag):Bool:=y.all fun t=>decide (t∈x)
def yN (pr:Ag->Bool)(acc:Af)(x:Ag):Af:=if (!acc.any fun y=>inB y x)&&pr x then acc++[x] else acc
def yD (pr:Ag->Bool)(ws:Af):Af:=ws.foldl (yN pr) []
theorem jEN {pr:Ag->Bool}{ws:Af}{i:Nat}{x:Ag}(h:ws[i]?=some x):yD pr (ws.take (i+1))=yN pr (yD pr (ws.take i)) x:=by
 unfold yD;rw[be,h,List.foldl_append];rfl
theorem jMZ (pr:Ag->Bool)(acc:Af)(x:Ag):(yN pr acc x).length<=acc.length+1:=by
 unfold yN;split
 ·rw[aL]; exact aA _
 ·lia
theorem jBI (pr:Ag->Bool):∀ (ws:Af) (i:Nat),(yD pr (ws.take i)).length<=i
 | ws,0=>by rw[iP]; exact aA _
 | ws,i+1=>by
  cases h:ws[i]? with
  | none=>
   have:ws.take (i+1)=ws.take i:=by rw[be,h]; simp
   rw[this];exact Nat.le_succ_of_le (jBI pr ws i)
  | some x=>
   rw[jEN h];exact bv (jMZ _ _ _) (Nat.succ_le_succ (jBI pr ws i))
theorem jBH {pr:Ag->Bool} :∀ {ws acc:Af}{x:Ag},x∈ws.foldl (yN pr) acc->x∈acc\/x∈ws
 | [],_,_,h=> .inl h
 | y::ws,acc,x,h=>by
  rcases jBH (ws:=ws) h with z | z
  ·unfold yN at z;split at z
   ·rcases aJ.mp z with z | z
    ·exact .inl z
    ·exact .inr (aN.mp z ▸ ai ..)
   ·exact .inl z
  ·exact .inr (ag _ z)
abbrev jJ7:An:=["lot","other"]
theorem scWithin:FnScope jJ7 ["lot","other"] (j7 jB4):= {}
def jBD:Sp:=fun vs H Q _=>∃ (a b:Addr) (xs ys:Ag),vs=[.ref a, .ref b]/\H a=some (.tup (xs.map V.int))/\H b=some (.tup (ys.map V.int))/\xs.length<=1000/\∀ H',Ext H H'->Q (.bl (inB xs ys)) H'
def jT4 (T:Txt mg): { t:TS // JSs (XOf jJ7 "is_within" jB4 P w K mg Ar f lI A Aq s H0 E) (jC jB4) t} :=
 have nd:=scWithin.nd
 ⟨_,(jE (jQ (jK (jCP rfl) gD T.all Ab (j3 (kE (m:=[none,some 1]) (Nc:=["thing","other"]) rfl (qC (jv 0 rfl vL)) rfl Ab Ab (jM (psc:=j7 jB4)) (jH (N:=jJ7) rfl rfl Ab) (fun cl C fp s H=>jL (i:=0) (show (["thing","other"]:An).Nodup by decide+kernel) rfl yI) (fun cl C fp s H=>kP) (fun cl C fp s H=>(yQ jED (jv 0 rfl jS) (jv 1 rfl kQ) jGB)) yM) j8 jF) jF)))⟩
theorem jNI {fd:FuncData}(F:Fun K "is_within" "is_within" jB4 f fd)(T:Txt mg):FnOk P w K mg Ar CX0 1 f fd ["lot","other"] jBD:=by
 refine F.ok scWithin (fun vs H Q E h=>?_) (fun lI A Aq s H vs Q E hr h=>?_)
 ·obtain⟨_,_,_,_,rfl,_⟩:=h;rfl
 ·obtain⟨a,b,xs,ys,rfl,ha,hb,hl,q⟩:=h;refine⟨_,(jT4 T).2.h,?_⟩;refine⟨_,rfl,a,rfl,⟨_,SqT.of ha⟩,jP1 (tp:=true) ha hb hl rfl fun D H3 h3 e3 n3=>?_⟩;refine⟨D,_,rfl,SqL.of h3,?_⟩;rw[jXC];exact q H3 e3
end Eo
namespace L2
open PySem PySem.Spec PyProof.Rows
theorem FunC.okZ {P:PySem.Program}{w:PySem.World}{K:W.Frag}{mg:PySem.Str->Option PySem.Value}{Ar:PySem.Heap}{Z:PySem.Shared->Hp->Prop}{x qual:PySem.Str}{st:PySem.Stmt}{f c0:PySem.Addr}{fd:PySem.FuncData}{N ps:List PySem.Str}{k:Nat}{sp:Sp}(F:FunC K x qual st f fd c0)(S:FnScope N ps (j7 st))(len:∀ vs H Q E,sp vs H Q E->vs.length=ps.length)
  (hbody:∀ (A:PySem.Around) (Aq:List PySem.Env) (s:PySem.Shared) (H:Hp) (vs:List V) (Q:VK) (E:XK),Room k (A.deeper (envOfC qual (j7 st) s.heap.objs.size f (.ref c0)))->Z s H->sp vs H Q E->
   ∃ t,PSs (cxOf CX0 P w K mg Ar N qual (j7 st) f (.ref c0) A Aq s H E).nox (jC st) t/\t { nx:=fun _ H'=>Q .non H',rt:=Q} (yC N vs) H):FnZ P w K mg Ar CX0 Z (k+1) f fd ps sp:=by
 obtain⟨oc,od,kV,doc,pm,an,ct,osl,rfl,lk,hcd⟩:=F.ex;refine jSV lk hcd S len fun A Aq s H vs Q E hr hz hsp=>?_;obtain⟨t,ht,hq⟩:=hbody A Aq s H vs Q E hr hz hsp;exact⟨t,ht.nox,hq⟩
end L2
namespace Eo
open PySem L2
def lamK (s:Stmt):Arguments×Expr×Scope×Pos:=match (jC s).getD 1 (.Pass ⟨0,0,0,0⟩) with
 | .For _ (.Call _ _ [⟨_, .Lambda a b sc p,_⟩] _) _ _ _=>(a,b,sc,p)
 | _=>(y8 s, .Constant .none 0 ⟨0,0,0,0⟩,j7 s,⟨0,0,0,0⟩)
abbrev keyA:Arguments:=(lamK yU).1
abbrev keyB:Expr:=(lamK yU).2.1
abbrev keySc:Scope:=(lamK yU).2.2.1
abbrev keyPo:Pos:=(lamK yU).2.2.2
abbrev nKey:An:=["one"]
theorem scKey:NScope nKey ["one"] [] keySc:=⟨rfl,rfl,rfl,Ab,rfl,Ab,Ab,fun x h=>by
  have hl:∀ y∈keySc.names,y.2≠ .free:=Ab;exact absurd rfl (hl _ (cf h)),Ab⟩
abbrev qKey:Str:= "least_lots.<locals>.<lambda>"
def spKey:Sp:=fun vs H Q _=>∃ (a:Addr) (lot:Ag),vs=[.ref a]/\H a=some (.tup (lot.map V.int))/\∀ r H',H' r=some (.tup [.int (lot.length:Int), .ref a])->Ext H H'->Q (.ref r) H'
def zhK (a c:Addr):Hp->Prop:=fun H=>H a=some (.ext (nlP qKey keyA keyB keySc [] a c))/\H c=some (.ext (ncP qKey c))
theorem zhK.ext (a c:Addr)(H H':Hp)(e:Ext H H')(h:zhK a c H):zhK a c H':=⟨e _ _ h.1,e _ _ h.2⟩
section
variable {fO:Addr}{fdO:FuncData}{HI:Hp->Prop}{n:Nat}{pr:Ag->Bool}
def jR4 (T:Txt mg): { t:TE // JE (cxN P w K mg Ar nKey qKey keySc a (.ref c) cl A Aq s H0) keyB t} :=⟨_,(y4 (j3 (jK jT gl_n T.len Ab (j3 (jv 0 rfl yX) j8 j4) j4) (j3 (jv 0 rfl yX) j8 j4) jG))⟩
theorem jWI (T:Txt mg):Callee P w K mg Ar ZT (zhK a c) 1 a spKey:=by
 refine Callee.imp (jP9 (fv:=[]) scKey (fun vs H Q E h=>?_) (fun pm ctv us hl=>?_) fun A Aq s H vs Q E hr h=>?_) fun s H _=>⟨⟨fun x y c h=>(by cases h),fun x c h=>(by cases h)⟩,rfl,fun i x v h=>(by cases h)⟩
 ·obtain⟨_,_,rfl,_⟩:=h;rfl
 ·match us,hl with
  | [_],_=>rfl
 ·obtain⟨a,lot,rfl,ha,q⟩:=h;refine⟨_,(jR4 T).2.h,?_⟩;refine⟨_,rfl,a,_,rfl, .inr (SqT.of ha),_,rfl,by show (2:Nat)<=_; decide,fun r H' d e=>?_⟩;rw[af] at d;exact q r H' d e
abbrev TabK (H:Hp)(tb:Addr):Prop:=TabOk H tb keyPo qKey
def jHC (S:List Addr)(HI:Hp->Prop)(n:Nat)(pr:Ag->Bool):Sp:=fun vs H Q _=>∃ (a:Addr) (lot:Ag),vs=[.ref a]/\H a=some (.tup (lot.map V.int))/\Ris (n:Int) lot/\HI H/\∀ H',ExS S H H'->HI H'->Q (.bl (pr lot)) H'
structure HIOk (S:List Addr)(HI:Hp->Prop):Prop where
 ext:∀ {H H'},Ext H H'->HI H->HI H'
 off:∀ {H b o},HI H->H b=some o->(∀ ps,o≠ .tbl ps)->b∉S
 lst:∀ {H' H p xs ys},HI H'->H' p=none->HI H->H p=some (.lst xs)->HI (L2.upd H p (.lst ys))
def jN2 (j tb:Addr)(S:List Addr)(HI:Hp->Prop)(n:Nat)(pr:Ag->Bool):Sp:=fun vs H Q _=>vs=[.int (n:Int), .ref j]/\n<=16/\TabK H tb/\(∀ H',ExtT tb H H'->TabK H' tb->HI H')/\tb∉S/\
 ∀ l us H',H' l=some (.lst us)->LsAt H' us (yD pr (yA n))->ExS (tb::S) H H'->HI H'->TabK H' tb->H l=none->Q (.ref l) H'
abbrev jKS:An:=["things","holds","least","lot"]
theorem scLeast:FnScope jKS ["things","holds"] (j7 yU):= {}
abbrev jIS (P:Program)(w:World)(K:W.Frag)(mg:Ak)(Ar:Heap)(f c0:Addr)(A:Around)(Aq:List Env)(s:Shared)(H:Hp)(E:XK):Cx:=XOf jKS "least_lots" yU P w K mg Ar f (.ref c0) A Aq s H E
def jFM (T:Txt mg)(CW:Can P w K mg Ar "is_within" 1 fW fdW ["lot","other"] jBD)(CJ:Callee P w K mg Ar Z zh 8 j (jHC S HI n pr))(zs:ZSt Z)(hz:Z s H0)(hr:Room 8 (jIS P w K mg Ar f c0 A Aq s H0 E).A): { t:TS // JSs (jIS P w K mg Ar f c0 A Aq s H0 E) (jBV ((jC yU).getD 1 (.Pass ⟨0,0,0,0⟩))) t} :=
 have nd:=scLeast.nd
 ⟨_,(jE (yF (jt_w (jSR (jDM (jBW (jK (jF3 rfl) gD T.any Ab (j3 (kE (m:=[none,some 3]) (Nc:=["shorter","lot"]) rfl (yL (jv 2 rfl vL)) rfl Ab Ab (jM (psc:=j7 yU)) (jH (N:=jKS) rfl rfl Ab) (fun cl C fp s H=>jL (i:=0) (show (["shorter","lot"]:An).Nodup by decide+kernel) rfl yI) (fun cl C fp s H=>kP) (fun cl C fp s H=>(CW.je (hr.mono Ac) gl_b (j3 (jv 0 rfl jS) (j3 (jv 1 rfl kQ) j8 j4) j4) j4)) yM) j8 jF) jF) jAJ)) (jOJ (jBW (jL3 (j:=1) CJ hr zs hz rfl rfl vL (j3 (jv 3 rfl vC) j8 j4) j4) jAJ)))) (jE (jEQ (je_bm cw gf gh jCH (jv 2 rfl vL) (j3 (jv 3 rfl vC) j8 j4) j4) jY)) kN))⟩
def jWS (T:Txt mg)(CH:PySem.W.CodeHd Ar c0 tb)(BM:qN Ar mg)(CO:Can P w K mg Ar "lot_of" 1 fO fdO ["mask"] jG1)(CW:Can P w K mg Ar "is_within" 1 fW fdW ["lot","other"] jBD)(CJ:Callee P w K mg Ar Z zh 8 j (jHC S HI n pr))(zs:ZSt Z)(hz:Z s H0)(hr:Room 8 (jIS P w K mg Ar f c0 A Aq s H0 E).A): { t:TS // JSs (jIS P w K mg Ar f c0 A Aq s H0 E) (jC yU) t} :=
 have nd:=scLeast.nd
 ⟨_,(jB (jO (i:=2) nd rfl lL (jB0 j8) jFC) (jB (jBX cC rfl (yL (jI4 (jIG jUP (fun q c=>jWI T) zhK.ext (hr.mono Ac)) gD T.sorted Ab (j3 (kE (m:=[none]) (Nc:=["mask"]) rfl (jAG gD T.range (j3 (jZ jHS (je_int) (jv 0 rfl vL)) j8 yB) yB) rfl Ab Ab (jM (psc:=j7 yU)) (jH (N:=jKS) rfl rfl Ab) (fun cl C fp s H=>jL (i:=0) (show (["mask"]:An).Nodup by decide+kernel) rfl yI) (fun cl C fp s H=>kP) (fun cl C fp s H=>(CO.je (hr.mono Ac) gl_b (j3 (jv 0 rfl jS) j8 j4) j4)) y6) j8 jF) (jOL (jOP rfl CH BM (fun y hy hf=>absurd hf (by revert y; decide+kernel)) rfl) jST) jF)) (jL (i:=3) nd rfl loc_c) (jFM T CW CJ zs hz hr).2 y6) (jE (jQ (jv 2 rfl vL)))))⟩
def lotV (H:Hp):V->Ag
 | .ref a=>match H a with
  | some (.tup xs)=>xs.map fun v=>match v with
   | .int i=>i
   | _=>0
  | _=> []
 | _=> []
theorem jO9 {H:Hp}{a:Addr}{x:Ag}(h:H a=some (.tup (x.map V.int))):lotV H (.ref a)=x:=by
 dsimp only [lotV];rw[h];show (x.map V.int).map _=x;rw[bB];exact List.map_id'' (fun _=>rfl) x
theorem jO8 {H:Hp} :∀ {us:List V}{ws:Af},LsAt H us ws->us.map (lotV H)=ws/\∀ v∈us,∃ a,v= .ref a/\H a=some (.tup ((lotV H v).map V.int))
 | [],[],_=>⟨rfl,fun v h=>by cases h⟩
 | v::us,x::ws,⟨⟨a,e,h⟩,r⟩=>by
  obtain⟨i1,i2⟩:=jO8 r;subst e;refine⟨by rw[bg,jO9 h,i1],fun v hv=>?_⟩;rcases aI.mp hv with z | z
  ·rw[z,jO9 h];exact⟨a,rfl,h⟩
  ·exact i2 v z
theorem jO6 {H H':Hp} :∀ {us:List V},(∀ v∈us,∃ a,v= .ref a/\H' a=some (.tup ((lotV H v).map V.int)))->LsAt H' us (us.map (lotV H))
 | [],_=>trivial
 | v::us,h=>⟨h v (ai ..),jO6 fun w hw=>h w (ag _ hw)⟩
theorem jM6 (T:Txt mg)(CW:Can P w K mg Ar "is_within" 1 fW fdW ["lot","other"] jBD)(CJ:Callee P w K mg Ar Z zh 8 j (jHC S HI n pr))(zs:ZSt Z)(hz:Z s H0)(hr:Room 8 (jIS P w K mg Ar f c0 A Aq s H0 E).A)(hi:HIOk S HI)(hzh:∀ H,HI H->zh H)
  {D:Ends}{H Hs:Hp}{l q:Addr}{x:Ag}{us:List V}{acc:Af}(Is:HI Hs) (Ns:Hs l=none) (hI:HI H) (hl:H l=some (.lst us)) (hu:LsAt H us acc) (ul:acc.length<=65536) (hq:H q=some (.tup (x.map V.int))) (rx:Ris (n:Int) x) (ra:∀ y∈acc,y.length<=1000)
  (nx:∀ H' us',HI H'->(∀ b o,H b=some o->b∉S->b≠l->H' b=some o)->H' l=some (.lst us')->LsAt H' us' (yN pr acc x)->D.nx [some (.int (n:Int)),some (.ref j),some (.ref l),some (.ref q)] H'):
  (jFM T CW CJ zs hz hr).1 D [some (.int (n:Int)),some (.ref j),some (.ref l),some (.ref q)] H:=by
 have ulen:=LsAt.len hu;refine⟨_,rfl,l,rfl,⟨_,SqL.of hl⟩,jB1 (xs:=us) (fun σ=>∃ v1,σ=[v1,some (.ref q)]) (mapZ acc fun y=>V.bl (inB y x)) (mapZ.ok _ _) hl (by rw[aE]; lia) ⟨_,rfl⟩ ?_ ?_⟩
 ·rintro i v σ' H' zs hv ⟨v1,rfl⟩ e hz' S1 S2 yes no;obtain⟨y,hy,a,rfl,ha⟩:=All2.get' hu hv;dsimp only [kR,yK];rw[aq rfl];exact⟨_,rfl,_,rfl,a,q,y,x,rfl,e _ _ ha,e _ _ hq,ra y (aH hy),fun H'' e'=>yes _ _ _ ⟨_,rfl⟩ e' (hz'.yes hy)⟩
 ·rintro D' H1 zs h1 e1 n1 hz';have hz':=hz'.all (by rw[ulen]; exact aA _);have hz2:zs=(acc.map fun y=>inB y x).map V.bl:=by rw[hz',bB]; rfl
  rw[hz2] at h1;refine⟨D',_,rfl,SqL.of h1,_,rfl,?_⟩;have ea:(acc.map fun y=>inB y x).any id=acc.any fun y=>inB y x:=by rw[lG]; rfl
  rw[ea];have I1:=hi.ext e1 hI;refine ite2 (fun c1=>?_) (fun c1=>?_)
  ·refine⟨rfl,_,rfl,hzh _ I1,q,x,rfl,e1 _ _ hq,rx,I1,fun H2 e2 I2=>⟨_,rfl,?_⟩⟩;have k2:∀ b o,H1 b=some o->(∀ ps,o≠ .tbl ps)->H2 b=some o:=fun b o h t=>e2 b o h (hi.off I1 h t);have tu:Tups H H2:=fun b xs h=>k2 _ _ (e1 _ _ h) (by intro _ z; cases z);have hl2:=k2 _ _ (e1 _ _ hl) (by intro _ z; cases z);have kk:∀ b o,H b=some o->b∉S->b≠l->H2 b=some o:=fun b o h ns _=>e2 _ _ (e1 _ _ h) ns;refine ite2 (fun c2=>?_) (fun c2=>?_)
   ·have hs:yN pr acc x=acc++[x]:=by
     unfold yN;rw[aq (by rw[c1,c2]; rfl)]
    refine⟨_,rfl, .inl ⟨rfl,_,SqL.of hl2⟩,_,rfl,l,us,_,rfl,rfl,hl2,by rw[aE]; lia,?_⟩;have t2:=Tups.upd hl2 (.lst (us++[.ref q]));refine nx _ _ (hi.lst Is Ns I2 hl2) (fun b o h ns nl=>by rw[j9 nl]; exact kk b o h ns nl) j5 ?_;rw[hs];exact LsAt.snoc (LsAt.mono t2 (LsAt.mono tu hu)) (t2 _ _ (tu _ _ hq))
   ·have hs:yN pr acc x=acc:=by
     unfold yN;rw[ak (by rw[bL]; exact fun z=>c2 z.2)]
    exact nx H2 us I2 kk hl2 (by rw[hs]; exact LsAt.mono tu hu)
  ·have hs:yN pr acc x=acc:=by
    unfold yN;rw[ak (by rw[bL]; exact fun z=>c1 z.1)]
   exact iteF (nx H1 us I1 (fun b o h _ _=>e1 _ _ h) (e1 _ _ hl) (by rw[hs]; exact LsAt.mono e1.tups hu))
theorem jQR {fd:FuncData}(F:FunC K "least_lots" "least_lots" yU f fd c0)(T:Txt mg)(CH:PySem.W.CodeHd Ar c0 tb)(BM:qN Ar mg)(CO:Can P w K mg Ar "lot_of" 1 fO fdO ["mask"] jG1)(CW:Can P w K mg Ar "is_within" 1 fW fdW ["lot","other"] jBD)(CJ:Callee P w K mg Ar Z zh 8 j (jHC S HI n pr))(zs:ZSt Z)(hi:HIOk S HI)(hzh:∀ H,HI H->zh H):FnZ P w K mg Ar CX0 Z 9 f fd ["things","holds"] (jN2 j tb S HI n pr):=by
 refine F.okZ scLeast (fun vs H Q E h=>?_) (fun A Aq s H vs Q E hr hz h=>?_)
 ·obtain⟨rfl,_⟩:=h;rfl
 ·obtain⟨rfl,n16,tab,hI0,ntb,q⟩:=h;refine⟨_,(jWS T CH BM CO CW CJ zs hz hr).2.h,?_⟩;have p16:2 ^ n<=2 ^ 16:=cj Ac n16;have p16':(2 ^ 16:Nat)=65536:=Ac;refine⟨by show (0:Nat)<=_; decide,fun l H1 d1 e1 n1=>?_⟩;have e2n:(1:Int)*2 ^ ((n:Nat):Int).toNat=((2 ^ n:Nat):Int):=by rw[Int.one_mul,bz]; push_cast; rfl
  refine⟨_,rfl,_,_,rfl,rfl,⟨Aa,Aa,Aa⟩,?_⟩;have p0:=bF n;generalize hN:2 ^ n=N at p16 p0 e2n;refine⟨((N:Nat):Int),by rw[<- e2n],Aa,Aa,?_⟩;subst hN;refine jGW (n:=((2 ^ n:Nat):Int).toNat) (fun σ=>∃ v,σ=[v]) (lsZ (List.range (2 ^ n)) (fun _=>true) (btsN n)) (lsZ.ok _ _ _) (by rw[aE,bz]; lia) ⟨_,rfl⟩ ?_ ?_
  ·rintro i σ' H' zs' hi' ⟨v,rfl⟩ e hz' S1 S2 yes no;rw[bz] at hi';dsimp only [kR,yK];rw[aq rfl];have e0:(0+(i:Int))=(i:Int):=Aa;refine⟨_,rfl,i,n,by rw[e0]; rfl,hi',Aa,fun r H'' d e'=>?_⟩;exact yes _ _ _ ⟨_,rfl⟩ e' (hz'.yes e'.tups (dh hi') rfl d)
  ·rintro D H2 us h2 e2 n2 hz';have hu:LsAt H2 us (jB8 n):=by
    have:=hz'.all (by rw[cx,bz]; exact aA _);rw[lg.mpr (fun _ _=>rfl)] at this;exact this
   have E2:=e1.trans e2;refine⟨tab.ext E2,fun a c H3 k1 k2 k3 e3 na=>?_⟩;have T2:TabK H2 tb:=tab.ext E2;have T3:TabK H3 tb:= .inr ⟨c,k3,k2⟩;have tu3:Tups H2 H3:=fun b xs h=>e3.at T2 h;have u3:=LsAt.mono tu3 hu;obtain⟨m1,m2⟩:=jO8 u3;refine⟨D,us,a,c,fun v=>keyL (lotV H3 v),rfl,rfl,SqL.of (e3.at T2 h2),⟨k1,k2⟩,fun v hv=>let ⟨x,e,_⟩:=m2 v hv; ⟨x,e⟩,fun v hv H4 Q4 e4 k4=>?_,fun l2 us' H4 nl pm pw e4 h4=>?_⟩
   ·obtain⟨x,rfl,hx⟩:=m2 v hv;exact⟨x,_,rfl,e4 _ _ hx,fun r H5 d e=>k4 _ _ ⟨r,x,_,_,rfl,d,e _ _ (e4 _ _ hx),rfl⟩ e⟩
   ·have m3:∀ v∈us',∃ a,v= .ref a/\H4 a=some (.tup ((lotV H3 v).map V.int)):=fun v hv=>by
     obtain⟨x,e,hx⟩:=m2 v (pm.mem_iff.mp hv);exact⟨x,e,e4 _ _ hx⟩
    have w4:LsAt H4 us' (yA n):=by
     have p1:(us'.map (lotV H3)).Perm (jB8 n):=by rw[<- m1]; exact pm.map _
     have p2:((us'.map (lotV H3)).map keyL).Pairwise fun a b=>HT.lexLt b a=false:=by
      rw[bu,bu];exact pw
     rw[<- jLU p1 p2];exact jO6 m3
    have d4:H4 l=some (.lst []):=e4 _ _ (e3.at T2 (e2 _ _ d1));have ne:l2≠l:=fun z=>by rw[z,e3.at T2 (e2 _ _ d1)] at nl; cases nl
    have I3:HI H3:=hI0 H3 (fun b o h ns=>e3 b o (E2 _ _ h) ns) T3;have I4:=hi.ext e4 I3;refine⟨l2,rfl,⟨_,SqL.of h4⟩,jBM (xs:=us') (fun i σ H'=>(∃ v3,σ=[some (.int (n:Int)),some (.ref j),some (.ref l),v3])/\HI H'/\(∀ b o,H4 b=some o->b∉S->b≠l->H' b=some o)/\∃ zs,H' l=some (.lst zs)/\LsAt H' zs (yD pr ((yA n).take i))) ⟨⟨_,rfl⟩,I4,fun b o h _ _=>h,[],d4,trivial⟩ (fun i σ H' _ ⟨_,_,k,_⟩=>SqL.of (k _ _ h4 (hi.off I4 h4 (by intro _ z; cases z)) ne)) ?_ ?_⟩
    ·rintro i v σ H' hv ⟨⟨v3,rfl⟩,I',k',zs',z1,z2⟩;obtain⟨x,hx,qa,rfl,hqa⟩:=All2.get' w4 hv;have xs:=aH hx;have hq':H' qa=some (.tup (x.map V.int)):=k' _ _ hqa (hi.off I4 hqa (by intro _ z; cases z)) fun z=>by rw[z,d4] at hqa; cases hqa
     have il:i<us'.length:=(ao.mp hv).1;have sl:=jHJ n;have wl:=LsAt.len w4;have al:=jBI pr (yA n) i;refine jM6 T CW CJ zs hz hr hi hzh (hI0 H (fun b o h _=>h) tab) n1 I' z1 z2 Aa hq' (jCD xs) (fun y hy=>?_) fun H'' us'' I'' k'' z3 z4=>⟨⟨_,rfl⟩,I'',fun b o h ns nl=>k'' b o (k' b o h ns nl) ns nl,us'',z3,?_⟩
     ·rcases jBH hy with z | z
      ·cases z
      ·have r:=jCD (bV z);have:=jAN y 0 n r.ris r.bnd;lia
     ·rw[jEN hx];exact z4
    ·rintro σ H' ⟨⟨v3,rfl⟩,I',k',zs',z1,z2⟩;have wl:=LsAt.len w4;rw[wl,bq] at z2;refine⟨_,rfl,q l zs' H' z1 z2 (fun b o h ns=>?_) I' ?_ n1⟩
     ·have ns2:b∉S:=fun z=>ns (ag _ z);have nt:b≠tb:=fun z=>ns (z ▸ ai ..);exact k' b o (e4 _ _ (e3 b o (E2 _ _ h) nt)) ns2 fun z=>by rw[z,n1] at h; cases h
     ·have t4:H4 tb=some (.tbl (onePs keyPo c)):=e4 _ _ k3;refine .inr ⟨c,k' _ _ t4 ntb fun z=>(by rw[z,d4] at t4; cases t4),k' _ _ (e4 _ _ k2) (hi.off I4 (e4 _ _ k2) (by intro _ z; cases z)) fun z=>?_⟩;have:=e4 _ _ k2;rw[z,d4] at this;cases this
end
def jKY (s:Stmt):Arguments×Expr×Scope×Pos:=match (jC s).getD 1 (.Pass ⟨0,0,0,0⟩) with
 | .Return (some (.Call _ [_, .Lambda a b sc p] _ _)) _=>(a,b,sc,p)
 | _=>(y8 s, .Constant .none 0 ⟨0,0,0,0⟩,j7 s,⟨0,0,0,0⟩)
abbrev barA':Arguments:=(jKY yJ).1
abbrev barB':Expr:=(jKY yJ).2.1
abbrev barSc:Scope:=(jKY yJ).2.2.1
abbrev barPo:Pos:=(jKY yJ).2.2.2
abbrev nBarL:An:=["lot","box"]
theorem jVQ:NScope nBarL ["lot"] ["box"] barSc:=⟨rfl,rfl,rfl,Ab,rfl,Ab,Ab,fun x h=>by
  have hl:∀ y∈barSc.names,y.2= .free->y.1= "box" :=Ab;rw[show x=_ from hl _ (cf h) rfl];exact ai .., by decide+kernel⟩
abbrev qBarL:Str:= "least_bars.<locals>.<lambda>"
structure BI where
 a:Addr
 c:Addr
 b:Addr
 w:Int
 ms:Ag
 As:Ae
 g:Good 16 32 w ms As
abbrev barP (ms:Ag)(As:Ae)(x:Ag):Bool:=decide (wkN ms As x=[])
def zhB (cl:Aj)(i:BI):Hp->Prop:=fun H=>H i.a=some (.ext (nlP qBarL barA' barB' barSc cl i.a i.c))/\H i.c=some (.ext (ncP qBarL i.c))
def HIb (tb1 tb2:Addr)(cl:Aj)(i:BI):Hp->Prop:=fun H=>zhB cl i H/\BoxAt H i.b i.w i.ms i.As/\Tb2 H tb1 tb2
theorem TabOk.lst {H:Hp}{T p:Addr}{pos:Pos}{q:Str}{xs:List V}{o:HO}(t:TabOk H T pos q)(hp:H p=some (.lst xs)):TabOk (L2.upd H p o) T pos q:=by
 have ne:∀ c o,H c=some o->(∀ xs,o≠ .lst xs)->c≠p:=fun c o h n z=>by
  rw[z,hp] at h;cases h;exact n _ rfl
 rcases t with h | ⟨c,h,h2⟩
 ·exact .inl (by rw[j9 (ne _ _ h (by intro _ z; cases z))]; exact h)
 ·exact .inr ⟨c,by rw[j9 (ne _ _ h (by intro _ z; cases z))]; exact h,by rw[j9 (ne _ _ h2 (by intro _ z; cases z))]; exact h2⟩
theorem HIb.ok (tb1 tb2:Addr)(cl:Aj)(i:BI):HIOk [tb1,tb2] (HIb tb1 tb2 cl i) where
 ext e h:=⟨⟨e _ _ h.1.1,e _ _ h.1.2⟩,h.2.1.mono e.tups,h.2.2.ext e⟩
 off h e t z:=by
  rcases aI.mp z with z | z
  ·exact h.2.2.p.ne e t z
  ·exact h.2.2.w.ne e t (aN.mp z)
 lst _ _ h hp:=⟨⟨by rw[j9 (fun z=>by have:=h.1.1; rw[z,hp] at this; cases this)]; exact h.1.1,by rw[j9 (fun z=>by have:=h.1.2; rw[z,hp] at this; cases this)]; exact h.1.2⟩,h.2.1.mono (Tups.upd hp _),⟨TabOk.lst h.2.2.p hp,TabOk.lst h.2.2.w hp,h.2.2.ne⟩⟩
def jRS (CB:Can P w K mg Ar "is_bar" 7 fB fdB ["box","lot"] (spBar tb1 tb2))(hr:Room 7 (cxN P w K mg Ar nBarL qBarL barSc a (.ref c) cl A Aq s H0).A): { t:TE // JE (cxN P w K mg Ar nBarL qBarL barSc a (.ref c) cl A Aq s H0) barB' t} :=⟨_,(CB.je hr gl_n (j3 (jv 1 rfl (jRU Ab)) (j3 (jv 0 rfl yX) j8 j4) j4) j4)⟩
theorem jUF (CB:Can P w K mg Ar "is_bar" 7 fB fdB ["box","lot"] (spBar tb1 tb2))(cl:Aj)(i:BI):Callee P w K mg Ar (ZC cl ["box"] [.ref i.b]) (zhB cl i) 8 i.a (jHC [tb1,tb2] (HIb tb1 tb2 cl i) i.w.toNat (barP i.ms i.As)):=by
 refine jP9 (fv:=[.ref i.b]) jVQ (fun vs H Q E h=>?_) (fun pm ctv us hl=>?_) fun A Aq s H vs Q E hr h=>?_
 ·obtain⟨_,_,rfl,_⟩:=h;rfl
 ·match us,hl with
  | [_],_=>rfl
 ·obtain⟨x,lot,rfl,hx,rk,hI,q⟩:=h;refine⟨_,(jRS CB hr).2.h,?_⟩;have w0:=i.g.w0;have rw':Ris i.w lot:=⟨rk.ris,fun z hz=>by have:=rk.bnd z hz; lia⟩;refine⟨_,rfl,_,rfl,i.b,x,i.w,i.ms,i.As,lot,rfl,hI.2.1,i.g,hx,rw',hI.2.2,fun H' e t=>?_⟩;refine q H' (fun b o h n=>e b o h (fun z=>n (z ▸ ai ..)) fun z=>n (z ▸ ag _ (ai ..))) ⟨⟨e.at hI.2.2 hI.1.1,e.at hI.2.2 hI.1.2⟩,hI.2.1.mono (e.tups hI.2.2),t⟩
abbrev jKT:An:=["box"]
theorem scLBars:FnScope jKT ["box"] (j7 yJ):= {}
theorem fsBL:∀ x∈(["box"]:An),barSc.names.lookup x=some .free:=by decide+kernel
theorem jX5:FsAt (XOf jKT "least_bars" yJ P w K mg Ar f (.ref c0) A Aq s H0 E) ["box"] [0]:=⟨rfl,fun k x h=>by
 match k,h with
 | 0,h=>
  cases h;exact⟨0,rfl,rfl, .inl (show (j7 yJ).names.lookup (("box" :String):Str)=some .cell by decide+kernel)⟩
 | k+1,h=>cases h⟩
abbrev tP (tb:Addr):TT:=⟨tb,jSE,"picked.<locals>.named"⟩
abbrev tW (tb:Addr):TT:=⟨tb,lamP,qLam⟩
abbrev tK (tb:Addr):TT:=⟨tb,keyPo,qKey⟩
abbrev tB (tb:Addr):TT:=⟨tb,barPo,qBarL⟩
abbrev L4 (tb1 tb2 tb3 tb4:Addr):List TT:=[tP tb1,tW tb2,tK tb3,tB tb4]
def qI (w:Int)(ms:Ag)(As:Ae):Af:=yD (barP ms As) (yA w.toNat)
def jAL (tb1 tb2 tb3 tb4:Addr):Sp:=fun vs H Q _=>∃ (b:Addr) (w:Int) (ms:Ag) (As:Ae),vs=[.ref b]/\BoxAt H b w ms As/\Good 16 32 w ms As/\w<=9/\TbS (L4 tb1 tb2 tb3 tb4) H/\
 ∀ l us H',H' l=some (.lst us)->LsAt H' us (qI w ms As)->ExS (ads (L4 tb1 tb2 tb3 tb4)) H H'->TbS (L4 tb1 tb2 tb3 tb4) H'->H l=none->Q (.ref l) H'
abbrev jK7 (tb1 tb2 tb3:Addr)(cl:Aj)(i:BI):Sp:=jN2 i.a tb3 [tb1,tb2] (HIb tb1 tb2 cl i) i.w.toNat (barP i.ms i.As)
def jWT (T:Txt mg)(CH:PySem.W.CodeHd Ar c0 tb4)(BM:qN Ar mg){u9:Tok}(MN:mg "MOST_THINGS_WITH_BARS" =some (.int 9 u9))(FG:∀ cl i,FnZ P w K mg Ar CX0 (ZC cl ["box"] [.ref i.b]) 9 fG fdG ["things","holds"] (jK7 tb1 tb2 tb3 cl i))(MG:mg "least_lots" =some (.ref fG))(KG:keepIn K (.ref fG)=true)(BG:Binds K fdG ["things","holds"] [])(hr:Room 9 (XOf jKT "least_bars" yJ P w K mg Ar f (.ref c0) A Aq s H0 E).A): { t:TS // JSs (XOf jKT "least_bars" yJ P w K mg Ar f (.ref c0) A Aq s H0 E) (jC yJ) t} :=
 have nd:=scLBars.nd
 ⟨_,(jB (yF (jW op_gt (jI jJ (jv 0 rfl vC) (je_int) jD) (jJH (v:= .int 9) gD MN ⟨_,rfl⟩) (jV _)) (jE (jOK)) kN) (jE (jQ (jL2 (G:=fun (i:BI) σ=>jDU σ [0] [.ref i.b]) (FG _) hr gD MG KG BG (fun i lH s σ H I q=>⟨I.clOk (jM (psc:=j7 yJ)),I.fvOk (jM (psc:=j7 yJ)) fsBL jX5 q⟩) (j3 (jI jJ (jv 0 rfl vC) (je_int) jD) (j3 (jOP rfl CH BM (jM (psc:=j7 yJ)) rfl) j8 jS8) jN) jN))))⟩
theorem jQS {fd:FuncData}(F:FunC K "least_bars" "least_bars" yJ f fd c0)(T:Txt mg)(CH:PySem.W.CodeHd Ar c0 tb4)(BM:qN Ar mg){u9:Tok}(MN:mg "MOST_THINGS_WITH_BARS" =some (.int 9 u9))(FG:∀ cl i,FnZ P w K mg Ar CX0 (ZC cl ["box"] [.ref i.b]) 9 fG fdG ["things","holds"] (jK7 tb1 tb2 tb3 cl i))(MG:mg "least_lots" =some (.ref fG))(KG:keepIn K (.ref fG)=true)(BG:Binds K fdG ["things","holds"] []):FnOk P w K mg Ar CX0 10 f fd ["box"] (jAL tb1 tb2 tb3 tb4):=by
 refine F.ok scLBars (fun vs H Q E h=>?_) (fun A Aq s H vs Q E hr h=>?_)
 ·obtain⟨_,_,_,_,rfl,_⟩:=h;rfl
 ·obtain⟨b,wi,ms,As,rfl,hB,g,w9,tab,q⟩:=h;refine⟨_,(jWT T CH BM MN FG MG KG BG hr).2.h,?_⟩;obtain⟨qm,qp,ps,b1,b2,b3,b4⟩:=id hB.ex;have w0:=g.w0;have nd:=tab.nd;unfold ads L4 at nd;simp only [bg,iu,ce,aI,bH,dr,lz] at nd;obtain⟨⟨n12,n13,n14⟩,⟨n23,n24⟩,n34,_⟩:=nd;have o1:=tab.ok (tP tb1) (ai ..);have o2:=tab.ok (tW tb2) (ag _ (ai ..));have o3:=tab.ok (tK tb3) (ag _ (ag _ (ai ..)));have o4:=tab.ok (tB tb4) (ag _ (ag _ (ag _ (ai ..))));refine⟨_,rfl,b,_,0,_,rfl,rfl,SqT.of b1,rfl,_,_,rfl,rfl,_,rfl,?_⟩;refine iteN (aM Aa) ?_;refine⟨_,rfl,b,_,0,_,rfl,rfl,SqT.of b1,rfl,o4,fun a c H1 k1 k2 k3 e1 na=>?_⟩;have x1:ExS (ads (L4 tb1 tb2 tb3 tb4)) H H1:=ExS.ofT e1 (by show tb4∈[tb1,tb2,tb3,tb4]; simp);have T1:TbS (L4 tb1 tb2 tb3 tb4) H1:=tab.setT (x:=tB tb4) (ag _ (ag _ (ag _ (ai ..)))) e1 (.inr ⟨c,k3,k2⟩);have tu1:=tab.tups x1;have p1:=T1.ok (tP tb1) (ai ..);have p2:=T1.ok (tW tb2) (ag _ (ai ..));have p3:=T1.ok (tK tb3) (ag _ (ag _ (ai ..)));have t12:Tb2 H1 tb1 tb2:=⟨p1,p2,n12⟩;refine⟨⟨a,c,b,wi,ms,As,g⟩,rfl,by show [V.int wi,V.ref a]=[V.int ((wi.toNat:Nat):Int),V.ref a]; rw[dQ w0],by show wi.toNat<=16; lia,p3,fun H' e' t'=>?_,?_,fun l us H2 h2 hu e2 I2 k2' n2=>?_⟩
  ·have at1:∀ {b:Addr}{o:HO},H1 b=some o->(∀ ps,o≠ .tbl ps)->H' b=some o:=fun {b o} h t=>e' b o h (p3.ne h t);refine⟨⟨at1 k1 (by intro _ z; cases z),at1 k2 (by intro _ z; cases z)⟩,(hB.mono tu1).mono fun b xs h=>at1 h (by intro _ z; cases z),?_⟩;exact⟨TabOk.extO t12.p n13 (fun c h=>p3.ne h (by intro _ z; cases z)) e',TabOk.extO t12.w n23 (fun c h=>p3.ne h (by intro _ z; cases z)) e',n12⟩
  ·show tb3∉ [tb1,tb2];simp only [aI,bH,dr,lz];exact⟨fun z=>n13 z.symm,fun z=>n23 z.symm⟩
  ·have e3:ExS (ads (L4 tb1 tb2 tb3 tb4)) H1 H2:=ExS.mono (fun x hx=>by
    show x∈[tb1,tb2,tb3,tb4];simp only [aI,bH,dr] at hx ⊢;rcases hx with z | z | z
    ·exact .inr (.inr (.inl z))
    ·exact .inl z
    ·exact .inr (.inl z)) e2
   have T2:TbS (L4 tb1 tb2 tb3 tb4) H2:=T1.set (S:=[tb3,tb1,tb2]) (fun x hx=>by
    show x∈[tb1,tb2,tb3,tb4];simp only [aI,bH,dr] at hx ⊢;rcases hx with z | z | z
    ·exact .inr (.inr (.inl z))
    ·exact .inl z
    ·exact .inr (.inl z)) e2 fun x hx hm=>by
     simp only [aI,bH,dr] at hx;rcases hx with rfl | rfl | rfl | rfl
     ·exact I2.2.2.p
     ·exact I2.2.2.w
     ·exact k2'
     ·exfalso;simp only [aI,bH,dr] at hm;rcases hm with z | z | z
      ·exact n34 z.symm
      ·exact n14 z.symm
      ·exact n24 z.symm
   refine q l us H2 h2 hu (x1.trans e3) T2 ?_;cases z:H l with
   | none=>rfl
   | some o=>
    by_cases y:l=tb4
    ·rw[y,k3] at n2;cases n2
    ·rw[e1 _ _ z y] at n2;cases n2
structure NC (ms:Ag)(As:Ae)(ts S:Ag):Prop where
 bnd:∀ k∈S,0<=k/\k<As.length
 dis:∀ k∈S,∀ k'∈S,k≠k'->∀ t∈ts,t∈j6 As k->t∉j6 As k'
 cov:∀ t∈ts,t∉ms->∃ k∈S,t∈j6 As k
theorem jH1 {w:Int}{ms:Ag}{As:Ae}{ts:Ag}(g:Good 16 32 w ms As)(rk:Ris w ts):wkN ms As ts≠ []↔∃ S,NC ms As ts S:=by
 have gn:=jET g rk;have el:cvs (ts.length:Int) (nmd ts ms) (pick ts As (lkP As ts))=(wkN ms As ts).map srt:=by
  unfold cvs wkN;rw[bz]
 have ex:wkN ms As ts≠ []↔∃ c,IsCov (ts.length:Int) (nmd ts ms) (pick ts As (lkP As ts)) c:=by
  constructor
  ·intro h;obtain⟨x,r,hx⟩:=dY h;exact⟨srt x,(jEH gn).mp (by rw[el,hx]; exact ai ..)⟩
  ·rintro ⟨c,hc⟩ z;have:=(jEH gn).mpr hc;rw[el,z] at this;cases this
 have nlk:(lkP As ts).Nodup:=((kT As.length).ris.sublist dP).imp fun {a b} h=>by lia
 have pl:(pick ts As (lkP As ts)).length=(lkP As ts).length:=af ..;have lkm:∀ j:Int,0<=j->j<(lkP As ts).length->(lkP As ts).getD j.toNat 0∈lkP As ts:=fun j h0 h1=>by
  have hj:j.toNat<(lkP As ts).length:=Aa;rw[am,aC hj];exact cU hj
 rw[ex];constructor
 ·rintro ⟨c,C⟩;have cb:∀ j∈c,0<=j/\j<(lkP As ts).length:=fun j hj=>by have:=C.ris.bnd j hj; rw[pl] at this; exact this
  refine⟨c.map fun j=>(lkP As ts).getD j.toNat 0,fun k hk=>?_,fun k hk k' hk' ne t ht h1 h2=>?_,fun t ht hn=>?_⟩
  ·obtain⟨j,hj,rfl⟩:=aw.mp hk;exact jJB _ (lkm j (cb j hj).1 (cb j hj).2)
  ·obtain⟨j,hj,rfl⟩:=aw.mp hk;obtain⟨j',hj',rfl⟩:=aw.mp hk';have nj:j≠j':=fun z=>ne (by rw[z]);refine C.dis j hj j' hj' nj ((ts.idxOf t:Nat):Int) ?_ ?_
   ·rw[jA6 (cb j hj).1 (cb j hj).2];exact mem_nmd.mpr ⟨t,h1,ht,rfl⟩
   ·rw[jA6 (cb j' hj').1 (cb j' hj').2];exact mem_nmd.mpr ⟨t,h2,ht,rfl⟩
  ·have hp:ts.idxOf t<ts.length:=cn.mpr ht;obtain⟨j,hj,hjt⟩:=C.cov ((ts.idxOf t:Nat):Int) Aa Aa (fun z=>by
    obtain⟨u,hu,hut,e⟩:=mem_nmd.mp z;exact hn (jJJ ht hut e ▸ hu))
   rw[jA6 (cb j hj).1 (cb j hj).2] at hjt;obtain⟨u,hu,hut,e⟩:=mem_nmd.mp hjt;exact⟨_,bJ hj,jJJ ht hut e ▸ hu⟩
 ·rintro ⟨S,N⟩;refine⟨(upto (lkP As ts).length).filter fun j=>decide ((lkP As ts).getD j.toNat 0∈S),⟨(kT _).ris.sublist dP,fun j hj=>?_⟩,fun j hj j' hj' ne p h1 h2=>?_,fun p p0 p1 hn=>?_⟩
  ·rw[pl];exact(kT _).bnd j (aR.mp hj).1
  ·obtain⟨a1,a2⟩:=aR.mp hj;obtain⟨b1,b2⟩:=aR.mp hj';have ab:=(kT _).bnd j a1;have bb:=(kT _).bnd j' b1;rw[jA6 ab.1 ab.2] at h1;rw[jA6 bb.1 bb.2] at h2;obtain⟨t,ht,hts,e⟩:=mem_nmd.mp h1;obtain⟨u,hu,hus,e'⟩:=mem_nmd.mp h2;have:t=u:=jJJ hts hus Aa;subst this;refine N.dis _ (aG a2) _ (aG b2) (fun z=>ne ?_) t hts ht hu;have hj1:j.toNat<(lkP As ts).length:=Aa;have hj2:j'.toNat<(lkP As ts).length:=Aa;rw[am,am,aC hj1,aC hj2] at z;have:j.toNat=j'.toNat:=(fj hj1 nlk).mp (by rw[aC hj1,aC hj2]; exact bW some z);lia
  ·have hp:p.toNat<ts.length:=Aa;have ht:ts[p.toNat]∈ts:=cU hp;have ip:((ts.idxOf ts[p.toNat]:Nat):Int)=p:=by
    have h1:=(jCK ht).1;have nd:ts.Nodup:=rk.ris.imp fun {a b} h=>by lia
    have hlt:ts.idxOf ts[p.toNat]<ts.length:=cn.mpr ht;have:=(fj hlt nd).mp (h1.trans (aC hp).symm);lia
   obtain⟨k,hk,hkt⟩:=N.cov _ ht (fun z=>hn (mem_nmd.mpr ⟨_,z,ht,ip.symm⟩));have kb:=N.bnd k hk;have kl:k∈lkP As ts:=by
    unfold lkP;refine aR.mpr ⟨?_,dW.mpr ⟨_,hkt,ar ht⟩⟩;unfold upto;exact aw.mpr ⟨k.toNat,bK.mpr Aa,Aa⟩
   have hj:(lkP As ts).idxOf k<(lkP As ts).length:=cn.mpr kl;have gk:(lkP As ts).getD ((lkP As ts).idxOf k:Int).toNat 0=k:=by
    rw[bz,am,(jCK kl).1];rfl
   refine⟨((lkP As ts).idxOf k:Int),aR.mpr ⟨mem_upto.mpr ⟨Aa,Aa⟩,ar (by rw[gk]; exact hk)⟩,?_⟩;rw[jA6 Aa Aa,gk];exact mem_nmd.mpr ⟨_,hkt,ht,ip.symm⟩
theorem jPV (p:Nat->Bool):∀ n:Nat,∃ m<2 ^ n,∀ t<n,m.testBit t=p t
 | 0=>⟨0,Ac,fun t h=>by lia⟩
 | n+1=>by
  obtain⟨m,hm,h⟩:=jPV p n;refine⟨2 ^ n*(p n).toNat+m,?_,fun t ht=>?_⟩
  ·have:(p n).toNat<=1:=Bool.toNat_le _;have:=gb (2 ^ n) this;rw[Nat.pow_succ];lia
  ·rw[iF _ hm];split
   ·exact h t (by assumption)
   ·have:t=n:=by lia
    rw[this,gL];cases p n <;> rfl
theorem jHK {n:Nat}{x:Ag}(r:Ris (n:Int) x):x∈yA n:=by
 refine(jBE n).mem_iff.mpr ?_;obtain⟨m,hm,h⟩:=jPV (fun t=>decide ((t:Int)∈x)) n;refine aw.mpr ⟨m,bK.mpr hm,jE6 (jLH n m).ris r.ris fun y=>?_⟩;unfold btsN;rw[aw];constructor
 ·rintro ⟨t,ht,rfl⟩;obtain⟨h1,h2⟩:=aR.mp ht;rw[h t (bK.mp h1)] at h2;exact aG h2
 ·intro hy;have b:=r.bnd y hy;refine⟨y.toNat,aR.mpr ⟨bK.mpr Aa,?_⟩,Aa⟩;rw[h _ Aa];exact ar (by rw[dQ b.1]; exact hy)
theorem inB_iff {y x:Ag} :inB y x=true↔∀ t∈y,t∈x:=by
 unfold inB;rw[bU];exact⟨fun h t ht=>aG (h t ht),fun h t ht=>ar (h t ht)⟩
theorem jP8 {pr:Ag->Bool} :∀ {ws acc:Af}{x:Ag},x∈ws.foldl (yN pr) acc->x∈acc\/pr x=true
 | [],_,_,h=> .inl h
 | y::ws,acc,x,h=>by
  rcases jP8 (ws:=ws) h with z | z
  ·unfold yN at z;split at z
   ·rename_i c;rcases aJ.mp z with z | z
    ·exact .inl z
    ·rw[aN.mp z];rw[bL] at c;exact .inr c.2
   ·exact .inl z
  ·exact .inr z
theorem jEX {pr:Ag->Bool} :∀ {ws acc:Af}{x:Ag},x∈acc->x∈ws.foldl (yN pr) acc
 | [],_,_,h=>h
 | y::ws,acc,x,h=>by
  refine jEX (ws:=ws) ?_;unfold yN;split
  ·exact aY _ h
  ·exact h
theorem jGR {pr:Ag->Bool} :∀ {ws acc:Af}{x:Ag},x∈ws->pr x=true->∃ y∈ws.foldl (yN pr) acc,inB y x=true
 | [],_,_,h,_=>by cases h
 | z::ws,acc,x,h,hp=>by
  rcases aI.mp h with e | e
  ·subst e;by_cases c:(acc.any fun y=>inB y x)=true
   ·obtain⟨y,hy,hi⟩:=dW.mp c;exact⟨y,jEX (ws:=x::ws) hy,hi⟩
   ·refine⟨x,?_,inB_iff.mpr fun t h=>h⟩;rw[List.foldl_cons];refine jEX ?_;unfold yN;rw[aq (by rw[bL,cH]; exact⟨ck.mpr c,hp⟩)];exact aB _ (aN.mpr rfl)
  ·exact jGR (ws:=ws) e hp
theorem jDZ {pr:Ag->Bool}{n:Nat}{x:Ag}(h:x∈yD pr (yA n)):pr x=true/\Ris (n:Int) x:=by
 refine⟨?_,?_⟩
 ·rcases jP8 h with z | z
  ·cases z
  ·exact z
 ·rcases jBH h with z | z
  ·cases z
  ·exact jCD z
theorem jEW {pr:Ag->Bool} :∀ {ws acc:Af},(acc.Pairwise fun a b=>inB a b=false)->(ws.foldl (yN pr) acc).Pairwise fun a b=>inB a b=false
 | [],_,h=>h
 | x::ws,acc,h=>by
  refine jEW (ws:=ws) ?_;unfold yN;split
  ·rename_i c;rw[bL,cH] at c;refine cg.mpr ⟨h,gz _ _,fun a ha b hb=>?_⟩;rw[aN.mp hb];exact ck.mpr fun z=>by
    have:(acc.any fun y=>inB y x)=true:=dW.mpr ⟨a,ha,z⟩;rw[c.1] at this;cases this
  ·exact h
theorem jLA {pr:Ag->Bool} :∀ {ws acc:Af},(ws.foldl (yN pr) acc).Sublist (acc++ws)
 | [],acc=>by rw[bf]; exact i4 _
 | x::ws,acc=>by
  refine(jLA (ws:=ws)).trans ?_;rw[<- List.singleton_append,<- aZ];refine List.Sublist.append ?_ (i4 _);unfold yN;split
  ·exact i4 _
  ·exact eM _ _
theorem jOC {pr:Ag->Bool}{n:Nat}{x y:Ag}(hx:x∈yD pr (yA n))(ry:Ris (n:Int) y)(sub:∀ t∈y,t∈x)(lt:y.length<x.length):pr y=false:=by
 refine ck.mpr fun hy=>?_;obtain⟨z,hz,hi⟩:=jGR (acc:=[]) (jHK ry) hy;have hz:z∈yD pr (yA n):=hz;have zy:=inB_iff.mp hi;have rz:=(jDZ hz).2;have zl:z.length<=y.length:=jD4 id (rz.ris.imp fun {a b} h=>by lia) (fun a ha=>zy a ha) fun a _ b _ e=>e;obtain⟨i,hi⟩:=bh hz;obtain⟨j,hj⟩:=bh hx;obtain⟨hi1,hi2⟩:=ao.mp hi;obtain⟨hj1,hj2⟩:=ao.mp hj;rcases gC i j with q | q | q
 ·have:inB (yD pr (yA n))[i] (yD pr (yA n))[j]=false:=bQ.mp (jEW (pr:=pr) (ws:=yA n) List.Pairwise.nil) i j hi1 hj1 q;rw[hi2,hj2] at this;rw[inB_iff.mpr fun t ht=>sub t (zy t ht)] at this;cases this
 ·subst q;rw[hi] at hj;cases hj;lia
 ·have:HT.lexLt (keyL (yD pr (yA n))[i]) (keyL (yD pr (yA n))[j])=false:=bQ.mp ((jHI n).sublist (jLA (pr:=pr) (ws:=yA n) (acc:=[]))) j i hj1 hi1 q;rw[hi2,hj2] at this;have l1:HT.lexLt (keyL z) (keyL x)=true:=by
   unfold keyL HT.lexLt;have:((z.length:Nat):Int)<x.length:=by lia
   simp [this];exact .inl Aa
  rw[l1] at this;cases this
end Eo
section
namespace L2
open PySem
theorem Callee.imp2 {P:Program}{w:World}{K:W.Frag}{mg:Ak}{Ar:Heap}{Z:Shared->Hp->Prop}{zh zh':Hp->Prop}{k:Nat}{a:Addr}{sp sp':Sp}(C:Callee P w K mg Ar Z zh k a sp)(h1:∀ H,zh' H->zh H)(h2:∀ vs H Q E,zh' H->sp' vs H Q E->sp vs H Q E):Callee P w K mg Ar Z zh' k a sp':=
 ⟨fun A Aq s H e z=>C.fn A Aq s H e (h1 H z),fun A Aq s H us vs Q E hr he hz zh r q=>C.run A Aq s H us vs Q E hr he hz (h1 H zh) r (h2 _ _ _ _ zh q)⟩
end L2
namespace Eo
open PySem L2
def wgt (As:Ae)(k:Int):Int:=(As.getD k.toNat ([],0)).2
def wt (As:Ae)(x:Ag):Int:=(x.map (wgt As)).sum
def minW (As:Ae):Af->Option (Ag)
 | []=>none
 | x::r=>match minW As r with
  | none=>some x
  | some y=>if wt As y<wt As x then some y else some x
def qK (As:Ae):Option (Ag)->Option (Ag)->Option (Ag)
 | none,b=>b
 | some x,none=>some x
 | some x,some y=>if wt As y<wt As x then some y else some x
theorem minW_none {As:Ae}{l:Af} :minW As l=none↔l=[]:=by
 cases l with
 | nil=>exact⟨fun _=>rfl,fun _=>rfl⟩
 | cons x r=>
  refine⟨fun h=>?_,fun h=>(by cases h)⟩;unfold minW at h;split at h
  ·cases h
  ·split at h <;> cases h
theorem jJE (As:Ae)(a b c:Option (Ag)):qK As (qK As a b) c=qK As a (qK As b c):=by
 cases a with
 | none=>rfl
 | some x=>cases b with
  | none=>rfl
  | some y=>cases c with
   | none=>
    show qK As (if wt As y<wt As x then some y else some x) none=if wt As y<wt As x then some y else some x
    split <;> rfl
   | some z=>
    show qK As (if wt As y<wt As x then some y else some x) (some z)=qK As (some x) (if wt As z<wt As y then some z else some y);by_cases h1:wt As y<wt As x <;> by_cases h2:wt As z<wt As y <;> by_cases h3:wt As z<wt As x <;> simp only [h1,h2,h3,g5,ja,qK] <;> first | rfl | lia
theorem jA9 (As:Ae)(x:Ag)(r:Af):minW As (x::r)=qK As (some x) (minW As r):=by
 rw[minW];cases minW As r <;> rfl
theorem jC3 (As:Ae):∀ (a b:Af),minW As (a++b)=qK As (minW As a) (minW As b)
 | [],b=>rfl
 | x::r,b=>by rw[jc,jA9,jC3 As r b,jA9,jJE]
theorem jMJ (As:Ae)(c:Int)(x:Ag):wt As (c::x)=wgt As c+wt As x:=by
 unfold wt;rw[bg,g9]
theorem jKU (As:Ae)(c:Int):∀ (l:Af),minW As (l.map fun x=>if c<0 then x else c::x)=(minW As l).map fun x=>if c<0 then x else c::x
 | []=>rfl
 | x::r=>by
  rw[bg,jA9,jA9,jKU As c r];cases minW As r with
  | none=>rfl
  | some y=>
   show (if wt As (if c<0 then y else c::y)<wt As (if c<0 then x else c::x) then _ else _)=Option.map _ (if wt As y<wt As x then some y else some x);by_cases hc:c<0
   ·simp only [hc,g5];split <;> rfl
   ·simp only [hc,ja,jMJ];by_cases h:wt As y<wt As x
    ·rw[aq Aa,aq h];rfl
    ·rw[ak Aa,ak h];rfl
theorem jA7 {As:Ae}{x:Ag} :∀ {l:Af},minW As l=some x->x∈l/\∀ y∈l,wt As x<=wt As y
 | [],h=>by cases h
 | z::r,h=>by
  rw[jA9] at h;cases hr:minW As r with
  | none=>
   rw[hr] at h;have h:some z=some x:=h;cases h;rw[minW_none.mp hr];exact⟨ai .., fun y hy=>by rw[aN] at hy; rw[hy]; exact cX _⟩
  | some y=>
   rw[hr] at h;obtain⟨i1,i2⟩:=jA7 hr;have h:(if wt As y<wt As z then some y else some z)=some x:=h;split at h
   ·cases h;refine⟨ag _ i1,fun u hu=>?_⟩;rcases aI.mp hu with q | q
    ·rw[q]; lia
    ·exact i2 u q
   ·cases h;refine⟨ai .., fun u hu=>?_⟩;rcases aI.mp hu with q | q
    ·rw[q]; exact cX _
    ·have:=i2 u q;lia
def LtAt (As:Ae)(H:Hp)(v:V)(o:Option (Ag)):Prop:=match o with
 | none=>v= .non
 | some x=>∃ q r,v= .ref q/\H q=some (.tup [.int (wt As x), .ref r])/\H r=some (.tup (x.map V.int))
theorem LtAt.mono {As:Ae}{H H':Hp}{v:V}{o:Option (Ag)}(t:Tups H H')(h:LtAt As H v o):LtAt As H' v o:=by
 cases o with
 | none=>exact h
 | some x=>obtain⟨q,r,e,h1,h2⟩:=h; exact⟨q,r,e,t _ _ h1,t _ _ h2⟩
def RLt (As:Ae)(ch:Ch):RepT:=fun m H v=>LtAt As H v (minW As (wk ch m))
theorem RLt.ok (As:Ae)(ch:Ch):RepOk (RLt As ch):=fun m v=>⟨fun H H' D kvs hD k h=>h.mono fun q xs hq=>k _ _ hq fun z=>(by rw[z,hD] at hq; cases hq),fun H H' e h=>h.mono e.tups⟩
def preW (ch:Ch)(m i:Nat):Af:=wJ (((chAt ch m).take i).map fun c=>(c.1,wk ch (m|||c.2)))
theorem jNA {ch:Ch}{m i:Nat}{c:Int×Nat}(h:(chAt ch m)[i]?=some c):preW ch m (i+1)=preW ch m i++(wk ch (m|||c.2)).map fun x=>if c.1<0 then x else c.1::x:=by
 unfold preW;rw[be,h,aS,jH4];congr 1;unfold wJ;exact gP _ _
theorem jQE {ch:Ch}{m:Nat}(o:ChOk ch)(h:m<2 ^ ch.length)(hn:m≠fullN ch):preW ch m (chAt ch m).length=wk ch m:=by
 unfold preW;rw[bq,yW o h hn]
def ifOf:Stmt->List Stmt
 | .If _ b _ _=>b
 | _=> []
structure LI where
 a:Addr
 c:Addr
 b:Addr
 w:Int
 ms:Ag
 As:Ae
 g:Good 16 32 w ms As
abbrev LI.ch (i:LI):Ch:=chs i.w.toNat i.ms i.As
abbrev qF:Stmt:=(jC yT).getD 0 (.Pass ⟨0,0,0,0⟩)
abbrev pLBeh:Pos:=match qF with
 | .FunctionDef _ _ _ _ _ _ _ _ _ p=>p
 | _=>⟨0,0,0,0⟩
abbrev qLB:Str:= "lightest.<locals>.lightest_behind"
abbrev nLBeh:An:=["behind","box","best","number","found","weight"]
theorem scLBeh:NScope nLBeh ["behind"] ["box"] (j7 qF):=⟨rfl,rfl,rfl,Ab,rfl,Ab,Ab,fun x h=>by
  have hl:∀ y∈(j7 qF).names,y.2= .free->y.1= "box" :=Ab;rw[aN];exact hl _ (cf h) rfl,Ab⟩
def spLB:List V->Sp:=fun fv vs H Q E=>∃ i:LI,fv=[.ref i.b]/\BoxAt H i.b i.w i.ms i.As/\jFF i.ch (RLt i.As i.ch) vs H Q E
section
def lbInA (T:Txt mg): { t:TS // JSs (cxN P w K mg Ar nLBeh qLB (j7 qF) f cd cl A Aq s H0) ((ifOf ((jBV ((jC qF).getD 1 (.Pass ⟨0,0,0,0⟩))).getD 0 (.Pass ⟨0,0,0,0⟩))).drop 1) t} :=
 have nd:=scLBeh.nd
 ⟨_,(jE (yF (jt_w (jw_or (jW jSI (jv 2 rfl yX) (jFN) (jV _)) (jOI (jW op_lt (jv 5 rfl yX) (jI jJ (jv 2 rfl yX) (je_int) jD) (jV _))))) (jE (jO (i:=2) nd rfl loc_n (y4 (j3 (jv 5 rfl yX) (j3 (jOQ (jW op_ge (jv 3 rfl yX) (je_int) (jV _)) (jZ jC2 (y4 (j3 (jv 3 rfl yX) j8 j4)) (jI jJ (jv 4 rfl yX) (je_int) jD)) (jI jJ (jv 4 rfl yX) (je_int) jD)) j8 jVO) j4)) jS6)) kN))⟩
def jUN (T:Txt mg): { t:TS // JSs (cxN P w K mg Ar nLBeh qLB (j7 qF) f cd cl A Aq s H0) (jBV ((jC qF).getD 1 (.Pass ⟨0,0,0,0⟩))) t} :=
 have nd:=scLBeh.nd
 ⟨_,(jE (yF (jW jNG (jv 4 rfl yX) (jFN) (jV _)) (jB (jO (i:=5) nd rfl loc_n (jZ kU (jI jJ (jv 4 rfl yX) (je_int) jD) (jOQ (jW op_ge (jv 3 rfl yX) (je_int) (jV _)) (jI jJ (jI jJ (jI jJ (jv 1 rfl (jRU Ab)) (je_int) jD) (jv 3 rfl yX) jB6) (je_int) jD) (je_int))) jFD) (lbInA T).2) kN))⟩
def lbehA (T:Txt mg): { t:TS // JSs (cxN P w K mg Ar nLBeh qLB (j7 qF) f cd cl A Aq s H0) (jC qF) t} :=
 have nd:=scLBeh.nd
 ⟨_,(jB (jO (i:=2) nd rfl loc_n (jFN) jK4) (jB (jBX cC rfl (yL (jv 0 rfl yX)) (jR7 (i:=3) (j:=4) nd rfl rfl Ab Ab) (jUN T).2 yM) (jE (jQ (jv 2 rfl yX)))))⟩
theorem lb_in (T:Txt mg){D:Ends}{H:Hp}{l b pq pr:Addr}{ve:V}{c:Int}{As:Ae}{y:Ag}{ob:Option (Ag)}(hpq:H pq=some (.tup [.int (wt As y), .ref pr]))(hpr:H pr=some (.tup (y.map V.int)))(yl:y.length<=16)(hve:LtAt As H ve ob)
  (nx:∀ H' ve',Ext H H'->LtAt As H' ve' (qK As ob (some (if c<0 then y else c::y)))->D.nx [some (.ref l),some (.ref b),some ve',some (.int c),some (.ref pq),some (.int (wt As (if c<0 then y else c::y)))] H'):
  (lbInA (P:=P) (w:=w) (K:=K) (mg:=mg) (Ar:=Ar) (f:=f) (cd:=cd) (cl:=cl) (A:=A) (Aq:=Aq) (s:=s) (H0:=H0) T).1 D [some (.ref l),some (.ref b),some ve,some (.int c),some (.ref pq),some (.int (wt As (if c<0 then y else c::y)))] H:=by
 refine⟨_,rfl,rfl,_,rfl,?_⟩;rcases ob with _ | z
 case' none=>
  have hve:ve= .non:=hve;subst hve;have ej:qK As none (some (if c<0 then y else c::y))=some (if c<0 then y else c::y):=rfl;refine iteT (iteT ?_)
 case' some=>
  obtain⟨zq,zr,rfl,hz1,hz2⟩:=hve;refine iteF ⟨_,rfl,_,rfl,zq,_,0,_,rfl,rfl,SqT.of hz1,rfl,_,_,rfl,rfl,_,rfl,?_⟩;by_cases hlt:wt As (if c<0 then y else c::y)<wt As z
  case' neg=>
   rw[aM hlt];exact iteF (nx H (.ref zq) (Ext.refl _) (by
    show LtAt As H (.ref zq) (if _ then _ else _);rw[ak hlt];exact⟨zq,zr,rfl,hz1,hz2⟩))
  rw[ar hlt];have ej:qK As (some z) (some (if c<0 then y else c::y))=some (if c<0 then y else c::y):=aq hlt;refine iteT ?_
 all_goals
  rw[ej] at nx;refine⟨_,rfl,_,rfl,_,_,rfl,rfl,_,rfl,?_⟩;by_cases hc:c<0
  ·have h0:decide ((0:Int)<=c)=false:=aM Aa;rw[h0];refine iteF ⟨_,rfl,pq,_,1,_,rfl,rfl,SqT.of hpq,rfl,by show (2:Nat)<=_; decide,fun r4 H4 d4 e4=>nx H4 (.ref r4) e4 ⟨r4,pr,rfl,d4,?_⟩⟩;rw[aq hc];exact e4 _ _ hpr
  ·have h0:decide ((0:Int)<=c)=true:=ar Aa;rw[h0];refine iteT ⟨_,rfl,by show (1:Nat)<=_; decide,fun r2 H2 d2 e2=>⟨_,rfl,pq,_,1,_,rfl,rfl,SqT.of (e2 _ _ hpq),rfl,r2,pr,_,_,rfl,rfl,d2,e2 _ _ hpr,by rw[af,aE]; show 1+_<=_; lia,fun r3 H3 d3 e3=>⟨by show (2:Nat)<=_; decide,fun r4 H4 d4 e4=>nx H4 (.ref r4) ((e2.trans e3).trans e4) ⟨r4,r3,rfl,d4,?_⟩⟩⟩⟩;rw[ak hc];exact e4 _ _ d3
theorem jUA (T:Txt mg):FnN P w K mg Ar 1 "lightest_behind" qLB (y8 qF) (jC qF) (j7 qF) ["behind"] ["box"] spLB:=by
 refine jSW scLBeh (fun fv vs H Q E h=>?_) (fun cl doc pm c ctv us hl=>?_) fun A Aq s H a c cl vs fv Q E hr h=>?_
 ·obtain⟨i,rfl,_,_,_,_,rfl,_⟩:=h;rfl
 ·match us,hl with
  | [_],_=>rfl
 ·obtain⟨⟨_,_,b,w,ms,As,g⟩,rfl,hB,l,us,m,rfl,hl,hm,hf,av,q⟩:=h;refine⟨_,(lbehA T).2.h,?_⟩;have o:ChOk (chs w.toNat ms As):=yP g;obtain⟨qm,qp,ps,b1,b2,b3,b4⟩:=id hB.ex;have gpl:=g.pl;refine⟨_,rfl,l,rfl,⟨_,SqL.of hl⟩,jBM (xs:=us) (fun i σ H'=>Ext H H'/\∃ ve:V,(∃ v3 v4 v5,σ=[some (.ref l),some (.ref b),some ve,v3,v4,v5])/\LtAt As H' ve (minW As (preW (chs w.toNat ms As) m i))) ⟨Ext.refl _, .non,⟨_,_,_,rfl⟩,rfl⟩ (fun i σ H' _ ⟨e,_⟩=>SqL.of (e _ _ hl)) ?_ ?_⟩
  ·rintro i x σ H' hx ⟨e,ve,⟨v3,v4,v5,rfl⟩,hve⟩;obtain⟨c,hc,p,u,rfl,hp,hR⟩:=av.get' hx;obtain⟨m1,m2,m3,m4,m5⟩:=o.mem hm hf (aH hc);have hsu:=jNA hc;have hR:LtAt As H' u (minW As (wk (chs w.toNat ms As) (m|||c.2))):=LtAt.mono e.tups hR;have mup:=(o.up hm hf (aH hc)).2;have hmin:minW As (preW (chs w.toNat ms As) m (i+1))=qK As (minW As (preW (chs w.toNat ms As) m i)) ((minW As (wk (chs w.toNat ms As) (m|||c.2))).map fun x=>if c.1<0 then x else c.1::x):=by
    rw[hsu,jC3,jKU]
   refine⟨p,_,rfl,SqT.of (e _ _ hp),rfl,_,_,rfl,_,_,rfl,rfl,?_⟩;refine⟨_,rfl,rfl,_,rfl,?_⟩;cases hW:minW As (wk (chs w.toNat ms As) (m|||c.2)) with
   | none=>
    rw[hW] at hR hmin;have hR:u= .non:=hR;subst hR;refine iteF ⟨e,ve,⟨_,_,_,rfl⟩,?_⟩;rw[hmin];revert hve;cases minW As (preW (chs w.toNat ms As) m i) with
    | none=>exact id
    | some z=>exact id
   | some y=>
    rw[hW] at hR hmin;obtain⟨pq,pr,rfl,hpq,hpr⟩:=hR;obtain⟨yb,yl⟩:=jFA o _ mup y (jA7 hW).1;have w16:=o.w;refine iteT ⟨_,rfl,pq,_,0,_,rfl,rfl,SqT.of hpq,rfl,_,rfl,_,_,rfl,rfl,_,rfl,?_⟩;have y16:y.length<=16:=Aa;refine ite2 (fun h0=>?_) (fun h0=>?_)
    ·have h0:0<=c.1:=aG h0;have hlt:=jX8 hm hf (aH hc);obtain⟨pv,hpv,pa,pw,rfl,ha1,ha2⟩:=b4.get (k:=c.1.toNat) Aa;have at1:atI ps c.1=some (.ref pa):=by
      have:=qB hpv
      rwa [show ((c.1.toNat:Nat):Int)=c.1 by lia] at this
     refine⟨_,rfl,b,_,2,_,rfl,rfl,SqT.of (e _ _ b1),rfl,_,rfl,qp,_,c.1,_,rfl,rfl,SqT.of (e _ _ b3),at1,pa,_,1,_,rfl,rfl,SqT.of (e _ _ ha1),rfl,_,_,rfl,rfl,?_⟩;have ew:wt As y+(As.getD c.1.toNat ([],0)).2=wt As (if c.1<0 then y else c.1::y):=by
      rw[ak Aa,jMJ];unfold wgt;lia
     show kR 5 (V.int (wt As y+(As.getD c.1.toNat ([],0)).2)) _ _ _;rw[ew];exact lb_in T hpq hpr y16 hve fun H2 ve' e2 h2=>⟨e.trans e2,ve',⟨_,_,_,rfl⟩,by rw[hmin]; exact h2⟩
    ·have h0:c.1<0:=Int.not_le.mp fun z=>h0 (ar z);refine⟨_,_,rfl,rfl,?_⟩;have ew:wt As y+0=wt As (if c.1<0 then y else c.1::y):=by
      rw[aq h0];lia
     show kR 5 (V.int (wt As y+0)) _ _ _;rw[ew];exact lb_in T hpq hpr y16 hve fun H2 ve' e2 h2=>⟨e.trans e2,ve',⟨_,_,_,rfl⟩,by rw[hmin]; exact h2⟩
  ·rintro σ H' ⟨e,ve,⟨v3,v4,v5,rfl⟩,hve⟩;rw[av.len,jQE o hm hf] at hve;exact⟨_,rfl,q ve H' hve e⟩
def zhL (cl:Aj)(i:LI):Hp->Prop:=fun H=>(H i.a=some (.ext (nfP "lightest_behind" qLB (y8 qF) (jC qF) (j7 qF) cl i.a i.c))/\H i.c=some (.ext (ncP qLB i.c)))/\BoxAt H i.b i.w i.ms i.As
theorem zhL.ok (cl:Aj)(i:LI):HpOk (zhL cl i):=⟨fun H H' D kvs hD k h=>⟨⟨k _ _ h.1.1 fun z=>(by rw[<- z,h.1.1] at hD; cases hD),k _ _ h.1.2 fun z=>(by rw[<- z,h.1.2] at hD; cases hD)⟩,h.2.mono fun b xs hb=>k _ _ hb fun z=>(by rw[z,hD] at hb; cases hb)⟩,fun H H' e h=>⟨⟨e _ _ h.1.1,e _ _ h.1.2⟩,h.2.mono e.tups⟩⟩
theorem jJ6 (T:Txt mg)(cl:Aj)(i:LI):Callee P w K mg Ar (ZC cl ["box"] [.ref i.b]) (zhL cl i) 1 i.a (jFF i.ch (RLt i.As i.ch)):=
 Callee.imp2 (Callee.ofN (jUA T)) (fun H h=>h.1) fun vs H Q E zh q=>⟨i,rfl,zh.2,q⟩
abbrev jKR:An:=["box","lightest_behind","told"]
theorem scLight:FnScope jKR ["box"] (j7 yT):= {}
abbrev TabL (H:Hp)(tb:Addr):Prop:=TabOk H tb pLBeh qLB
def jN3 (cl:Aj)(i:LI):Sp:=jN4 i.a (zhL cl i) i.ch (RLt i.As i.ch)
theorem fsLB:∀ x∈(["box"]:An),(j7 qF).names.lookup x=some .free:=by decide+kernel
theorem jX4:FsAt (XOf jKR "lightest" yT P w K mg Ar f (.ref c0) A Aq s H0 E) ["box"] [0]:=⟨rfl,fun k x h=>by
 match k,h with
 | 0,h=>
  cases h;exact⟨0,rfl,rfl, .inl (show (j7 yT).names.lookup (("box" :String):Str)=some .cell by decide+kernel)⟩
 | k+1,h=>cases h⟩
def jAK (tb:Addr):Sp:=fun vs H Q _=>∃ (b:Addr) (w:Int) (ms:Ag) (As:Ae),vs=[.ref b]/\BoxAt H b w ms As/\Good 16 32 w ms As/\TabL H tb/\
 (minW As (wk (chs w.toNat ms As) 0)=none->∀ H',ExtT tb H H'->TabL H' tb->Q .non H')/\∀ x,minW As (wk (chs w.toNat ms As) 0)=some x->∀ r q H',H' r=some (.tup [.int (wt As x), .ref q])->H' q=some (.tup ((srt x).map V.int))->ExtT tb H H'->TabL H' tb->Q (.ref r) H'
def jWR (T:Txt mg)(CH:PySem.W.CodeHd Ar c0 tb)(BM:qN Ar mg)(CC:Can P w K mg Ar "choices_of" 2 fC fdC ["box"] jAR)(FG:∀ cl i,FnZ P w K mg Ar CX0 (ZC cl ["box"] [.ref i.b]) 4 fG fdG ["choices","at_end","join"] (jN3 cl i))(MG:mg "gathered" =some (.ref fG))(KG:keepIn K (.ref fG)=true)(BG:Binds K fdG ["choices","at_end","join"] [])(hr:Room 4 (XOf jKR "lightest" yT P w K mg Ar f (.ref c0) A Aq s H0 E).A): { t:TS // JSs (XOf jKR "lightest" yT P w K mg Ar f (.ref c0) A Aq s H0 E) (jC yT) t} :=
 have nd:=scLight.nd
 ⟨_,(jB (jSS (j:=1) nd rfl lL rfl CH BM (jM (psc:=j7 yT)) rfl rfl) (jB (jO (i:=2) nd rfl lL (jGO (hu_of hr) (jL2 (G:=fun (i:LI) σ=>jDU σ [0] [.ref i.b]) (FG _) hr gD MG KG BG (fun i lH s σ H I q=>⟨I.clOk (jM (psc:=j7 yT)),I.fvOk (jM (psc:=j7 yT)) fsLB jX4 q⟩) (j3 (CC.je (hr.mono Ac) gD (j3 (jv 0 rfl vC) j8 j4) j4) (j3 (y4 (j3 (je_int) (j3 (y4 j8) j8 jDF) kO)) (j3 (jv 1 rfl vL) j8 j4) jDF) jG) jG) je_int jD) jK3) (jB (yF (jW jSI (jv 2 rfl vL) (jFN) (jV _)) (jE (jQ (jFN))) kN) (jE (jQ (y4 (j3 (jI jJ (jv 2 rfl vL) (je_int) jD) (j3 (kI jP gD T.tuple Ab (j3 (jK jDN gD T.sorted Ab (j3 (jI jJ (jv 2 rfl vL) (je_int) jD) j8 jN) jN) j8 jG) jG) j8 jG) jN)))))))⟩
set_option maxHeartbeats 4000000 in
theorem jQQ {fd:FuncData}(F:FunC K "lightest" "lightest" yT f fd c0)(T:Txt mg)(CH:PySem.W.CodeHd Ar c0 tb)(BM:qN Ar mg)(CC:Can P w K mg Ar "choices_of" 2 fC fdC ["box"] jAR)(FG:∀ cl i,FnZ P w K mg Ar CX0 (ZC cl ["box"] [.ref i.b]) 4 fG fdG ["choices","at_end","join"] (jN3 cl i))(MG:mg "gathered" =some (.ref fG))(KG:keepIn K (.ref fG)=true)(BG:Binds K fdG ["choices","at_end","join"] []):FnOk P w K mg Ar CX0 5 f fd ["box"] (jAK tb):=by
 refine F.ok scLight (fun vs H Q E h=>?_) (fun A Aq s H vs Q E hr h=>?_)
 ·obtain⟨_,_,_,_,rfl,_⟩:=h;rfl
 ·obtain⟨b,wi,ms,As,rfl,hB,g,tab,q0,q1⟩:=h;refine⟨_,(jWR T CH BM CC FG MG KG BG hr).2.h,?_⟩;refine⟨tab,fun a c H1 k1 k2 k3 e1 na=>?_⟩;have tu1:Tups H H1:=fun b xs h=>e1.at tab h;have hB1:=hB.mono tu1;have tab1:TabL H1 tb:= .inr ⟨c,k3,k2⟩;refine⟨_,rfl,b,wi,ms,As,rfl,hB1,g,fun L H2 hL2 e2=>?_⟩;refine⟨by show (0:Nat)<=_; decide,fun t0 H3 d3 e3=>⟨by show (2:Nat)<=_; decide,fun t1 H4 d4 e4=>?_⟩⟩;have E24:=(e2.trans e3).trans e4;refine⟨_,rfl,⟨a,c,b,wi,ms,As,g⟩,rfl,L, .ref t1,rfl,hL2.ext (e3.trans e4),?_,⟨⟨E24 _ _ k1,E24 _ _ k2⟩,hB1.mono E24.tups⟩,fun r ns H5 got srt' mt e5 n5=>?_⟩
  ·show LtAt As H4 (.ref t1) (minW As (wk _ (fullN _)));rw[jAI];exact⟨t1,t0,rfl,d4,e4 _ _ d3⟩
  obtain⟨u,dg,ru⟩:=got0 got srt' mt;refine⟨r,u,rfl,dg,?_⟩;have E25:=E24.trans e5;have x5:ExtT tb H H5:=fun b o hb hn=>E25 _ _ (e1 b o hb hn);have tab5:TabL H5 tb:=tab1.ext E25;refine⟨_,rfl,rfl,_,rfl,?_⟩;have ru:LtAt As H5 u (minW As (wk (chs wi.toNat ms As) 0)):=ru;cases hW:minW As (wk (chs wi.toNat ms As) 0) with
  | none=>
   rw[hW] at ru;have ru:u= .non:=ru;subst ru;exact iteT (q0 hW H5 x5 tab5)
  | some x=>
   rw[hW] at ru;obtain⟨p,pr,rfl,hp,hpr⟩:=ru;have o:ChOk (chs wi.toNat ms As):=yP g;have xl:=(jFA o 0 (bF _) x (jA7 hW).1).2;have w16:=o.w;refine iteF ⟨_,rfl,p,_,0,_,rfl,rfl,SqT.of hp,rfl,_,rfl,p,_,1,_,rfl,rfl,SqT.of hp,rfl,pr,x,rfl,hpr,Aa,fun l6 ns6 hl6 sr pm=>⟨l6,_,rfl, .inl ⟨SqL.of j5,fun l7 hl7=>?_⟩⟩⟩;have e6:Ext H5 (L2.upd H5 l6 (.lst (ns6.map V.int))):=(Ext.refl _).new hl6 _;have e7:Ext H5 (L2.upd (L2.upd H5 l6 (.lst (ns6.map V.int))) l7 (.tup (ns6.map V.int))):=e6.new hl7 _;have d7:(L2.upd (L2.upd H5 l6 (.lst (ns6.map V.int))) l7 (.tup (ns6.map V.int))) l7=some (.tup (ns6.map V.int)):=j5;generalize L2.upd (L2.upd H5 l6 (.lst (ns6.map V.int))) l7 (.tup (ns6.map V.int))=H7 at e7 d7;refine⟨by show (2:Nat)<=_; decide,fun r8 H8 d8 e8=>q1 x hW r8 l7 H8 d8 (by rw[e8 _ _ d7,jE5 sr pm]) (fun b o hb hn=>e8 _ _ (e7 _ _ (x5 b o hb hn))) ((tab5.ext e7).ext e8)⟩
end
theorem jIA {As:Ae}{t:Int} :∀ {c:Ag},c.Nodup->(∀ k∈c,(j6 As k).Nodup)->(∀ k∈c,∀ k'∈c,k≠k'->∀ t∈j6 As k,t∉j6 As k')->(c.flatMap (j6 As)).count t=if ∃ k∈c,t∈j6 As k then 1 else 0
 | [],_,_,_=>by simp
 | k::c,nd,hn,dj=>by
  obtain⟨n1,n2⟩:=ce.mp nd;have ih:=jIA (t:=t) n2 (fun k hk=>hn k (ag _ hk)) fun k hk k' hk'=>dj k (ag _ hk) k' (ag _ hk');rw[dM,List.count_append,ih];have e1:(j6 As k).count t=if t∈j6 As k then 1 else 0:=(hn k (ai ..)).count
  rw[e1];by_cases h:t∈j6 As k
  ·have no:¬ ∃ k'∈c,t∈j6 As k':=fun ⟨k',h1,h2⟩=>dj k (ai ..) k' (ag _ h1) (fun e=>n1 (e ▸ h1)) t h h2;rw[aq h,ak no,aq ⟨k,ai .., h⟩]
  ·rw[ak h,Nat.zero_add];by_cases q:∃ k'∈c,t∈j6 As k'
   ·rw[aq q,aq (let ⟨k',h1,h2⟩:=q; ⟨k',ag _ h1,h2⟩)]
   ·have nq:¬ ∃ k'∈k::c,t∈j6 As k':=fun ⟨k',h1,h2⟩=>by
     rcases aI.mp h1 with rfl | h1
     ·exact h h2
     ·exact q ⟨k',h1,h2⟩
    rw[ak q,ak nq]
abbrev nCov:An:=["box","thing","held","number"]
theorem scCov:FnScope nCov ["box","thing"] (j7 sCov):= {}
def jBT:Sp:=fun vs H Q _=>∃ (b a:Addr) (w:Int) (ms:Ag) (As:Ae) (c:Ag),vs=[.ref b, .ref a]/\BoxAt H b w ms As/\Good 16 32 w ms As/\H a=some (.tup (c.map V.int))/\IsCov w ms As c/\∀ H',Ext H H'->Q (.bl true) H'
def covA (T:Txt mg)(CL:Can P w K mg Ar "is_lot" 3 fL fdL ["thing","many"] (spB2 lotB))(hr:Room 3 (XOf nCov "is_covering" sCov P w K mg Ar f lI A Aq s H0 E).A): { t:TS // JSs (XOf nCov "is_covering" sCov P w K mg Ar f lI A Aq s H0 E) (jC sCov) t} :=
 have nd:=scCov.nd
 ⟨_,(jB (yF (jDM (jBW (CL.je hr gD (j3 (jv 1 rfl vL) (j3 (jK jT gD T.len Ab (j3 (jI jJ (jv 0 rfl vC) (je_int) jD) j8 jN) jN) j8 jG) j4) j4) jAJ)) (jE (jQ (je_bl))) kN)
   (jB (jO (i:=2) nd rfl loc_c (jB0 j8) jFC)
   (jB (jBX cC rfl (qC (jv 1 rfl vL)) (jL (i:=3) nd rfl lL) (jE (jEQ (je_bm cw PySem.F.slot_list_extend PySem.F.type_list_extend jM0 (jv 2 rfl vC) (j3 (jI jJ (jI jJ (jI jJ (jv 0 rfl vC) (je_int) jD) (jv 3 rfl vL) jB6) (je_int) jD) j8 jN) jN) jY)) yM)
   (jE (jQ (jK (jCP rfl) gD T.all Ab (j3 (kE (m:=[none,some 2,some 0]) (Nc:=["one","held","box"]) rfl (jAG gD T.range (j3 (jI jJ (jv 0 rfl vC) (je_int) jD) j8 jN) jN) rfl Ab Ab (jM (psc:=j7 sCov)) (jH (N:=nCov) rfl rfl Ab) (fun cl C fp s H=>jL (i:=0) (show (["one","held","box"]:An).Nodup by decide+kernel) rfl yI) (fun cl C fp s H=>kP) (fun cl C fp s H=>((jOU (yQ op_le (jOS cw jg jh jHV (jv 1 rfl kQ) (j3 (jv 0 rfl jS) j8 j4) j4) (je_int) (jV _)) (jI3 ((je_or (yQ qQ (jOS cw jg jh jHV (jv 1 rfl kQ) (j3 (jv 0 rfl jS) j8 j4) j4) (je_int) (jV _)) (jI3 (yQ jED (jv 0 rfl jS) (jI y0 (jv 2 rfl kQ) (je_int) jD) jNU)))))))) y6) j8 jF) jF))))))⟩
theorem jUD {fd:FuncData}(F:Fun K "is_covering" "is_covering" sCov f fd)(T:Txt mg)(CL:Can P w K mg Ar "is_lot" 3 fL fdL ["thing","many"] (spB2 lotB)):FnOk P w K mg Ar CX0 4 f fd ["box","thing"] jBT:=by
 refine F.ok scCov (fun vs H Q E h=>?_) (fun lI A Aq s H vs Q E hr h=>?_)
 ·obtain⟨_,_,_,_,_,_,rfl,_⟩:=h;rfl
 ·obtain⟨b,a,w,ms,As,c,rfl,hB,g,ha,C,q⟩:=h;obtain⟨qm,qp,ps,b1,b2,b3,b4⟩:=id hB.ex;have pl:=b4.len;have gl:=g.pl;have w0:=g.w0;have w1:=g.w1;have cl:=jAN c 0 _ C.ris.ris C.ris.bnd;have c32:c.length<=32:=Aa;refine⟨_,(covA T CL hr).2.h,?_⟩;have hA:At H (.tup (c.map Ob.int)) (.ref a):=jT1 ha (by rw[af]; lia) (Ats.ints c);refine⟨_,rfl,_,rfl,b,_,2,_,rfl,rfl,SqT.of b1,rfl,qp,_,rfl, .inr (SqT.of b3), .ref a,_,_,rfl,hA,fun H1 e1=>⟨_,rfl,?_⟩⟩;rw[pl,jEL C.ris.ris C.ris.bnd];refine iteF ?_;refine⟨by show (0:Nat)<=_; decide,fun l H2 d2 e2 n2=>?_⟩;have E2:=e1.trans e2;have n16:∀ k∈c,(j6 As k).length<=16:=fun k hk=>jFB g (C.ris.bnd k hk).1 (C.ris.bnd k hk).2;refine⟨_,rfl,a,rfl,⟨_,SqT.of (E2 _ _ ha)⟩,jUZ (xs:=c.map V.int) (fun i σ H'=>(∃ v3,σ=[some (.ref b),some (.ref a),some (.ref l),v3])/\Ext H1 H'/\H' l=some (.lst (((c.take i).flatMap (j6 As)).map V.int))) ⟨⟨_,rfl⟩,e2,d2⟩ (fun i σ H' _ ⟨_,e,_⟩=>SqT.of (e _ _ (e1 _ _ ha))) ?_ ?_⟩
  ·rintro i v σ H3 hv ⟨⟨v3,rfl⟩,e3,hl3⟩;obtain⟨k,hk,rfl⟩:=int_at hv;have km:=aH hk;have kb:=C.ris.bnd k km;have E3:=e1.trans e3;obtain⟨pa,pq,g1,g2,g3⟩:=jHO b4 kb.1 kb.2;have hn:=jLB (f:=j6 As) (ks:=c.take i) (fun k hk=>n16 k (bV hk)) 32 (by rw[bO]; lia);have hn2:=n16 k km;refine⟨_,rfl, .inl ⟨rfl,_,SqL.of hl3⟩,_,rfl,b,_,2,_,rfl,rfl,SqT.of (E3 _ _ b1),rfl,_,rfl,qp,_,k,_,rfl,rfl,SqT.of (E3 _ _ b3),g1,pa,_,0,_,rfl,rfl,SqT.of (E3 _ _ g2),rfl,l,pq,_,_,rfl,rfl,hl3,E3 _ _ g3,?_,⟨_,rfl⟩,e3.updNew n2 _,?_⟩
   ·rw[af,af,aE];lia
   ·rw[j5];have:c.take (i+1)=c.take i++[k]:=by rw[be,hk]; rfl
    rw[this,lb,aS];simp
  ·rintro σ H3 ⟨⟨v3,rfl⟩,e3,hl3⟩;rw[af,bq] at hl3;have E3:=e1.trans e3;have cnt:∀ t:Int,((c.flatMap (j6 As)).map V.int).countP (fun z=>eqV z (.int t))=if ∃ k∈c,t∈j6 As k then 1 else 0:=fun t=>by
    rw[jPK];refine jIA (C.ris.ris.imp fun {a b} h=>by lia) (fun k hk=>?_) C.dis;have kb:=C.ris.bnd k hk;exact(jAP g kb.1 kb.2).ris.imp fun {a b} h=>by lia
   refine⟨_,rfl,b,_,0,_,rfl,rfl,SqT.of (E3 _ _ b1),rfl,w,rfl,Aa,Aa,jGW (n:=w.toNat) (fun σ=>∃ v,σ=[v,some (.ref l),some (.ref b)]) (mapZ (upto w.toNat) fun _=>V.bl true) (mapZ.ok _ _) (by rw[aE]; lia) ⟨_,rfl⟩ ?_ ?_⟩
   ·rintro j σ' H4 zs hj ⟨v,rfl⟩ e hz S1 S2 yes no;have e0:(0+(j:Int))=(j:Int):=Aa;dsimp only [kR,yK];rw[aq rfl];have hl4:=e _ _ hl3;have E4:=E3.trans e;refine⟨_,rfl, .inl ⟨rfl,_,SqL.of hl4⟩,_,rfl,l,_,_,rfl,rfl,hl4,rfl,jA5 _,_,_,rfl,rfl,_,rfl,?_⟩;rw[e0,cnt];by_cases hh:∃ k∈c,(j:Int)∈j6 As k
    ·rw[aq hh];refine iteT ⟨_,rfl, .inl ⟨rfl,_,SqL.of hl4⟩,_,rfl,l,_,_,rfl,rfl,hl4,rfl,jA5 _,rfl,_,rfl,?_⟩;rw[cnt,aq hh];exact iteT (yes _ _ _ ⟨_,rfl⟩ (Ext.refl _) (hz.yes (jFZ hj)))
    ·rw[ak hh];refine iteT ⟨_,rfl, .inl ⟨rfl,_,SqL.of hl4⟩,_,rfl,l,_,_,rfl,rfl,hl4,rfl,jA5 _,rfl,_,rfl,?_⟩;rw[cnt,ak hh];refine iteF ⟨_,rfl,_,rfl,b,_,1,_,rfl,rfl,SqT.of (E4 _ _ b1),rfl,qm,_,rfl, .inr (SqT.of (E4 _ _ b2)),rfl,jA5 _,?_⟩;rw[jBK,ar (bR fun z=>hh (C.cov j Aa Aa z))];exact yes _ _ _ ⟨_,rfl⟩ (Ext.refl _) (hz.yes (jFZ hj))
   ·rintro D H4 zs h4 e4 n4 hz;have hz:=hz.all (by rw[jAU]; exact aA _);have hz2:zs=((upto w.toNat).map fun _=>true).map V.bl:=by rw[hz,bB]; rfl
    rw[hz2] at h4;refine⟨D,_,rfl,SqL.of h4,?_⟩;have:((upto w.toNat).map fun _=>true).all id=true:=by
     rw[iA];exact bU.mpr fun _ _=>rfl
    rw[this];exact q H4 (E3.trans e4)
def jG0:Sp:=fun vs H Q _=>∃ (a:Addr) (ks:Ag) (n:Int),vs=[.ref a, .int n]/\H a=some (.tup (ks.map V.int))/\ks.length<=100/\∀ r H',H' r=some (.tup ((ks.map (· +n)).map V.int))->Ext H H'->Q (.ref r) H'
abbrev jNX:An:=["lot","things"]
theorem scMoved:FnScope jNX ["lot","things"] (j7 jDG):= {}
def jWN (T:Txt mg): { t:TS // JSs (XOf jNX "moved_on" jDG P w K mg Ar f lI A Aq s H0 E) (jC jDG) t} :=
 have nd:=scMoved.nd
 ⟨_,(jE (jQ (kI jP gD T.tuple Ab (j3 (kE (m:=[none,some 1]) (Nc:=["thing","things"]) rfl (qC (jv 0 rfl vL)) rfl Ab Ab (jM (psc:=j7 jDG)) (jH (N:=jNX) rfl rfl Ab) (fun cl C fp s H=>jL (i:=0) (show (["thing","things"]:An).Nodup by decide+kernel) rfl yI) (fun cl C fp s H=>kP) (fun cl C fp s H=>(jZ kU (jv 0 rfl jS) (jv 1 rfl kQ))) yM) j8 jF) jF)))⟩
theorem jD0 {m:List (Option Nat)}{σ:St}{H:Hp}{Q:VK}{a:Addr}{ks:Ag}{n:Int}(ha:H a=some (.tup (ks.map V.int)))(hl:ks.length<=100)(h0:blkσ m σ=[none,some (.int n)])
  (q:∀ D H',H' D=some (.lst ((ks.map (· +n)).map V.int))->Ext H H'->H D=none->Q (.ref D) H'):qL m (kR 0) yK (tOp (rI0 fun i j=>V.int (i+j)) (tVar 0) (tVar 1)) σ Q (Itt K a) H:=by
 refine jAH (xs:=ks.map V.int) (by rw[af,aE]; lia) (fun D j σ' H' zs=>(∃ v,σ'=[v,some (.int n)])/\Ext H H'/\H' D=some (.lst zs)/\H D=none/\zs=((ks.take j).map (· +n)).map V.int) ?_ ?_ ?_ ?_
 ·intro D hD;exact⟨⟨_,h0⟩,(Ext.refl _).new hD _,j5,hD,rfl⟩
 ·rintro D j σ' H' zs hD ⟨_,e,h2,_,rfl⟩;refine⟨e _ _ ha,h2,?_⟩;rw[af,af];exact bC _ _
 ·rintro D j σ' H' zs x hD hx ⟨⟨v,rfl⟩,e,h2,hn,rfl⟩;obtain⟨z,hz,rfl⟩:∃ z:Int,ks[j]?=some z/\V.int z=x:=by
   rw[aV] at hx;cases hq:ks[j]? with
   | none=>rw[hq] at hx; cases hx
   | some z=>rw[hq] at hx; cases hx; exact⟨z,rfl,rfl⟩
  dsimp only [kR,yK];rw[aq rfl];refine⟨_,rfl,_,rfl,z,n,rfl,rfl,h2,⟨_,rfl⟩,e.updNew hn _,j5,hn,?_⟩;rw[be,hz];simp
 ·rintro D σ' H' zs hD ⟨_,e,h2,hn,rfl⟩;rw[af,bq] at h2;exact q D H' h2 e hn
theorem jQO {fd:FuncData}(F:Fun K "moved_on" "moved_on" jDG f fd)(T:Txt mg):FnOk P w K mg Ar CX0 1 f fd ["lot","things"] jG0:=by
 refine F.ok scMoved (fun vs H Q E h=>?_) (fun lI A Aq s H vs Q E hr h=>?_)
 ·obtain⟨_,_,_,rfl,_⟩:=h;rfl
 ·obtain⟨a,ks,n,rfl,ha,hl,k⟩:=h;refine⟨_,(jWN T).2.h,?_⟩;refine⟨_,rfl,a,rfl,⟨_,SqT.of ha⟩,jD0 ha hl rfl fun D H' h2 e hn=>?_⟩;exact⟨D,_,rfl, .inl ⟨SqL.of h2,fun l hl=>k l _ j5 (e.new hl _)⟩⟩
theorem PcsAt.app {H:Hp} :∀ {vs:List V}{ps:Ae}{us:List V}{qs:Ae},PcsAt H vs ps->PcsAt H us qs->PcsAt H (vs++us) (ps++qs)
 | [],[],_,_,_,h=>h
 | _::_,_::_,_,_,h,r=>⟨h.1,h.2.app r⟩
 | [],_::_,_,_,h,_=>h.elim
 | _::_,[],_,_,h,_=>h.elim
def mv (n:Int)(p:List Int×Int):List Int×Int:=(p.1.map (· +n),p.2)
section
variable {u1 u2:Tok}
abbrev nSide:An:=["one","other","things","pieces"]
theorem scSide:FnScope nSide ["one","other"] (j7 sSide):= {}
def jBR:Sp:=fun vs H Q _=>∃ (a b:Addr) (w1 w2:Int) (m1 m2:Ag) (p1 p2:Ae),vs=[.ref a, .ref b]/\BoxAt H a w1 m1 p1/\BoxAt H b w2 m2 p2/\Good 16 32 w1 m1 p1/\Good 16 32 w2 m2 p2/\w1+w2<=16/\(p1.length:Int)+p2.length<=32/\∀ r H',BoxAt H' r (w1+w2) (m1++m2.map (· +w1)) (p1++p2.map (mv w1))->Ext H H'->Q (.ref r) H'
def sideA (T:Txt mg)(CM:Can P w K mg Ar "moved_on" 1 fM fdM ["lot","things"] jG0)(G1:mg "MOST_THINGS" =some (.int 16 u1))(G2:mg "MOST_PIECES" =some (.int 32 u2))(hr:Room 1 (XOf nSide "side_by_side" sSide P w K mg Ar f lI A Aq s H0 E).A): { t:TS // JSs (XOf nSide "side_by_side" sSide P w K mg Ar f lI A Aq s H0 E) (jC sSide) t} :=
 have nd:=scSide.nd
 ⟨_,(jB (jO (i:=2) nd rfl lL (jZ kU (jI jJ (jv 0 rfl vC) (je_int) jD) (jI jJ (jv 1 rfl vL) (je_int) jD)) jFD)
   (jB (yF (jt_w (jw_or (jW op_gt (jv 2 rfl vL) (jJH (v:= .int 16) gD G1 ⟨_,rfl⟩) (jV _)) (jOI (jW op_gt (jZ kU (jK jT gD T.len Ab (j3 (jI jJ (jv 0 rfl vC) (je_int) jD) j8 jN) jN) (jK jT gD T.len Ab (j3 (jI jJ (jv 1 rfl vL) (je_int) jD) j8 jN) jN)) (jJH (v:= .int 32) gD G2 ⟨_,rfl⟩) (jV _))))) (jE (jOK)) kN)
   (jB (jO (i:=3) nd rfl lL (kI jP gD T.tuple Ab (j3 (kE (m:=[none,some 0]) (Nc:=["piece","one"]) rfl (qC (jI jJ (jv 1 rfl vL) (je_int) jD)) rfl Ab Ab (jM (psc:=j7 sSide)) (jH (N:=nSide) rfl rfl Ab) (fun cl C fp s H=>jL (i:=0) (show (["piece","one"]:An).Nodup by decide+kernel) rfl yI) (fun cl C fp s H=>kP) (fun cl C fp s H=>(y4 (j3 (CM.je hr gl_b (j3 (jI y0 (jv 0 rfl jS) (je_int) jD) (j3 (jI y0 (jv 1 rfl kQ) (je_int) jD) j8 jN) jN) jN) (j3 (jI y0 (jv 0 rfl jS) (je_int) jD) j8 jN) jG))) jI8) j8 jF) jF) jY)
   (jE (jQ (y4 (j3 (jv 2 rfl vL) (j3 (jZ jC2 (jI jJ (jv 0 rfl vC) (je_int) jD) (CM.je hr gD (j3 (jI jJ (jv 1 rfl vL) (je_int) jD) (j3 (jI jJ (jv 0 rfl vC) (je_int) jD) j8 jN) jN) jN)) (j3 (jZ jC2 (jI jJ (jv 0 rfl vC) (je_int) jD) (jv 3 rfl vL)) j8 yB) yB) j4)))))))⟩
theorem jU7 {fd:FuncData}(F:Fun K "side_by_side" "side_by_side" sSide f fd)(T:Txt mg)(CM:Can P w K mg Ar "moved_on" 1 fM fdM ["lot","things"] jG0)(G1:mg "MOST_THINGS" =some (.int 16 u1))(G2:mg "MOST_PIECES" =some (.int 32 u2)):FnOk P w K mg Ar CX0 2 f fd ["one","other"] jBR:=by
 refine F.ok scSide (fun vs H Q E h=>?_) (fun lI A Aq s H vs Q E hr h=>?_)
 ·obtain⟨_,_,_,_,_,_,_,_,rfl,_⟩:=h;rfl
 ·obtain⟨a,b,w1,w2,m1,m2,p1,p2,rfl,B1,B2,g1,g2,hw,hp,q⟩:=h;refine⟨_,(sideA T CM G1 G2 hr).2.h,?_⟩;obtain⟨qm1,qp1,v1,a1,a2,a3,a4⟩:=id B1.ex;obtain⟨qm2,qp2,v2,b1,b2,b3,b4⟩:=id B2.ex;refine⟨_,rfl,_,_,0,_,rfl,rfl,SqT.of a1,rfl,_,rfl,_,_,0,_,rfl,rfl,SqT.of b1,rfl,w1,w2,rfl,rfl,?_⟩;refine⟨_,rfl,_,_,rfl,rfl,_,rfl,iteN (aM Aa) ?_⟩;refine⟨_,rfl,_,_,2,_,rfl,rfl,SqT.of a1,rfl,_,_,rfl, .inr (SqT.of a3),_,rfl,_,_,2,_,rfl,rfl,SqT.of b1,rfl,_,_,rfl, .inr (SqT.of b3),_,_,rfl,rfl,_,_,rfl,rfl,_,rfl,iteN (aM (by rw[a4.len,b4.len]; lia)) ?_⟩;have l2:p2.length<=32:=by have:=g2.pl; lia
  refine⟨_,rfl,_,_,2,_,rfl,rfl,SqT.of b1,rfl,qp2,rfl,⟨_,SqT.of b3⟩,jAH (xs:=v2) (by rw[b4.len,aE]; lia) (fun D j σ' H' zs=>(∃ v,σ'=[v,some (.ref a)])/\Ext H H'/\H' D=some (.lst zs)/\H D=none/\PcsAt H' zs ((p2.take j).map (mv w1))) ?_ ?_ ?_ ?_⟩
  ·intro D hD;exact⟨⟨_,rfl⟩,(Ext.refl _).new hD _,j5,hD,by show PcsAt _ [] []; trivial⟩
  ·rintro D j σ' H' zs hD ⟨_,e,h2,_,pz⟩;refine⟨e _ _ b3,h2,?_⟩;rw[pz.len,af];exact bC _ _
  ·rintro D j σ' H' zs x hD hx ⟨⟨v,rfl⟩,e,h3,hn,pz⟩;have hj:j<p2.length:=by
    rw[<- b4.len];exact(ao.mp hx).1
   obtain⟨x',hx',ax,qx,rfl,c1,c2⟩:=b4.get hj;rw[hx] at hx';cases hx';have gp:=g2.at hj;generalize hpc:p2.getD j ([],0)=pc at c1 c2 gp;dsimp only [kR,yK];rw[aq rfl];refine⟨_,rfl,_,_,0,_,rfl,rfl,SqT.of (e _ _ c1),rfl,_,rfl,_,_,0,_,rfl,rfl,SqT.of (e _ _ a1),rfl,qx,pc.1,w1,rfl,e _ _ c2,?_,fun r1 H1 d1 e1=>?_⟩
   ·have:=jAZ gp.lot.ris gp.lot.bnd (by have:=g2.w1; lia);lia
   refine⟨_,rfl,_,_,1,_,rfl,rfl,SqT.of (e1 _ _ (e _ _ c1)),rfl,by show (2:Nat)<=_; decide,fun r2 H2 d2 e2=>?_⟩;have hD2:H2 D=some (.lst zs):=e2 _ _ (e1 _ _ h3);have ez:(p2.take (j+1)).map (mv w1)=(p2.take j).map (mv w1)++[mv w1 pc]:=by
    rw[be,show p2[j]?=some pc by rw[<- hpc]; simp [List.getD,hj]];simp
   refine⟨hD2,⟨_,rfl⟩,((e.trans e1).trans e2).updNew hn _,j5,hn,?_⟩;rw[ez];refine PcsAt.mono (Tups.upd hD2 _) (PcsAt.app (pz.mono (e1.trans e2).tups) ⟨⟨r2,r1,rfl,d2,e2 _ _ d1⟩,trivial⟩)
  ·rintro D σ' H' zs hD ⟨_,e,h3,hn,pz⟩;rw[b4.len,bq] at pz;refine⟨D,_,rfl, .inl ⟨SqL.of h3,fun l hl=>?_⟩⟩;have e1:Ext H (L2.upd H' l (.tup zs)):=e.new hl _;have pz1:=pz.mono (Tups.new hl (.tup zs));have hl1:(L2.upd H' l (.tup zs)) l=some (.tup zs):=j5;generalize L2.upd H' l (.tup zs)=H1 at e1 pz1 hl1;have lm1:m1.length<=16:=jAZ g1.mr.ris g1.mr.bnd g1.w1;have lm2:m2.length<=16:=jAZ g2.mr.ris g2.mr.bnd g2.w1;have l1:p1.length<=32:=by have:=g1.pl; lia
   refine⟨_,rfl,_,rfl,_,_,1,_,rfl,rfl,SqT.of (e1 _ _ a1),rfl,_,rfl,_,_,1,_,rfl,rfl,SqT.of (e1 _ _ b1),rfl,_,rfl,_,_,0,_,rfl,rfl,SqT.of (e1 _ _ a1),rfl,qm2,m2,w1,rfl,e1 _ _ b2,Aa,fun r1 H2 d1 e2=>?_⟩;refine⟨qm1,r1,_,_,rfl,rfl,e2 _ _ (e1 _ _ a2),d1,by rw[af,af,af,aE]; lia,fun r2 H3 d2 e3=>?_⟩;refine⟨_,rfl,_,_,2,_,rfl,rfl,SqT.of (e3 _ _ (e2 _ _ (e1 _ _ a1))),rfl,_,rfl,qp1,l,_,_,rfl,rfl,e3 _ _ (e2 _ _ (e1 _ _ a3)),e3 _ _ (e2 _ _ hl1),by rw[a4.len,pz1.len,af,aE]; lia,fun r3 H4 d3 e4=>?_⟩;refine⟨by show (3:Nat)<=_; decide,fun r H5 d5 e5=>q r H5 ⟨r2,r3,v1++zs,d5,?_,e5 _ _ d3,?_⟩ ((((e1.trans e2).trans e3).trans e4).trans e5)⟩
   ·rw[aS];exact e5 _ _ (e4 _ _ d2)
   ·exact PcsAt.app (a4.mono ((((e1.trans e2).trans e3).trans e4).trans e5).tups) (pz1.mono (((e2.trans e3).trans e4).trans e5).tups)
end
abbrev shL (n:Int)(x:Ag):Ag:=x.map (· +n)
theorem jJZ (a b:Nat):upto (a+b)=upto a++(upto b).map (fun k=>(a:Int)+k):=by
 unfold upto;rw[List.range_add,aS,bB,bB];congr 1
theorem jQZ {l:Ag}{a:Nat}(r:l.Pairwise (· < ·))(h0:∀ x∈l,0<=x):maskN (l.map (· +(a:Int)))=2 ^ a*maskN l:=by
 refine cJ fun i=>?_;rw[jA2 _ i (bu.mpr (r.imp fun {x y} h=>by lia)) (fun x hx=>by
  obtain⟨y,hy,rfl⟩:=aw.mp hx;have:=h0 y hy;lia),eU]
 by_cases hi:a<=i
 ·rw[ar (show i ≥ a from hi),eL,jA2 l (i - a) r h0];refine g0.mpr ⟨fun h=>?_,fun h=>aw.mpr ⟨_,h,Aa⟩⟩;obtain⟨y,hy,e⟩:=aw.mp h;rw[show ((i - a:Nat):Int)=y by lia];exact hy
 ·rw[aM (show ¬ i ≥ a from hi),dC];refine aM fun h=>?_;obtain⟨y,hy,e⟩:=aw.mp h;have:=h0 y hy;lia
theorem jF4 (a m i:Nat):((2 ^ a - 1)+2 ^ a*m).testBit i=if i<a then true else m.testBit (i - a):=by
 rw[jm,iF _ (Nat.sub_lt (bF a) Ac)];split
 ·rw[cI];exact ar (by assumption)
 ·rfl
theorem jVI (a m c:Nat):((2 ^ a - 1)+2 ^ a*m)|||(2 ^ a*c)=(2 ^ a - 1)+2 ^ a*(m|||c):=by
 refine cJ fun i=>?_;rw[b8,jF4,jF4,eU];by_cases h:i<a
 ·rw[aq h,aq h,Bool.true_or]
 ·rw[ak h,ak h,ar (show i ≥ a by lia),eL,b8]
theorem jT7 (a m c:Nat):((2 ^ a*c)&&&((2 ^ a - 1)+2 ^ a*m)==0)=(c&&&m==0):=by
 have e:(2 ^ a*c)&&&((2 ^ a - 1)+2 ^ a*m)=2 ^ a*(c&&&m):=by
  refine cJ fun i=>?_;rw[di,jF4,eU,eU];by_cases h:i<a
  ·rw[aM (show ¬ i ≥ a by lia),dC,dC,dC]
  ·rw[ak h,ar (show i ≥ a by lia),eL,eL,di]
 rw[e,bZ,fq,fq];have:=bF a;exact⟨fun h=>(Nat.mul_eq_zero.mp h).resolve_left Aa,fun h=>by rw[h,Nat.mul_zero]⟩
theorem jMR (a m:Nat):lowN ((2 ^ a - 1)+2 ^ a*m)=a+lowN m:=by
 refine jO7 ?_ fun j hj=>?_
 ·rw[jF4,ak Aa,cq];exact jD2 m
 ·rw[jF4];split
  ·rfl
  ·exact jEJ m _ Aa
theorem jVJ {a b m:Nat}(h:m<2 ^ b):(2 ^ a - 1)+2 ^ a*m<2 ^ (a+b):=by
 have h1:2 ^ a*(m+1)<=2 ^ a*2 ^ b:=gb _ h;rw[iZ];have:=bF a;rw[Nat.mul_add,Nat.mul_one] at h1;lia
section
abbrev mB (w1:Int)(m1 m2:Ag):Ag:=m1++m2.map (· +w1)
abbrev pB (w1:Int)(p1 p2:Ae):Ae:=p1++p2.map (mv w1)
theorem jDL:(pB w1 p1 p2).length=p1.length+p2.length:=by rw[aL,af]
theorem jSF {k:Int}(h0:0<=k)(h1:k<p1.length):(pB w1 p1 p2).getD k.toNat ([],0)=p1.getD k.toNat ([],0):=by
 rw[am,b7 Aa,<- am]
theorem jSG {k:Int}(h0:0<=k)(h1:k<p2.length):(pB w1 p1 p2).getD ((p1.length:Int)+k).toNat ([],0)=mv w1 (p2.getD k.toNat ([],0)):=by
 have hk:k.toNat<p2.length:=Aa;rw[show ((p1.length:Int)+k).toNat=p1.length+k.toNat by lia,am,bi Aa,cq,aV,am,aC hk];rfl
theorem jDC {k:Int}(h0:0<=k)(h1:k<p1.length):j6 (pB w1 p1 p2) k=j6 p1 k:=bW Prod.fst (jSF h0 h1)
theorem jDD {k:Int}(h0:0<=k)(h1:k<p2.length):j6 (pB w1 p1 p2) ((p1.length:Int)+k)=shL w1 (j6 p2 k):=bW Prod.fst (jSG h0 h1)
variable (g1:Good 16 32 w1 m1 p1)(g2:Good 16 32 w2 m2 p2)
include g1 g2
theorem jA8 (hw:w1+w2<=16)(hp:(p1.length:Int)+p2.length<=32):Good 16 32 (w1+w2) (mB w1 m1 m2) (pB w1 p1 p2):=by
 have a0:=g1.w0;have b0:=g2.w0;refine⟨Aa,hw,⟨cg.mpr ⟨g1.mr.ris,bu.mpr (g2.mr.ris.imp fun {x y} h=>by lia),fun x hx y hy=>?_⟩,fun z hz=>?_⟩,by rw[jDL]; lia,fun pc hpc=>?_⟩
 ·obtain⟨u,hu,rfl⟩:=aw.mp hy;have:=g1.mr.bnd x hx;have:=g2.mr.bnd u hu;lia
 ·rcases aJ.mp hz with h | h
  ·have:=g1.mr.bnd z h;lia
  ·obtain⟨u,hu,rfl⟩:=aw.mp h;have:=g2.mr.bnd u hu;lia
 ·rcases aJ.mp hpc with h | h
  ·have gp:=g1.pg pc h;exact⟨⟨gp.lot.ris,fun z hz=>by have:=gp.lot.bnd z hz; lia,gp.lot.ne⟩,gp.lo,gp.hi⟩
  ·obtain⟨u,hu,rfl⟩:=aw.mp h;have gp:=g2.pg u hu;refine⟨⟨bu.mpr (gp.lot.ris.imp fun {x y} h=>by lia),fun z hz=>?_,fun z=>gp.lot.ne (List.map_eq_nil_iff.mp z)⟩,gp.lo,gp.hi⟩;obtain⟨v,hv,rfl⟩:=aw.mp hz;have:=gp.lot.bnd v hv;lia
theorem jP3 {k:Int}(h0:0<=k)(h1:k<p2.length):(shL w1 (j6 p2 k)).headD 0=(j6 p2 k).headD 0+w1:=by
 have:=(g2.at (k:=k.toNat) Aa).lot.ne;show ((p2.getD k.toNat ([],0)).1.map (· +w1)).headD 0=(p2.getD k.toNat ([],0)).1.headD 0+w1;cases h:(p2.getD k.toNat ([],0)).1 with
 | nil=>exact absurd h this
 | cons a r=>rfl
theorem jL6 {w:Int}{ms:Ag}{As:Ae}(g:Good 16 32 w ms As){k:Int}(h0:0<=k)(h1:k<As.length):0<=(j6 As k).headD 0/\(j6 As k).headD 0<w:=by
 have gp:=(g.at (k:=k.toNat) Aa).lot;exact gp.bnd _ (jE1 gp.ne)
theorem jX9 {t:Nat}(ht:t<w1.toNat):kY (mB w1 m1 m2) (pB w1 p1 p2) (pB w1 p1 p2).length t=kY m1 p1 p1.length t:=by
 have a0:=g1.w0;unfold kY;have hm:((t:Int)∈mB w1 m1 m2)↔((t:Int)∈m1):=by
  rw[aJ];refine⟨fun h=>h.resolve_right fun z=>?_, .inl⟩;obtain⟨u,hu,e⟩:=aw.mp z;have:=g2.mr.bnd u hu;lia
 have tk:∀ n:Nat,(upto n).take n=upto n:=fun n=>by
  have:=bq (l:=upto n);rw[jAU] at this;exact this
 have hf:((upto (pB w1 p1 p2).length).filter fun k=>decide ((j6 (pB w1 p1 p2) k).headD 0=(t:Int)))=(upto p1.length).filter fun k=>decide ((j6 p1 k).headD 0=(t:Int)):=by
  rw[jDL,jJZ,bN,(ju (l:=(upto p2.length).map fun k=>(p1.length:Int)+k)).mpr,bf]
  ·refine i5 fun k hk=>?_;have kb:=(kT p1.length).bnd k hk;rw[jDC kb.1 kb.2]
  ·intro k hk z;obtain⟨j,hj,rfl⟩:=aw.mp hk;have jb:=(kT p2.length).bnd j hj;have z:=aG z;rw[jDD jb.1 jb.2,jP3 g1 g2 jb.1 jb.2] at z;have:=(jL6 g1 g2 g2 jb.1 jb.2).1;lia
 rw[tk,tk,hf];congr 1
 ·by_cases h:(t:Int)∈m1
  ·rw[aq h,aq (hm.mpr h)]
  ·rw[ak h,ak fun z=>h (hm.mp z)]
 ·refine bI fun k hk=>?_;have kb:=(kT p1.length).bnd k (aR.mp hk).1;rw[jDC kb.1 kb.2]
def shC (n a:Nat)(c:Int×Nat):Int×Nat:=(if c.1<0 then c.1 else c.1+(n:Int),2 ^ a*c.2)
theorem jXA {u:Nat}(hu:u<w2.toNat):kY (mB w1 m1 m2) (pB w1 p1 p2) (pB w1 p1 p2).length (w1.toNat+u)=(kY m2 p2 p2.length u).map (shC p1.length w1.toNat):=by
 have a0:=g1.w0;have ea:((w1.toNat:Nat):Int)=w1:=dQ a0;unfold kY;have hm:(((w1.toNat+u:Nat):Int)∈mB w1 m1 m2)↔((u:Int)∈m2):=by
  rw[aJ];constructor
  ·rintro (h | h)
   ·have:=g1.mr.bnd _ h;lia
   ·obtain⟨v,hv,e⟩:=aw.mp h;rw[show (u:Int)=v by lia];exact hv
  ·intro h;exact .inr (aw.mpr ⟨_,h,Aa⟩)
 have tk:∀ n:Nat,(upto n).take n=upto n:=fun n=>by
  have:=bq (l:=upto n);rw[jAU] at this;exact this
 have hf:((upto (pB w1 p1 p2).length).filter fun k=>decide ((j6 (pB w1 p1 p2) k).headD 0=((w1.toNat+u:Nat):Int)))=((upto p2.length).filter fun k=>decide ((j6 p2 k).headD 0=(u:Int))).map fun k=>(p1.length:Int)+k:=by
  rw[jDL,jJZ,bN,(ju (l:=upto p1.length)).mpr,im,List.filter_map]
  ·congr 1;refine i5 fun k hk=>?_;have kb:=(kT p2.length).bnd k hk;show decide ((j6 (pB w1 p1 p2) ((p1.length:Int)+k)).headD 0=_)=_;rw[jDD kb.1 kb.2,jP3 g1 g2 kb.1 kb.2];refine g0.mpr ?_;lia
  ·intro k hk z;have kb:=(kT p1.length).bnd k hk;have z:=aG z;rw[jDC kb.1 kb.2] at z;have:=(jL6 g1 g2 g1 kb.1 kb.2).2;lia
 rw[tk,tk,hf,aS,bB,bB];congr 1
 ·by_cases h:(u:Int)∈m2
  ·rw[aq h,aq (hm.mpr h),iZ];rfl
  ·rw[ak h,ak fun z=>h (hm.mp z)];rfl
 ·refine bI fun k hk=>?_;have kb:=(kT p2.length).bnd k (aR.mp hk).1;have gp:=(g2.at (k:=k.toNat) Aa).lot;show ((p1.length:Int)+k,maskN (j6 (pB w1 p1 p2) ((p1.length:Int)+k)))=shC p1.length w1.toNat (k,maskN (j6 p2 k));unfold shC;rw[jDD kb.1 kb.2,ak (by show ¬ k<0; lia)];have e:=jQZ (a:=w1.toNat) (l:=j6 p2 k) gp.ris fun x hx=>(gp.bnd x hx).1;rw[ea] at e;rw[e,Int.add_comm]
abbrev chB (w1 w2:Int)(m1 m2:Ag)(p1 p2:Ae):Ch:=chs (w1+w2).toNat (mB w1 m1 m2) (pB w1 p1 p2)
theorem jPO:(chB w1 w2 m1 m2 p1 p2).length=w1.toNat+w2.toNat:=by
 have:=g1.w0;have:=g2.w0;show (chsN _ _ _ _).length=_;rw[kJ];lia
theorem jPP {t:Nat}(h:t<w1.toNat+w2.toNat):(chB w1 w2 m1 m2 p1 p2).getD t []=kY (mB w1 m1 m2) (pB w1 p1 p2) (pB w1 p1 p2).length t:=by
 have:=g1.w0;have:=g2.w0;rw[am];show ((chsN _ _ _ _)[t]?).getD []=_;rw[yE Aa];rfl
theorem jLF {w:Int}{ms:Ag}{As:Ae}{t:Nat}(h:t<w.toNat):(chs w.toNat ms As).getD t []=kY ms As As.length t:=by
 rw[am];show ((chsN _ _ _ _)[t]?).getD []=_;rw[yE h];rfl
theorem jV6 {m:Nat}(h:m<2 ^ w1.toNat)(hn:m≠2 ^ w1.toNat - 1):chAt (chB w1 w2 m1 m2 p1 p2) m=chAt (chs w1.toNat m1 p1) m:=by
 have hl:=qH h hn;unfold chAt;rw[jPP g1 g2 Aa,jX9 g1 g2 hl,jLF g1 g2 hl]
theorem jV7 {m:Nat}(h:m<2 ^ w2.toNat)(hn:m≠2 ^ w2.toNat - 1):chAt (chB w1 w2 m1 m2 p1 p2) ((2 ^ w1.toNat - 1)+2 ^ w1.toNat*m)=(chAt (chs w2.toNat m2 p2) m).map (shC p1.length w1.toNat):=by
 have hl:=qH h hn;unfold chAt;rw[jMR,jPP g1 g2 Aa,jXA g1 g2 hl,jLF g1 g2 hl,List.filter_map];congr 1;refine i5 fun c _=>?_;show ((2 ^ w1.toNat*c.2)&&&_==0)=_;exact jT7 _ _ _
end
theorem jCM {α β:Type}{f g:α->List β} :∀ {l:List α},(∀ x∈l,f x=g x)->l.flatMap f=l.flatMap g
 | [],_=>rfl
 | a::r,h=>by rw[dM,dM,h a (ai ..),jCM fun x hx=>h x (ag _ hx)]
section
variable {p1 p2:Ae}(g1:Good 16 32 w1 m1 p1)(g2:Good 16 32 w2 m2 p2)(hw:w1+w2<=16)(hp:(p1.length:Int)+p2.length<=32)
include g1 g2 hw hp
theorem wk_hi:∀ m,m<2 ^ w2.toNat->wk (chB w1 w2 m1 m2 p1 p2) ((2 ^ w1.toNat - 1)+2 ^ w1.toNat*m)=(wk (chs w2.toNat m2 p2) m).map (shL (p1.length:Int)):=by
 have oB:ChOk (chB w1 w2 m1 m2 p1 p2):=yP (jA8 g1 g2 hw hp);have o2:ChOk (chs w2.toNat m2 p2):=yP g2;have l2:(chs w2.toNat m2 p2).length=w2.toNat:=kJ _ _ _ _;have lB:=jPO g1 g2;have pa:=bF w1.toNat;have pb:=bF w2.toNat;have ef:(2 ^ w1.toNat - 1)+2 ^ w1.toNat*(2 ^ w2.toNat - 1)=2 ^ (w1.toNat+w2.toNat) - 1:=by
  rw[iZ,Nat.mul_sub,Nat.mul_one];have:2 ^ w1.toNat<=2 ^ w1.toNat*2 ^ w2.toNat:=ji _ pb;lia
 have key:=jBA o2 (P:=fun m=>wk (chB w1 w2 m1 m2 p1 p2) ((2 ^ w1.toNat - 1)+2 ^ w1.toNat*m)=(wk (chs w2.toNat m2 p2) m).map (shL (p1.length:Int))) ?_ ?_
 ·rw[l2] at key;exact key
 ·have e2:fullN (chs w2.toNat m2 p2)=2 ^ w2.toNat - 1:=by unfold fullN; rw[l2]
  have eB:fullN (chB w1 w2 m1 m2 p1 p2)=2 ^ (w1.toNat+w2.toNat) - 1:=by unfold fullN; rw[lB]
  show wk _ ((2 ^ w1.toNat - 1)+2 ^ w1.toNat*fullN (chs w2.toNat m2 p2))=_;rw[jAI,e2,ef,<- eB,jAI];rfl
 ·intro m hm hn ih;rw[l2] at hm;have hn':m≠2 ^ w2.toNat - 1:=fun z=>hn (by unfold fullN; rw[l2]; exact z);have ht:(2 ^ w1.toNat - 1)+2 ^ w1.toNat*m<2 ^ (chB w1 w2 m1 m2 p1 p2).length:=by rw[lB]; exact jVJ hm
  have hf:(2 ^ w1.toNat - 1)+2 ^ w1.toNat*m≠fullN (chB w1 w2 m1 m2 p1 p2):=fun z=>by
   have e:=jMR w1.toNat m;rw[z] at e;unfold fullN at e;rw[lB,jGG] at e;have:=qH hm hn';lia
  show wk _ ((2 ^ w1.toNat - 1)+2 ^ w1.toNat*m)=_;rw[yW oB ht hf,yW o2 (by rw[l2]; exact hm) hn,jV7 g1 g2 hm hn',bB];unfold wJ;rw[fQ,fQ,List.map_flatMap];refine jCM fun c hc=>?_;show (wk _ (((2 ^ w1.toNat - 1)+2 ^ w1.toNat*m)|||(2 ^ w1.toNat*c.2))).map _=_;have:=ih c hc;rw[jVI,show wk (chB w1 w2 m1 m2 p1 p2) ((2 ^ w1.toNat - 1)+2 ^ w1.toNat*(m|||c.2))=_ from this,bB,bB];refine bI fun x _=>?_;show (if (shC p1.length w1.toNat c).1<0 then shL (p1.length:Int) x else (shC p1.length w1.toNat c).1::shL (p1.length:Int) x)=shL (p1.length:Int) (if c.1<0 then x else c.1::x);unfold shC;by_cases h:c.1<0
  ·rw[aq h,aq h,aq h]
  ·rw[ak h,ak h,ak (by show ¬ c.1+(p1.length:Int)<0; lia)];rfl
theorem wk_lo:∀ m,m<2 ^ w1.toNat->wk (chB w1 w2 m1 m2 p1 p2) m=(wk (chs w1.toNat m1 p1) m).flatMap fun x=>(wk (chB w1 w2 m1 m2 p1 p2) (2 ^ w1.toNat - 1)).map (x++ ·):=by
 have oB:ChOk (chB w1 w2 m1 m2 p1 p2):=yP (jA8 g1 g2 hw hp);have o1:ChOk (chs w1.toNat m1 p1):=yP g1;have l1:(chs w1.toNat m1 p1).length=w1.toNat:=kJ _ _ _ _;have lB:=jPO g1 g2;have pa:=bF w1.toNat;have pb:=bF w2.toNat;have key:=jBA o1 (P:=fun m=>wk (chB w1 w2 m1 m2 p1 p2) m=(wk (chs w1.toNat m1 p1) m).flatMap fun x=>(wk (chB w1 w2 m1 m2 p1 p2) (2 ^ w1.toNat - 1)).map (x++ ·)) ?_ ?_
 ·rw[l1] at key;exact key
 ·show wk _ (fullN (chs w1.toNat m1 p1))=_;rw[jAI];have e1:fullN (chs w1.toNat m1 p1)=2 ^ w1.toNat - 1:=by unfold fullN; rw[l1]
  rw[e1,dM,List.flatMap_nil,bf];exact((bI fun x _=>im x).trans (ie _)).symm
 ·intro m hm hn ih;rw[l1] at hm;have hn':m≠2 ^ w1.toNat - 1:=fun z=>hn (by unfold fullN; rw[l1]; exact z);have hl:2 ^ w1.toNat<=2 ^ (w1.toNat+w2.toNat):=by rw[iZ]; exact ji _ pb
  have ht:m<2 ^ (chB w1 w2 m1 m2 p1 p2).length:=by rw[lB]; lia
  have hf:m≠fullN (chB w1 w2 m1 m2 p1 p2):=fun z=>by unfold fullN at z; rw[lB] at z; lia
  show wk _ m=_;rw[yW oB ht hf,yW o1 (by rw[l1]; exact hm) hn,jV6 g1 g2 hm hn'];unfold wJ;rw[fQ,fQ,List.flatMap_assoc];refine jCM fun c hc=>?_;have:=ih c hc;show (wk _ (m|||c.2)).map _=_;rw[this,List.map_flatMap,fQ];refine jCM fun x _=>?_;rw[bB];refine bI fun y _=>?_;show (if c.1<0 then x++y else c.1::(x++y))=(if c.1<0 then x else c.1::x)++y;by_cases h:c.1<0
  ·rw[aq h,aq h]
  ·rw[ak h,ak h];rfl
theorem jIW:wk (chB w1 w2 m1 m2 p1 p2) 0=(wk (chs w1.toNat m1 p1) 0).flatMap fun x=>(wk (chs w2.toNat m2 p2) 0).map fun y=>x++shL (p1.length:Int) y:=by
 rw[wk_lo g1 g2 hw hp 0 (bF _)];have e:=wk_hi g1 g2 hw hp 0 (bF _);rw[Nat.mul_zero,jp] at e;rw[e];refine jCM fun x _=>?_;rw[bB];rfl
theorem jKB:(wk (chB w1 w2 m1 m2 p1 p2) 0).length=(wk (chs w1.toNat m1 p1) 0).length*(wk (chs w2.toNat m2 p2) 0).length:=by
 rw[jIW g1 g2 hw hp,lc];generalize wk (chs w1.toNat m1 p1) 0=A
 induction A with
 | nil=>simp
 | cons a r ih=>rw[bg,g9,ih,af,aU,Nat.succ_mul]; lia
theorem wtB {x y:Ag}(hx:∀ k∈x,0<=k/\k<p1.length)(hy:∀ k∈y,0<=k/\k<p2.length):wt (pB w1 p1 p2) (x++shL (p1.length:Int) y)=wt p1 x+wt p2 y:=by
 unfold wt;rw[aS,List.sum_append,bB];congr 2
 ·exact bI fun k hk=>bW Prod.snd (jSF (hx k hk).1 (hx k hk).2)
 ·refine bI fun k hk=>?_;show wgt (pB w1 p1 p2) (k+(p1.length:Int))=_;rw[Int.add_comm];exact(bW Prod.snd (jSG (w1:=w1) (p1:=p1) (hy k hk).1 (hy k hk).2)).trans rfl
theorem minB {Bl:Af}(hB:∀ y∈Bl,∀ k∈y,0<=k/\k<p2.length){x:Ag}(hx:∀ k∈x,0<=k/\k<p1.length):minW (pB w1 p1 p2) (Bl.map fun y=>x++shL (p1.length:Int) y)=(minW p2 Bl).map fun y=>x++shL (p1.length:Int) y:=by
 induction Bl with
 | nil=>rfl
 | cons y r ih=>
  rw[bg,jA9,jA9,ih fun z hz=>hB z (ag _ hz)];cases h:minW p2 r with
  | none=>rfl
  | some z=>
   have hz:=hB z (ag _ (jA7 h).1);have hy:=hB y (ai ..);show (if wt (pB w1 p1 p2) (x++shL (p1.length:Int) z)<wt (pB w1 p1 p2) (x++shL (p1.length:Int) y) then _ else _)=Option.map _ (if wt p2 z<wt p2 y then some z else some y);rw[wtB g1 g2 hw hp hx hz,wtB g1 g2 hw hp hx hy];by_cases q:wt p2 z<wt p2 y
   ·rw[aq q,aq Aa];rfl
   ·rw[ak q,ak Aa];rfl
theorem minA {Bl:Af}(hB:∀ y∈Bl,∀ k∈y,0<=k/\k<p2.length){y:Ag}(hy:minW p2 Bl=some y){Al:Af}(hA:∀ x∈Al,∀ k∈x,0<=k/\k<p1.length):minW (pB w1 p1 p2) (Al.flatMap fun x=>Bl.map fun y=>x++shL (p1.length:Int) y)=(minW p1 Al).map fun x=>x++shL (p1.length:Int) y:=by
 have yb:=hB y (jA7 hy).1
 induction Al with
 | nil=>rfl
 | cons x r ih=>
  have hx:=hA x (ai ..);rw[dM,jC3,jA9,ih fun z hz=>hA z (ag _ hz),minB g1 g2 hw hp hB hx,hy];cases h:minW p1 r with
  | none=>rfl
  | some z=>
   have hz:=hA z (ag _ (jA7 h).1);show (if wt (pB w1 p1 p2) (z++shL (p1.length:Int) y)<wt (pB w1 p1 p2) (x++shL (p1.length:Int) y) then _ else _)=Option.map _ (if wt p1 z<wt p1 x then some z else some x);rw[wtB g1 g2 hw hp hz yb,wtB g1 g2 hw hp hx yb];by_cases q:wt p1 z<wt p1 x
   ·rw[aq q,aq Aa];rfl
   ·rw[ak q,ak Aa];rfl
theorem jMN:∀ x∈wk (chs w1.toNat m1 p1) 0,∀ k∈x,0<=k/\k<p1.length:=fun x hx=>(jDP g1 0 (bF _) x hx).bnd
theorem jMM:∀ x∈wk (chs w2.toNat m2 p2) 0,∀ k∈x,0<=k/\k<p2.length:=fun x hx=>(jDP g2 0 (bF _) x hx).bnd
theorem jQ8 {x y:Ag}(hx:minW p1 (wk (chs w1.toNat m1 p1) 0)=some x)(hy:minW p2 (wk (chs w2.toNat m2 p2) 0)=some y):minW (pB w1 p1 p2) (wk (chB w1 w2 m1 m2 p1 p2) 0)=some (x++shL (p1.length:Int) y):=by
 rw[jIW g1 g2 hw hp,minA g1 g2 hw hp (jMM g1 g2 hw hp) hy (jMN g1 g2 hw hp),hx];rfl
theorem jKA {x y:Ag}(hx:∀ k∈x,0<=k/\k<p1.length)(hy:∀ k∈y,0<=k/\k<p2.length):srt (x++shL (p1.length:Int) y)=srt x++shL (p1.length:Int) (srt y):=by
 refine(jE5 ?_ (((jAB x).append ((jAB y).map _)))).symm;refine cg.mpr ⟨jK5 x,bu.mpr ((jK5 y).imp fun {a b} h=>by lia),fun a ha b hb=>?_⟩;obtain⟨u,hu,rfl⟩:=aw.mp hb;have:=hx a ((jAB x).mem_iff.mp ha);have:=hy u ((jAB y).mem_iff.mp hu);lia
theorem jQ9 {c d:Ag}(hc:c∈cvs w1 m1 p1)(hd:d∈cvs w2 m2 p2):IsCov (w1+w2) (mB w1 m1 m2) (pB w1 p1 p2) (c++shL (p1.length:Int) d):=by
 obtain⟨x,hx,rfl⟩:=aw.mp hc;obtain⟨y,hy,rfl⟩:=aw.mp hd;rw[<- jKA g1 g2 hw hp (jMN g1 g2 hw hp x hx) (jMM g1 g2 hw hp y hy)];refine(jEH (jA8 g1 g2 hw hp)).mp (bJ ?_);show x++shL (p1.length:Int) y∈wk (chB w1 w2 m1 m2 p1 p2) 0;rw[jIW g1 g2 hw hp];exact List.mem_flatMap.mpr ⟨x,hx,bJ hy⟩
end
theorem jKD {l:Ag}(h:l.Pairwise (· < ·)):l.Nodup:=h.imp fun {a b} h=>by lia
theorem jEG {pr:Ag->Bool}{n:Nat}{x:Ag} :x∈yD pr (yA n)↔Ris (n:Int) x/\pr x=true/\∀ y,Ris (n:Int) y->(∀ t∈y,t∈x)->y.length<x.length->pr y=false:=by
 constructor
 ·intro h;obtain⟨a,b⟩:=jDZ h;exact⟨b,a,fun y ry sub lt=>jOC h ry sub lt⟩
 ·rintro ⟨r,p,m⟩;obtain⟨y,hy,hi⟩:=jGR (acc:=[]) (jHK r) p;have hy:y∈yD pr (yA n):=hy;obtain⟨py,ry⟩:=jDZ hy;have yx:=inB_iff.mp hi;have ny:=jKD ry.ris;have yl:y.length<=x.length:=jD4 id ny (fun a ha=>yx a ha) fun a _ b _ e=>e;rcases dU y.length x.length with q | q
  ·rw[m y ry yx q] at py;cases py
  ·have e:y=x:=jE6 ry.ris r.ris fun t=>⟨yx t,fun ht=>bR fun z=>by
    have:y.length+1<=x.length:=jD4 (l:=t::y) id (ce.mpr ⟨z,ny⟩) (fun a ha=>(aI.mp ha).elim (fun e=>e ▸ ht) (yx a)) fun a _ b _ e=>e;lia⟩
   rw[<- e];exact hy
theorem jGL (pr:Ag->Bool)(n:Nat):(yD pr (yA n)).Nodup:=(jEW (pr:=pr) (ws:=yA n) List.Pairwise.nil).imp fun {a b} h e=>by
 rw[e,inB_iff.mpr fun t h=>h] at h;cases h
def loL (n:Int)(x:Ag):Ag:=x.filter fun t=>decide (t<n)
def hiL (n:Int)(x:Ag):Ag:=(x.filter fun t=>!decide (t<n)).map (· - n)
theorem mem_lo {n:Int}{x:Ag}{t:Int} :t∈loL n x↔t∈x/\t<n:=by
 unfold loL;rw[aR,br]
theorem mem_hi {n:Int}{x:Ag}{t:Int} :t∈hiL n x↔t+n∈x/\0<=t:=by
 unfold hiL;rw[aw];constructor
 ·rintro ⟨u,hu,rfl⟩;obtain⟨h1,h2⟩:=aR.mp hu;have:¬ u<n:=by simpa using h2
  exact⟨by rw[show u - n+n=u by lia]; exact h1,Aa⟩
 ·rintro ⟨h1,h2⟩;exact⟨t+n,aR.mpr ⟨h1,by simp; lia⟩,Aa⟩
section
variable {p1 p2:Ae}(g1:Good 16 32 w1 m1 p1)(g2:Good 16 32 w2 m2 p2)(hw:w1+w2<=16)(hp:(p1.length:Int)+p2.length<=32)
include g1 g2 hw hp
theorem jSL {x:Ag}(r:Ris (w1+w2) x):Ris w1 (loL w1 x):=⟨r.ris.sublist dP,fun z hz=>⟨(r.bnd z (mem_lo.mp hz).1).1,(mem_lo.mp hz).2⟩⟩
theorem jL5 {x:Ag}(r:Ris (w1+w2) x):Ris w2 (hiL w1 x):=by
 refine⟨bu.mpr ((r.ris.sublist dP).imp fun {a b} h=>by lia),fun z hz=>?_⟩;obtain⟨h1,h2⟩:=mem_hi.mp hz;have:=r.bnd _ h1;lia
theorem jGA {x:Ag}(r:Ris w1 x):Ris (w1+w2) x:=⟨r.ris,fun z hz=>by have:=r.bnd z hz; have:=g2.w0; lia⟩
theorem jCY {x:Ag}(r:Ris w2 x):Ris (w1+w2) (shL w1 x):=by
 refine⟨bu.mpr (r.ris.imp fun {a b} h=>by lia),fun z hz=>?_⟩;obtain⟨u,hu,rfl⟩:=aw.mp hz;have:=r.bnd u hu;have:=g1.w0;lia
theorem jUI {x:Ag}(r:Ris (w1+w2) x):(∃ S,NC (mB w1 m1 m2) (pB w1 p1 p2) x S)↔(∃ S,NC m1 p1 (loL w1 x) S)/\∃ S,NC m2 p2 (hiL w1 x) S:=by
 have a0:=g1.w0;have b1:∀ {k t:Int},0<=k->k<p1.length->t∈j6 p1 k->0<=t/\t<w1:=fun h0 h1 ht=>(g1.at (k:=_) Aa).lot.bnd _ ht;have b2:∀ {k t:Int},0<=k->k<p2.length->t∈j6 p2 k->0<=t/\t<w2:=fun h0 h1 ht=>(g2.at (k:=_) Aa).lot.bnd _ ht;constructor
 ·rintro ⟨S,N⟩;refine⟨⟨S.filter fun k=>decide (k<(p1.length:Int)),⟨fun k hk=>?_,fun k hk k' hk' ne t ht h1 h2=>?_,fun t ht hn=>?_⟩⟩,(S.filter fun k=>!decide (k<(p1.length:Int))).map (· - (p1.length:Int)),⟨fun k hk=>?_,fun k hk k' hk' ne t ht h1 h2=>?_,fun t ht hn=>?_⟩⟩
  ·obtain⟨h1,h2⟩:=aR.mp hk;exact⟨(N.bnd k h1).1,aG h2⟩
  ·obtain⟨s1,s2⟩:=aR.mp hk;obtain⟨s3,s4⟩:=aR.mp hk';have c1:=aG s2;have c2:=aG s4;exact N.dis k s1 k' s3 ne t (mem_lo.mp ht).1 (by rw[jDC (N.bnd k s1).1 c1]; exact h1) (by rw[jDC (N.bnd k' s3).1 c2]; exact h2)
  ·obtain⟨t1,t2⟩:=mem_lo.mp ht;obtain⟨k,hk,hkt⟩:=N.cov t t1 fun hm=>by
    rcases aJ.mp hm with h | h
    ·exact hn h
    ·obtain⟨u,hu,e⟩:=aw.mp h;have:=g2.mr.bnd u hu;lia
   have kb:=N.bnd k hk;rw[jDL] at kb;by_cases c:k<p1.length
   ·rw[jDC kb.1 c] at hkt;exact⟨k,aR.mpr ⟨hk,ar c⟩,hkt⟩
   ·exfalso;have e:k=(p1.length:Int)+(k - p1.length):=Aa;rw[e,jDD Aa Aa] at hkt;obtain⟨u,hu,e2⟩:=aw.mp hkt;have:=b2 Aa Aa hu;lia
  ·obtain⟨j,hj,rfl⟩:=aw.mp hk;obtain⟨h1,h2⟩:=aR.mp hj;have kb:=N.bnd j h1;rw[jDL] at kb;have:¬ j<p1.length:=by simpa using h2
   lia
  ·obtain⟨j,hj,rfl⟩:=aw.mp hk;obtain⟨j',hj',rfl⟩:=aw.mp hk';obtain⟨s1,s2⟩:=aR.mp hj;obtain⟨s3,s4⟩:=aR.mp hj';have c1:¬ j<p1.length:=by simpa using s2
   have c2:¬ j'<p1.length:=by simpa using s4
   have kb:=N.bnd j s1;have kb':=N.bnd j' s3;rw[jDL] at kb kb';refine N.dis j s1 j' s3 (fun e=>ne (by rw[e])) (t+w1) (mem_hi.mp ht).1 ?_ ?_
   ·rw[show j=(p1.length:Int)+(j - p1.length) by lia,jDD Aa Aa];exact bJ (f:=(· +w1)) h1
   ·rw[show j'=(p1.length:Int)+(j' - p1.length) by lia,jDD Aa Aa];exact bJ (f:=(· +w1)) h2
  ·obtain⟨t1,t2⟩:=mem_hi.mp ht;obtain⟨k,hk,hkt⟩:=N.cov (t+w1) t1 fun hm=>by
    rcases aJ.mp hm with h | h
    ·have:=g1.mr.bnd _ h;lia
    ·obtain⟨u,hu,e⟩:=aw.mp h;rw[show t=u by lia] at hn;exact hn hu
   have kb:=N.bnd k hk;rw[jDL] at kb;by_cases c:k<p1.length
   ·rw[jDC kb.1 c] at hkt;have:=b1 kb.1 c hkt;lia
   ·have e:k=(p1.length:Int)+(k - p1.length):=Aa;rw[e,jDD Aa Aa] at hkt;obtain⟨u,hu,e2⟩:=aw.mp hkt;rw[show u=t by lia] at hu;exact⟨_,aw.mpr ⟨k,aR.mpr ⟨hk,by simpa using c⟩,rfl⟩,hu⟩
 ·rintro ⟨⟨S1,N1⟩,S2,N2⟩;have old:∀ {k:Int},k∈S1->j6 (pB w1 p1 p2) k=j6 p1 k:=fun hk=>jDC (N1.bnd _ hk).1 (N1.bnd _ hk).2;have new:∀ {k:Int},k∈S2->j6 (pB w1 p1 p2) ((p1.length:Int)+k)=shL w1 (j6 p2 k):=fun hk=>jDD (N2.bnd _ hk).1 (N2.bnd _ hk).2;refine⟨S1++S2.map fun k=>(p1.length:Int)+k,fun k hk=>?_,fun k hk k' hk' ne t ht h1 h2=>?_,fun t ht hn=>?_⟩
  ·rw[jDL];rcases aJ.mp hk with h | h
   ·have:=N1.bnd k h;lia
   ·obtain⟨j,hj,rfl⟩:=aw.mp h;have:=N2.bnd j hj;lia
  ·rcases aJ.mp hk with h | h <;> rcases aJ.mp hk' with h' | h'
   ·rw[old h] at h1;rw[old h'] at h2;exact N1.dis k h k' h' ne t (mem_lo.mpr ⟨ht,(b1 (N1.bnd k h).1 (N1.bnd k h).2 h1).2⟩) h1 h2
   ·obtain⟨j,hj,rfl⟩:=aw.mp h';rw[old h] at h1;rw[new hj] at h2;obtain⟨u,hu,e⟩:=aw.mp h2;have:=b1 (N1.bnd k h).1 (N1.bnd k h).2 h1;have:=b2 (N2.bnd j hj).1 (N2.bnd j hj).2 hu;lia
   ·obtain⟨j,hj,rfl⟩:=aw.mp h;rw[old h'] at h2;rw[new hj] at h1;obtain⟨u,hu,e⟩:=aw.mp h1;have:=b1 (N1.bnd k' h').1 (N1.bnd k' h').2 h2;have:=b2 (N2.bnd j hj).1 (N2.bnd j hj).2 hu;lia
   ·obtain⟨j,hj,rfl⟩:=aw.mp h;obtain⟨j',hj',rfl⟩:=aw.mp h';rw[new hj] at h1;rw[new hj'] at h2;obtain⟨u,hu,rfl⟩:=aw.mp h1;obtain⟨v,hv,e⟩:=aw.mp h2;rw[show v=u by lia] at hv;exact N2.dis j hj j' hj' (fun e=>ne (by rw[e])) u (mem_hi.mpr ⟨ht,(b2 (N2.bnd j hj).1 (N2.bnd j hj).2 hu).1⟩) hu hv
  ·by_cases c:t<w1
   ·obtain⟨k,hk,hkt⟩:=N1.cov t (mem_lo.mpr ⟨ht,c⟩) fun hm=>hn (aY _ hm);exact⟨k,aY _ hk,by rw[old hk]; exact hkt⟩
   ·obtain⟨k,hk,hkt⟩:=N2.cov (t - w1) (mem_hi.mpr ⟨by rw[show t - w1+w1=t by lia]; exact ht,Aa⟩) fun hm=>hn (aB _ (aw.mpr ⟨_,hm,Aa⟩));exact⟨_,aB _ (bJ (f:=fun k=>(p1.length:Int)+k) hk),by rw[new hk]; exact aw.mpr ⟨_,hkt,Aa⟩⟩
theorem jH0 {x:Ag}(r:Ris (w1+w2) x):barP (mB w1 m1 m2) (pB w1 p1 p2) x=(barP m1 p1 (loL w1 x) || barP m2 p2 (hiL w1 x)):=by
 have kB:=jH1 (jA8 g1 g2 hw hp) r;have k1:=jH1 g1 (jSL g1 g2 hw hp r);have k2:=jH1 g2 (jL5 g1 g2 hw hp r);have n:=jUI g1 g2 hw hp r;unfold barP;rw[bZ,fb,br,br,br];constructor
 ·intro h;refine bR fun z=>?_;exact kB.mpr (n.mpr ⟨k1.mp fun q=>z (.inl q),k2.mp fun q=>z (.inr q)⟩) h
 ·intro h;refine bR fun z=>?_;obtain⟨a,b⟩:=n.mp (kB.mp z);rcases h with h | h
  ·exact k1.mpr a h
  ·exact k2.mpr b h
theorem jPW {w:Int}{ms:Ag}{As:Ae}(g:Good 16 32 w ms As):barP ms As []=false:=by
 have:=(jH1 g (ts:=[]) ⟨List.Pairwise.nil,fun z hz=>by cases hz⟩).mpr ⟨[],⟨fun k hk=>(by cases hk),fun k hk=>(by cases hk),fun t ht=>by cases ht⟩⟩;exact aM this
theorem jSM {x:Ag}(r:Ris w1 x):loL w1 x=x/\hiL w1 x=[]:=by
 refine⟨lg.mpr fun t ht=>ar (r.bnd t ht).2,?_⟩;refine g4.mpr fun t ht=>?_;obtain⟨h1,h2⟩:=mem_hi.mp ht;have:=r.bnd _ h1;lia
theorem jSU {x:Ag}(r:Ris w2 x):loL w1 (shL w1 x)=[]/\hiL w1 (shL w1 x)=x:=by
 have rs:=jCY g1 g2 hw hp r;constructor
 ·refine g4.mpr fun t ht=>?_;obtain⟨h1,h2⟩:=mem_lo.mp ht;obtain⟨u,hu,rfl⟩:=aw.mp h1;have:=r.bnd u hu;lia
 ·refine jE6 (jL5 g1 g2 hw hp rs).ris r.ris fun t=>?_;rw[mem_hi];constructor
  ·rintro ⟨h1,h2⟩;obtain⟨u,hu,e⟩:=aw.mp h1;rw[show t=u by lia];exact hu
  ·intro h;exact⟨bJ (f:=(· +w1)) h,(r.bnd t h).1⟩
theorem jLT:(qI w1 m1 p1++(qI w2 m2 p2).map (shL w1)).Perm (qI (w1+w2) (mB w1 m1 m2) (pB w1 p1 p2)):=by
 have a0:=g1.w0;have b0:=g2.w0;have ea:((w1.toNat:Nat):Int)=w1:=dQ a0;have eb:((w2.toNat:Nat):Int)=w2:=dQ b0;have eB:(((w1+w2).toNat:Nat):Int)=w1+w2:=dQ Aa;have n1:=jPW g1 g2 hw hp g1;have n2:=jPW g1 g2 hw hp g2;have M1:∀ {x:Ag},x∈qI w1 m1 p1↔Ris w1 x/\barP m1 p1 x=true/\∀ y,Ris w1 y->(∀ t∈y,t∈x)->y.length<x.length->barP m1 p1 y=false:=fun {x} =>by
  have:=jEG (pr:=barP m1 p1) (n:=w1.toNat) (x:=x);rw[ea] at this;exact this
 have M2:∀ {x:Ag},x∈qI w2 m2 p2↔Ris w2 x/\barP m2 p2 x=true/\∀ y,Ris w2 y->(∀ t∈y,t∈x)->y.length<x.length->barP m2 p2 y=false:=fun {x} =>by
  have:=jEG (pr:=barP m2 p2) (n:=w2.toNat) (x:=x);rw[eb] at this;exact this
 have MB:∀ {x:Ag},x∈qI (w1+w2) (mB w1 m1 m2) (pB w1 p1 p2)↔Ris (w1+w2) x/\barP (mB w1 m1 m2) (pB w1 p1 p2) x=true/\∀ y,Ris (w1+w2) y->(∀ t∈y,t∈x)->y.length<x.length->barP (mB w1 m1 m2) (pB w1 p1 p2) y=false:=fun {x} =>by
  have:=jEG (pr:=barP (mB w1 m1 m2) (pB w1 p1 p2)) (n:=(w1+w2).toNat) (x:=x);rw[eB] at this;exact this
 have bo:∀ {x:Ag},Ris w1 x->barP (mB w1 m1 m2) (pB w1 p1 p2) x=barP m1 p1 x:=fun r=>by
  rw[jH0 g1 g2 hw hp (jGA g1 g2 hw hp r),(jSM g1 g2 hw hp r).1,(jSM g1 g2 hw hp r).2,n2,Bool.or_false]
 have bn:∀ {x:Ag},Ris w2 x->barP (mB w1 m1 m2) (pB w1 p1 p2) (shL w1 x)=barP m2 p2 x:=fun r=>by
  rw[jH0 g1 g2 hw hp (jCY g1 g2 hw hp r),(jSU g1 g2 hw hp r).1,(jSU g1 g2 hw hp r).2,n1,g8]
 have shi:∀ {x y:Ag},shL w1 x=shL w1 y->x=y:=fun {x y} e=>by
  have:(shL w1 x).map (· - w1)=(shL w1 y).map (· - w1):=by rw[e]
  rw[bB,bB] at this;have id1:∀ z:Ag,z.map ((· - w1) ∘ (· +w1))=z:=fun z=>(bI fun t _=>by show t+w1 - w1=id t; simp).trans (ie z);rw[id1,id1] at this;exact this
 refine(fw ?_ (jGL _ _)).mpr fun x=>?_
 ·refine fh.mpr ⟨jGL _ _,bu.mpr ((jGL _ _).imp fun {a b} h e=>h (shi e)),fun x hx y hy e=>?_⟩;obtain⟨z,hz,rfl⟩:=aw.mp hy;obtain⟨r1,p,_⟩:=M1.mp hx;obtain⟨r2,p2,_⟩:=M2.mp hz;cases z with
  | nil=>rw[n2] at p2; cases p2
  | cons t r=>
   have:t+w1∈x:=by rw[e]; exact ai ..
   have:=r1.bnd _ this;have:=r2.bnd t (ai ..);lia
 ·rw[aJ,aw,show x∈yD (barP (mB w1 m1 m2) (pB w1 p1 p2)) (yA (w1+w2).toNat)↔_ from MB];constructor
  ·rintro (h | ⟨z,hz,rfl⟩)
   ·obtain⟨r,p,m⟩:=M1.mp h;refine⟨jGA g1 g2 hw hp r,by rw[bo r]; exact p,fun y ry sub lt=>?_⟩;have ry1:Ris w1 y:=⟨ry.ris,fun t ht=>r.bnd t (sub t ht)⟩;rw[bo ry1];exact m y ry1 sub lt
   ·obtain⟨r,p,m⟩:=M2.mp hz;refine⟨jCY g1 g2 hw hp r,by rw[bn r]; exact p,fun y ry sub lt=>?_⟩;have rh:=jL5 g1 g2 hw hp ry;have ey:y=shL w1 (hiL w1 y):=jE6 ry.ris (jCY g1 g2 hw hp rh).ris fun t=>by
     rw[aw];constructor
     ·intro ht;obtain⟨u,hu,e⟩:=aw.mp (sub t ht);have:=r.bnd u hu;exact⟨t - w1,mem_hi.mpr ⟨by rw[show t - w1+w1=t by lia]; exact ht,Aa⟩,Aa⟩
     ·rintro ⟨u,hu,rfl⟩;exact(mem_hi.mp hu).1
    rw[ey,bn rh];refine m _ rh (fun t ht=>?_) ?_
    ·obtain⟨u,hu,e⟩:=aw.mp (sub _ (mem_hi.mp ht).1);rw[show t=u by lia];exact hu
    ·rw[ey,af,af] at lt;exact lt
  ·rintro ⟨r,p,m⟩;rw[jH0 g1 g2 hw hp r,fb] at p;have rl:=jSL g1 g2 hw hp r;have rh:=jL5 g1 g2 hw hp r;have nx:=jKD r.ris;rcases p with p | p
   ·left;have sub:∀ t∈loL w1 x,t∈x:=fun t ht=>(mem_lo.mp ht).1;have ll:(loL w1 x).length<=x.length:=bS _ _;have e:loL w1 x=x:=by
     rcases dU (loL w1 x).length x.length with q | q
     ·have:=m _ (jGA g1 g2 hw hp rl) sub q;rw[bo rl,p] at this;cases this
     ·exact dP.eq_of_length (Nat.le_antisymm ll q)
    rw[e] at rl p;exact M1.mpr ⟨rl,p,fun y ry s2 lt=>by
     have:=m y (jGA g1 g2 hw hp ry) s2 lt;rw[bo ry] at this;exact this⟩
   ·right;have rs:=jCY g1 g2 hw hp rh;have sub:∀ t∈shL w1 (hiL w1 x),t∈x:=fun t ht=>by
     obtain⟨u,hu,rfl⟩:=aw.mp ht;exact(mem_hi.mp hu).1
    have ll:(shL w1 (hiL w1 x)).length<=x.length:=jD4 id (jKD rs.ris) (fun a ha=>sub a ha) fun a _ b _ e=>e;have e:shL w1 (hiL w1 x)=x:=by
     rcases dU (shL w1 (hiL w1 x)).length x.length with q | q
     ·have:=m _ rs sub q;rw[bn rh,p] at this;cases this
     ·refine jE6 rs.ris r.ris fun t=>⟨sub t,fun ht=>bR fun z=>?_⟩;have:(shL w1 (hiL w1 x)).length+1<=x.length:=jD4 (l:=t::shL w1 (hiL w1 x)) id (ce.mpr ⟨z,jKD rs.ris⟩) (fun a ha=>(aI.mp ha).elim (fun e=>e ▸ ht) (sub a)) fun a _ b _ e=>e;lia
    refine⟨hiL w1 x,M2.mpr ⟨rh,p,fun y ry s2 lt=>?_⟩,e⟩;have:=m (shL w1 y) (jCY g1 g2 hw hp ry) (fun t ht=>?_) ?_
    ·rw[bn ry] at this;exact this
    ·obtain⟨u,hu,rfl⟩:=aw.mp ht;exact(mem_hi.mp (s2 u hu)).1
    ·have e2:(shL w1 (hiL w1 x)).length=(hiL w1 x).length:=af ..;rw[e] at e2;rw[af];lia
end
theorem jSJ {H:Hp} :∀ {us vs:List V}{ws xs:Af},LsAt H us ws->LsAt H vs xs->LsAt H (us++vs) (ws++xs)
 | [],_,[],_,_,h=>h
 | _::_,_,_::_,_,h,k=>⟨h.1,jSJ h.2 k⟩
 | [],_,_::_,_,h,_=>h.elim
 | _::_,_,[],_,h,_=>h.elim
theorem jSN {w:Int}{ms:Ag}{As:Ae}(hw:w<=16)(pr:Ag->Bool):(yD pr (yA w.toNat)).length<=65536/\∀ x∈yD pr (yA w.toNat),x.length<=100:=by
 have p16:2 ^ w.toNat<=2 ^ 16:=cj Ac Aa;have p16':(2 ^ 16:Nat)=65536:=Ac;have:=jBI pr (yA w.toNat) (yA w.toNat).length;rw[bq] at this;have sl:=jHJ w.toNat;refine⟨Aa,fun x hx=>?_⟩;rcases jBH hx with z | z
 ·cases z
 ·have r:=jCD z;have:=jAN x 0 _ r.ris r.bnd;lia
section
variable {fX fS fV fE tb5:Addr}{fdX fdS fdV fdE:FuncData}
abbrev nLaw:An:=["script","one","other","both","by","start","second","some","own","found","mine","due"]
theorem scLaw:FnScope nLaw ["script"] (j7 sLaw):= {}
abbrev XLaw (P:Program)(w:World)(K:W.Frag)(mg:Ak)(Ar:Heap)(f:Addr)(lI:Value)(A:Around)(Aq:List Env)(s:Shared)(H:Hp)(E:XK):Cx:=XOf nLaw "law" sLaw P w K mg Ar f lI A Aq s H E
abbrev lawL:List Stmt:=jBV ((jC sLaw).getD 7 (.Pass ⟨0,0,0,0⟩))
def jRY (T:Txt mg)(CC:Can P w K mg Ar "_law_cell_at" 1 fC fdC ["script","k"] (jBU K))(CP:Can P w K mg Ar "_law_pot" 1 fP fdP ["cell"] spPot)(CX:Can P w K mg Ar "_law_box" 3 fX fdX ["pot","most_things","most_pieces"] spBox)(CS:Can P w K mg Ar "side_by_side" 2 fS fdS ["one","other"] jBR)(CV:Can P w K mg Ar "_law_coverings" 19 fV fdV ["box"] jBS)(CM:Can P w K mg Ar "many" 6 fM fdM ["box"] (qD tb2))(CI:Can P w K mg Ar "is_covering" 4 fI fdI ["box","thing"] jBT)(CL:Can P w K mg Ar "lightest" 5 fL fdL ["box"] (jAK tb5))(CE:Can P w K mg Ar "least_bars" 10 fE fdE ["box"] (jAL tb1 tb2 tb3 tb4))(hr:Room 19 (XLaw P w K mg Ar f lI A Aq s H0 E).A): { t:TS // JSs (XLaw P w K mg Ar f lI A Aq s H0 E) (jBV (lawL.getD 0 (.Pass ⟨0,0,0,0⟩))) t} :=
 have nd:=scLaw.nd
 ⟨_,(jE (yF (jDM (jBW (CI.je (hr.mono Ac) gD (j3 (jv 3 rfl vL) (j3 (jZ jC2 (jv 7 rfl vL) (kI jP gD T.tuple Ab (j3 (kE (m:=[none,some 4]) (Nc:=["k","by"]) rfl (qC (jv 8 rfl vL)) rfl Ab Ab (jM (psc:=j7 sLaw)) (jH (N:=nLaw) rfl rfl Ab) (fun cl C fp s H=>jL (i:=0) (show (["k","by"]:An).Nodup by decide+kernel) rfl yI) (fun cl C fp s H=>kP) (fun cl C fp s H=>(jZ kU (jv 0 rfl jS) (jv 1 rfl kQ))) yM) j8 jF) jF)) j8 yB) j4) j4) jAJ)) (jE (jQ (je_bl))) kN))⟩
def jRZ (T:Txt mg)(CC:Can P w K mg Ar "_law_cell_at" 1 fC fdC ["script","k"] (jBU K))(CP:Can P w K mg Ar "_law_pot" 1 fP fdP ["cell"] spPot)(CX:Can P w K mg Ar "_law_box" 3 fX fdX ["pot","most_things","most_pieces"] spBox)(CS:Can P w K mg Ar "side_by_side" 2 fS fdS ["one","other"] jBR)(CV:Can P w K mg Ar "_law_coverings" 19 fV fdV ["box"] jBS)(CM:Can P w K mg Ar "many" 6 fM fdM ["box"] (qD tb2))(CI:Can P w K mg Ar "is_covering" 4 fI fdI ["box","thing"] jBT)(CL:Can P w K mg Ar "lightest" 5 fL fdL ["box"] (jAK tb5))(CE:Can P w K mg Ar "least_bars" 10 fE fdE ["box"] (jAL tb1 tb2 tb3 tb4))(hr:Room 19 (XLaw P w K mg Ar f lI A Aq s H0 E).A): { t:TS // JSs (XLaw P w K mg Ar f lI A Aq s H0 E) lawL t} :=
 have nd:=scLaw.nd
 ⟨_,(jE (jBX cC rfl (yL (jE0 jG4 (jv 6 rfl vL) jGN (jGM (je_int)))) (jL (i:=8) nd rfl lL) (jRY T CC CP CX CS CV CM CI CL CE hr).2 jI8))⟩
def jS1 (T:Txt mg)(CC:Can P w K mg Ar "_law_cell_at" 1 fC fdC ["script","k"] (jBU K))(CP:Can P w K mg Ar "_law_pot" 1 fP fdP ["cell"] spPot)(CX:Can P w K mg Ar "_law_box" 3 fX fdX ["pot","most_things","most_pieces"] spBox)(CS:Can P w K mg Ar "side_by_side" 2 fS fdS ["one","other"] jBR)(CV:Can P w K mg Ar "_law_coverings" 19 fV fdV ["box"] jBS)(CM:Can P w K mg Ar "many" 6 fM fdM ["box"] (qD tb2))(CI:Can P w K mg Ar "is_covering" 4 fI fdI ["box","thing"] jBT)(CL:Can P w K mg Ar "lightest" 5 fL fdL ["box"] (jAK tb5))(CE:Can P w K mg Ar "least_bars" 10 fE fdE ["box"] (jAL tb1 tb2 tb3 tb4))(hr:Room 19 (XLaw P w K mg Ar f lI A Aq s H0 E).A): { t:TS // JSs (XLaw P w K mg Ar f lI A Aq s H0 E) ((jC sLaw).drop 10) t} :=
 have nd:=scLaw.nd
 ⟨_,(jB (jO (i:=11) nd rfl lL (jZ jKM (CE.je (hr.mono Ac) gD (j3 (jv 1 rfl vC) j8 j4) j4) (kE (m:=[none,some 1]) (Nc:=["bar","one"]) rfl (yL (CE.je (hr.mono Ac) gD (j3 (jv 2 rfl vL) j8 j4) j4)) rfl Ab Ab (jM (psc:=j7 sLaw)) (jH (N:=nLaw) rfl rfl Ab) (fun cl C fp s H=>jL (i:=0) (show (["bar","one"]:An).Nodup by decide+kernel) rfl yI) (fun cl C fp s H=>kP) (fun cl C fp s H=>(kI jF2 gl_b T.tuple Ab (j3 (kE (m:=[none,some 1]) (Nc:=["t","one"]) rfl (jR6 (jv 0 rfl jS)) rfl Ab Ab (jRF Ab) (jH (N:=["bar","one"]) rfl rfl Ab) (fun cl C fp s H=>jL (i:=0) (show (["t","one"]:An).Nodup by decide+kernel) rfl yI) (fun cl C fp s H=>kP) (fun cl C fp s H=>(jZ kU (jv 0 rfl jS) (jI jOV (jv 1 rfl kQ) (je_int) jD))) yM) j8 jF) jF)) y6)) jFD)
   (jE (jQ (yQ (jJ5 hr.units101) (jK (jCO hr.units101) gD T.sorted Ab (j3 (CE.je (hr.mono Ac) gD (j3 (jv 3 rfl vL) j8 j4) j4) j8 jG) jG) (jK (jCO hr.units101) gD T.sorted Ab (j3 (jv 11 rfl vL) j8 j4) j4) (jV _)))))⟩
def jS2 (T:Txt mg)(CC:Can P w K mg Ar "_law_cell_at" 1 fC fdC ["script","k"] (jBU K))(CP:Can P w K mg Ar "_law_pot" 1 fP fdP ["cell"] spPot)(CX:Can P w K mg Ar "_law_box" 3 fX fdX ["pot","most_things","most_pieces"] spBox)(CS:Can P w K mg Ar "side_by_side" 2 fS fdS ["one","other"] jBR)(CV:Can P w K mg Ar "_law_coverings" 19 fV fdV ["box"] jBS)(CM:Can P w K mg Ar "many" 6 fM fdM ["box"] (qD tb2))(CI:Can P w K mg Ar "is_covering" 4 fI fdI ["box","thing"] jBT)(CL:Can P w K mg Ar "lightest" 5 fL fdL ["box"] (jAK tb5))(CE:Can P w K mg Ar "least_bars" 10 fE fdE ["box"] (jAL tb1 tb2 tb3 tb4))(hr:Room 19 (XLaw P w K mg Ar f lI A Aq s H0 E).A): { t:TS // JSs (XLaw P w K mg Ar f lI A Aq s H0 E) ((jC sLaw).drop 8) t} :=
 have nd:=scLaw.nd
 ⟨_,(jB (jO (i:=9) nd rfl lL (CL.je (hr.mono Ac) gD (j3 (jv 3 rfl vL) j8 j4) j4) jY) (jB (yF (jt_w (jw_or (jW (jJ5 hr.units101) (jv 5 rfl vL) (jB0 j8) (jV _)) (jOI (jW (jJ5 hr.units101) (jv 6 rfl vL) (jB0 j8) (jV _))))) (jE (yF (jW jNG (jv 9 rfl vL) (jFN) (jV _)) (jE (jQ (je_bl))) kN)) (jB (jO (i:=10) nd rfl lL (CL.je (hr.mono Ac) gD (j3 (jv 1 rfl vC) j8 j4) j4) jY)
   (jB (jO (i:=8) nd rfl lL (CL.je (hr.mono Ac) gD (j3 (jv 2 rfl vL) j8 j4) j4) jY)
   (jE (yF (jW (jU3 hr.units101) (jv 9 rfl vL) (y4 (j3 (jZ kU (jI jJ (jv 10 rfl vL) (je_int) jD) (jI jJ (jv 8 rfl vL) (je_int) jD)) (j3 (jZ jC2 (jI jJ (jv 10 rfl vL) (je_int) jD) (kI jP gD T.tuple Ab (j3 (kE (m:=[none,some 4]) (Nc:=["k","by"]) rfl (qC (jI jJ (jv 8 rfl vL) (je_int) jD)) rfl Ab Ab (jM (psc:=j7 sLaw)) (jH (N:=nLaw) rfl rfl Ab) (fun cl C fp s H=>jL (i:=0) (show (["k","by"]:An).Nodup by decide+kernel) rfl yI) (fun cl C fp s H=>kP) (fun cl C fp s H=>(jZ kU (jv 0 rfl jS) (jv 1 rfl kQ))) jI8) j8 jF) jF)) j8 yB) yB)) (jV _)) (jE (jQ (je_bl))) kN))))) (jS1 T CC CP CX CS CV CM CI CL CE hr).2))⟩
def jS3 (T:Txt mg)(CC:Can P w K mg Ar "_law_cell_at" 1 fC fdC ["script","k"] (jBU K))(CP:Can P w K mg Ar "_law_pot" 1 fP fdP ["cell"] spPot)(CX:Can P w K mg Ar "_law_box" 3 fX fdX ["pot","most_things","most_pieces"] spBox)(CS:Can P w K mg Ar "side_by_side" 2 fS fdS ["one","other"] jBR)(CV:Can P w K mg Ar "_law_coverings" 19 fV fdV ["box"] jBS)(CM:Can P w K mg Ar "many" 6 fM fdM ["box"] (qD tb2))(CI:Can P w K mg Ar "is_covering" 4 fI fdI ["box","thing"] jBT)(CL:Can P w K mg Ar "lightest" 5 fL fdL ["box"] (jAK tb5))(CE:Can P w K mg Ar "least_bars" 10 fE fdE ["box"] (jAL tb1 tb2 tb3 tb4))(hr:Room 19 (XLaw P w K mg Ar f lI A Aq s H0 E).A): { t:TS // JSs (XLaw P w K mg Ar f lI A Aq s H0 E) ((jC sLaw).drop 7) t} :=
 have nd:=scLaw.nd
 ⟨_,(jB (jBX cC rfl (yL (jE0 jG4 (jv 5 rfl vL) jGN (jGM (je_int)))) (jL (i:=7) nd rfl lL) (jRZ T CC CP CX CS CV CM CI CL CE hr).2 jI8) (jS2 T CC CP CX CS CV CM CI CL CE hr).2)⟩
def midA (T:Txt mg)(CC:Can P w K mg Ar "_law_cell_at" 1 fC fdC ["script","k"] (jBU K))(CP:Can P w K mg Ar "_law_pot" 1 fP fdP ["cell"] spPot)(CX:Can P w K mg Ar "_law_box" 3 fX fdX ["pot","most_things","most_pieces"] spBox)(CS:Can P w K mg Ar "side_by_side" 2 fS fdS ["one","other"] jBR)(CV:Can P w K mg Ar "_law_coverings" 19 fV fdV ["box"] jBS)(CM:Can P w K mg Ar "many" 6 fM fdM ["box"] (qD tb2))(CI:Can P w K mg Ar "is_covering" 4 fI fdI ["box","thing"] jBT)(CL:Can P w K mg Ar "lightest" 5 fL fdL ["box"] (jAK tb5))(CE:Can P w K mg Ar "least_bars" 10 fE fdE ["box"] (jAL tb1 tb2 tb3 tb4))(hr:Room 19 (XLaw P w K mg Ar f lI A Aq s H0 E).A): { t:TS // JSs (XLaw P w K mg Ar f lI A Aq s H0 E) ((jC sLaw).drop 3) t} :=
 have nd:=scLaw.nd
 ⟨_,(jB (jO (i:=4) nd rfl loc_c (jK jT gD T.len Ab (j3 (jI jJ (jv 1 rfl vC) (je_int) jD) j8 jN) jN) jY) (jB (jO (i:=5) nd rfl lL (CV.je hr gD (j3 (jv 1 rfl vC) j8 j4) j4) jY) (jB (jO (i:=6) nd rfl lL (CV.je hr gD (j3 (jv 2 rfl vL) j8 j4) j4) jY) (jB (yF (jW op_ne (CM.je (hr.mono Ac) gD (j3 (jv 3 rfl vL) j8 j4) j4) (jZ jCG (jK jT gD T.len Ab (j3 (jv 5 rfl vL) j8 j4) j4) (jK jT gD T.len Ab (j3 (jv 6 rfl vL) j8 j4) j4)) (jV _)) (jE (jQ (je_bl))) kN) (jS3 T CC CP CX CS CV CM CI CL CE hr).2))))⟩
def lawA (T:Txt mg)(CC:Can P w K mg Ar "_law_cell_at" 1 fC fdC ["script","k"] (jBU K))(CP:Can P w K mg Ar "_law_pot" 1 fP fdP ["cell"] spPot)(CX:Can P w K mg Ar "_law_box" 3 fX fdX ["pot","most_things","most_pieces"] spBox)(CS:Can P w K mg Ar "side_by_side" 2 fS fdS ["one","other"] jBR)(CV:Can P w K mg Ar "_law_coverings" 19 fV fdV ["box"] jBS)(CM:Can P w K mg Ar "many" 6 fM fdM ["box"] (qD tb2))(CI:Can P w K mg Ar "is_covering" 4 fI fdI ["box","thing"] jBT)(CL:Can P w K mg Ar "lightest" 5 fL fdL ["box"] (jAK tb5))(CE:Can P w K mg Ar "least_bars" 10 fE fdE ["box"] (jAL tb1 tb2 tb3 tb4))(hr:Room 19 (XLaw P w K mg Ar f lI A Aq s H0 E).A): { t:TS // JSs (XLaw P w K mg Ar f lI A Aq s H0 E) (jC sLaw) t} :=
 have nd:=scLaw.nd
 ⟨_,(jB (jO (i:=1) nd rfl loc_c (CX.je (hr.mono Ac) gD (j3 (CP.je (hr.mono Ac) gD (j3 (CC.je (hr.mono Ac) gD (j3 (jv 0 rfl vL) (j3 (je_int) j8 kO) j4) j4) j8 jG) jG) (j3 (je_int) (j3 (je_int) j8 kO) kO) jG) jG) jY) (jB (jO (i:=2) nd rfl lL (CX.je (hr.mono Ac) gD (j3 (CP.je (hr.mono Ac) gD (j3 (CC.je (hr.mono Ac) gD (j3 (jv 0 rfl vL) (j3 (je_int) j8 kO) j4) j4) j8 jG) jG) (j3 (je_int) (j3 (je_int) j8 kO) kO) jG) jG) jY) (jB (jO (i:=3) nd rfl lL (CS.je (hr.mono Ac) gD (j3 (jv 1 rfl vC) (j3 (jv 2 rfl vL) j8 j4) j4) j4) jY) (midA T CC CP CX CS CV CM CI CL CE hr).2)))⟩
abbrev tLt (tb:Addr):TT:=⟨tb,pLBeh,qLB⟩
abbrev LL (tb1 tb2 tb3 tb4 tb5:Addr):List TT:=[tP tb1,tW tb2,tK tb3,tB tb4,tLt tb5]
abbrev XS (tb1 tb2 tb3 tb4 tb5:Addr):Hp->Hp->Prop:=ExS (ads (LL tb1 tb2 tb3 tb4 tb5))
section
variable (t:TbS (LL tb1 tb2 tb3 tb4 tb5) H)
include t
theorem LL.ww:TabW H tb2:=t.ok (tW tb2) (ag _ (ai ..))
theorem LL.m5:tLt tb5∈LL tb1 tb2 tb3 tb4 tb5:=aB (L4 tb1 tb2 tb3 tb4) (aN.mpr rfl)
theorem LL.ll:TabL H tb5:=t.ok (tLt tb5) (LL.m5 t)
theorem LL.toW (e:ExtT tb2 H H')(k:TabW H' tb2):TbS (LL tb1 tb2 tb3 tb4 tb5) H'/\XS tb1 tb2 tb3 tb4 tb5 H H':=⟨t.setT (x:=tW tb2) (ag _ (ai ..)) e k,ExS.ofT e (ag _ (ai ..))⟩
theorem LL.toL (e:ExtT tb5 H H')(k:TabL H' tb5):TbS (LL tb1 tb2 tb3 tb4 tb5) H'/\XS tb1 tb2 tb3 tb4 tb5 H H':=⟨t.setT (x:=tLt tb5) (LL.m5 t) e k,ExS.ofT e (bJ (f:=TT.a) (LL.m5 t))⟩
theorem LL.four:TbS (L4 tb1 tb2 tb3 tb4) H:=⟨t.nd.sublist ((eM (L4 tb1 tb2 tb3 tb4) [tLt tb5]).map _),fun x hx=>t.ok x ((eM (L4 tb1 tb2 tb3 tb4) [tLt tb5]).subset hx)⟩
theorem LL.to4 (x:ExS (ads (L4 tb1 tb2 tb3 tb4)) H H')(T1:TbS (L4 tb1 tb2 tb3 tb4) H'):TbS (LL tb1 tb2 tb3 tb4 tb5) H'/\XS tb1 tb2 tb3 tb4 tb5 H H':=by
 have sb:∀ z∈ads (L4 tb1 tb2 tb3 tb4),z∈ads (LL tb1 tb2 tb3 tb4 tb5):=fun z hz=>((eM (L4 tb1 tb2 tb3 tb4) [tLt tb5]).map TT.a).subset hz;refine⟨t.set (S:=ads (L4 tb1 tb2 tb3 tb4)) sb x fun z hz hm=>?_,ExS.mono sb x⟩;rcases aJ.mp (show z∈L4 tb1 tb2 tb3 tb4++[tLt tb5] from hz) with y | y
 ·exact T1.ok z y
 ·exfalso;have e5:=aN.mp y;rw[e5] at hm;have nd:(ads (L4 tb1 tb2 tb3 tb4)++[tb5]).Nodup:=t.nd;exact(fh.mp nd).2.2 tb5 hm tb5 (aN.mpr rfl) rfl
end
structure Fx (H:Hp)(a o b l1 l2:Addr)(w1 w2:Int)(m1 m2:Ag)(p1 p2:Ae)(us1 us2:List V):Prop where
 hA:BoxAt H a w1 m1 p1
 hO:BoxAt H o w2 m2 p2
 hB:BoxAt H b (w1+w2) (mB w1 m1 m2) (pB w1 p1 p2)
 h1:H l1=some (.lst us1)
 u1:LsAt H us1 (cvs w1 m1 p1)
 n1:us1.length<=65536
 h2:H l2=some (.lst us2)
 u2:LsAt H us2 (cvs w2 m2 p2)
 n2:us2.length<=65536
theorem Fx.mono {H H':Hp}{a o b l1 l2:Addr}{w1 w2:Int}{m1 m2:Ag}{p1 p2:Ae}{us1 us2:List V}(x:Fx H a o b l1 l2 w1 w2 m1 m2 p1 p2 us1 us2)(t:TbS (LL tb1 tb2 tb3 tb4 tb5) H)(e:XS tb1 tb2 tb3 tb4 tb5 H H'):Fx H' a o b l1 l2 w1 w2 m1 m2 p1 p2 us1 us2:=
 have tu:=t.tups e
 ⟨x.hA.mono tu,x.hO.mono tu,x.hB.mono tu,t.at e x.h1,LsAt.mono tu x.u1,x.n1,t.at e x.h2,LsAt.mono tu x.u2,x.n2⟩
def spLaw (K:W.Frag)(tb1 tb2 tb3 tb4 tb5:Addr):Sp:=fun vs H Q _=>∃ (a:Addr) (ns:Ag),vs=[.ref a]/\SqL K H a (ns.map V.int)/\ns.length<=63/\TabP H tb1/\TabW H tb2/\TabK H tb3/\TabOk H tb4 barPo qBarL/\TabL H tb5/\tb1≠tb2/\tb1≠tb3/\tb1≠tb4/\tb1≠tb5/\tb2≠tb3/\tb2≠tb4/\tb2≠tb5/\tb3≠tb4/\tb3≠tb5/\tb4≠tb5/\∀ H',Q (.bl true) H'
variable (T:Txt mg)(CC:Can P w K mg Ar "_law_cell_at" 1 fC fdC ["script","k"] (jBU K))(CP:Can P w K mg Ar "_law_pot" 1 fP fdP ["cell"] spPot)(CX:Can P w K mg Ar "_law_box" 3 fX fdX ["pot","most_things","most_pieces"] spBox)(CS:Can P w K mg Ar "side_by_side" 2 fS fdS ["one","other"] jBR)(CV:Can P w K mg Ar "_law_coverings" 19 fV fdV ["box"] jBS)(CM:Can P w K mg Ar "many" 6 fM fdM ["box"] (qD tb2))(CI:Can P w K mg Ar "is_covering" 4 fI fdI ["box","thing"] jBT)(CL:Can P w K mg Ar "lightest" 5 fL fdL ["box"] (jAK tb5))(CE:Can P w K mg Ar "least_bars" 10 fE fdE ["box"] (jAL tb1 tb2 tb3 tb4))
include T CC CP CX CS CV CM CI CL CE
theorem jCU (hr:Room 19 (XLaw P w K mg Ar f lI A Aq s H0 E).A)
  {D:Ends}{H:Hp}{a o b l1 l2:Addr}{w1 w2:Int}{m1 m2:Ag}{p1 p2:Ae}{us1 us2:List V}{v0 v7 v8 v9 v10 v11:Option V}(F:Fx H a o b l1 l2 w1 w2 m1 m2 p1 p2 us1 us2) (g1:Good 4 6 w1 m1 p1) (g2:Good 3 6 w2 m2 p2) (tab:TbS (LL tb1 tb2 tb3 tb4 tb5) H) (q:∀ H',D.rt (.bl true) H'):
  (jS1 T CC CP CX CS CV CM CI CL CE hr).1 D [v0,some (.ref a),some (.ref o),some (.ref b),some (.int (p1.length:Int)),some (.ref l1),some (.ref l2),v7,v8,v9,v10,v11] H:=by
 have G1:Good 16 32 w1 m1 p1:=g1.wide Ac Ac;have G2:Good 16 32 w2 m2 p2:=g2.wide Ac Ac;have a0:=g1.w0;have b0:=g2.w0;have a1:=g1.w1;have b1:=g2.w1;have q1:=g1.pl;have q2:=g2.pl;have hw:w1+w2<=16:=Aa;have hp:(p1.length:Int)+p2.length<=32:=Aa;have GB:=jA8 G1 G2 hw hp;refine⟨_,rfl,a,w1,m1,p1,rfl,F.hA,G1,Aa,LL.four tab,fun k1 vs1 H1 h1 hu1 x1 t1 n1=>?_⟩;obtain⟨T1,X1⟩:=LL.to4 tab x1 t1;have F1:=F.mono tab X1;refine⟨_,rfl,o,w2,m2,p2,rfl,F1.hO,G2,Aa,LL.four T1,fun k2 vs2 H2 h2 hu2 x2 t2 n2=>?_⟩;obtain⟨T2,X2⟩:=LL.to4 T1 x2 t2;have F2:=F1.mono T1 X2;obtain⟨c1,_⟩:=jSN (w:=w1) (ms:=m1) (As:=p1) Aa (barP m1 p1);have c1:(qI w1 m1 p1).length<=65536:=c1;obtain⟨c2,_⟩:=jSN (w:=w2) (ms:=m2) (As:=p2) Aa (barP m2 p2);have c2:(qI w2 m2 p2).length<=65536:=c2;have e1:=All2.len hu1;have e2:=All2.len hu2;obtain⟨qm,qp,ps,r1,r2,r3,r4⟩:=id F2.hA.ex;refine⟨k2,rfl,⟨_,SqL.of h2⟩,jB1 (xs:=vs2) (fun σ=>∃ v,σ=[v,some (.ref a)]) (fun H' zs j=>LsAt H' zs (((qI w2 m2 p2).take j).map (shL w1))) ⟨fun H=>trivial,fun H H' zs j tt h=>LsAt.mono tt h,fun H zs j h=>?_⟩ h2 (by rw[aE]; lia) ⟨_,rfl⟩ ?_ ?_⟩
 ·rw[All2.len h,af];exact bC _ _
 ·rintro j x σ' H' zs hx ⟨v,rfl⟩ e hz S1 S2 yes no;obtain⟨x,hx',ad,rfl,had⟩:=All2.get' hu2 hx;have rx:=(jDZ (aH hx')).2;have xl:=jAN x 0 _ rx.ris rx.bnd;have had':=e _ _ had;dsimp only [kR,yK];rw[aq rfl];refine⟨_,rfl,ad,rfl,⟨_,SqT.of had'⟩,jLE (xs:=x.map V.int) (fun σ=>∃ v,σ=[v,some (.ref a)]) (mapZ x fun t=>V.int (t+w1)) (mapZ.ok _ _) had' (by rw[af,aE]; lia) ⟨_,rfl⟩ ?_ ?_⟩
  ·rintro i y σ2 H3 zs2 hy ⟨v2,rfl⟩ e3 hz2 S3 S4 yes2 no2;obtain⟨z,hz',rfl⟩:=int_at hy;dsimp only [kR,yK];rw[aq rfl];exact⟨_,rfl,_,rfl,a,_,0,_,rfl,rfl,SqT.of (e3 _ _ (e _ _ r1)),rfl,_,_,rfl,rfl,yes2 _ _ _ ⟨_,rfl⟩ (Ext.refl _) (hz2.yes hz')⟩
  ·rintro D2 H3 zs2 h3 e3 n3 hz2;have hz2:=hz2.all (by rw[af]; exact aA _);have hz2:zs2=(shL w1 x).map V.int:=by rw[hz2,bB]; rfl
   rw[hz2] at h3;refine⟨D2,_,rfl, .inl ⟨SqL.of h3,fun r hr'=>?_⟩⟩;have e4:Ext H3 (L2.upd H3 r (.tup ((shL w1 x).map V.int))):=(Ext.refl _).new hr' _;have d4:(L2.upd H3 r (.tup ((shL w1 x).map V.int))) r=some (.tup ((shL w1 x).map V.int)):=j5;refine yes _ _ _ ⟨_,rfl⟩ (e3.trans e4) ?_;have et:((qI w2 m2 p2).take (j+1)).map (shL w1)=((qI w2 m2 p2).take j).map (shL w1)++[shL w1 x]:=by
    rw[be,hx',aS];rfl
   show LsAt _ _ (((qI w2 m2 p2).take (j+1)).map (shL w1));rw[et];exact All2.snoc (LsAt.mono (e3.trans e4).tups hz) ⟨r,rfl,d4⟩
 ·rintro D3 H3 zs h3 e3 n3 hz;rw[e2,bq] at hz;have zl:=All2.len hz;rw[af] at zl;have h13:=e3 _ _ (T1.at X2 h1);have u13:=LsAt.mono ((T1.tups X2).trans e3.tups) hu1;refine⟨k1,D3,_,_,rfl,rfl,h13,h3,by rw[aE]; lia,fun du H4 d4 e4 n4=>?_⟩;have z4:LsAt H4 (vs1++zs) (qI w1 m1 p1++(qI w2 m2 p2).map (shL w1)):=jSJ (LsAt.mono e4.tups u13) (LsAt.mono e4.tups hz);have F4:=F2.mono T2 (ExS.of (e3.trans e4));have T4:=T2.ext (e3.trans e4);refine⟨_,rfl,b,_,_,_,rfl,F4.hB,GB,Aa,LL.four T4,fun k5 vs5 H5 h5 hu5 x5 t5 n5=>?_⟩;obtain⟨T5,X5⟩:=LL.to4 T4 x5 t5;refine⟨k5,vs5,_,rfl,SqL.of h5,hu5,fun l6 us6 ws6 n6 ts6 pm6 so6=>?_⟩;have e6:Ext H5 (L2.upd H5 l6 (.lst us6)):=(Ext.refl _).new n6 _;have d6:(L2.upd H5 l6 (.lst us6)) l6=some (.lst us6):=j5;generalize L2.upd H5 l6 (.lst us6)=H6 at e6 d6;have d46:=e6 _ _ (T4.at X5 d4);have z6:=LsAt.mono ((T4.tups X5).trans e6.tups) z4;refine⟨_,rfl,du,_,_,rfl,SqL.of d46,z6,fun l7 us7 ws7 n7 ts7 pm7 so7=>?_⟩;have e7:Ext H6 (L2.upd H6 l7 (.lst us7)):=(Ext.refl _).new n7 _;have d7:(L2.upd H6 l7 (.lst us7)) l7=some (.lst us7):=j5;show ∃ ts us,_;generalize L2.upd H6 l7 (.lst us7)=H7 at e7 d7;have ew:ws6=ws7:=jGI ((pm6.trans (jLT G1 G2 hw hp).symm).trans pm7.symm) so6 so7;refine⟨_,_,⟨l6,_,rfl,e7 _ _ d6,jC4 (LsAt.mono (e6.trans e7).tups ts6)⟩,⟨l7,_,rfl,d7,jC4 (LsAt.mono e7.tups ts7)⟩,jD1 _,?_⟩;rw[ew,jB7];exact q H7
theorem jLP (hr:Room 19 (XLaw P w K mg Ar f lI A Aq s H0 E).A)
  {D:Ends}{H:Hp}{a o b l1 l2:Addr}{w1 w2:Int}{m1 m2:Ag}{p1 p2:Ae}{us1 us2:List V}{v0 v7 v8 v9 v10 v11:Option V}(F:Fx H a o b l1 l2 w1 w2 m1 m2 p1 p2 us1 us2) (g1:Good 4 6 w1 m1 p1) (g2:Good 3 6 w2 m2 p2) (tab:TbS (LL tb1 tb2 tb3 tb4 tb5) H) (q:∀ H',D.rt (.bl true) H'):
  (jS2 T CC CP CX CS CV CM CI CL CE hr).1 D [v0,some (.ref a),some (.ref o),some (.ref b),some (.int (p1.length:Int)),some (.ref l1),some (.ref l2),v7,v8,v9,v10,v11] H:=by
 have G1:Good 16 32 w1 m1 p1:=g1.wide Ac Ac;have G2:Good 16 32 w2 m2 p2:=g2.wide Ac Ac;have a0:=g1.w0;have b0:=g2.w0;have a1:=g1.w1;have b1:=g2.w1;have q1:=g1.pl;have q2:=g2.pl;have hw:w1+w2<=16:=Aa;have hp:(p1.length:Int)+p2.length<=32:=Aa;have GB:=jA8 G1 G2 hw hp;have len:=jKB G1 G2 hw hp;have lB:∀ {x:Af},x=[]↔x.length=0:=gy.symm;have none_iff:minW (pB w1 p1 p2) (wk (chB w1 w2 m1 m2 p1 p2) 0)=none↔cvs w1 m1 p1=[]\/cvs w2 m2 p2=[]:=by
  rw[minW_none,lB,len,lB,lB,jGU,jGU,Nat.mul_eq_zero]
 refine⟨_,rfl,b,_,_,_,rfl,F.hB,GB,LL.ll tab,fun hn H1 e1 t1=>?_,fun x hx r rq H1 d1 d2 e1 t1=>?_⟩
 ·obtain⟨T1,X1⟩:=LL.toL tab e1 t1;have F1:=F.mono tab X1;refine⟨_,rfl,by show (0:Nat)<=_; decide,fun m H3 d3 e3 n3=>?_⟩;refine⟨_,[],⟨l1,us1,rfl,e3 _ _ F1.h1,jC4 (LsAt.mono e3.tups F1.u1)⟩,⟨m,_,rfl,d3,rfl⟩,jD1 _,?_⟩;have F3:=F1.mono T1 (ExS.of e3);have T3:=T1.ext e3;rw[jKX];by_cases z1:cvs w1 m1 p1=[]
  ·rw[ar z1];exact⟨_,rfl,iteT (iteT ⟨_,rfl,rfl,_,rfl,iteF (jCU T CC CP CX CS CV CM CI CL CE hr F3 g1 g2 T3 q)⟩)⟩
  ·have z2:=(none_iff.mp hn).resolve_left z1;rw[aM z1];refine⟨_,rfl,iteF ?_⟩;refine⟨_,rfl,by show (0:Nat)<=_; decide,fun m' H4 d4 e4 n4=>?_⟩;refine⟨_,[],⟨l2,us2,rfl,e4 _ _ F3.h2,jC4 (LsAt.mono e4.tups F3.u2)⟩,⟨m',_,rfl,d4,rfl⟩,jD1 _,?_⟩;rw[jKX,ar z2];exact⟨_,rfl,iteT ⟨_,rfl,rfl,_,rfl,iteF (jCU T CC CP CX CS CV CM CI CL CE hr (F3.mono T3 (ExS.of e4)) g1 g2 (T3.ext e4) q)⟩⟩
 ·obtain⟨T1,X1⟩:=LL.toL tab e1 t1;have F1:=F.mono tab X1;have nn:¬ (cvs w1 m1 p1=[]\/cvs w2 m2 p2=[]):=fun z=>by
   rw[none_iff.mpr z] at hx;cases hx
  have z1:¬ cvs w1 m1 p1=[]:=fun z=>nn (.inl z);have z2:¬ cvs w2 m2 p2=[]:=fun z=>nn (.inr z);refine⟨_,rfl,by show (0:Nat)<=_; decide,fun m H3 d3 e3 n3=>?_⟩;refine⟨_,[],⟨l1,us1,rfl,e3 _ _ F1.h1,jC4 (LsAt.mono e3.tups F1.u1)⟩,⟨m,_,rfl,d3,rfl⟩,jD1 _,?_⟩;have F3:=F1.mono T1 (ExS.of e3);have T3:=T1.ext e3;rw[jKX,aM z1];refine⟨_,rfl,iteF ?_⟩;refine⟨_,rfl,by show (0:Nat)<=_; decide,fun m' H4 d4 e4 n4=>?_⟩;refine⟨_,[],⟨l2,us2,rfl,e4 _ _ F3.h2,jC4 (LsAt.mono e4.tups F3.u2)⟩,⟨m',_,rfl,d4,rfl⟩,jD1 _,?_⟩;rw[jKX,aM z2];refine⟨_,rfl,iteF ?_⟩;have F4:=F3.mono T3 (ExS.of e4);have T4:=T3.ext e4;have E4:=e3.trans e4;have d14:=E4 _ _ d1;have d24:=E4 _ _ d2;have bd1:=jMN G1 G2 hw hp;have bd2:=jMM G1 G2 hw hp;refine⟨_,rfl,a,w1,m1,p1,rfl,F4.hA,G1,LL.ll T4,fun hn=>?_,fun x1 hx1 r5 s5 H5 c5 c6 e5 t5=>?_⟩
  ·exfalso;rw[minW_none] at hn;exact z1 (by unfold cvs; rw[hn]; rfl)
  obtain⟨T5,X5⟩:=LL.toL T4 e5 t5;have F5:=F4.mono T4 X5;refine⟨_,rfl,o,w2,m2,p2,rfl,F5.hO,G2,LL.ll T5,fun hn=>?_,fun x2 hx2 r7 s7 H7 c7 c8 e7 t7=>?_⟩
  ·exfalso;rw[minW_none] at hn;exact z2 (by unfold cvs; rw[hn]; rfl)
  obtain⟨T7,X7⟩:=LL.toL T5 e7 t7;have F7:=F5.mono T5 X7;have k5:=T5.at X7 c5;have k6:=T5.at X7 c6;have d17:=T5.at X7 (T4.at X5 d14);have d27:=T5.at X7 (T4.at X5 d24);have y1:=bd1 x1 (jA7 hx1).1;have y2:=bd2 x2 (jA7 hx2).1;have em:=jQ8 G1 G2 hw hp hx1 hx2;have hx:minW (pB w1 p1 p2) (wk (chB w1 w2 m1 m2 p1 p2) 0)=some x:=hx;rw[em] at hx;cases hx;rw[wtB G1 G2 hw hp y1 y2] at d17;rw[jKA G1 G2 hw hp y1 y2] at d27;have x2l:(srt x2).length<=100:=by
   have:=(jFA (yP G2) 0 (bF _) x2 (jA7 hx2).1).2;have l2:(chsN w2.toNat m2 p2 p2.length).length=w2.toNat:=kJ _ _ _ _;rw[jN0];lia
  have x1l:(srt x1).length<=100:=by
   have:=(jFA (yP G1) 0 (bF _) x1 (jA7 hx1).1).2;have l1':(chsN w1.toNat m1 p1 p1.length).length=w1.toNat:=kJ _ _ _ _;rw[jN0];lia
  refine⟨_,rfl,_,rfl,r5,_,0,_,rfl,rfl,SqT.of k5,rfl,_,rfl,r7,_,0,_,rfl,rfl,SqT.of c7,rfl,_,_,rfl,rfl,?_⟩;refine⟨_,rfl,r5,_,1,_,rfl,rfl,SqT.of k5,rfl,_,rfl,r7,_,1,_,rfl,rfl,SqT.of c7,rfl,s7,rfl,⟨_,SqT.of c8⟩,jD0 c8 x2l rfl fun D8 H8 h8 e8 n8=>?_⟩;refine⟨D8,_,rfl, .inl ⟨SqL.of h8,fun r9 hr9=>?_⟩⟩;have e9:Ext H8 (L2.upd H8 r9 (.tup (((srt x2).map (· +(p1.length:Int))).map V.int))):=(Ext.refl _).new hr9 _;have d9:(L2.upd H8 r9 (.tup (((srt x2).map (· +(p1.length:Int))).map V.int))) r9=some (.tup (((srt x2).map (· +(p1.length:Int))).map V.int)):=j5;generalize L2.upd H8 r9 (.tup (((srt x2).map (· +(p1.length:Int))).map V.int))=H9 at e9 d9;have E9:=e8.trans e9;refine⟨s5,r9,_,_,rfl,rfl,E9 _ _ k6,d9,by rw[af,af,af,aE]; lia,fun ra HA dA eA=>?_⟩;refine⟨by show (2:Nat)<=_; decide,fun rb HB' dB eB=>?_⟩;have EB:=(E9.trans eA).trans eB;rw[<- aS] at dA;have d1B:=EB _ _ d17;have d2B:=EB _ _ d27;have dAB:=eB _ _ dA;refine⟨[.int (wt p1 x1+wt p2 x2), .tup ((srt x1++shL (p1.length:Int) (srt x2)).map Tr.int)],[.int (wt p1 x1+wt p2 x2), .tup ((srt x1++shL (p1.length:Int) (srt x2)).map Tr.int)],⟨r,_,rfl,d1B,_,_,rfl,rfl,_,_,rfl,⟨rq,_,rfl,d2B,jL4 _⟩,rfl⟩,⟨rb,_,rfl,dB,_,_,rfl,rfl,_,_,rfl,⟨ra,_,rfl,dAB,jL4 _⟩,rfl⟩,?_,?_⟩
  ·show max (dep (.int _)) (max (deps ((srt x1++shL (p1.length:Int) (srt x2)).map Tr.int)+1) 0)<=100;rw[jF0];show max 0 (max (0+1) 0)<=100;decide
  rw[jB7];exact⟨_,rfl,iteF (jCU T CC CP CX CS CV CM CI CL CE hr (F7.mono T7 (ExS.of EB)) g1 g2 (T7.ext EB) q)⟩
theorem jLN (hr:Room 19 (XLaw P w K mg Ar f lI A Aq s H0 E).A)
  {D:Ends}{H:Hp}{a o b l1 l2:Addr}{w1 w2:Int}{m1 m2:Ag}{p1 p2:Ae}{us1 us2:List V}{c d:Addr}{x y:Ag}{v0 v9 v10 v11:Option V}(F:Fx H a o b l1 l2 w1 w2 m1 m2 p1 p2 us1 us2) (g1:Good 4 6 w1 m1 p1) (g2:Good 3 6 w2 m2 p2) (hc:H c=some (.tup (x.map V.int))) (hx:x∈cvs w1 m1 p1) (hd:H d=some (.tup (y.map V.int))) (hy:y∈cvs w2 m2 p2)
  (nx:∀ H',Ext H H'->D.nx [v0,some (.ref a),some (.ref o),some (.ref b),some (.int (p1.length:Int)),some (.ref l1),some (.ref l2),some (.ref c),some (.ref d),v9,v10,v11] H'):
  (jRY T CC CP CX CS CV CM CI CL CE hr).1 D [v0,some (.ref a),some (.ref o),some (.ref b),some (.int (p1.length:Int)),some (.ref l1),some (.ref l2),some (.ref c),some (.ref d),v9,v10,v11] H:=by
 have G1:Good 16 32 w1 m1 p1:=g1.wide Ac Ac;have G2:Good 16 32 w2 m2 p2:=g2.wide Ac Ac;have a0:=g1.w0;have b0:=g2.w0;have a1:=g1.w1;have b1:=g2.w1;have q1:=g1.pl;have q2:=g2.pl;have hw:w1+w2<=16:=Aa;have hp:(p1.length:Int)+p2.length<=32:=Aa;have GB:=jA8 G1 G2 hw hp;have Cx:=(jEH G1).mp hx;have Cy:=(jEH G2).mp hy;have xl:=jAN x 0 _ Cx.ris.ris Cx.ris.bnd;have yl:=jAN y 0 _ Cy.ris.ris Cy.ris.bnd;refine⟨_,rfl,_,rfl,_,rfl,d,rfl,⟨_,SqT.of hd⟩,jD0 hd Aa rfl fun D8 H8 h8 e8 n8=>?_⟩;refine⟨D8,_,rfl, .inl ⟨SqL.of h8,fun r9 hr9=>?_⟩⟩;have e9:Ext H8 (L2.upd H8 r9 (.tup ((y.map (· +(p1.length:Int))).map V.int))):=(Ext.refl _).new hr9 _;have d9:(L2.upd H8 r9 (.tup ((y.map (· +(p1.length:Int))).map V.int))) r9=some (.tup ((y.map (· +(p1.length:Int))).map V.int)):=j5;generalize L2.upd H8 r9 (.tup ((y.map (· +(p1.length:Int))).map V.int))=H9 at e9 d9;have E9:=e8.trans e9;refine⟨c,r9,_,_,rfl,rfl,E9 _ _ hc,d9,by rw[af,af,af,aE]; lia,fun ra HA dA eA=>?_⟩;rw[<- aS] at dA;have EA:=E9.trans eA;exact⟨b,ra,_,_,_,_,rfl,F.hB.mono EA.tups,GB,dA,jQ9 G1 G2 hw hp hx hy,fun H4 e4=>⟨_,rfl,iteF (nx H4 (EA.trans e4))⟩⟩
theorem jLO (hr:Room 19 (XLaw P w K mg Ar f lI A Aq s H0 E).A)
  {D:Ends}{H:Hp}{a o b l1 l2:Addr}{w1 w2:Int}{m1 m2:Ag}{p1 p2:Ae}{us1 us2:List V}{c:Addr}{x:Ag}{v0 v8 v9 v10 v11:Option V}(F:Fx H a o b l1 l2 w1 w2 m1 m2 p1 p2 us1 us2) (g1:Good 4 6 w1 m1 p1) (g2:Good 3 6 w2 m2 p2) (tab:TbS (LL tb1 tb2 tb3 tb4 tb5) H) (hc:H c=some (.tup (x.map V.int))) (hx:x∈cvs w1 m1 p1)
  (nx:∀ H' v8,Ext H H'->D.nx [v0,some (.ref a),some (.ref o),some (.ref b),some (.int (p1.length:Int)),some (.ref l1),some (.ref l2),some (.ref c),v8,v9,v10,v11] H'):
  (jRZ T CC CP CX CS CV CM CI CL CE hr).1 D [v0,some (.ref a),some (.ref o),some (.ref b),some (.int (p1.length:Int)),some (.ref l1),some (.ref l2),some (.ref c),v8,v9,v10,v11] H:=by
 refine⟨_,rfl,_,rfl,l2,us2,rfl,SqL.of F.h2,fun l hl=>?_⟩;have e1:Ext H (L2.upd H l (.lst (cutV us2 none (some 6)))):=(Ext.refl _).new hl _;have d1:(L2.upd H l (.lst (cutV us2 none (some 6)))) l=some (.lst (cutV us2 none (some 6))):=j5;generalize L2.upd H l (.lst (cutV us2 none (some 6)))=H1 at e1 d1;have F1:=F.mono tab (ExS.of e1);have T1:=tab.ext e1;have sub:∀ v∈cutV us2 none (some 6),v∈us2:=fun v hv=>cy (bV hv);refine⟨l,rfl,⟨_,SqL.of d1⟩,jBM (xs:=cutV us2 none (some 6)) (fun i σ H'=>(∃ v8,σ=[v0,some (.ref a),some (.ref o),some (.ref b),some (.int (p1.length:Int)),some (.ref l1),some (.ref l2),some (.ref c),v8,v9,v10,v11])/\Ext H1 H') ⟨⟨_,rfl⟩,Ext.refl _⟩ (fun i σ H' _ ⟨_,e⟩=>SqL.of (e _ _ d1)) ?_ ?_⟩
 ·rintro i v σ H' hv ⟨⟨v8,rfl⟩,e⟩;have F':=F1.mono T1 (ExS.of e);obtain⟨j,hj⟩:=bh (sub v (aH hv));obtain⟨y,hy,d,rfl,hd⟩:=All2.get' F'.u2 hj;exact jLN T CC CP CX CS CV CM CI CL CE hr F' g1 g2 (e _ _ (e1 _ _ hc)) hx hd (aH hy) fun H2 e2=>⟨⟨_,rfl⟩,e.trans e2⟩
 ·rintro σ H' ⟨⟨v8,rfl⟩,e⟩;exact nx H' _ (e1.trans e)
theorem jLQ (hr:Room 19 (XLaw P w K mg Ar f lI A Aq s H0 E).A)
  {D:Ends}{H:Hp}{a o b l1 l2:Addr}{w1 w2:Int}{m1 m2:Ag}{p1 p2:Ae}{us1 us2:List V}{v0 v7 v8 v9 v10 v11:Option V}(F:Fx H a o b l1 l2 w1 w2 m1 m2 p1 p2 us1 us2) (g1:Good 4 6 w1 m1 p1) (g2:Good 3 6 w2 m2 p2) (tab:TbS (LL tb1 tb2 tb3 tb4 tb5) H) (q:∀ H',D.rt (.bl true) H'):
  (jS3 T CC CP CX CS CV CM CI CL CE hr).1 D [v0,some (.ref a),some (.ref o),some (.ref b),some (.int (p1.length:Int)),some (.ref l1),some (.ref l2),v7,v8,v9,v10,v11] H:=by
 refine⟨_,rfl,_,rfl,l1,us1,rfl,SqL.of F.h1,fun l hl=>?_⟩;have e1:Ext H (L2.upd H l (.lst (cutV us1 none (some 6)))):=(Ext.refl _).new hl _;have d1:(L2.upd H l (.lst (cutV us1 none (some 6)))) l=some (.lst (cutV us1 none (some 6))):=j5;generalize L2.upd H l (.lst (cutV us1 none (some 6)))=H1 at e1 d1;have F1:=F.mono tab (ExS.of e1);have T1:=tab.ext e1;have sub:∀ v∈cutV us1 none (some 6),v∈us1:=fun v hv=>cy (bV hv);refine⟨l,rfl,⟨_,SqL.of d1⟩,jBM (xs:=cutV us1 none (some 6)) (fun i σ H'=>(∃ v7 v8,σ=[v0,some (.ref a),some (.ref o),some (.ref b),some (.int (p1.length:Int)),some (.ref l1),some (.ref l2),v7,v8,v9,v10,v11])/\Ext H1 H') ⟨⟨_,_,rfl⟩,Ext.refl _⟩ (fun i σ H' _ ⟨_,e⟩=>SqL.of (e _ _ d1)) ?_ ?_⟩
 ·rintro i v σ H' hv ⟨⟨v7,v8,rfl⟩,e⟩;have F':=F1.mono T1 (ExS.of e);obtain⟨j,hj⟩:=bh (sub v (aH hv));obtain⟨x,hx,c,rfl,hc⟩:=All2.get' F'.u1 hj;exact jLO T CC CP CX CS CV CM CI CL CE hr F' g1 g2 (T1.ext e) hc (aH hx) fun H2 v8 e2=>⟨⟨_,_,rfl⟩,e.trans e2⟩
 ·rintro σ H' ⟨⟨v7,v8,rfl⟩,e⟩;exact jLP T CC CP CX CS CV CM CI CL CE hr (F1.mono T1 (ExS.of e)) g1 g2 (T1.ext e) q
theorem jQV (hr:Room 19 (XLaw P w K mg Ar f lI A Aq s H0 E).A)
  {D:Ends}{H:Hp}{a o b:Addr}{w1 w2:Int}{m1 m2:Ag}{p1 p2:Ae}{v0 v4 v5 v6 v7 v8 v9 v10 v11:Option V}(hA:BoxAt H a w1 m1 p1) (hO:BoxAt H o w2 m2 p2) (hB:BoxAt H b (w1+w2) (mB w1 m1 m2) (pB w1 p1 p2)) (g1:Good 4 6 w1 m1 p1) (g2:Good 3 6 w2 m2 p2) (tab:TbS (LL tb1 tb2 tb3 tb4 tb5) H) (q:∀ H',D.rt (.bl true) H'):
  (midA T CC CP CX CS CV CM CI CL CE hr).1 D [v0,some (.ref a),some (.ref o),some (.ref b),v4,v5,v6,v7,v8,v9,v10,v11] H:=by
 have G1:Good 16 32 w1 m1 p1:=g1.wide Ac Ac;have G2:Good 16 32 w2 m2 p2:=g2.wide Ac Ac;have a0:=g1.w0;have b0:=g2.w0;have a1:=g1.w1;have b1:=g2.w1;have q1:=g1.pl;have q2:=g2.pl;have hw:w1+w2<=16:=Aa;have hp:(p1.length:Int)+p2.length<=32:=Aa;have GB:=jA8 G1 G2 hw hp;obtain⟨qm,qp,ps,r1,r2,r3,r4⟩:=id hA.ex;have pl:=r4.len;have s1:Good 16 16 w1 m1 p1:=g1.wide Ac Ac;have s2:Good 16 16 w2 m2 p2:=g2.wide Ac Ac;refine⟨_,rfl,a,_,2,_,rfl,rfl,SqT.of r1,rfl,qp,_,rfl, .inr (SqT.of r3),?_⟩;rw[pl];refine⟨_,rfl,a,w1,m1,p1,rfl,hA,s1,fun l1 us1 H1 h1 u1 n1 e1=>?_⟩;refine⟨_,rfl,o,w2,m2,p2,rfl,hO.mono e1.tups,s2,fun l2 us2 H2 h2 u2 n2 e2=>?_⟩;have E2:=e1.trans e2;have F2:Fx H2 a o b l1 l2 w1 w2 m1 m2 p1 p2 us1 us2:=⟨hA.mono E2.tups,hO.mono E2.tups,hB.mono E2.tups,e2 _ _ h1,LsAt.mono e2.tups u1,n1,h2,u2,n2⟩;have T2:=tab.ext E2;refine⟨_,rfl,b,_,_,_,rfl,F2.hB,GB,LL.ww T2,fun H3 e3 t3=>?_⟩;obtain⟨T3,X3⟩:=LL.toW T2 e3 t3;have F3:=F2.mono T2 X3;have len:=jKB G1 G2 hw hp;refine⟨_,rfl,l1,_,rfl, .inl (SqL.of F3.h1),_,rfl,l2,_,rfl, .inl (SqL.of F3.h2),_,_,rfl,rfl, .inl ⟨Aa,Aa⟩,rfl,_,rfl,?_⟩;have el:V.int ((us1.length:Int)*(us2.length:Int))=natV (wk (chB w1 w2 m1 m2 p1 p2) 0).length:=by
  rw[len,<- jGU,<- jGU,<- All2.len u1,<- All2.len u2];show V.int _=V.int ((us1.length*us2.length:Nat):Int);rw[Int.natCast_mul]
 rw[ar (show natV (wk (chs (w1+w2).toNat (mB w1 m1 m2) (pB w1 p1 p2)) 0).length=V.int ((us1.length:Int)*(us2.length:Int)) from el.symm)];exact iteF (jLQ T CC CP CX CS CV CM CI CL CE hr F3 g1 g2 T3 q)
theorem jWG {fd:FuncData}(F:Fun K "law" "law" sLaw f fd):FnOk P w K mg Ar CX0 20 f fd ["script"] (spLaw K tb1 tb2 tb3 tb4 tb5):=by
 refine F.ok scLaw (fun vs H Q E h=>?_) (fun lI A Aq s H vs Q E hr h=>?_)
 ·obtain⟨_,_,rfl,_⟩:=h;rfl
 ·obtain⟨a,ns,rfl,hS,hlen,o1,o2,o3,o4,o5,n12,n13,n14,n15,n23,n24,n25,n34,n35,n45,k⟩:=h;have tab:TbS (LL tb1 tb2 tb3 tb4 tb5) H:=⟨by unfold ads LL; simp [n12,n13,n14,n15,n23,n24,n25,n34,n35,n45],fun x hx=>by
   simp only [aI,bH,dr] at hx;rcases hx with rfl | rfl | rfl | rfl | rfl
   ·exact o1
   ·exact o2
   ·exact o3
   ·exact o4
   ·exact o5⟩
  refine⟨_,(lawA T CC CP CX CS CV CM CI CL CE hr).2.h,?_⟩;refine⟨_,rfl,a,ns,0,rfl,hS,Ac,fun c=>⟨c,rfl,fun p N hp hN=>?_⟩⟩;have e1:Ext H (L2.upd H p (.lst [.int N])):=(Ext.refl _).new hp _;have d1:(L2.upd H p (.lst [.int N])) p=some (.lst [.int N]):=j5;generalize L2.upd H p (.lst [.int N])=H1 at e1 d1;refine⟨p,N,4,6,rfl,d1,hN,Ac,Ac,Ac,Ac,fun ba N2 w1 m1 p1 H2 hN2 d2 hA g1 kp=>?_⟩;have e2:Ext H H2:=fun c o h=>kp _ _ (e1 _ _ h) (jA h hp);have hS2:SqL K H2 a (ns.map V.int):=TbS.sq tab (ExS.of e2) hS;refine⟨_,rfl,a,ns,1,rfl,hS2,Ac,fun c=>⟨c,rfl,fun p3 N3 hp3 hN3=>?_⟩⟩;have e3:Ext H2 (L2.upd H2 p3 (.lst [.int N3])):=(Ext.refl _).new hp3 _;have d3:(L2.upd H2 p3 (.lst [.int N3])) p3=some (.lst [.int N3]):=j5;generalize L2.upd H2 p3 (.lst [.int N3])=H3 at e3 d3;refine⟨p3,N3,3,6,rfl,d3,hN3,Ac,Ac,Ac,Ac,fun bo N4 w2 m2 p2 H4 hN4 d4 hO g2 kp2=>?_⟩;have E4:Ext H2 H4:=fun c o h=>kp2 _ _ (e3 _ _ h) (jA h hp3);have G1:Good 16 32 w1 m1 p1:=g1.wide Ac Ac;have G2:Good 16 32 w2 m2 p2:=g2.wide Ac Ac;have a1:=g1.w1;have b1:=g2.w1;have q1:=g1.pl;have q2:=g2.pl;refine⟨_,rfl,_,rfl,ba,bo,w1,w2,m1,m2,p1,p2,rfl,hA.mono E4.tups,hO,G1,G2,Aa,Aa,fun bb H5 hB e5=>?_⟩;exact jQV T CC CP CX CS CV CM CI CL CE hr ((hA.mono E4.tups).mono e5.tups) (hO.mono e5.tups) hB g1 g2 (((tab.ext e2).ext E4).ext e5) k
end
theorem lenU1 {P:Am->Prop} :∀ {us:Am},us.length=1->(∀ a,P [a])->P us
 | [a],_,h=>h a
theorem lenU2 {P:Am->Prop} :∀ {us:Am},us.length=2->(∀ a b,P [a,b])->P us
 | [a,b],_,h=>h a b
theorem lenU3 {P:Am->Prop} :∀ {us:Am},us.length=3->(∀ a b c,P [a,b,c])->P us
 | [a,b,c],_,h=>h a b c
abbrev zN (K:W.Frag)(x:Str):=PySem.W.nsIn K mainGlobals x
abbrev zr (f:Addr):Option (Ap):=some (some (.ref f))
abbrev zl (x:Str)(st:Stmt)(oc:Value)(od:Option Addr)(kV dc pm:Value)(an:Option Addr)(cd ct:Value)(sl:Array (Ap)):Option Obj:=some ⟨oc,od, .func (PySem.W.fnOf x x (y8 st) (jC st) (j7 st) .none kV dc pm an cd ct),sl⟩
abbrev zc:=PySem.W.codeIn
abbrev zk (K:W.Frag)(f:Addr):=keepIn K (.ref f)
theorem zb1 {K:W.Frag}{x q p1:Str}{st:Stmt}{f:Addr}{fd:FuncData}(F:Fun K x q st f fd)(h:∀ (kV doc pm:Value) (an:Option Addr) (lI ct u1:Value),bindArgs (PySem.W.fnOf x q (y8 st) (jC st) (j7 st) .none kV doc pm an lI ct) ⟨[u1],[]⟩=pure [(p1,u1)]:=by intros; rfl):Binds K fd [p1] []:=F.binds fun kV doc pm an lI ct us hl=>lenU1 (P:=fun us=>bindArgs _ ⟨us,[]⟩=pure (List.zip _ us)) hl fun u1=>h kV doc pm an lI ct u1
theorem zb2 {K:W.Frag}{x q p1 p2:Str}{st:Stmt}{f:Addr}{fd:FuncData}(F:Fun K x q st f fd)(h:∀ (kV doc pm:Value) (an:Option Addr) (lI ct u1 u2:Value),bindArgs (PySem.W.fnOf x q (y8 st) (jC st) (j7 st) .none kV doc pm an lI ct) ⟨[u1,u2],[]⟩=pure [(p1,u1),(p2,u2)]:=by intros; rfl):Binds K fd [p1,p2] []:=F.binds fun kV doc pm an lI ct us hl=>lenU2 (P:=fun us=>bindArgs _ ⟨us,[]⟩=pure (List.zip _ us)) hl fun u1 u2=>h kV doc pm an lI ct u1 u2
theorem zb3 {K:W.Frag}{x q p1 p2 p3:Str}{st:Stmt}{f:Addr}{fd:FuncData}(F:Fun K x q st f fd)(h:∀ (kV doc pm:Value) (an:Option Addr) (lI ct u1 u2 u3:Value),bindArgs (PySem.W.fnOf x q (y8 st) (jC st) (j7 st) .none kV doc pm an lI ct) ⟨[u1,u2,u3],[]⟩=pure [(p1,u1),(p2,u2),(p3,u3)]:=by intros; rfl):Binds K fd [p1,p2,p3] []:=F.binds fun kV doc pm an lI ct us hl=>lenU3 (P:=fun us=>bindArgs _ ⟨us,[]⟩=pure (List.zip _ us)) hl fun u1 u2 u3=>h kV doc pm an lI ct u1 u2 u3
set_option autoImplicit true
set_option relaxedAutoImplicit true
set_option maxHeartbeats 8000000 in
theorem all_mk {l:PySem.W.OpenLaw}{w:World}{K:W.Frag}{h:Heap}{mg:Ak}{fa f1 f2 f3 f4 f5 f6 f7 f8 f9 f10 f11 f12 f13 f14 f15 f16 f17 f18 f19 f20 f21 f22 f23 f24 f25 f26 f27 f28 f29 f30 f31:Addr}(X:K.In h)(G:h.Ns mainGlobals mg)(hfa:mg "law" =some (.ref fa))
  {u1 u2 u3:Tok}
  (a1:zN K "is_whole" =zr f1) (l1:K.lookup f1=zl "is_whole" jC0 oc1 od1 kV1 dc1 pm1 an1 cd1 ct1 sl1) (c1:zc K cd1 "is_whole" =true) (k1:zk K f1=true)
  (a2:zN K "is_rising" =zr f2) (l2:K.lookup f2=zl "is_rising" jAM oc2 od2 kV2 dc2 pm2 an2 cd2 ct2 sl2) (c2:zc K cd2 "is_rising" =true) (k2:zk K f2=true)
  (a3:zN K "is_lot" =zr f3) (l3:K.lookup f3=zl "is_lot" jDI oc3 od3 kV3 dc3 pm3 an3 cd3 ct3 sl3) (c3:zc K cd3 "is_lot" =true) (k3:zk K f3=true)
  (a4:zN K "mask_of" =zr f4) (l4:K.lookup f4=zl "mask_of" sMask oc4 od4 kV4 dc4 pm4 an4 cd4 ct4 sl4) (c4:zc K cd4 "mask_of" =true) (k4:zk K f4=true)
  (a5:zN K "lot_of" =zr f5) (l5:K.lookup f5=zl "lot_of" jDH oc5 od5 kV5 dc5 pm5 an5 cd5 ct5 sl5) (c5:zc K cd5 "lot_of" =true) (k5:zk K f5=true)
  (a6:zN K "picked" =zr f6) (l6:K.lookup f6=zl "picked" y9 oc6 od6 kV6 dc6 pm6 an6 cd6 ct6 sl6) (c6:zc K cd6 "picked" =true) (k6:zk K f6=true)
  (a7:zN K "moved_on" =zr f7) (l7:K.lookup f7=zl "moved_on" jDG oc7 od7 kV7 dc7 pm7 an7 cd7 ct7 sl7) (c7:zc K cd7 "moved_on" =true) (k7:zk K f7=true)
  (a8:zN K "side_by_side" =zr f8) (l8:K.lookup f8=zl "side_by_side" sSide oc8 od8 kV8 dc8 pm8 an8 cd8 ct8 sl8) (c8:zc K cd8 "side_by_side" =true) (k8:zk K f8=true)
  (a9:zN K "is_covering" =zr f9) (l9:K.lookup f9=zl "is_covering" sCov oc9 od9 kV9 dc9 pm9 an9 cd9 ct9 sl9) (c9:zc K cd9 "is_covering" =true) (k9:zk K f9=true)
  (a10:zN K "choices_of" =zr f10) (l10:K.lookup f10=zl "choices_of" yH oc10 od10 kV10 dc10 pm10 an10 cd10 ct10 sl10) (c10:zc K cd10 "choices_of" =true) (k10:zk K f10=true)
  (a11:zN K "full_mask" =zr f11) (l11:K.lookup f11=zl "full_mask" sFull oc11 od11 kV11 dc11 pm11 an11 cd11 ct11 sl11) (c11:zc K cd11 "full_mask" =true) (k11:zk K f11=true)
  (a12:zN K "choices_at" =zr f12) (l12:K.lookup f12=zl "choices_at" sAt oc12 od12 kV12 dc12 pm12 an12 cd12 ct12 sl12) (c12:zc K cd12 "choices_at" =true) (k12:zk K f12=true)
  (a13:zN K "masks_met" =zr f13) (l13:K.lookup f13=zl "masks_met" sMet oc13 od13 kV13 dc13 pm13 an13 cd13 ct13 sl13) (c13:zc K cd13 "masks_met" =true) (k13:zk K f13=true)
  (a14:zN K "gathered" =zr f14) (l14:K.lookup f14=zl "gathered" qS oc14 od14 kV14 dc14 pm14 an14 cd14 ct14 sl14) (c14:zc K cd14 "gathered" =true) (k14:zk K f14=true)
  (a15:zN K "ways_of" =zr f15) (l15:K.lookup f15=zl "ways_of" qP oc15 od15 kV15 dc15 pm15 an15 cd15 ct15 sl15) (c15:zc K cd15 "ways_of" =true) (k15:zk K f15=true)
  (a16:zN K "many" =zr f16) (l16:K.lookup f16=zl "many" sMany oc16 od16 kV16 dc16 pm16 an16 cd16 ct16 sl16) (c16:zc K cd16 "many" =true) (k16:zk K f16=true)
  (a17:zN K "have_common" =zr f17) (l17:K.lookup f17=zl "have_common" jB5 oc17 od17 kV17 dc17 pm17 an17 cd17 ct17 sl17) (c17:zc K cd17 "have_common" =true) (k17:zk K f17=true)
  (a18:zN K "narrowed" =zr f18) (l18:K.lookup f18=zl "narrowed" jAW oc18 od18 kV18 dc18 pm18 an18 cd18 ct18 sl18) (c18:zc K cd18 "narrowed" =true) (k18:zk K f18=true)
  (a19:zN K "is_bar" =zr f19) (l19:K.lookup f19=zl "is_bar" sBar oc19 od19 kV19 dc19 pm19 an19 cd19 ct19 sl19) (c19:zc K cd19 "is_bar" =true) (k19:zk K f19=true)
  (a20:zN K "is_within" =zr f20) (l20:K.lookup f20=zl "is_within" jB4 oc20 od20 kV20 dc20 pm20 an20 cd20 ct20 sl20) (c20:zc K cd20 "is_within" =true) (k20:zk K f20=true)
  (a21:zN K "least_lots" =zr f21) (l21:K.lookup f21=zl "least_lots" yU oc21 od21 kV21 dc21 pm21 an21 cd21 ct21 sl21) (c21:zc K cd21 "least_lots" =true) (k21:zk K f21=true)
  (a22:zN K "least_bars" =zr f22) (l22:K.lookup f22=zl "least_bars" yJ oc22 od22 kV22 dc22 pm22 an22 cd22 ct22 sl22) (c22:zc K cd22 "least_bars" =true) (k22:zk K f22=true)
  (a23:zN K "lightest" =zr f23) (l23:K.lookup f23=zl "lightest" yT oc23 od23 kV23 dc23 pm23 an23 cd23 ct23 sl23) (c23:zc K cd23 "lightest" =true) (k23:zk K f23=true)
  (a24:zN K "_law_cell_at" =zr f24) (l24:K.lookup f24=zl "_law_cell_at" sCell oc24 od24 kV24 dc24 pm24 an24 cd24 ct24 sl24) (c24:zc K cd24 "_law_cell_at" =true) (k24:zk K f24=true)
  (a25:zN K "_law_pot" =zr f25) (l25:K.lookup f25=zl "_law_pot" sPot oc25 od25 kV25 dc25 pm25 an25 cd25 ct25 sl25) (c25:zc K cd25 "_law_pot" =true) (k25:zk K f25=true)
  (a26:zN K "_law_take" =zr f26) (l26:K.lookup f26=zl "_law_take" sTake oc26 od26 kV26 dc26 pm26 an26 cd26 ct26 sl26) (c26:zc K cd26 "_law_take" =true) (k26:zk K f26=true)
  (a27:zN K "_law_lot" =zr f27) (l27:K.lookup f27=zl "_law_lot" sLot oc27 od27 kV27 dc27 pm27 an27 cd27 ct27 sl27) (c27:zc K cd27 "_law_lot" =true) (k27:zk K f27=true)
  (a28:zN K "_law_box" =zr f28) (l28:K.lookup f28=zl "_law_box" sBox oc28 od28 kV28 dc28 pm28 an28 cd28 ct28 sl28) (c28:zc K cd28 "_law_box" =true) (k28:zk K f28=true)
  (a29:zN K "_law_from" =zr f29) (l29:K.lookup f29=zl "_law_from" qT oc29 od29 kV29 dc29 pm29 an29 cd29 ct29 sl29) (c29:zc K cd29 "_law_from" =true) (k29:zk K f29=true)
  (a30:zN K "_law_coverings" =zr f30) (l30:K.lookup f30=zl "_law_coverings" sCovs oc30 od30 kV30 dc30 pm30 an30 cd30 ct30 sl30) (c30:zc K cd30 "_law_coverings" =true) (k30:zk K f30=true)
  (a31:zN K "law" =zr f31) (l31:K.lookup f31=zl "law" sLaw oc31 od31 kV31 dc31 pm31 an31 cd31 ct31 sl31) (c31:zc K cd31 "law" =true) (k31:zk K f31=true)
  (g1:zN K "MOST_THINGS" =some (some (.int 16 u1))) (g2:zN K "MOST_PIECES" =some (some (.int 32 u2))) (g3:zN K "MOST_THINGS_WITH_BARS" =some (some (.int 9 u3))) (z1:zN K "len" =some none) (z2:zN K "range" =some none) (z3:zN K "tuple" =some none) (z4:zN K "sorted" =some none) (z5:zN K "set" =some none) (z6:zN K "list" =some none) (z7:zN K "int" =some none) (z8:zN K "isinstance" =some none) (z9:zN K "bool" =some none) (z10:zN K "str" =some none) (z11:zN K "all" =some none) (z12:zN K "zip" =some none) (z13:zN K "max" =some none) (z14:zN K "min" =some none) (z15:zN K "any" =some none) (z16:zN K "abs" =some none) (z17:zN K "sum" =some none) (z18:zN K "enumerate" =some none) (z19:zN K "dict" =some none) {tb1 cc1:Addr}(cde1:cd6= .ref cc1) (hcd1:codeHdIn K cc1 tb1=true) {tb2 cc2:Addr}(cde2:cd15= .ref cc2) (hcd2:codeHdIn K cc2 tb2=true) {tb3 cc3:Addr}(cde3:cd21= .ref cc3) (hcd3:codeHdIn K cc3 tb3=true) {tb4 cc4:Addr}(cde4:cd22= .ref cc4) (hcd4:codeHdIn K cc4 tb4=true) {tb5 cc5:Addr}(cde5:cd23= .ref cc5) (hcd5:codeHdIn K cc5 tb5=true) {bmA:Addr}(xb1:zN K "__builtins__" =zr bmA) (xb2:K.lookup bmA=some ⟨.type "module",some builtinsNs, .plain,#[]⟩) (xb3:bmA≠builtinsNs) (xb4:bmA≠mainGlobals):
  ∃ fd:FuncData,(∀ (s:Shared) (v:Value),BindsTo s fd ⟨[v],[]⟩ [("script",v)])/\∀ Ar:Heap,K.In Ar->Ar.Ns mainGlobals mg->FnOk l.prog w K mg Ar CX0 20 fa fd ["script"] (spLaw K tb1 tb2 tb3 tb4 tb5):=by
 have e:=hfa.symm.trans (g7 X G a31);cases e;have T:Txt mg:=⟨bA X G z1,bA X G z2,bA X G z3,bA X G z4,bA X G z5,bA X G z6,bA X G z7,bA X G z8,bA X G z9,bA X G z10,bA X G z11,bA X G z12,bA X G z13,bA X G z14,bA X G z15,bA X G z16,bA X G z17,bA X G z18,bA X G z19⟩;have F1:=kG (st:=jC0) l1 c1 k1;have F2:=kG (st:=jAM) l2 c2 k2;have F3:=kG (st:=jDI) l3 c3 k3;have F4:=kG (st:=sMask) l4 c4 k4;have F5:=kG (st:=jDH) l5 c5 k5;have F6:=kG (st:=y9) l6 c6 k6;have b6:Binds K _ ["box","things","pieces"] []:=zb3 F6;have F7:=kG (st:=jDG) l7 c7 k7;have F8:=kG (st:=sSide) l8 c8 k8;have F9:=kG (st:=sCov) l9 c9 k9;have F10:=kG (st:=yH) l10 c10 k10;have F11:=kG (st:=sFull) l11 c11 k11;have F12:=kG (st:=sAt) l12 c12 k12;have F13:=kG (st:=sMet) l13 c13 k13;have F14:=kG (st:=qS) l14 c14 k14;have F15:=kG (st:=qP) l15 c15 k15;have b15:Binds K _ ["choices"] []:=zb1 F15;have F16:=kG (st:=sMany) l16 c16 k16;have F17:=kG (st:=jB5) l17 c17 k17;have F18:=kG (st:=jAW) l18 c18 k18;have F19:=kG (st:=sBar) l19 c19 k19;have F20:=kG (st:=jB4) l20 c20 k20;have F21:=kG (st:=yU) l21 c21 k21;have b21:Binds K _ ["things","holds"] []:=zb2 F21;have F22:=kG (st:=yJ) l22 c22 k22;have b22:Binds K _ ["box"] []:=zb1 F22;have F23:=kG (st:=yT) l23 c23 k23;have b23:Binds K _ ["box"] []:=zb1 F23;have F24:=kG (st:=sCell) l24 c24 k24;have F25:=kG (st:=sPot) l25 c25 k25;have F26:=kG (st:=sTake) l26 c26 k26;have F27:=kG (st:=sLot) l27 c27 k27;have F28:=kG (st:=sBox) l28 c28 k28;have F29:=kG (st:=qT) l29 c29 k29;have F30:=kG (st:=sCovs) l30 c30 k30;have F31:=kG (st:=sLaw) l31 c31 k31;refine⟨PySem.W.fnOf "law" "law" (y8 sLaw) (jC sLaw) (j7 sLaw) .none kV31 dc31 pm31 an31 cd31 ct31,fun s v=> .of_eq rfl,fun Ar KB _=>?_⟩;have M:=fun {x:Str}{f:Addr}(a:PySem.W.nsIn K mainGlobals x=some (some (.ref f)))=>g7 X G a;have M':=fun {x:Str}{v:Value}(a:PySem.W.nsIn K mainGlobals x=some (some v))=>g7 X G a;have CD1:PySem.W.CodeHd Ar cc1 tb1:=dO KB hcd1;have FC1:FunC K "picked" "picked" y9 f6 _ cc1:=⟨_,_,_,_,_,_,_,_,rfl,cde1 ▸ l6,cde1 ▸ c6⟩;have CD2:PySem.W.CodeHd Ar cc2 tb2:=dO KB hcd2;have FC2:FunC K "ways_of" "ways_of" qP f15 _ cc2:=⟨_,_,_,_,_,_,_,_,rfl,cde2 ▸ l15,cde2 ▸ c15⟩;have CD3:PySem.W.CodeHd Ar cc3 tb3:=dO KB hcd3;have FC3:FunC K "least_lots" "least_lots" yU f21 _ cc3:=⟨_,_,_,_,_,_,_,_,rfl,cde3 ▸ l21,cde3 ▸ c21⟩;have CD4:PySem.W.CodeHd Ar cc4 tb4:=dO KB hcd4;have FC4:FunC K "least_bars" "least_bars" yJ f22 _ cc4:=⟨_,_,_,_,_,_,_,_,rfl,cde4 ▸ l22,cde4 ▸ c22⟩;have CD5:PySem.W.CodeHd Ar cc5 tb5:=dO KB hcd5;have FC5:FunC K "lightest" "lightest" yT f23 _ cc5:=⟨_,_,_,_,_,_,_,_,rfl,cde5 ▸ l23,cde5 ▸ c23⟩;have BM:qN Ar mg:=⟨bmA,_,g7 X G xb1,xb3,xb4,KB _ _ xb2,rfl,rfl,rfl⟩;have C1:Can l.prog w K mg Ar "is_whole" 1 f1 _ ["thing"] spWh:=⟨jNJ F1 T,M a1,k1,(zb1 F1)⟩;have C2:Can l.prog w K mg Ar "is_rising" 2 f2 _ ["thing"] (spB risB):=⟨jNK F2 T C1,M a2,k2,(zb1 F2)⟩;have C3:Can l.prog w K mg Ar "is_lot" 3 f3 _ ["thing","many"] (spB2 lotB):=⟨jQT F3 T C2,M a3,k3,(zb2 F3)⟩;have C4:Can l.prog w K mg Ar "mask_of" 1 f4 _ ["lot"] jHB:=⟨jU8 F4 T,M a4,k4,(zb1 F4)⟩;have C5:Can l.prog w K mg Ar "lot_of" 1 f5 _ ["mask"] jG1:=⟨jQP F5 T,M a5,k5,(zb1 F5)⟩;have C6:Can l.prog w K mg Ar "picked" 2 f6 _ ["box","things","pieces"] (jDR tb1):=⟨jNL FC1 T CD1 BM,M a6,k6,b6⟩;have C7:Can l.prog w K mg Ar "moved_on" 1 f7 _ ["lot","things"] jG0:=⟨jQO F7 T,M a7,k7,(zb2 F7)⟩;have C8:Can l.prog w K mg Ar "side_by_side" 2 f8 _ ["one","other"] jBR:=⟨jU7 F8 T C7 (M' g1) (M' g2),M a8,k8,(zb2 F8)⟩;have C9:Can l.prog w K mg Ar "is_covering" 4 f9 _ ["box","thing"] jBT:=⟨jUD F9 T C3,M a9,k9,(zb2 F9)⟩;have C10:Can l.prog w K mg Ar "choices_of" 2 f10 _ ["box"] jAR:=⟨jLZ F10 T C4,M a10,k10,(zb1 F10)⟩;have C11:Can l.prog w K mg Ar "full_mask" 1 f11 _ ["choices"] jFG:=⟨jUB F11 T,M a11,k11,(zb1 F11)⟩;have C12:Can l.prog w K mg Ar "choices_at" 1 f12 _ ["choices","mask"] spAt:=⟨ok_at F12 T,M a12,k12,(zb2 F12)⟩;have C13:Can l.prog w K mg Ar "masks_met" 2 f13 _ ["choices"] spMet:=⟨jWE F13 T C11 C12,M a13,k13,(zb1 F13)⟩;have C14:Can l.prog w K mg Ar "gathered" 4 f14 _ ["choices","at_end","join"] jJ0:=⟨FnOk.ex fun x o=>(jNN F14 T C11 C13 C12 ((jWH o T).mono Ac) ZT.st (zhW.ok _ _) (RWay.ok _) o).ok,M a14,k14,(zb3 F14)⟩;have C15:Can l.prog w K mg Ar "ways_of" 5 f15 _ ["choices"] (jK6 tb2):=⟨jU5 FC2 T CD2 BM C14,M a15,k15,b15⟩;have C16:Can l.prog w K mg Ar "many" 6 f16 _ ["box"] (qD tb2):=⟨jU9 F16 T C10 C15,M a16,k16,(zb1 F16)⟩;have C17:Can l.prog w K mg Ar "have_common" 1 f17 _ ["one","other"] jDT:=⟨jNP F17 T,M a17,k17,(zb2 F17)⟩;have C18:Can l.prog w K mg Ar "narrowed" 4 f18 _ ["box","lot"] (jDS tb1):=⟨jNM F18 T C3 C6 C17,M a18,k18,(zb2 F18)⟩;have C19:Can l.prog w K mg Ar "is_bar" 7 f19 _ ["box","lot"] (spBar tb1 tb2):=⟨jWK F19 C18 C16,M a19,k19,(zb2 F19)⟩;have C20:Can l.prog w K mg Ar "is_within" 1 f20 _ ["lot","other"] jBD:=⟨jNI F20 T,M a20,k20,(zb2 F20)⟩;have C21:Can l.prog w K mg Ar "least_lots" 9 f21 _ ["things","holds"] (fun _ _ _ _=>False):=⟨FnOk.never,M a21,k21,b21⟩;have C22:Can l.prog w K mg Ar "least_bars" 10 f22 _ ["box"] (jAL tb1 tb2 tb3 tb4):=⟨jQS FC4 T CD4 BM (M' g3) (fun cl i=>jQR FC3 T CD3 BM C5 C20 (jUF C19 cl i) (ZC.st _ _ _) (HIb.ok tb1 tb2 cl i) fun H h=>h.1) (M a21) k21 b21,M a22,k22,b22⟩;have C23:Can l.prog w K mg Ar "lightest" 5 f23 _ ["box"] (jAK tb5):=⟨jQQ FC5 T CD5 BM C10 (fun cl i=>jNN F14 T C11 C13 C12 ((jJ6 T cl i).mono Ac) (ZC.st _ _ _) (zhL.ok cl i) (RLt.ok _ _) (yP i.g)) (M a14) k14 (zb3 F14),M a23,k23,b23⟩;have C24:Can l.prog w K mg Ar "_law_cell_at" 1 f24 _ ["script","k"] (jBU K):=⟨jUE F24 T,M a24,k24,(zb2 F24)⟩;have C25:Can l.prog w K mg Ar "_law_pot" 1 f25 _ ["cell"] spPot:=⟨jWD F25 T,M a25,k25,(zb1 F25)⟩;have C26:Can l.prog w K mg Ar "_law_take" 1 f26 _ ["pot","wide"] yZ:=⟨jU6 F26,M a26,k26,(zb2 F26)⟩;have C27:Can l.prog w K mg Ar "_law_lot" 2 f27 _ ["pot","wide"] qO:=⟨jWF F27 T C26,M a27,k27,(zb2 F27)⟩;have C28:Can l.prog w K mg Ar "_law_box" 3 f28 _ ["pot","most_things","most_pieces"] spBox:=⟨jWJ F28 T C26 C27,M a28,k28,(zb3 F28)⟩;have C29:Can l.prog w K mg Ar "_law_from" 18 f29 _ ["box","thing","held"] (jFH 16):=⟨jNO F29 T (M a29) k29 (zb3 F29) 16,M a29,k29,(zb3 F29)⟩;have C30:Can l.prog w K mg Ar "_law_coverings" 19 f30 _ ["box"] jBS:=⟨jUC F30 T C29,M a30,k30,(zb1 F30)⟩;exact jWG T C24 C25 C28 C8 C30 C16 C9 C23 C22 F31
theorem walk {l:PySem.W.OpenLaw}{q:Program}{loose:An}{XP:(Ak)->Heap->Prop}{YP:World->Heap->Prop}{d:DefRec}{K:Params->W.Frag}(hn:l.most=some 63)(hdf:d.params.defaults=[]){tb1 tb2 tb3 tb4 tb5:Addr}{cc1 cc2 cc3 cc4 cc5:Addr}
  (hY:∀ (w:World) (h:Heap),YP w h->(K w.params).In h/\∀ T∈[tb1,tb2,tb3,tb4,tb5],h.get? T=some (tabObj #[])) (hcd:∀ w:World,codeHdIn (K w.params) cc1 tb1=true/\codeHdIn (K w.params) cc2 tb2=true/\codeHdIn (K w.params) cc3 tb3=true/\codeHdIn (K w.params) cc4 tb4=true/\codeHdIn (K w.params) cc5 tb5=true) (hKT:∀ w:World,∀ T∈[tb1,tb2,tb3,tb4,tb5],(K w.params).lookup T=none) (hnd:([tb1,tb2,tb3,tb4,tb5]:List Addr).Nodup)
  (F:∀ (w:World) (mg:Ak) (fa:Addr) (h:Heap),(K w.params).In h->h.Ns mainGlobals mg->mg d.name=some (.ref fa)->
   ∃ fd:FuncData,(∀ (s:Shared) (u:Value),BindsTo s fd ⟨[u],[]⟩ [("script",u)])/\∀ Ar:Heap,(K w.params).In Ar->Ar.Ns mainGlobals mg->FnOk l.prog w (K w.params) mg Ar CX0 20 fa fd ["script"] (spLaw (K w.params) tb1 tb2 tb3 tb4 tb5)):
  PySem.W.WalkO q loose XP YP l.row.toRowW d [] (fun f vs=>PySem.call f vs):=
 L2.walk_ofTs (cts:=[(cc1,tb1),(cc2,tb2),(cc3,tb3),(cc4,tb4),(cc5,tb5)]) (n:=63) (k:=20) (x:= "script") (CX:=fun _=>CX0) (sp:=fun w=>spLaw (K w.params) tb1 tb2 tb3 tb4 tb5) hn Ac hdf ⟨rfl,Ac,Ac⟩ hY (fun w p hp=>by
  obtain⟨_h0,_h1,_h2,_h3,_h4⟩:=hcd w;simp only [aI,bH,dr] at hp;rcases hp with rfl | rfl | rfl | rfl | rfl <;> assumption) hKT F (fun _ H a ns hl hT hS=>⟨a,ns,rfl,hS,hl, .inl (hT _ ai), .inl (hT _ (ag _ ai)), .inl (hT _ (ag _ (ag _ ai))), .inl (hT _ (ag _ (ag _ (ag _ ai)))), .inl (hT _ (ag _ (ag _ (ag _ (ag _ ai))))),(by rintro rfl; simp at hnd),(by rintro rfl; simp at hnd),(by rintro rfl; simp at hnd),(by rintro rfl; simp at hnd),(by rintro rfl; simp at hnd),(by rintro rfl; simp at hnd),(by rintro rfl; simp at hnd),(by rintro rfl; simp at hnd),(by rintro rfl; simp at hnd),(by rintro rfl; simp at hnd),fun _=>rfl⟩) fun _ _ _ _ _ z=>z
end Eo
open PySem PySem.W PyProof.Rows
set_option maxRecDepth 100000 in
set_option maxHeartbeats 0 in
theorem PySem.Challenge.cw_eachonce_k82_whole_side_by_side_holds : PySem.Challenge.rw_eachonce_k82_whole_side_by_side.Holds := by
 w_on
 refine holds_law Ab fun said=>?_;refine holds_open (q:=Eo.vw) (loose:=[]) (Xt:=fun s=>xlAt Eo.vw [] s&&recOk (RowW.records (OpenRow.toRowW PySem.Challenge.rw_eachonce_k82_whole_side_by_side.row)) s) (XP:=XL Eo.vw []) (Yf:=Hook.obs Eo.kH) (Ya:=Hook.val Eo.kH) (YP:=Hook.says Eo.kH) (N:=4100) Eo.left (Hook.of Eo.kH) (Hook.keeps Eo.kH) (fun s e=>xl_of s (ic.mp e).1) XL.keeps (by rfl) (by rfl) (by rfl) (fun s e=>recFacts_of (ic.mp e).2) rfl said Ab ⟨rfl,rfl,rfl,rfl,rfl,Ab⟩ ?hw ?hc
 case hw=>w_witness2
 refine Eo.walk (l:=PySem.Challenge.rw_eachonce_k82_whole_side_by_side) (K:=Eo.kK) rfl rfl (tb1:=45) (cc1:=47) (tb2:=131) (cc2:=135) (tb3:=167) (cc3:=169) (tb4:=172) (cc4:=176) (tb5:=179) (cc5:=183) (fun w h Y=>⟨PySem.W.km_in_of Y,PySem.W.km_tabs_of Y⟩) (fun w=>⟨by kernel_rfl,by kernel_rfl,by kernel_rfl,by kernel_rfl,by kernel_rfl⟩) (fun w T hm=>by
   simp only [aI,bH,dr] at hm;rcases hm with rfl | rfl | rfl | rfl | rfl <;> kernel_rfl) Ac ?F
 case F=>
  intro w mg fa h KX G hmg
  k_fill
  refine' Eo.all_mk KX G hmg _ _ _ _ _ _ _ _ _ _ _ _ _ _ _ _ _ _ _ _ _ _ _ _ _ _ _ _ _ _ _ _ _ _ _ _ _ _ _ _ _ _ _ _ _ _ _ _ _ _ _ _ _ _ _ _ _ _ _ _ _ _ _ _ _ _ _ _ _ _ _ _ _ _ _ _ _ _ _ _ _ _ _ _ _ _ _ _ _ _ _ _ _ _ _ _ _ _ _ _ _ _ _ _ _ _ _ _ _ _ _ _ _ _ _ _ _ _ _ _ _ _ _ _ _ _ _ _ _ _ _ _ _ _ _ _ _ _ _ _ _ _ _ _ _ _ (tb1:=45) rfl (by kernel_rfl) (tb2:=131) rfl (by kernel_rfl) (tb3:=167) rfl (by kernel_rfl) (tb4:=172) rfl (by kernel_rfl) (tb5:=179) rfl (by kernel_rfl) (bmA:=4) (by kernel_rfl) (by kernel_rfl) Ac Ac
  all_goals ((try delta Eo.zN); (try delta Eo.zr); (try delta Eo.zl); (try delta Eo.zc); (try delta Eo.zk); try k_is)
end
