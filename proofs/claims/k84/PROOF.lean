import PyProof.Rows.All
import Wide.All
import OpenK.AllK
import Wide.FinOn
import PyProof.EqAt
import PyProof.EqKinds
import PyProof.TupleCall
import Lean
import PySem.SetOps
import PyProof.SetKind
import PyProof.DictKinds
import PyProof.CompMap
import PyProof.WalksS
import PyProof.Walks
import PyProof.CollectWalk
import PyProof.FactsAll.set_1
import PyProof.SetNew
import PyProof.Rows.SetFrom
import PyProof.ZipIter
import PyProof.Rows.SortShell
import PyProof.Rows.SortWalk
import PyProof.NeKinds
import PyProof.SumWalkG
import PyProof.RangeIter
import PyProof.StationsW
import PyProof.ExcClass3
import PyProof.ExcBaseAll.ValueError
import PyProof.ExcAttrAll.ValueError
import PyProof.Rows.CatchOwn
import KE.KIsAll
import PyProof.NsDelKeeps
import KE.KNestM
import PyProof.EnumMake
import KE.KDictOf
import PyProof.AttrMiss
import PyProof.IsiH_list
import PyProof.FactsAll.tuple_3
import PyProof.TupleOfStr
import PyProof.ListRange
import PyProof.SeqI3
import KE.KLam
import PyProof.Rows.SortRuns
import PyProof.Rows.SortRev
import PyProof.Rows.RuleM_int
import KE.KSortTup
import KE.KSortKey
import PySem.Challenge.RW_eachonce_k84_whole_named_anew
set_option Elab.async false
set_option linter.all false
set_option maxRecDepth 100000
theorem Aa {p:Prop}(h:p:=by lia):p:=h
theorem Ab {p:Prop}(h:p:=by decide+kernel):p:=h
theorem Ac {p:Prop}(h:p:=by decide):p:=h
theorem Ad {p:Prop}(h:p:=by simp):p:=h
abbrev Ae:=List (List Int×Int)
abbrev Af:=List (List Int)
abbrev Ag:=List Int
abbrev Ah:=PySem.Value->PySem.Shared->Prop
abbrev Ai:=List (PySem.Addr×PySem.Obj)
abbrev Aj:=List (PySem.Str×PySem.Addr)
abbrev Ak:=PySem.Str->Option PySem.Value
abbrev Al:=List PySem.Value
abbrev Am:=List PySem.Str
abbrev An:=Array PySem.Value
abbrev Ao:=Option PySem.Value
def ae:=@PySem.wpAny_bind
def af:=@List.length_map
def ag:=@List.mem_cons_of_mem
def ah:=@PySem.Heap.get?_push_of_some
def ai:=@List.mem_cons_self
def aj:=@List.getD_eq_getElem?_getD
def am:=@PySem.wpAny_pure
def ao:=@List.getElem?_eq_some_iff
def aq:=@List.getElem?_eq_getElem
def ar:=@List.size_toArray
def aw:=@if_neg
def ax:=@decide_eq_true
def ay:=@if_pos
def az:=@Bool.false_ne_true
def aA:=@Nat.le_refl
def aB:=@List.mem_of_getElem?
def aC:=@PySem.Heap.get?_push_size
def aE:=@List.mem_cons
def aF:=@List.mem_append_right
def aG:=@PySem.Heap.lt_size
def aH:=@PySem.sizeLine_eq
def aI:=@of_decide_eq_true
def aJ:=@List.length_append
def aK:=@List.mem_singleton
def aL:=@PyProof.Rows.wpS_bind
def aM:=@Array.length_toList
def aN:=@decide_eq_false
def aO:=@PyProof.Rows.wpS_pure
def aP:=@List.mem_append
def aQ:=@List.mem_map
def aR:=@Int.toNat_natCast
def aS:=@List.getElem?_map
def aU:=@List.map_append
def aV:=@List.length_cons
def aW:=@Nat.ne_of_lt
def aX:=@Nat.lt_of_lt_of_le
def aY:=@List.append_assoc
def aZ:=@List.mem_append_left
def ba:=@List.mem_filter
def be:=@List.take_add_one
def bf:=@List.map_cons
def bg:=@List.append_nil
def bh:=@List.pairwise_map
def bi:=@Nat.le_trans
def bo:=@Nat.zero_le
def bq:=@List.getElem?_of_mem
def br:=@decide_eq_true_iff
def bu:=@List.getElem?_append_right
def bv:=@PySem.W.mg_none_of
def bw:=@Option.some.inj
def bz:=@List.take_length
def bA:=@PySem.Heap.get?_update_other
def bB:=@List.length_take_le
def bC:=@Array.toList_append
def bD:=@Bool.and_eq_true
def bE:=@List.not_mem_nil
def bF:=@List.mem_range
def bG:=@List.take_append_drop
def bH:=@List.map_map
def bI:=@List.length_take
def bJ:=@List.lookup_cons
def bK:=@List.all_eq_true
def bL:=@List.pairwise_iff_getElem
def bM:=@Classical.byContradiction
def bN:=@Array.getElem?_toList
def bO:=@List.mem_map_of_mem
def bP:=@List.idxOf_lt_length_iff
def bQ:=@List.mem_of_mem_take
def bR:=@PySem.F.plainAttrs_list
def bS:=@PySem.wpAny_holding
def bU:=@List.length_filter_le
def bV:=@List.filter_append
def bW:=@Int.toNat_of_nonneg
def bX:=@List.take_of_length_le
def bY:=@congrArg
def bZ:=@Bool.eq_iff_iff
def b7:=@Nat.testBit_or
def b8:=@List.getElem?_eq_none
def b9:=@PySem.mem_of_lookup
def ce:=@List.getElem?_append_left
def cf:=@List.nodup_cons
def cg:=@PyProof.Rows.wpS_forRange
def ci:=@Nat.pow_le_pow_right
def cj:=@Bool.eq_false_iff
def ck:=@PySem.wpAny_mono
def cm:=@beq_eq_false_iff_ne
def cn:=@List.getElem_mem
def cq:=@Array.perm_iff_toList_perm
def cr:=@List.length_range
def cw:=@List.pairwise_append
def cx:=@PySem.Around.under_plainId
def cy:=@PySem.wpAny_loadPart'
def cz:=@List.length_nil
def cA:=@PySem.codeAny_builtin
def cB:=@PySem.PassesOwn.never
def cC:=@List.getElem?_take_of_lt
def cD:=@PySem.wpAny_call_entry
def cF:=@List.countP_cons
def cG:=@Int.le_of_lt
def cH:=@Bool.not_eq_true'
def cI:=@List.mem_of_mem_drop
def cJ:=@PySem.W.kia_one
def cK:=@List.filter_cons
def cL:=@Nat.testBit_two_pow
def cM:=@List.map_congr_left
def cN:=@Nat.lt_succ_of_lt
def cO:=@List.eq_nil_of_length_eq_zero
def cP:=@List.Perm.append_left
def cQ:=@List.Pairwise.imp_of_mem
def cR:=@Nat.ne_of_gt
def cS:=@PySem.wpAny_Call_Name_kw
def cU:=@List.pairwise_cons
def cV:=@PySem.wpAny_setField_rec
def cW:=@PySem.wpAny_callSpecial?_slot
def cX:=@Array.toArray_toList
def cY:=@Int.le_refl
def cZ:=@Nat.add_sub_cancel_left
def da:=@Nat.testBit_two_pow_sub_one
def db:=@Nat.lt_irrefl
def de:=@Nat.le_of_lt
def df:=@PySem.wpAny_pyIter_list
def dh:=@PySem.wpAny_newObj_type
def di:=@PySem.wpAny_rule
def dq:=@Bool.and_false
def dr:=@Int.le_trans
def dv:=@Nat.mod_two_eq_zero_or_one
def dw:=@List.perm_ext_iff_of_nodup
def dy:=@List.getElem?_range
def dz:=@Nat.le_succ
def dA:=@Nat.two_pow_pos
def dD:=@or_false
def dE:=@PySem.Around.in1_units
def dF:=@Nat.zero_testBit
def dG:=@List.sum_cons
def dH:=@PyProof.Rows.wpS_mono
def dI:=@Array.toList_reverse
def dJ:=@PySem.wpAny_truthy_bool
def dL:=@List.take_sublist
def dM:=@PySem.wpAny_setState_of
def dN:=@List.of_mem_zip
def dO:=@PySem.W.codeHd_of_K
def dP:=@PyProof.Rows.callWith_type1
def dQ:=@PySem.codeAny_mono
def dR:=@List.any_eq_true
def dS:=@List.zip_cons_cons
def dU:=@PySem.Heap.size_push
def dW:=@List.exists_cons_of_ne_nil
def dX:=@PySem.Heap.get?_update_self
def dY:=@List.perm_append_comm
def dZ:=@List.extract_eq_take_drop
def d0:=@PySem.wpAny_passesOwn
def d9:=@List.find?_cons
def eg:=@Nat.testBit_and
def eh:=@Ne.symm
def ek:=@PySem.Calls.evalArgs_plain
def ev:=@Array.toList_push
def eD:=@PySem.wpAny_field
def eE:=@Nat.eq_of_testBit_eq
def eF:=@Array.getElem_toList
def eG:=@PySem.wpAny_attempt
def eI:=@PySem.wpAny_newList
def eJ:=@PyProof.Rows.listUpdate_at
def eL:=@PySem.F.slot_list_append
def eM:=@PySem.F.type_list_append
def eO:=@List.sublist_append_left
def eQ:=@List.filterMap_cons
def eR:=@List.getElem_of_mem
def eS:=@List.length_eq_zero_iff
def eT:=@PySem.F.plain_list_iadd
def eU:=@decide_eq_false_iff_not
def eV:=@List.pairwise_singleton
def eW:=@PySem.sizeLine_eq
def eX:=@PySem.SeqAt.EqAt.int_int
def eY:=@Nat.lt_trans
def eZ:=@PyProof.Rows.wpS_modify
def fb:=@Nat.lt_or_ge
def fe:=@Nat.not_lt_zero
def ff:=@PySem.wpAny_standAt
def fg:=@List.all_cons
def fh:=@PySem.plainId_quiet
def fj:=@List.getElem?_inj
def fm:=@PySem.call_meets
def fo:=@Array.toList_extract
def fq:=@PySem.wpAny_askSetting
def fw:=@Bool.or_true
def fz:=@Nat.testBit_zero
def fJ:=@PySem.Calls.call_function_entry
def fQ:=@List.getLastD_eq_getLast?
def fS:=@List.getLast?_eq_getElem?
def fU:=@List.reverse_append
def fY:=@List.filter_sublist
def fZ:=@PySem.Paired.length
def ga:=@PySem.F.args_tuple_add_2
def gb:=@Bool.true_and
def gc:=@PySem.F.slot_tuple_index
def gd:=@PySem.F.type_tuple_index
def gf:=@PyProof.Rows.entry_list_sort
def gh:=@PyProof.Rows.get?_update_seq
def gj:=@Int.natCast_nonneg
def gm:=@PySem.tupleKind_room_in1
def gq:=@of_decide_eq_false
def gt:=@List.getElem_idxOf
def gu:=@PySem.F.entry_tuple_add
def gw:=@Bool.false_and
def gx:=@PySem.W.cellsFrom_some
def gy:=@PySem.F.slot_tuple_add
def gz:=@PySem.Calls.callWith_builtin
def gA:=@Nat.lt_trichotomy
def gB:=@Option.some.injEq
def gC:=@List.ext_getElem?
def gE:=@PyProof.Rows.slot_list_sort
def gF:=@PyProof.Rows.listItems_at
def gG:=@List.nodup_append
def gH:=@PyProof.Rows.wpS_get
def gI:=@List.Perm.append_right
def gJ:=@Nat.sub_self
def gL:=@Nat.testBit_lt_two_pow
def gM:=@List.pairwise_lt_range
def gN:=@Nat.testBit_eq_decide_div_mod_eq
def gP:=@List.flatMap_singleton
def gQ:=@List.eraseIdxIfInBounds_toArray
def gR:=@PySem.F.slot_tuple_lt
def gS:=@List.length_singleton
def gU:=@PySem.builtinLookup_eq_fast
def gW:=@List.Pairwise.and_mem
def gX:=@PySem.wpAny_load
def gY:=@List.length_drop
def gZ:=@PyProof.Rows.size_push'
def g0:=@PySem.Heap.size_update
def g4:=@beq_iff_eq
def g5:=@if_true
def g6:=@List.any_cons
def g7:=@PySem.W.mg_of
def g8:=@Sum.inl.inj
def g9:=@Nat.pow_lt_pow_right
def hG:=@PyProof.Rows.wpS_lift
def hV:=@Bool.and_eq_true_iff
def h9:=@Bool.or_eq_false_iff
def ic:=@PySem.wpAny_execs_nil
def ie:=@List.range_succ
def ig:=@Bool.or_eq_true
def ik:=@PySem.Heap.SameBut.update
def im:=@PySem.W.callWith_of
def io:=@Nat.mul_le_mul_left
def iq:=@List.map_nil
def ir:=@PySem.F.plain_proto_collect
def iu:=@PyProof.Rows.plain_sorted
def iw:=@PyProof.Rows.entry_sorted
def ix:=@List.all_map
def iy:=@getElem?_pos
def iA:=@PySem.F.slot_int_bit_length
def iB:=@PySem.F.type_int_bit_length
def iC:=@PySem.Calls.Name_function_global
def iE:=@Int.fdiv_eq_ediv_of_nonneg
def iF:=@PySem.wpAny_call
def iG:=@PySem.wpAny_newFunctionEnv_cells
def iH:=@List.length_eraseIdx_of_lt
def iI:=@PySem.wpAny_runValue
def iJ:=@PySem.Walks.list
def iK:=@List.drop_drop
def iM:=@List.getElem?_drop
def iN:=@List.take_zero
def iP:=@Array.toList_setIfInBounds
def iQ:=@Bool.false_eq_true
def iR:=@List.drop_sublist
def iS:=@PyProof.Rows.kind_sorted
def iT:=@List.Pairwise.and
def iU:=@Option.isSome_map
def iV:=@PyProof.Rows.seqEpoch_at
def iW:=@bne_self_eq_false
def iX:=@Nat.or_lt_two_pow
def iY:=@decide_eq_true_eq
def iZ:=@List.map_id
def i4:=@List.flatMap_cons
def i5:=@List.Sublist.refl
def i6:=@Bool.false_or
def i7:=@List.getElem?_replicate
def i8:=@PySem.F.args_tuple_lt_2
def i9:=@PySem.noFill_tuple_add
def ja:=@if_false
def jc:=@List.cons_append
def jd:=@Nat.lt_succ_self
def jf:=@PySem.wpAny_isInstance
def jg:=@decide_eq_decide
def jh:=@List.pairwise_mergeSort
def ji:=@PySem.F.slot_list_count
def jk:=@PySem.F.type_list_count
def jl:=@List.getElem?_set_self
def jm:=@PySem.F.entry_tuple_lt
def jn:=@PySem.wpAny_typeOf
def jo:=@List.drop_eq_nil_of_le
def jp:=@Nat.lt_of_succ_lt_succ
def jq:=@Int.zero_add
def jr:=@PySem.F.plainAttrs_int
def jt:=@PySem.typeLookup_type
def ju:=@PySem.Heap.DictOf.new
def jw:=@PySem.W.keeps_F
def jx:=@List.Perm.of_eq
def jy:=@Array.Perm.refl
def jz:=@List.length_zip
def ka:=@List.filter_nil
def ke:=@and_congr_right
def kf:=@List.length_replicate
def kg:=@PySem.F.slot_set_iter
def kh:=@List.set_append_right
def ki:=@PySem.F.slot_list_pop
def kj:=@PySem.F.type_list_pop
def kn:=@List.getElem?_set_ne
def ko:=@List.nodup_nil
def kq:=@PySem.isSubtype_type
def ku:=@PySem.wpAny_newTuple
def kx:=@List.drop_zero
def kz:=@List.reverse_reverse
def la:=@List.Pairwise.filter
def lb:=@List.length_pos_iff
def lc:=@List.mergeSort_perm
def lg:=@List.filter_eq_self
def lh:=@List.flatMap_append
def lj:=@Bool.not_true
def ln:=@List.map_take
def lu:=@Array.append_assoc
def lv:=@List.mem_filterMap
def lw:=@PySem.W.callWith_K
def ly:=@PySem.W.codeRec_of
def lz:=@Nat.lt_of_le_of_lt
def lA:=@not_or
def lB:=@Array.empty_append
def lC:=@Int.emod_lt_of_pos
def lF:=@Nat.and_one_is_mod
def lG:=@Int.natAbs_natCast
def lH:=@Nat.add_comm
def lI:=@Nat.add_zero
def lJ:=@List.any_map
open PySem.W (codeHdIn envX findIn fnMade instObj keepIn kitOne kitx_dict kitx_list kla_obj lookIn methodObj mg_of mroIn plainGet tabObj)
open List (range')
open Nat (strongRecOn)
open Array (size_map)
open Option (getD_none map_some)
namespace L2
open PySem PySem.Spec PyProof.Rows
def y0 (s:Stmt):Arguments:=match s with
 | .FunctionDef _ a _ _ _ _ _ _ _ _=>a
 | _=> { posonlyargs:=[],args:=[],vararg:=none,kwonlyargs:=[],kw_defaults:=[],kwarg:=none,defaults:=[]}
def jD (s:Stmt):List Stmt:=match s with
 | .FunctionDef _ _ b _ _ _ _ _ _ _=>b
 | _=> []
def j7 (s:Stmt):Scope:=match s with
 | .FunctionDef _ _ _ _ _ _ sc _ _ _=>sc
 | _=> { kind:= .function,names:=[],isGenerator:=false,isCoroutine:=false}
end L2
namespace Eo
open PySem L2
def top (i:Nat):Stmt:=PySem.Challenge.pw_eachonce_k84_whole_named_anew.main.body.getD i (.Pass ⟨0,0,0,0⟩)
abbrev jCD:Stmt:=top 1
abbrev jAK:Stmt:=top 2
abbrev jDT:Stmt:=top 3
abbrev sMask:Stmt:=top 4
abbrev jDS:Stmt:=top 5
abbrev y4:Stmt:=top 7
abbrev jAD:Stmt:=top 14
abbrev sAnew:Stmt:=top 15
abbrev sCov:Stmt:=top 17
abbrev yJ:Stmt:=top 18
abbrev sFull:Stmt:=top 19
abbrev sAt:Stmt:=top 20
abbrev sMet:Stmt:=top 21
abbrev qX:Stmt:=top 22
abbrev qT:Stmt:=top 23
abbrev sMany:Stmt:=top 24
abbrev jBC:Stmt:=top 27
abbrev jAX:Stmt:=top 28
abbrev sBar:Stmt:=top 29
abbrev jB9:Stmt:=top 30
abbrev yY:Stmt:=top 31
abbrev yL:Stmt:=top 32
abbrev yX:Stmt:=top 34
abbrev sCell:Stmt:=top 36
abbrev sPot:Stmt:=top 37
abbrev sTake:Stmt:=top 38
abbrev sLot:Stmt:=top 39
abbrev sBox:Stmt:=top 40
abbrev qY:Stmt:=top 41
abbrev sCovs:Stmt:=top 42
abbrev jBA:Stmt:=top 43
abbrev jBB:Stmt:=top 44
abbrev jDR:Stmt:=top 45
abbrev sLaw:Stmt:=top 46
def kC (x:Str)(t:Nat)(l n:Int)(a:Nat)(X Y:Value)(z:Nat)(u:Int)(v:Nat):Obj:=⟨.type "code",none, .fields #[.str x t, .str x (t+1), .str "/claim/cut.py" (t+2), .int l 0, .int n 0, .int 0 0, .int 0 0, .int 3 0, .ref a, .bool true, .int 181 0, .ref (a+1), .none,X,Y, .ref z, .int u 0, .int l 0, .str "/claim/cut.py" v],#[]⟩
def kF (x:Str)(s:Stmt)(m:Str)(t c:Nat):Obj:=⟨.type "function",none, .func (PySem.W.fnOf x x (y0 s) (jD s) (j7 s) .none .none .none (.str m t) none (.ref c) .none),#[]⟩
def kM (P:Params):Obj:=
 let e (x:Str) (t:Nat) (v:Value):DictEntry:=⟨PyData.keyHash P x, .str x t,v⟩
 ⟨.type "dict",none, .dict #[e "__name__" 165 (.str "law_eachonce_k84_whole_named_anew" 431),e "__doc__" 166 (.none),e "__package__" 167 (.none),e "__loader__" 168 (.builtin "__main__.__loader__#opaque"),e "__spec__" 169 (.none),e "__annotations__" 170 (.ref 6),e "__builtins__" 171 (.ref 4),e "__file__" 173 (.str "/claim/cut.py" 172),e "__cached__" 174 (.none),e "is_whole" 195 (.ref 21),e "is_rising" 201 (.ref 26),e "is_lot" 209 (.ref 33),e "mask_of" 215 (.ref 38),e "lot_of" 221 (.ref 43),e "picked" 229 (.ref 48),e "OnceError" 249 (.ref 58),e "TooMany" 265 (.ref 71),e "NoThing" 281 (.ref 83),e "NoOrder" 297 (.ref 95),e "is_order" 305 (.ref 102),e "named_anew" 314 (.ref 109),e "is_covering" 322 (.ref 114),e "choices_of" 328 (.ref 119),e "full_mask" 335 (.ref 126),e "choices_at" 341 (.ref 131),e "masks_met" 354 (.ref 138),e "gathered" 360 (.ref 143),e "ways_of" 367 (.ref 150),e "many" 374 (.ref 157),e "MOST_THINGS_WITH_BARS" 378 (.int 9 377),e "have_common" 384 (.ref 162),e "narrowed" 390 (.ref 167),e "is_bar" 398 (.ref 174),e "is_within" 404 (.ref 179),e "least_lots" 410 (.ref 184),e "least_bars" 418 (.ref 191),e "lightest" 430 (.ref 198),e "_law_cell_at" 440 (.ref 205),e "_law_pot" 450 (.ref 212),e "_law_take" 459 (.ref 219),e "_law_lot" 465 (.ref 224),e "_law_box" 471 (.ref 229),e "_law_from" 477 (.ref 234),e "_law_coverings" 483 (.ref 239),e "_law_weight" 489 (.ref 244),e "_law_order" 500 (.ref 251),e "_law_back" 506 (.ref 256),e "law" 512 (.ref 261)] 48,#[]⟩
def kK (P:Params):W.Frag:=(nat_lit 3,kM P)::(nat_lit 4,⟨.type "module",some 0, .plain,#[]⟩)::(nat_lit 20,kC "is_whole" 189 2 1 15 (.ref 17) (.ref 18) 19 193 194)::(nat_lit 21,kF "is_whole" jCD "eachonce.kinds" 187 20)::(nat_lit 25,kC "is_rising" 196 4 1 22 (.none) (.none) 24 199 200)::(nat_lit 26,kF "is_rising" jAK "eachonce.kinds" 187 25)::(nat_lit 32,kC "is_lot" 202 10 2 27 (.ref 29) (.ref 30) 31 207 208)::(nat_lit 33,kF "is_lot" jDT "eachonce.kinds" 187 32)::(nat_lit 37,kC "mask_of" 210 14 1 34 (.none) (.none) 36 213 214)::(nat_lit 38,kF "mask_of" sMask "eachonce.kinds" 187 37)::(nat_lit 42,kC "lot_of" 216 16 1 39 (.none) (.none) 41 219 220)::(nat_lit 43,kF "lot_of" jDS "eachonce.kinds" 187 42)::(nat_lit 47,kC "picked" 224 19 3 44 (.none) (.none) 46 227 228)::(nat_lit 48,kF "picked" y4 "eachonce.boxes" 222 47)::(nat_lit 101,kC "is_order" 300 35 2 98 (.none) (.none) 100 303 304)::(nat_lit 102,kF "is_order" jAD "eachonce.changes" 298 101)::(nat_lit 108,kC "named_anew" 306 39 3 103 (.ref 105) (.ref 106) 107 312 313)::(nat_lit 109,kF "named_anew" sAnew "eachonce.changes" 298 108)::(nat_lit 113,kC "is_covering" 317 46 2 110 (.none) (.none) 112 320 321)::(nat_lit 114,kF "is_covering" sCov "eachonce.coverings" 315 113)::(nat_lit 118,kC "choices_of" 323 53 1 115 (.none) (.none) 117 326 327)::(nat_lit 119,kF "choices_of" yJ "eachonce.coverings" 315 118)::(nat_lit 125,kC "full_mask" 329 58 1 120 (.ref 122) (.ref 123) 124 333 334)::(nat_lit 126,kF "full_mask" sFull "eachonce.coverings" 315 125)::(nat_lit 130,kC "choices_at" 336 60 2 127 (.none) (.none) 129 339 340)::(nat_lit 131,kF "choices_at" sAt "eachonce.coverings" 315 130)::(nat_lit 137,kC "masks_met" 342 63 1 132 (.ref 134) (.ref 135) 136 352 353)::(nat_lit 138,kF "masks_met" sMet "eachonce.coverings" 315 137)::(nat_lit 142,kC "gathered" 355 75 3 139 (.none) (.none) 141 358 359)::(nat_lit 143,kF "gathered" qX "eachonce.coverings" 315 142)::(nat_lit 149,kC "ways_of" 361 84 1 144 (.ref 146) (.ref 147) 148 365 366)::(nat_lit 150,kF "ways_of" qT "eachonce.coverings" 315 149)::(nat_lit 156,kC "many" 368 86 1 151 (.ref 153) (.ref 154) 155 372 373)::(nat_lit 157,kF "many" sMany "eachonce.coverings" 315 156)::(nat_lit 161,kC "have_common" 379 90 2 158 (.none) (.none) 160 382 383)::(nat_lit 162,kF "have_common" jBC "eachonce.bars" 375 161)::(nat_lit 166,kC "narrowed" 385 92 2 163 (.none) (.none) 165 388 389)::(nat_lit 167,kF "narrowed" jAX "eachonce.bars" 375 166)::(nat_lit 173,kC "is_bar" 391 96 2 168 (.ref 170) (.ref 171) 172 396 397)::(nat_lit 174,kF "is_bar" sBar "eachonce.bars" 375 173)::(nat_lit 178,kC "is_within" 399 98 2 175 (.none) (.none) 177 402 403)::(nat_lit 179,kF "is_within" jB9 "eachonce.bars" 375 178)::(nat_lit 183,kC "least_lots" 405 100 2 180 (.none) (.none) 182 408 409)::(nat_lit 184,kF "least_lots" yY "eachonce.bars" 375 183)::(nat_lit 190,kC "least_bars" 411 106 1 185 (.ref 187) (.ref 188) 189 416 417)::(nat_lit 191,kF "least_bars" yL "eachonce.bars" 375 190)::(nat_lit 197,kC "lightest" 421 111 1 192 (.ref 194) (.ref 195) 196 428 429)::(nat_lit 198,kF "lightest" yX "eachonce.lightest" 419 197)::(nat_lit 204,kC "_law_cell_at" 433 126 2 199 (.ref 201) (.ref 202) 203 438 439)::(nat_lit 205,kF "_law_cell_at" sCell "law_eachonce_k84_whole_named_anew" 431 204)::(nat_lit 211,kC "_law_pot" 441 130 1 206 (.ref 208) (.ref 209) 210 448 449)::(nat_lit 212,kF "_law_pot" sPot "law_eachonce_k84_whole_named_anew" 431 211)::(nat_lit 218,kC "_law_take" 451 139 2 213 (.ref 215) (.ref 216) 217 457 458)::(nat_lit 219,kF "_law_take" sTake "law_eachonce_k84_whole_named_anew" 431 218)::(nat_lit 223,kC "_law_lot" 460 143 2 220 (.none) (.none) 222 463 464)::(nat_lit 224,kF "_law_lot" sLot "law_eachonce_k84_whole_named_anew" 431 223)::(nat_lit 228,kC "_law_box" 466 152 3 225 (.none) (.none) 227 469 470)::(nat_lit 229,kF "_law_box" sBox "law_eachonce_k84_whole_named_anew" 431 228)::(nat_lit 233,kC "_law_from" 472 170 3 230 (.none) (.none) 232 475 476)::(nat_lit 234,kF "_law_from" qY "law_eachonce_k84_whole_named_anew" 431 233)::(nat_lit 238,kC "_law_coverings" 478 183 1 235 (.none) (.none) 237 481 482)::(nat_lit 239,kF "_law_coverings" sCovs "law_eachonce_k84_whole_named_anew" 431 238)::(nat_lit 243,kC "_law_weight" 484 185 2 240 (.none) (.none) 242 487 488)::(nat_lit 244,kF "_law_weight" jBA "law_eachonce_k84_whole_named_anew" 431 243)::(nat_lit 250,kC "_law_order" 490 187 2 245 (.ref 247) (.ref 248) 249 498 499)::(nat_lit 251,kF "_law_order" jBB "law_eachonce_k84_whole_named_anew" 431 250)::(nat_lit 255,kC "_law_back" 501 193 1 252 (.none) (.none) 254 504 505)::(nat_lit 256,kF "_law_back" jDR "law_eachonce_k84_whole_named_anew" 431 255)::(nat_lit 260,kC "law" 507 195 1 257 (.none) (.none) 259 510 511)::(nat_lit 261,kF "law" sLaw "law_eachonce_k84_whole_named_anew" 431 260)::[]
def kA:List Addr:=[3,4,20,21,25,26,32,33,37,38,42,43,47,48,101,102,108,109,113,114,118,119,125,126,130,131,137,138,142,143,149,150,156,157,161,162,166,167,173,174,178,179,183,184,190,191,197,198,204,205,211,212,218,219,223,224,228,229,233,234,238,239,243,244,250,251,255,256,260,261]
def vw:Program:= { PySem.Challenge.pw_eachonce_k84_whole_named_anew with main:= { PySem.Challenge.pw_eachonce_k84_whole_named_anew.main with body:=[top 1,top 2,top 3,top 4,top 5,top 7,top 9,top 10,top 11,top 12,top 14,top 15,top 17,top 18,top 19,top 20,top 21,top 22,top 23,top 24,top 26,top 27,top 28,top 29,top 30,top 31,top 32,top 34,top 36,top 37,top 38,top 39,top 40,top 41,top 42,top 43,top 44,top 45,top 46]}}
theorem kA_eq:∀ P,kA=(kK P).map (·.1):=fun _=>by kernel_rfl
abbrev kH:PySem.W.Hook:=PySem.W.kmHook kK kA kA_eq [45,145,181,186,193]
set_option maxHeartbeats 0 in
theorem left:PySem.W.LeftO PySem.Challenge.rw_eachonce_k84_whole_named_anew.prog vw [] (fun s=>PySem.W.xlAt vw [] s&&PySem.W.recOk (PySem.W.RowW.records (PySem.W.OpenRow.toRowW PySem.Challenge.rw_eachonce_k84_whole_named_anew.row)) s) (PySem.W.Hook.obs kH) (PySem.W.Hook.val kH) 4500:=fun w=>by kernel_rfl
end Eo
section
namespace L2
open PySem PySem.Spec PyProof.Rows
abbrev Key:=Sum Int Str
def keyIs:Key->Value->Bool
 | .inl k,v=>Value.isInt k v
 | .inr x,v=>Value.isStrOf x v
def keyH (w:World):Key->Int
 | .inl k=>hashInt k
 | .inr x=>hashStr w x
theorem jA0:∀ {k:Key}{v:Value},keyIs k v=true->(∃ i t,k=Sum.inl i/\v=Value.int i t)\/(∃ x t,k=Sum.inr x/\v=Value.str x t)
 | .inl i,v,h=>by
  obtain⟨t,e⟩:=Value.isInt_shape (k:=i) (v:=v) h;exact .inl ⟨i,t,rfl,e⟩
 | .inr x,v,h=>by
  obtain⟨t,e⟩:=Value.isStrOf_shape (x:=x) (v:=v) h;exact .inr ⟨x,t,rfl,e⟩
theorem jOW (i:Int)(t:Tok):keyIs (.inl i) (.int i t)=true:=by simp [keyIs,Value.isInt]
theorem jOV (x:Str)(t:Tok):keyIs (.inr x) (.str x t)=true:=by simp [keyIs,Value.isStrOf]
theorem jXD (a b:Int):decide ((Sum.inl a:Key)=Sum.inl b)=(a==b):=by
 by_cases e:a=b
 ·subst e; simp
 ·have h:¬ (Sum.inl a:Key)=Sum.inl b:=fun q=>e (g8 q);rw[aN h];exact(cm.mpr e).symm
theorem jXA (a b:Str):decide ((Sum.inr a:Key)=Sum.inr b)=decide (a=b):=by
 by_cases e:a=b
 ·subst e; simp
 ·have h:¬ (Sum.inr a:Key)=Sum.inr b:=fun q=>e (Sum.inr.inj q);rw[aN h,aN e]
theorem jXC (a:Int)(b:Str):decide ((Sum.inl a:Key)=Sum.inr b)=false:=aN (fun q=>nomatch q)
theorem jXB (a:Str)(b:Int):decide ((Sum.inr a:Key)=Sum.inl b)=false:=aN (fun q=>nomatch q)
def kU (prog:Program)(w:World):PySem.KeyKind prog w Key where
 is:=keyIs
 hash:=keyH w
 inj:=fun v a b ha hb=>by
  rcases jA0 ha with ⟨i,t,rfl,rfl⟩ | ⟨x,t,rfl,rfl⟩
  ·rcases jA0 hb with ⟨j,u,rfl,e⟩ | ⟨y,u,rfl,e⟩
   ·injection e with e1 _; rw[e1]
   ·exact nomatch e
  ·rcases jA0 hb with ⟨j,u,rfl,e⟩ | ⟨y,u,rfl,e⟩
   ·exact nomatch e
   ·injection e with e1 _; rw[e1]
 byValue:=fun k v h=>by
  rcases jA0 h with ⟨i,t,rfl,rfl⟩ | ⟨x,t,rfl,rfl⟩ <;> rfl
 pyHash:=fun hv h=>by
  rcases jA0 hv with ⟨i,t,rfl,rfl⟩ | ⟨x,t,rfl,rfl⟩
  ·exact wpAny_pyHash_int h
  ·exact wpAny_pyHash_str h
 eqBool:=fun hu hv h=>by
  rcases jA0 hu with ⟨i,t,rfl,rfl⟩ | ⟨x,t,rfl,rfl⟩
  ·rcases jA0 hv with ⟨j,u,rfl,rfl⟩ | ⟨y,u,rfl,rfl⟩
   ·rw[jXD] at h; exact wpAny_eqBool_int h
   ·rw[jXC] at h; exact SeqAt.EqAt.int_str i t y u _ _ _ _ h
  ·rcases jA0 hv with ⟨j,u,rfl,rfl⟩ | ⟨y,u,rfl,rfl⟩
   ·rw[jXB] at h; exact SeqAt.EqAt.str_int x t j u _ _ _ _ h
   ·rw[jXA] at h; exact wpAny_eqBool_str h
 «strs»:=fun k x t v h=>by
  rcases jA0 h with ⟨i,u,rfl,e⟩ | ⟨y,u,rfl,e⟩
  ·exact nomatch e
  ·injection e with e1 _;subst e1;cases v <;> rfl
theorem jJK (prog:Program)(w:World)(i:Int)(t:Tok):(kU prog w).is (.inl i) (.int i t)=true:=jOW i t
theorem jJJ (prog:Program)(w:World)(x:Str)(t:Tok):(kU prog w).is (.inr x) (.str x t)=true:=jOV x t
inductive V where
 | non | bl (b:Bool) | int (i:Int) | str (x:Str) | byt (b:Array UInt8) | flt (b:UInt64) | ref (a:Addr) | ty (n:String)
 deriving DecidableEq
def RelV:V->Value->Prop
 | .non,u=>u=Value.none
 | .bl b,u=>u=Value.bool b
 | .int i,u=>∃ t,u=Value.int i t
 | .str x,u=>∃ t,u=Value.str x t
 | .byt b,u=>∃ t,u=Value.bytes b t
 | .flt b,u=>∃ t,u=Value.float b t
 | .ref a,u=>u=Value.ref a
 | .ty n,u=>u=Value.type n
abbrev Vals:List V->Al->Prop:=Paired RelV
theorem Vals.length {xs:List V}{us:Al}(r:Vals xs us):xs.length=us.length:=fZ r
theorem Vals.get:∀ {xs:List V}{us:Al}{i:Nat}{x:V},Vals xs us->xs[i]?=some x->∃ u,us[i]?=some u/\RelV x u
 | _,_,_,_, .nil,e=>by simp at e
 | _,_,0,_, .cons r _,e=>by simp at e; subst e; exact⟨_,rfl,r⟩
 | _,_,i+1,x, .cons _ t,e=>by
  obtain⟨u,h1,h2⟩:=Vals.get (i:=i) (x:=x) t (by simpa using e);exact⟨u,by simpa using h1,h2⟩
theorem Vals.set {x:V}{u:Value}(r:RelV x u):∀ {xs:List V}{us:Al}(i:Nat),Vals xs us->Vals (xs.set i x) (us.set i u)
 | _,_,_, .nil=> .nil
 | _,_,0, .cons _ t=> .cons r t
 | _,_,i+1, .cons q t=> .cons q (Vals.set r i t)
theorem Vals.append:∀ {xs ys:List V}{us ws:Al},Vals xs us->Vals ys ws->Vals (xs++ys) (us++ws)
 | _,_,_,_, .nil,s=>s
 | _,_,_,_, .cons r t,s=> .cons r (Vals.append t s)
theorem Vals.take:∀ {xs:List V}{us:Al}(n:Nat),Vals xs us->Vals (xs.take n) (us.take n)
 | _,_,0,_=> .nil
 | _,_,_+1, .nil=> .nil
 | _,_,n+1, .cons r t=> .cons r (Vals.take n t)
theorem Vals.drop:∀ {xs:List V}{us:Al}(n:Nat),Vals xs us->Vals (xs.drop n) (us.drop n)
 | _,_,0,r=>r
 | _,_,_+1, .nil=> .nil
 | _,_,n+1, .cons _ t=>Vals.drop n t
def RelO:Option V->Ao->Prop
 | some v,some u=>RelV v u
 | none,none=>True
 | _,_=>False
def KV {κ:Type} :List (κ×V)->List (κ×Value)->Prop:=Paired fun (p:κ×V) (q:κ×Value)=>p.1=q.1/\RelV p.2 q.2
def kV:Key->V
 | .inl i=> .int i
 | .inr x=> .str x
def TupO (h:Heap)(a:Addr)(items:An):Prop:=∃ n,h.get? a=some { cls:= .type "tuple",data:= .seq items n}
theorem TupO.isTup {h:Heap}{a:Addr}{items:An}(x:TupO h a items):IsTup h a items:=let ⟨n,e⟩:=x; ⟨_,e,rfl,n,rfl⟩
theorem TupO.new (h:Heap)(items:An):TupO (h.push { cls:= .type "tuple",data:= .seq items}) h.objs.size items:=⟨0,aC _ rfl⟩
inductive HO where
  | lst (xs:List V)
  | tup (xs:List V)
  | dK (kvs:List (Key×V)) | dT (kvs:List (List Key×V))
  | set (S:Int->Bool) (n:Nat)
  | ins (C dx:Addr) (fs:List (Str×V))
  | own (x:Addr)
  | xd (fs:List (Str×V))
  | met (f x:Addr)
  | rng (lo hi:Int)
  | frz (o:Obj) (u:HO)
  | tbl (ps:An)
  | ext (φ:Heap->Prop)
abbrev Hp:=Addr->Option HO
def upd (H:Hp)(a:Addr)(o:HO):Hp:=fun b=>if b=a then some o else H b
theorem j5 {H:Hp}{a:Addr}{o:HO} :upd H a o a=some o:=by unfold upd; rw[ay rfl]
theorem j9 {H:Hp}{a b:Addr}{o:HO}(h:b≠a):upd H a o b=H b:=by unfold upd; rw[aw h]
theorem ne_of {H:Hp}{a b:Addr}{o u:HO}(h:H a=some o)(h':H b=some u)(d:o≠u):a≠b:=by
 intro e; subst e; rw[h] at h'; exact d (bw h')
theorem jA {H:Hp}{a b:Addr}{o:HO}(h:H a=some o)(h':H b=none):a≠b:=by
 intro e; subst e; rw[h] at h'; cases h'
section
variable (P:Program)(w:World)
def ObjOk (H:Hp)(h:Heap)(a:Addr):HO->Prop
 | .lst xs=>xs.length<=sizeLine/\∃ (its:Al) (n:Nat),Vals xs its/\h.get? a=some { cls:= .type "list",data:= .seq its.toArray n}
 | .tup xs=>xs.length<=sizeLine/\∃ its:Al,Vals xs its/\TupO h a its.toArray
 | .dK kvs=>kvs.length<=sizeLine/\(a==sysModules)=false/\∃ vs,KV kvs vs/\h.DictOf (kU P w) a vs
 | .dT kvs=>kvs.length<=sizeLine/\(a==sysModules)=false/\∃ xs:List (List Key×Addr×Value),
   Paired (fun (p:List Key×V) (q:List Key×Addr×Value)=>p.1=q.1/\H q.2.1=some (.tup (p.1.map kV))/\RelV p.2 q.2.2) kvs xs/\
   ∃ o es ep,h.get? a=some o/\o.ExactDict/\o.data= .dict es ep/\es.toList=xs.map (entryOfKey (tupleKind (kU P w)))/\(xs.map (·.1)).Nodup
 | .set S n=>h.SetOf (intKind P w) a S n
 | .ins C dx fs=>H dx=some (.own a)/\fs.length<=1000/\dx≠a/\h.get? a=some (instObj C dx)/\
   ∃ mA,h.Ns1 dx mA/\(∀ f,RelO (fs.lookup f) (mA f))/\PySem.Within mA (fs.map (·.1))
 | .own _=>∃ o,h.get? a=some o
 | .xd fs=>∃ mA,h.Ns1 a mA/\∀ f,RelO (fs.lookup f) (mA f)
 | .rng lo hi=>∃ t u v,h.get? a=some { cls:= .type "range",data:= .fields #[.int lo t, .int hi u, .int 1 v]}
 | .frz o u=>h.get? a=some o/\ObjOk H h a u
 | .tbl ps=>h.get? a=some { cls:= .none,data:= .fields ps}
 | .met f x=>h.get? a=some (methodObj (.ref f) (.ref x))
 | .ext φ=>φ h/\(∃ o,h.get? a=some o)/\∀ h1 h2:Heap,φ h1->(∀ o,h1.get? a=some o->h2.get? a=some o)->φ h2
def HOk (H:Hp)(h:Heap):Prop:=∀ a o,H a=some o->ObjOk P w H h a o
end
variable {P:Program}{w:World}{H H':Hp}{h h':Heap}{a:Addr}
section
variable {o:HO}
theorem ObjOk.lt (x:ObjOk P w H h a o):a<h.objs.size:=by
 cases o with
 | lst xs=>obtain⟨_,_,_,_,e⟩:=x; exact aG e
 | tup xs=>obtain⟨_,_,_,_,e⟩:=x; exact aG e
 | dK kvs=>obtain⟨_,_,_,_,o,_,_,e,_⟩:=x; exact aG e
 | dT kvs=>obtain⟨_,_,_,_,o,_,_,e,_⟩:=x; exact aG e
 | set S n=>obtain⟨o,_,_,_,e,_⟩:=x; exact aG e
 | ins C dx fs=>obtain⟨_,_,_,e,_⟩:=x; exact aG e
 | own y=>obtain⟨_,e⟩:=x; exact aG e
 | xd fs=>obtain⟨_,⟨_,_,_,e,_⟩,_⟩:=x; exact aG e
 | rng lo hi=>obtain⟨_,_,_,e⟩:=x; exact aG e
 | frz ob u=>obtain⟨e,_⟩:=x; exact aG e
 | tbl ps=>exact aG (show h.get? a=some _ from x)
 | met f y=>exact aG (show h.get? a=some _ from x)
 | ext φ=>obtain⟨_,⟨_,e⟩,_⟩:=x; exact aG e
theorem Paired.mapP {α β:Type}{F G:α->β->Prop} :∀ {l₁:List α}{l₂:List β},Paired F l₁ l₂->(∀ a b,F a b->G a b)->Paired G l₁ l₂
 | _,_, .nil,_=> .nil
 | _,_, .cons r t,f=> .cons (f _ _ r) (Paired.mapP t f)
theorem ObjOk.stay (x:ObjOk P w H h a o)(k:∀ b u,(b=a\/H b=some (.own a))->h.get? b=some u->h'.get? b=some u)
  (ho:∀ b,H b=some (.own a)->H' b=some (.own a)) (ht:∀ b xs,H b=some (.tup xs)->H' b=some (.tup xs)):ObjOk P w H' h' a o:=by
 induction o with
 | lst xs=>obtain⟨z,its,n,r,e⟩:=x; exact⟨z,its,n,r,k _ _ (.inl rfl) e⟩
 | tup xs=>obtain⟨z,its,r,n,e⟩:=x; exact⟨z,its,r,n,k _ _ (.inl rfl) e⟩
 | dK kvs=>obtain⟨z,y,vs,r,ob,es,ep,e,c⟩:=x; exact⟨z,y,vs,r,ob,es,ep,k _ _ (.inl rfl) e,c⟩
 | dT kvs=>
  obtain⟨z,y,xs,r,ob,es,ep,e,c⟩:=x;exact⟨z,y,xs,Paired.mapP r fun p q z=>⟨z.1,ht _ _ z.2.1,z.2.2⟩,ob,es,ep,k _ _ (.inl rfl) e,c⟩
 | set S n=>obtain⟨ob,es,ep,t,e,c⟩:=x; exact⟨ob,es,ep,t,k _ _ (.inl rfl) e,c⟩
 | ins C dx fs=>
  obtain⟨d,z,ne,e,mA,⟨od,es,ep,e2,c⟩,r⟩:=x;exact⟨ho _ d,z,ne,k _ _ (.inl rfl) e,mA,⟨od,es,ep,k _ _ (.inr d) e2,c⟩,r⟩
 | own y=>obtain⟨ob,e⟩:=x; exact⟨ob,k _ _ (.inl rfl) e⟩
 | xd fs=>obtain⟨mA,⟨od,es,ep,e,c⟩,r⟩:=x; exact⟨mA,⟨od,es,ep,k _ _ (.inl rfl) e,c⟩,r⟩
 | rng lo hi=>obtain⟨t,u,v,e⟩:=x; exact⟨t,u,v,k _ _ (.inl rfl) e⟩
 | frz ob u ih=>obtain⟨e,q⟩:=x; exact⟨k _ _ (.inl rfl) e,ih q⟩
 | tbl ps=>
  have e:h.get? a=some { cls:= .none,data:= .fields ps} :=x;show h'.get? a=some { cls:= .none,data:= .fields ps};exact k a _ (.inl rfl) e
 | met f y=>
  have e:h.get? a=some (methodObj (.ref f) (.ref y)):=x;show h'.get? a=some (methodObj (.ref f) (.ref y));exact k a _ (.inl rfl) e
 | ext φ=>obtain⟨p,⟨o,e⟩,st⟩:=x; exact⟨st _ _ p fun o q=>k _ _ (.inl rfl) q,⟨o,k _ _ (.inl rfl) e⟩,st⟩
theorem HOk.lt (x:HOk P w H h)(e:H a=some o):a<h.objs.size:=(x a o e).lt
theorem HOk.fresh (x:HOk P w H h)(e:h.objs.size<=a):H a=none:=by
 cases q:H a with
 | none=>rfl
 | some u=>exact absurd (aX (x.lt q) e) (db _)
theorem HOk.kept (x:HOk P w H h)(k:∀ b u,h.get? b=some u->h'.get? b=some u):HOk P w H h':=fun a o e=>
 (x a o e).stay (fun b u _ q=>k b u q) (fun _ q=>q) fun _ _ q=>q
theorem HOk.laid (x:HOk P w H h)(k:∀ b u,h.get? b=some u->h'.get? b=some u)(hp:h.objs.size<=a)(new:ObjOk P w (upd H a o) h' a o):HOk P w (upd H a o) h':=fun b u e=>by
 have hn:=x.fresh hp;by_cases hb:b=a
 ·subst hb; rw[j5] at e; cases e; exact new
 ·rw[j9 hb] at e;exact(x b u e).stay (fun c v _ q=>k c v q) (fun c q=>by rw[j9 (jA q hn)]; exact q) fun c xs q=>by rw[j9 (jA q hn)]; exact q
end
def Rd (H:Hp)(a:Addr)(u:HO):Prop:=H a=some u\/∃ o,H a=some (.frz o u)
theorem Rd.ok {P:Program}{w:World}{H:Hp}{h:Heap}{a:Addr}{u:HO}(r:Rd H a u)(x:HOk P w H h):ObjOk P w H h a u:=by
 rcases r with r | ⟨o,r⟩
 ·exact x a u r
 ·obtain⟨_,q⟩:=x a _ r;exact q
def Mut:Option HO->Prop
 | some (.lst _)=>True
 | some (.dK _)=>True
 | some (.dT _)=>True
 | some (.set _ _)=>True
 | some (.ins _ _ _)=>True
 | some (.ext _)=>True
 | _=>False
variable {x:Addr}
section
variable {e:Addr}{o':HO}
theorem HOk.write (ok:HOk P w H h)(mu:Mut (H x))(he:e=x\/H e=some (.own x))(k:∀ b u,b≠e->h.get? b=some u->h'.get? b=some u)(heo:∃ u,h'.get? e=some u)
  (new:ObjOk P w (upd H x o') h' x o'):HOk P w (upd H x o') h':=fun b u q=>by
 have nown:∀ c y,H c=some (.own y)->c≠x:=fun c y r z=>by subst z; rw[r] at mu; exact mu
 have ntup:∀ c xs,H c=some (.tup xs)->c≠x:=fun c xs r z=>by subst z; rw[r] at mu; exact mu
 by_cases hb:b=x
 ·subst hb; rw[j5] at q; cases q; exact new
 ·rw[j9 hb] at q;by_cases hbe:b=e
  ·have q':H b=some (.own x):=by
    rcases he with z | z
    ·exact absurd (hbe.trans z) hb
    ·rw[hbe]; exact z
   rw[q] at q'; cases q';obtain⟨v,hv⟩:=heo;exact⟨v,by rw[hbe]; exact hv⟩
  ·refine(ok b u q).stay (fun c v hc r=>k c v ?_ r) (fun c r=>by rw[j9 (nown c b r)]; exact r) fun c xs r=>by rw[j9 (ntup c xs r)]; exact r
   rcases hc with rfl | hc
   ·exact hbe
   ·rintro rfl;rcases he with z | z
    ·exact nown c b hc z
    ·rw[hc] at z; cases z; exact hb rfl
end
structure Un (fs ex:List Addr)(H H':Hp)(h h':Heap):Prop where
 keep:∀ b o,h.get? b=some o->H b=none->b∉fs->b∉ex->h'.get? b=some o
 slot:∀ b o,h.get? b=some o->H b=none->b∈fs->b∉ex->∃ sl,h'.get? b=some { o with slots:=sl}
 free:∀ b o,h.get? b=some o->H b=none->b∉ex->H' b=none
 there:∀ b o,h.get? b=some o->b∉ex->∃ o',h'.get? b=some o'
 tups:∀ b xs,H b=some (.tup xs)->H' b=some (.tup xs)
 frzs:∀ b o u,H b=some (.frz o u)->H' b=some (.frz o u)
 tbls:∀ b ps,H b=some (.tbl ps)->∃ more,H' b=some (.tbl (ps++more))
section
variable {fs fs' ex ex':List Addr}{H1 H2:Hp}{h1 h2:Heap}{e:Addr}{o:HO}
theorem Un.any (u:Un fs ex H H1 h h1){b:Addr}{ob:Obj}(q:h.get? b=some ob)(n:H b=none)(hx:b∉ex):∃ sl,h1.get? b=some { ob with slots:=sl} :=by
 by_cases hb:b∈fs
 ·exact u.slot b ob q n hb hx
 ·exact⟨ob.slots,u.keep b ob q n hb hx⟩
theorem Un.trans (a:Un fs ex H H1 h h1)(b:Un fs ex H1 H2 h1 h2):Un fs ex H H2 h h2 where
 keep:=fun c ob q n hc hx=>b.keep c ob (a.keep c ob q n hc hx) (a.free c ob q n hx) hc hx
 slot:=fun c ob q n hc hx=>by
  obtain⟨sl,e1⟩:=a.slot c ob q n hc hx;obtain⟨sl',e2⟩:=b.slot c _ e1 (a.free c ob q n hx) hc hx;exact⟨sl',e2⟩
 free:=fun c ob q n hx=>by
  obtain⟨o',e1⟩:=a.there c ob q hx;exact b.free c o' e1 (a.free c ob q n hx) hx
 there:=fun c ob q hx=>by
  obtain⟨o',e1⟩:=a.there c ob q hx;exact b.there c o' e1 hx
 tups:=fun c xs q=>b.tups c xs (a.tups c xs q)
 frzs:=fun c ob xs q=>b.frzs c ob xs (a.frzs c ob xs q)
 tbls:=fun c ps q=>by
  obtain⟨m1,e1⟩:=a.tbls c ps q;obtain⟨m2,e2⟩:=b.tbls c _ e1;exact⟨m1++m2,by rw[e2,lu]⟩
theorem Un.kept (k:∀ b u,h.get? b=some u->h'.get? b=some u):Un fs ex H H h h':=
 ⟨fun b ob q _ _ _=>k b ob q,fun b ob q _ _ _=>⟨ob.slots,k b ob q⟩,fun _ _ _ n _=>n,fun b ob q _=>⟨ob,k b ob q⟩,fun _ _ q=>q,fun _ _ _ q=>q,fun _ ps q=>⟨#[],by rw[q]; simp⟩⟩
theorem Un.refl:Un fs ex H H h h:=Un.kept fun _ _ q=>q
theorem Un.laid (k:∀ b u,h.get? b=some u->h'.get? b=some u)(hp:h.objs.size<=a)(hn:H a=none):Un fs ex H (upd H a o) h h' where
 keep:=fun b u q _ _ _=>k b u q
 slot:=fun b u q _ _ _=>⟨u.slots,k b u q⟩
 free:=fun b u q n _=>by rw[j9 (aW (aX (aG q) hp))]; exact n
 there:=fun b u q _=>⟨u,k b u q⟩
 tups:=fun b xs q=>by rw[j9 (jA q hn)]; exact q
 frzs:=fun b u xs q=>by rw[j9 (jA q hn)]; exact q
 tbls:=fun b ps q=>⟨#[],by rw[j9 (jA q hn),q]; simp⟩
theorem Un.write (mu:Mut (H x))(he:e=x\/H e=some (.own x))(k:∀ b u,b≠e->h.get? b=some u->h'.get? b=some u)(heo:∃ u,h'.get? e=some u):Un fs ex H (upd H x o) h h':=by
 have hx:∀ b,H b=none->b≠x:=fun b n z=>by subst z; rw[n] at mu; exact mu
 have hb:∀ b,H b=none->b≠e:=fun b n z=>by
  subst z;rcases he with r | r
  ·exact hx b n r
  ·rw[n] at r; cases r
 have hm:∀ b u,H b=some u->¬ Mut (some u)->b≠x:=fun b u q nm z=>by subst z; rw[q] at mu; exact nm mu
 refine⟨fun b u q n _ _=>k b u (hb b n) q,fun b u q n _ _=>⟨u.slots,k b u (hb b n) q⟩,fun b u q n _=>by rw[j9 (hx b n)]; exact n,fun b u q _=>?_,
  fun b xs q=>by rw[j9 (hm b _ q fun z=>z)]; exact q,fun b u xs q=>by rw[j9 (hm b _ q fun z=>z)]; exact q,fun b ps q=>⟨#[],by rw[j9 (hm b _ q fun z=>z),q]; simp⟩⟩
 by_cases hbe:b=e
 ·subst hbe; exact heo
 ·exact⟨u,k b u hbe q⟩
end
def trk (h:Heap)(H:Hp):List Addr:=(List.range h.objs.size).filter fun a=>(H a).isSome
def hidT (h:Heap)(H:Hp):Heap:=PySem.W.hideAll h (trk h H)
theorem jPH (h:Heap)(H:Hp):(hidT h H).objs.size=h.objs.size:=PySem.W.hideAll_size _ _
theorem jRW {h:Heap}{H:Hp}{b:Addr}{o:Obj}(e:h.get? b=some o)(n:H b=none):(hidT h H).get? b=some o:=
 PySem.W.hideAll_get _ e fun hm=>by
  have q:(H b).isSome=true:=(ba.mp hm).2;rw[n] at q; simp at q
theorem jUW {h:Heap}{H:Hp}{b:Addr}{o:Obj}(e:(hidT h H).get? b=some o):h.get? b=some o/\H b=none:=by
 have e':h.get? b=some o:=PySem.W.of_hideAll (trk h H) e;refine⟨e',?_⟩;cases q:H b with
 | none=>rfl
 | some x=>
  have hm:b∈trk h H:=ba.mpr ⟨bF.mpr (aG e'),by simp [q]⟩;have z:(hidT h H).get? b=none:=PySem.W.hideAll_none (trk h H) hm;rw[z] at e; cases e
structure Mod (K:W.Frag)(mg:Ak)(Aq:Heap):Prop where
 kin:K.In Aq
 glob:Aq.Ns mainGlobals mg
 blt:∃ mb,Aq.Ns builtinsNs mb/\∀ x:Str,x≠ "__name__" ->mb x=bootBuiltins x
 nolimit:Aq.NoLimit
structure Cx where
 prog:Program
 w:World
 K:W.Frag
 mg:Ak
 Aq:Heap
 A:Around
 N:Am
 s₀:Shared
 H₀:Hp
 env:Env
 Ap:List Env
 stack:List Env
 ex:List Addr
 fn:Str->Bool
 calm:Bool
 pn:Ai
 xe:Ah
def frs (l:List Env):List Addr:=l.filterMap (·.frame)
abbrev Cx.fs (X:Cx):List Addr:=frs X.Ap
def Vis (sc:Scope)(x:Str):Prop:=sc.names.lookup x=some .local\/sc.names.lookup x=some .cell\/sc.names.lookup x=some .free
def Loc (sc:Scope)(x:Str):Prop:=sc.names.lookup x=some .local\/sc.names.lookup x=some .cell
def Look (env:Env)(h:Heap)(m:Ak)(x:Str)(u:Value):Prop:=
 (env.kindOf x=some .local/\m x=some u)\/((env.kindOf x=some .cell\/env.kindOf x=some .free)/\∃ c,env.cells.lookup x=some c/\h.IsCell c (some u))
structure Cx.Ok (X:Cx):Prop where
 mod:Mod X.K X.mg X.Aq
 kind:X.env.scope.kind= .function
 glob:X.env.globals=mainGlobals
 blt:X.env.builtins=builtinsNs
 above:X.s₀.heap.objs.size<=X.env.locals
 inj:∀ x y c,X.env.cells.lookup x=some c->X.env.cells.lookup y=some c->x=y
 has:∀ x,(X.env.kindOf x=some .cell\/X.env.kindOf x=some .free)->∃ c,X.env.cells.lookup x=some c
 cab:∀ x c,X.fn x=true->X.env.cells.lookup x=some c->X.s₀.heap.objs.size<=c
 hd:X.calm=true->X.A.handled=none
 frames:X.A.frames=some X.stack
 stk:X.stack=X.Ap\/(X.stack=X.env::X.Ap/\X.env.frame=some X.env.locals)
 exf:∀ b∈X.ex,b≠X.env.locals/\∀ x c,X.env.cells.lookup x=some c->c≠b
 bs:∀ b o,X.Aq.get? b=some o->X.s₀.heap.get? b=some o/\X.H₀ b=none
 bsz:X.Aq.objs.size<=X.s₀.heap.objs.size
 noex:∀ b o,X.Aq.get? b=some o->b∉X.ex
 exfs:∀ b∈X.ex,b∉X.fs
 funs:X.s₀.heap.FunFrames X.Aq X.Ap
 frf:∀ b∈X.fs,X.H₀ b=none
structure Inv (X:Cx)(lK:Ai)(σ:List (Option V))(H:Hp)(s:Shared):Prop where
 ok:X.Ok
 os:s.os=X.s₀.os
 bare:AllBare s.gens
 Aq:Un X.fs X.ex X.H₀ H X.s₀.heap s.heap
 loc:∃ m,s.heap.Ns X.env.locals m/\∀ (i:Nat) (x:Str) (v:V),X.N[i]?=some x->σ[i]?=some (some v)->Vis X.env.scope x->∃ u,RelV v u/\Look X.env s.heap m x u
 cell:∀ x c,X.env.cells.lookup x=some c->∃ v,s.heap.IsCell c v
 free:H X.env.locals=none
 freeC:∀ x c,X.env.cells.lookup x=some c->H c=none
 pin:∀ p∈X.pn++lK,s.heap.get? p.1=some p.2/\H p.1=none/\p.1≠X.env.locals/\p.1∉X.fs/\∀ v,p.2.data≠ .cell v
 hok:HOk X.prog X.w H s.heap
 len:σ.length=X.N.length
variable {X:Cx}{lK:Ai}{s:Shared}
section
variable {σ:List (Option V)}
theorem Cx.Ok.nofr (ok:X.Ok){b:Addr}{o:Obj}(e:X.Aq.get? b=some o):b∉X.fs:=fun hb=>by
 have:=(ok.funs.mem hb).1;rw[e] at this; cases this
theorem Inv.bs (I:Inv X lK σ H s):∀ b o,X.Aq.get? b=some o->s.heap.get? b=some o/\H b=none:=fun b o e=>
 ⟨I.Aq.keep b o (I.ok.bs b o e).1 (I.ok.bs b o e).2 (I.ok.nofr e) (I.ok.noex b o e),I.Aq.free b o (I.ok.bs b o e).1 (I.ok.bs b o e).2 (I.ok.noex b o e)⟩
theorem Inv.bk (I:Inv X lK σ H s):∀ b o,X.Aq.get? b=some o->s.heap.get? b=some o:=fun b o e=>(I.bs b o e).1
theorem Inv.mod (I:Inv X lK σ H s):Mod X.K X.mg X.Aq:=I.ok.mod
theorem Inv.kIn (I:Inv X lK σ H s):X.K.In s.heap:=I.ok.mod.kin.keeps I.bk
theorem Inv.lt (I:Inv X lK σ H s):X.env.locals<s.heap.objs.size:=let ⟨_,hn,_⟩:=I.loc; hn.lt
theorem Inv.sz (I:Inv X lK σ H s):X.s₀.heap.objs.size<=s.heap.objs.size:=bi I.ok.above (de I.lt)
theorem Inv.nofs (I:Inv X lK σ H s){a:Addr}(h:s.heap.objs.size<=a):a∉X.fs:=fun hb=>by
 obtain⟨_,o,ho,_⟩:=I.ok.funs.mem hb;exact absurd (aX (aG ho) (bi I.sz h)) (db _)
theorem Inv.cne (I:Inv X lK σ H s):∀ x c,X.env.cells.lookup x=some c->c≠X.env.locals:=fun x c e z=>by
 obtain⟨v,o,ho,hd⟩:=I.cell x c e;obtain⟨m,⟨o',es,ep,ho',hd',_⟩,_⟩:=I.loc;rw[z,ho'] at ho; cases ho; rw[hd'] at hd; cases hd
theorem Inv.funs (I:Inv X lK σ H s):s.heap.FunFrames X.Aq X.Ap:=by
 have all:∀ (l:List Env),(∀ b∈frs l,b∈X.fs)->X.s₀.heap.FunFrames X.Aq l->s.heap.FunFrames X.Aq l:=by
  intro l
  induction l with
  | nil=>intro _ _; trivial
  | cons env r ih=>
   intro hs hl;obtain⟨hk,⟨L,o,hf,hn,ho,hd⟩,hr⟩:=hl;have hL:L∈X.fs:=hs L (by unfold frs; rw[eQ,hf]; exact ai);obtain⟨sl,e⟩:=I.Aq.slot L o ho (I.ok.frf L hL) hL fun z=>I.ok.exfs L z hL;exact⟨hk,⟨L,_,hf,hn,e,hd⟩,ih (fun b hb=>hs b (by unfold frs; rw[eQ,hf]; exact ag _ hb)) hr⟩
 exact all X.Ap (fun _ hb=>hb) I.ok.funs
theorem Inv.stack (I:Inv X lK σ H s):s.heap.FunFrames X.Aq X.stack:=by
 rcases I.ok.stk with e | ⟨e,hf⟩
 ·rw[e]; exact I.funs
 ·rw[e];obtain⟨m,hn,_⟩:=I.loc;refine .cons (by rw[I.ok.kind]; decide) hf hn ?_ I.funs;exact Heap.get?_none_of_le (bi I.ok.bsz I.ok.above)
theorem Inv.stkSub (I:Inv X lK σ H s):∀ b∈frs X.stack,b∈X.env.locals::X.fs:=fun b hb=>by
 rcases I.ok.stk with e | ⟨e,hf⟩
 ·rw[e] at hb; exact ag _ hb
 ·rw[e] at hb;unfold frs at hb;rw[eQ,hf] at hb;exact hb
theorem Inv.stkFree (I:Inv X lK σ H s):∀ b∈frs X.stack,H b=none:=fun b hb=>by
 rcases aE.mp (I.stkSub b hb) with e | hb
 ·rw[e]; exact I.free
 ·obtain⟨_,o,ho,_⟩:=I.ok.funs.mem hb;exact I.Aq.free b o ho (I.ok.frf b hb) fun z=>I.ok.exfs b z hb
theorem Inv.step {g':Array GenState}{t':Nat}{d':Drawn}{ch:List Addr}(I:Inv X lK σ H s)
  (hch:∀ b∈ch,(b∈X.ex\/X.s₀.heap.objs.size<=b)/\b≠X.env.locals/\(∀ x c,X.env.cells.lookup x=some c->c≠b)/\∀ p∈X.pn++lK,p.1≠b)
  (keep:∀ b o,b≠X.env.locals->b∉X.fs->b∉ch->s.heap.get? b=some o->H b=none->h'.get? b=some o)
  (slot:∀ b o,b≠X.env.locals->b∈X.fs->b∉ch->s.heap.get? b=some o->H b=none->∃ sl,h'.get? b=some { o with slots:=sl}) (free:∀ b o,b∉ch->s.heap.get? b=some o->H b=none->H' b=none)
  (there:∀ b o,b∉ch->s.heap.get? b=some o->∃ o',h'.get? b=some o')
  (tups:∀ b xs,H b=some (.tup xs)->H' b=some (.tup xs)) (frzs:∀ b o u,H b=some (.frz o u)->H' b=some (.frz o u)) (tbls:∀ b ps,H b=some (.tbl ps)->∃ more,H' b=some (.tbl (ps++more)))
  (ns:∀ m,s.heap.Ns X.env.locals m->h'.Ns X.env.locals m) (hok:HOk X.prog X.w H' h') (hg:AllBare g'):
  Inv X lK σ H' { s with heap:=h',gens:=g',drawn:=d',toks:=t'} :=by
 have neL:∀ b o,X.s₀.heap.get? b=some o->b≠X.env.locals:=fun b o e=>aW (aX (aG e) I.ok.above);have neC:∀ b o,X.s₀.heap.get? b=some o->b∉X.ex->b∉ch:=fun b o e hx hb=>by
  rcases (hch b hb).1 with z | z
  ·exact hx z
  ·exact absurd (aX (aG e) z) (db _)
 have cellK:∀ x c,X.env.cells.lookup x=some c->∀ v,s.heap.IsCell c v->h'.IsCell c v:=fun x c e v ⟨o,ho,hd⟩=>by
  have nch:c∉ch:=fun z=>(hch c z).2.2.1 x c e rfl;by_cases hc:c∈X.fs
  ·obtain⟨sl,q⟩:=slot c o (I.cne x c e) hc nch ho (I.freeC x c e);exact⟨_,q,hd⟩
  ·exact⟨o,keep c o (I.cne x c e) hc nch ho (I.freeC x c e),hd⟩
 refine⟨I.ok,I.os,hg,⟨fun b o e n hb hx=>?_,fun b o e n hb hx=>?_,fun b o e n hx=>?_,fun b o e hx=>?_,fun b xs e=>tups b xs (I.Aq.tups b xs e),fun b o xs e=>frzs b o xs (I.Aq.frzs b o xs e),fun b ps e=>?_⟩,?_,fun x c e=>?_,?_,fun x c e=>?_,fun p hp=>?_,hok,I.len⟩
 ·exact keep b o (neL b o e) hb (neC b o e hx) (I.Aq.keep b o e n hb hx) (I.Aq.free b o e n hx)
 ·obtain⟨sl,e1⟩:=I.Aq.slot b o e n hb hx;obtain⟨sl',e2⟩:=slot b _ (neL b o e) hb (neC b o e hx) e1 (I.Aq.free b o e n hx);exact⟨sl',e2⟩
 ·obtain⟨o',e1⟩:=I.Aq.there b o e hx;exact free b o' (neC b o e hx) e1 (I.Aq.free b o e n hx)
 ·obtain⟨o',e1⟩:=I.Aq.there b o e hx;exact there b o' (neC b o e hx) e1
 ·obtain⟨m1,e1⟩:=I.Aq.tbls b ps e;obtain⟨m2,e2⟩:=tbls b _ e1;exact⟨m1++m2,by rw[e2,lu]⟩
 ·obtain⟨m,hn,hl⟩:=I.loc;refine⟨m,ns m hn,fun i x v e1 e2 e3=>?_⟩;obtain⟨u,r,l⟩:=hl i x v e1 e2 e3;refine⟨u,r,?_⟩;rcases l with l | ⟨k,c,e,z⟩
  ·exact .inl l
  ·exact .inr ⟨k,c,e,cellK x c e _ z⟩
 ·obtain⟨v,z⟩:=I.cell x c e;exact⟨v,cellK x c e v z⟩
 ·obtain⟨m,⟨o,_,_,ho,_⟩,_⟩:=I.loc;exact free _ o (fun z=>(hch _ z).2.1 rfl) ho I.free
 ·obtain⟨v,o,ho,hd⟩:=I.cell x c e;exact free c o (fun z=>(hch c z).2.2.1 x c e rfl) ho (I.freeC x c e)
 ·obtain⟨e,n,ne,nf,d⟩:=I.pin p hp;have nch:p.1∉ch:=fun z=>(hch p.1 z).2.2.2 p hp rfl;exact⟨keep p.1 p.2 ne nf nch e n,free p.1 p.2 nch e n,ne,nf,d⟩
theorem Inv.un {t':Nat}(I:Inv X lK σ H s)(u:Un X.fs [] H H' s.heap h')(hok:HOk X.prog X.w H' h'):Inv X lK σ H' { s with heap:=h',toks:=t'} :=by
 obtain⟨m,⟨o,es,ep,ho,r⟩,_⟩:=id I.loc;obtain⟨sl,hL⟩:=u.any ho I.free Ad;exact I.step (g':=s.gens) (d':=s.drawn) (ch:=[]) (fun _ z=>nomatch z) (fun b o _ hb _ e n=>u.keep b o e n hb Ad) (fun b o _ hb _ e n=>u.slot b o e n hb Ad) (fun b o _ e n=>u.free b o e n Ad) (fun b o _ e=>u.there b o e Ad) u.tups u.frzs u.tbls (fun m' hm=>by
  obtain⟨o',es',ep',ho',r'⟩:=hm;rw[ho] at ho'; cases ho';exact⟨_,es',ep',hL,r'⟩) hok I.bare
theorem Inv.call {g':Array GenState}{t':Nat}{d':Drawn}{ch:List Addr}(I:Inv X lK σ H s)(u:Un (frs X.stack) ch H H' s.heap h')(hok:HOk X.prog X.w H' h')(hg:AllBare g')
  (hch:∀ b∈ch,(b∈X.ex\/X.s₀.heap.objs.size<=b)/\b≠X.env.locals/\(∀ x c,X.env.cells.lookup x=some c->c≠b)/\∀ p∈X.pn++lK,p.1≠b):
  Inv X lK σ H' { s with heap:=h',gens:=g',drawn:=d',toks:=t'} :=by
 obtain⟨m,⟨o,es,ep,ho,r⟩,_⟩:=id I.loc;obtain⟨sl,hL⟩:=u.any ho I.free fun z=>(hch _ z).2.1 rfl;exact I.step (ch:=ch) hch (fun b o hL hb hc e n=>u.keep b o e n (fun z=>(aE.mp (I.stkSub b z)).elim hL hb) hc) (fun b o _ _ hc e n=>u.any e n hc) (fun b o hc e n=>u.free b o e n hc) (fun b o hc e=>u.there b o e hc) u.tups u.frzs u.tbls (fun m' hm=>by
  obtain⟨o',es',ep',ho',r'⟩:=hm;rw[ho] at ho'; cases ho';exact⟨_,es',ep',hL,r'⟩) hok hg
theorem Inv.turned {t':Nat}{it:Addr}(I:Inv X lK σ H s)(k:∀ b o,b≠it->s.heap.get? b=some o->h'.get? b=some o)(hn:H it=none)(hL:it≠X.env.locals)
  (h1:it∈X.ex\/X.s₀.heap.objs.size<=it) (h2:∀ x c,X.env.cells.lookup x=some c->c≠it) (h3:∀ p∈X.pn++lK,p.1≠it):Inv X lK σ H { s with heap:=h',toks:=t'} :=by
 have nit:∀ b u,H b=some u->b≠it:=fun b u e z=>by rw[z,hn] at e; cases e
 refine I.step (g':=s.gens) (d':=s.drawn) (ch:=[it]) (fun b hb=>?_) (fun b o _ _ hc e _=>k b o (fun z=>hc (by simp [z])) e) (fun b o _ _ hc e _=>⟨o.slots,k b o (fun z=>hc (by simp [z])) e⟩) (fun _ _ _ _ n=>n)
  (fun b o hc e=>⟨o,k b o (fun z=>hc (by simp [z])) e⟩) (fun _ _ e=>e) (fun _ _ _ e=>e) (fun b ps e=>⟨#[],by rw[e]; simp⟩) (fun m hm=>?_) (fun b u e=>?_) I.bare
 ·have e:b=it:=by simpa using hb
  subst e;exact⟨h1,hL,h2,h3⟩
 ·obtain⟨o,es,ep,ho,r⟩:=hm;exact⟨o,es,ep,k _ o (eh hL) ho,r⟩
 ·refine(I.hok b u e).stay (fun c v hc q=>k c v ?_ q) (fun _ q=>q) fun _ _ q=>q;rcases hc with z | z
  ·rw[z]; exact nit b u e
  ·exact nit c _ z
theorem Inv.tok (I:Inv X lK σ H s)(t:Nat):Inv X lK σ H { s with toks:=t} :=I.un (h':=s.heap) (t':=t) Un.refl I.hok
theorem Inv.kept {t':Nat}(I:Inv X lK σ H s)(k:∀ b u,s.heap.get? b=some u->h'.get? b=some u):Inv X lK σ H { s with heap:=h',toks:=t'} :=I.un (Un.kept k) (I.hok.kept k)
theorem Inv.laid {a:Addr}{o:HO}{t':Nat}(I:Inv X lK σ H s)(k:∀ b u,s.heap.get? b=some u->h'.get? b=some u)(hp:s.heap.objs.size<=a)(new:ObjOk X.prog X.w (upd H a o) h' a o):
  Inv X lK σ (upd H a o) { s with heap:=h',toks:=t'} :=I.un (Un.laid k hp (I.hok.fresh hp)) (I.hok.laid k hp new)
theorem Inv.write {x e:Addr}{o:HO}{t':Nat}(I:Inv X lK σ H s)(mu:Mut (H x))(he:e=x\/H e=some (.own x))(k:∀ b u,b≠e->s.heap.get? b=some u->h'.get? b=some u)(heo:∃ u,h'.get? e=some u)
  (new:ObjOk X.prog X.w (upd H x o) h' x o):Inv X lK σ (upd H x o) { s with heap:=h',toks:=t'} :=I.un (Un.write mu he k heo) (I.hok.write mu he k heo new)
theorem Inv.pins_of {lK':Ai}(I:Inv X lK σ H s)(h:∀ p∈lK',s.heap.get? p.1=some p.2/\H p.1=none/\p.1≠X.env.locals/\p.1∉X.fs/\∀ v,p.2.data≠ .cell v):Inv X lK' σ H s:=
 ⟨I.ok,I.os,I.bare,I.Aq,I.loc,I.cell,I.free,I.freeC,fun p hp=>(aP.mp hp).elim (fun z=>I.pin p (aZ _ z)) (h p),I.hok,I.len⟩
theorem jKV {N:Am}(hN:N.Nodup){i j:Nat}{x:Str}(a:N[i]?=some x)(b:N[j]?=some x):i=j:=by
 obtain⟨h1,e1⟩:=ao.mp a;obtain⟨h2,e2⟩:=ao.mp b;exact(List.getElem_inj hN).mp (e1.trans e2.symm)
theorem jHD {M:Model}{A:Around}{E:Ah}{i:Nat}{x:Str}{v:V}{u:Value}{Q:Unit->Shared->Prop}(I:Inv X lK σ H s)(hN:X.N.Nodup)(hi:X.N[i]?=some x)(hx:Loc X.env.scope x)(r:RelV v u)
  (h:∀ s',Inv X lK (σ.set i (some v)) H s'->(∃ a,Heap.SameBut a s.heap s'.heap/\(a=X.env.locals\/X.env.cells.lookup x=some a))->Q () s') (hf:X.fn x=true\/X.env.scope.names.lookup x=some .local:=by first | exact .inl rfl | exact .inr rfl | assumption):wpAny M A (storeName X.env x u) Q E s:=by
 obtain⟨m,hn,hl⟩:=id I.loc;have hcls:(X.env.scope.kind== .class || (X.env.scope.kind== .module&&X.env.locals != X.env.globals))=false:=by rw[I.ok.kind]; rfl
 have hiσ:i<σ.length:=by rw[I.len]; exact(ao.mp hi).1
 have cne:=I.cne;have tracked:∀ {a:Addr}{h':Heap},(∃ o,s.heap.get? a=some o/\H a=none)->Heap.SameBut a s.heap h'->HOk X.prog X.w H h':=fun {a h'} ha hs b ob e=>by
  obtain⟨_,_,hfree⟩:=ha;refine(I.hok b ob e).stay (fun c w' hc q=>(hs.2 c ?_).trans q) (fun _ q=>q) fun _ _ q=>q;rintro rfl;rcases hc with rfl | hc
  ·rw[hfree] at e; cases e
  ·rw[hfree] at hc; cases hc
 rcases hx with hk | hk
 ·refine wpAny_storeName_local hk hn (fun h' hn' hs=>?_) hcls;obtain⟨oL,_,_,hoL,_⟩:=id hn;refine h _ ⟨I.ok,I.os,I.bare,⟨fun b o e n hb hx=>?_,fun b o e n hb hx=>?_,I.Aq.free,fun b o e hx=>?_,I.Aq.tups,I.Aq.frzs,I.Aq.tbls⟩,⟨_,hn',fun j y v' e1 e2 e3=>?_⟩,fun y c e=>?_,I.free,I.freeC,fun p hp=>?_,tracked ⟨oL,hoL,I.free⟩ hs,by simpa using I.len⟩ ⟨_,hs, .inl rfl⟩
  ·exact(hs.2 b (aW (aX (aG e) I.ok.above))).trans (I.Aq.keep b o e n hb hx)
  ·obtain⟨sl,e1⟩:=I.Aq.slot b o e n hb hx;exact⟨sl,(hs.2 b (aW (aX (aG e) I.ok.above))).trans e1⟩
  ·obtain⟨o',e1⟩:=I.Aq.there b o e hx;exact⟨o',(hs.2 b (aW (aX (aG e) I.ok.above))).trans e1⟩
  ·by_cases hj:j=i
   ·subst hj;rw[hi] at e1; cases e1;rw[jl hiσ] at e2;cases e2;exact⟨u,r, .inl ⟨hk,Ad⟩⟩
   ·rw[kn (eh hj)] at e2;obtain⟨u',r',q⟩:=hl j y v' e1 e2 e3;refine⟨u',r',?_⟩;rcases q with ⟨k,e⟩ | ⟨k,c,e,z⟩
    ·refine .inl ⟨k,?_⟩;have:y≠x:=fun e=>hj (jKV hN e1 (e ▸ hi));simp [this,e]
    ·exact .inr ⟨k,c,e,z.sameBut hs (cne y c e)⟩
  ·obtain⟨w',z⟩:=I.cell y c e;exact⟨w',z.sameBut hs (cne y c e)⟩
  ·obtain⟨e,n,ne,nf,d⟩:=I.pin p hp;exact⟨(hs.2 p.1 ne).trans e,n,ne,nf,d⟩
 ·have hfn:X.fn x=true:=by
   rcases hf with z | z
   ·exact z
   ·rw[z] at hk; cases hk
  obtain⟨c,hc⟩:=I.ok.has x (.inl hk);obtain⟨w',z⟩:=I.cell x c hc;refine wpAny_storeName_cell I.ok.kind hk hc z (fun h' hc' hs=>?_);obtain⟨oc,hoc,hocd⟩:=id z;refine h { s with heap:=h'} ⟨I.ok,I.os,I.bare,⟨fun b o e n hb hx=>?_,fun b o e n hb hx=>?_,I.Aq.free,fun b o e hx=>?_,I.Aq.tups,I.Aq.frzs,I.Aq.tbls⟩,⟨m,hn.sameBut hs (eh (cne x c hc)),fun j y v' e1 e2 e3=>?_⟩,fun y c' e=>?_,I.free,I.freeC,fun p hp=>?_,tracked ⟨oc,hoc,I.freeC x c hc⟩ hs,by simpa using I.len⟩ ⟨c,hs, .inr hc⟩
  ·exact(hs.2 b (aW (aX (aG e) (I.ok.cab x c hfn hc)))).trans (I.Aq.keep b o e n hb hx)
  ·obtain⟨sl,e1⟩:=I.Aq.slot b o e n hb hx;exact⟨sl,(hs.2 b (aW (aX (aG e) (I.ok.cab x c hfn hc)))).trans e1⟩
  ·obtain⟨o',e1⟩:=I.Aq.there b o e hx;exact⟨o',(hs.2 b (aW (aX (aG e) (I.ok.cab x c hfn hc)))).trans e1⟩
  ·by_cases hj:j=i
   ·subst hj;rw[hi] at e1; cases e1;rw[jl hiσ] at e2;cases e2;exact⟨u,r, .inr ⟨.inl hk,c,hc,hc'⟩⟩
   ·rw[kn (eh hj)] at e2;obtain⟨u',r',q⟩:=hl j y v' e1 e2 e3;refine⟨u',r',?_⟩;rcases q with q | ⟨k,c',e,z'⟩
    ·exact .inl q
    ·refine .inr ⟨k,c',e,z'.sameBut hs ?_⟩;rintro rfl;exact hj (jKV hN e1 (I.ok.inj _ _ _ e hc ▸ hi))
  ·by_cases hcc:c'=c
   ·subst hcc; exact⟨_,hc'⟩
   ·obtain⟨w2,z2⟩:=I.cell y c' e;exact⟨w2,z2.sameBut hs hcc⟩
  ·obtain⟨e,n,ne,nf,d⟩:=I.pin p hp;refine⟨(hs.2 p.1 ?_).trans e,n,ne,nf,d⟩;intro q;rw[q,hoc] at e;have q':oc=p.2:=bw e;exact d w' (by rw[<- q']; exact hocd)
theorem jDY {M:Model}{A:Around}{E:Ah}{i:Nat}{x:Str}{v:V}{u:Value}{Q:Unit->Shared->Prop}(I:Inv X lK σ H s)(hN:X.N.Nodup)(hi:X.N[i]?=some x)(hx:Loc X.env.scope x)(r:RelV v u)
  (h:∀ s',Inv X lK (σ.set i (some v)) H s'->Q () s') (hf:X.fn x=true\/X.env.scope.names.lookup x=some .local:=by first | exact .inl rfl | exact .inr rfl | assumption):wpAny M A (storeName X.env x u) Q E s:=
 jHD I hN hi hx r (fun s' I' _=>h s' I') hf
theorem Inv.call' {s':Shared}{ch:List Addr}(I:Inv X lK σ H s)(ho:s'.os=s.os)(u:Un (frs X.stack) ch H H' s.heap s'.heap)(hok:HOk X.prog X.w H' s'.heap)(hg:AllBare s'.gens)
  (hch:∀ b∈ch,(b∈X.ex\/X.s₀.heap.objs.size<=b)/\b≠X.env.locals/\(∀ x c,X.env.cells.lookup x=some c->c≠b)/\∀ p∈X.pn++lK,p.1≠b):Inv X lK σ H' s':=by
 obtain⟨h',g',d',t',o'⟩:=s';have e:o'=s.os:=ho;subst e;exact I.call (g':=g') (t':=t') (d':=d') u hok hg hch
end
abbrev XK:=Value->Option Addr->Hp->Prop
abbrev St:=List (Option V)
abbrev VK:=V->Hp->Prop
abbrev TE:=St->Hp->VK->Prop
abbrev TT:=St->Hp->(Bool->Hp->Prop)->Prop
abbrev TA:=St->Hp->(List V->Hp->Prop)->Prop
structure Ends where
 nx:St->Hp->Prop
 rt:VK
 bk:St->Hp->Prop:=fun _ _=>False
 ct:St->Hp->Prop:=fun _ _=>False
abbrev TS:=Ends->St->Hp->Prop
def EP (X:Cx)(lK:Ai)(σ:St)(Q:VK)(u:Value)(s':Shared):Prop:=∃ v H',Inv X lK σ H' s'/\RelV v u/\Q v H'
def TP (X:Cx)(lK:Ai)(σ:St)(Q:Bool->Hp->Prop)(b:Bool)(s':Shared):Prop:=∃ H',Inv X lK σ H' s'/\Q b H'
def AP (X:Cx)(lK:Ai)(σ:St)(Q:List V->Hp->Prop)(us:Al)(s':Shared):Prop:=∃ vs H',Inv X lK σ H' s'/\Vals vs us/\Q vs H'
def SP (X:Cx)(lK:Ai)(D:Ends)(f:Flow)(s':Shared):Prop:=
 match f with
 | .next=>∃ σ' H',Inv X lK σ' H' s'/\D.nx σ' H'
 | .brk=>∃ σ' H',Inv X lK σ' H' s'/\D.bk σ' H'
 | .cont=>∃ σ' H',Inv X lK σ' H' s'/\D.ct σ' H'
 | .ret u=>∃ v σ' H',Inv X lK σ' H' s'/\RelV v u/\D.rt v H'
def PE (X:Cx)(e:Expr)(t:TE):Prop:=
 ∀ (lK:Ai) (s:Shared) (σ:St) (H:Hp) (Q:VK),Inv X lK σ H s->t σ H Q->wpAny (model X.prog X.w) X.A (eval e X.env) (EP X lK σ Q) X.xe s
def PT (X:Cx)(e:Expr)(t:TT):Prop:=
 ∀ (lK:Ai) (s:Shared) (σ:St) (H:Hp) (Q:Bool->Hp->Prop),Inv X lK σ H s->t σ H Q->wpAny (model X.prog X.w) X.A (isTrue e X.env (eval e X.env)) (TP X lK σ Q) X.xe s
def PW (X:Cx)(e:Expr)(t:TT):Prop:=
 ∀ (whole:Sem Value) (lK:Ai) (s:Shared) (σ:St) (H:Hp) (Q:Bool->Hp->Prop),Inv X lK σ H s->t σ H Q->wpAny (model X.prog X.w) X.A (isTrue e X.env whole) (TP X lK σ Q) X.xe s
theorem PW.pt {X:Cx}{e:Expr}{t:TT}(h:PW X e t):PT X e t:=h _
def PA (X:Cx)(es:List Expr)(t:TA):Prop:=
 ∀ (pos:Pos) (lK:Ai) (s:Shared) (σ:St) (H:Hp) (Q:List V->Hp->Prop),Inv X lK σ H s->t σ H Q->wpAny (model X.prog X.w) X.A (spliced (backTo pos (starEach es X.env))) (AP X lK σ Q) X.xe s
def PS (X:Cx)(st:Stmt)(t:TS):Prop:=
 ∀ (lK:Ai) (s:Shared) (σ:St) (H:Hp) (D:Ends),Inv X lK σ H s->t D σ H->wpAny (model X.prog X.w) X.A (exec st X.env) (SP X lK D) X.xe s
def PSs (X:Cx)(st:List Stmt)(t:TS):Prop:=
 ∀ (lK:Ai) (s:Shared) (σ:St) (H:Hp) (D:Ends),Inv X lK σ H s->t D σ H->wpAny (model X.prog X.w) X.A (execs st X.env) (SP X lK D) X.xe s
theorem lN {α:Type}{t:Sem α}{Q Q':α->Shared->Prop}{M:Model}{A:Around}{E:Ah}{s:Shared}(h:wpAny M A t Q E s)(hQ:∀ a s,Q a s->Q' a s):wpAny M A t Q' E s:=ck h hQ fun _ _ x=>x
variable {b:Expr}{ta tb:TE}{pos:Pos}
section
def tVar (i:Nat):TE:=fun σ H Q=>∃ v,σ[i]?=some (some v)/\Q v H
def tC (v:V):TE:=fun _ H Q=>Q v H
theorem jHU {i:Nat}{x:Str}{pos:Pos}(hN:X.N[i]?=some x)(hv:Vis X.env.scope x)(hd:(x==("__debug__" :Str))=false:=by decide)(hcd:(x==("__classdict__" :Str))=false:=by decide):PE X (.Name x pos) (tVar i):=by
 intro lK s σ H Q I h;obtain⟨v,e,h⟩:=h;obtain⟨m,hn,hl⟩:=I.loc;obtain⟨u,r,l⟩:=hl i x v hN e hv;have fin:EP X lK σ Q u s:=⟨v,H,I,r,h⟩;rcases l with ⟨hk,hm⟩ | ⟨hk,c,hc,hcell⟩
 ·exact wpAny_Name (wpAny_loadName_local I.ok.kind hk hn hm fin) hd
 ·rcases hk with hk | hk
  ·exact wpAny_Name (wpAny_loadName_cell I.ok.kind hk hc hcell fin) hd
  ·exact wpAny_Name (wpAny_loadName_free I.ok.kind hk hc hcell fin hcd) hd
theorem jS {i j pos} :PE X (.Constant (.int i) j pos) (tC (.int i)):=fun _ _ _ H _ I h=>wpAny_Constant_int ⟨.int i,H,I.tok _,⟨_,rfl⟩,h⟩
theorem pe_bl {b j pos} :PE X (.Constant (.bool b) j pos) (tC (.bl b)):=fun _ _ _ H _ I h=>Constant_bool ⟨.bl b,H,I,rfl,h⟩
theorem jWK {j pos} :PE X (.Constant .none j pos) (tC .non):=fun _ _ _ H _ I h=>Constant_none ⟨.non,H,I,rfl,h⟩
def Gl (X:Cx)(x:Str):Prop:=X.env.kindOf x=some .globalImplicit
theorem jJM {E:Ah}{lK:Ai}{s:Shared}{σ:St}{H:Hp}{x:Str}{u:Value}{pos:Pos}{Q:Ah}(I:Inv X lK σ H s)(hg:Gl X x)(hm:X.mg x=some u)(h:Q u s)
  (hd:(x==("__debug__" :Str))=false:=by decide):wpAny (model X.prog X.w) X.A (eval (.Name x pos) X.env) Q E s:=
 iC I.ok.kind hg (Calls.loadGlobal_global (by rw[I.ok.glob]; exact I.mod.glob.keeps I.bk) hm h) hd
theorem jEY {E:Ah}{lK:Ai}{s:Shared}{σ:St}{H:Hp}{x:Str}{u:Value}{pos:Pos}{Q:Ah}(I:Inv X lK σ H s)(hg:Gl X x)(hm:X.mg x=none)(hv:bootBuiltins x=some u)(h:Q u s)
  (hn:x≠ "__name__" :=by decide) (hd:(x==("__debug__" :Str))=false:=by decide):wpAny (model X.prog X.w) X.A (eval (.Name x pos) X.env) Q E s:=by
 obtain⟨mb,h1,h2⟩:=I.mod.blt;exact iC I.ok.kind hg (Calls.loadGlobal_builtin (by rw[I.ok.glob]; exact I.mod.glob.keeps I.bk) hm (by rw[I.ok.blt]; exact h1.keeps I.bk) ((h2 x hn).trans hv) h) hd
theorem jUA {x:Str}{v:V}{u:Value}{pos:Pos}(hg:Gl X x)(hm:X.mg x=some u)(r:RelV v u)(hd:(x==("__debug__" :Str))=false:=by decide):PE X (.Name x pos) (tC v):=
 fun _ _ _ H _ I h=>jJM I hg hm ⟨v,H,I,r,h⟩ hd
theorem jUI {x:Str}{v:V}{u:Value}{pos:Pos}(hg:Gl X x)(hm:X.mg x=none)(hv:bootBuiltins x=some u)(r:RelV v u)(hn:x≠ "__name__" :=by decide)(hd:(x==("__debug__" :Str))=false:=by decide):PE X (.Name x pos) (tC v):=
 fun _ _ _ H _ I h=>jEY I hg hm hv ⟨v,H,I,r,h⟩ hn hd
variable {a:Expr}
def PC (X:Cx)(op:CmpOp)(a b:Expr)(t:TE):Prop:=
 ∀ (lK:Ai) (s:Shared) (σ:St) (H:Hp) (Q:VK),Inv X lK σ H s->t σ H Q->
  wpAny (model X.prog X.w) X.A (eval a X.env) (fun v s₁=>wpAny (model X.prog X.w) X.A (eval b X.env) (fun u s₂=>wpAny (model X.prog X.w) X.A (compareOp op v u) (EP X lK σ Q) X.xe s₂) X.xe s₁) X.xe s
def tB (t:TE):TT:=fun σ H Q=>t σ H fun x H1=>∃ c,x= .bl c/\Q c H1
theorem jSS {op:CmpOp}{t:TE}(h:PC X op a b t)(h1:behindInMarks op b=false:=by first | exact nobehind _ Ac Ac | rfl):PT X (.Compare a [op] [b] pos) (tB t):=by
 intro lK s σ H Q I hw;refine wpAny_isTrue_Compare1 (lN (h lK s σ H _ I hw) fun v s1 h1=>lN h1 fun u s2 h2=>lN h2 fun c s3 ⟨x,H1,I1,r1,q1⟩=>?_) h1;obtain⟨d,rfl,q⟩:=q1;cases r1;exact dJ ⟨H1,I1,q⟩
theorem jW9 {e:Expr}{t:TE}(h:PE X e t)(he:∀ whole,isTrue e X.env whole=(do let v <- whole; standAt e.pos; holding [v] (truthy v)):=by intro _; rfl):PT X e (tB t):=by
 intro lK s σ H Q I hw;refine isTrue_plain (lN (h lK s σ H _ I hw) fun v s1 ⟨x,H1,I1,r1,q1⟩=>?_) (he _);obtain⟨d,rfl,q⟩:=q1;cases r1;exact dJ ⟨H1,I1,q⟩
variable {tA tB':TT}{rest:List Expr}
def tAnd (t u:TT):TT:=fun σ H Q=>t σ H fun c H1=>if c=true then u σ H1 Q else Q false H1
def tOr (t u:TT):TT:=fun σ H Q=>t σ H fun c H1=>if c=true then Q true H1 else u σ H1 Q
def tNot (t:TT):TT:=fun σ H Q=>t σ H fun c H1=>Q (!c) H1
theorem jTW (ha:PT X a tA):PW X (.BoolOp .And [a] pos) tA:=by
 intro wh lK s σ H Q I h;refine isTrue_and (lN (ha lK s σ H Q I h) fun c s1 e=>?_);cases c with
 | true=>exact isTrue_and_nil e
 | false=>exact e
theorem jW7 (ha:PT X a tA):PW X (.BoolOp .Or [a] pos) tA:=by
 intro wh lK s σ H Q I h;refine isTrue_or (lN (ha lK s σ H Q I h) fun c s1 e=>?_);cases c with
 | false=>exact isTrue_or_nil e
 | true=>exact e
theorem jW8 (ha:PT X a tA)(hb:PW X (.BoolOp .And (b::rest) pos) tB'):PW X (.BoolOp .And (a::b::rest) pos) (tAnd tA tB'):=by
 intro wh lK s σ H Q I h;refine isTrue_and (lN (ha lK s σ H _ I h) fun c s1 ⟨H1,I1,q1⟩=>?_);cases c with
 | true=>exact hb wh lK s1 σ H1 Q I1 q1
 | false=>exact⟨H1,I1,q1⟩
theorem pw_or (ha:PT X a tA)(hb:PW X (.BoolOp .Or (b::rest) pos) tB'):PW X (.BoolOp .Or (a::b::rest) pos) (tOr tA tB'):=by
 intro wh lK s σ H Q I h;refine isTrue_or (lN (ha lK s σ H _ I h) fun c s1 ⟨H1,I1,q1⟩=>?_);cases c with
 | true=>exact⟨H1,I1,q1⟩
 | false=>exact hb wh lK s1 σ H1 Q I1 q1
theorem jWA (ha:PT X a tA):PT X (.UnaryOp .Not a pos) (tNot tA):=by
 intro lK s σ H Q I h;exact isTrue_not (ha lK s σ H (fun c H1=>Q (!c) H1) I h)
def tAndV (ta tb:TE):TE:=fun σ H Q=>ta σ H fun x H1=>∃ c,x= .bl c/\if c=true then tb σ H1 Q else Q (.bl false) H1
def tOrV (ta tb:TE):TE:=fun σ H Q=>ta σ H fun x H1=>∃ c,x= .bl c/\if c=true then Q (.bl true) H1 else tb σ H1 Q
def tNotV (ta:TE):TE:=fun σ H Q=>ta σ H fun x H1=>∃ c,x= .bl c/\Q (.bl (!c)) H1
theorem jWI {op}{t:TE}(h:PE X a t):PE X (.BoolOp op [a] pos) t:=fun lK s σ H Q I hw=>BoolOp_one (h lK s σ H Q I hw)
theorem jWO (ha:PE X a ta)(hb:PE X (.BoolOp .And (b::rest) pos) tb):PE X (.BoolOp .And (a::b::rest) pos) (tAndV ta tb):=by
 intro lK s σ H Q I h;refine BoolOp_and (lN (ha lK s σ H _ I h) fun v s1 ⟨x,H1,I1,r1,q1⟩=>?_);obtain⟨c,rfl,q1⟩:=q1;cases r1;refine dJ ?_;cases c with
 | true=>exact hb lK s1 σ H1 Q I1 q1
 | false=>exact⟨.bl false,H1,I1,rfl,q1⟩
theorem pe_or (ha:PE X a ta)(hb:PE X (.BoolOp .Or (b::rest) pos) tb):PE X (.BoolOp .Or (a::b::rest) pos) (tOrV ta tb):=by
 intro lK s σ H Q I h;refine BoolOp_or (lN (ha lK s σ H _ I h) fun v s1 ⟨x,H1,I1,r1,q1⟩=>?_);obtain⟨c,rfl,q1⟩:=q1;cases r1;refine dJ ?_;cases c with
 | false=>exact hb lK s1 σ H1 Q I1 q1
 | true=>exact⟨.bl true,H1,I1,rfl,q1⟩
theorem jWJ (ha:PE X a ta):PE X (.UnaryOp .Not a pos) (tNotV ta):=by
 intro lK s σ H Q I h;refine UnaryOp_ (lN (ha lK s σ H _ I h) fun v s1 ⟨x,H1,I1,r1,q1⟩=>?_);obtain⟨c,rfl,q1⟩:=q1;cases r1;exact not_of (dJ ⟨.bl (!c),H1,I1,rfl,q1⟩)
def tIf (t:TT)(ta tb:TE):TE:=fun σ H Q=>t σ H fun c H1=>if c=true then ta σ H1 Q else tb σ H1 Q
theorem jR1 {c:Expr}(hc:PT X c tA)(ha:PE X a ta)(hb:PE X b tb):PE X (.IfExp c a b pos) (tIf tA ta tb):=by
 intro lK s σ H Q I h;refine wpAny_IfExp (lN (hc lK s σ H _ I h) fun d s1 ⟨H1,I1,q1⟩=>?_);cases d with
 | true=>exact ha lK s1 σ H1 Q I1 q1
 | false=>exact hb lK s1 σ H1 Q I1 q1
end
def SqL (K:W.Frag)(H:Hp)(a:Addr)(xs:List V):Prop:=
 Rd H a (.lst xs)\/
  ∃ (o:Obj) (its:An) (n:Nat),K.lookup a=some o/\o.cls= .type "list" /\o.dict=none/\o.data= .seq its n/\its.size<=sizeLine/\Vals xs its.toList
def SqT (K:W.Frag)(H:Hp)(a:Addr)(xs:List V):Prop:=
 Rd H a (.tup xs)\/
  ∃ (o:Obj) (its:An) (n:Nat),K.lookup a=some o/\o.cls= .type "tuple" /\o.data= .seq its n/\its.size<=sizeLine/\Vals xs its.toList
def absV:Value->Option V
 | .none=>some .non
 | .bool b=>some (.bl b)
 | .int i _=>some (.int i)
 | .str x _=>some (.str x)
 | .bytes b _=>some (.byt b)
 | .float b _=>some (.flt b)
 | .ref a=>some (.ref a)
 | .type n=>some (.ty n)
 | _=>none
theorem RelV.abs {x:V}{u:Value}(r:RelV x u):absV u=some x:=by
 cases x with
 | non=>cases r; rfl
 | bl _=>cases r; rfl
 | int _=>obtain⟨t,rfl⟩:=r; rfl
 | str _=>obtain⟨t,rfl⟩:=r; rfl
 | byt _=>obtain⟨t,rfl⟩:=r; rfl
 | flt _=>obtain⟨t,rfl⟩:=r; rfl
 | ref _=>cases r; rfl
 | ty _=>cases r; rfl
theorem RelV.inj {x y:V}{u:Value}(r:RelV x u)(q:RelV y u):x=y:=bw (r.abs.symm.trans q.abs)
theorem Vals.inj:∀ {xs ys:List V}{us:Al},Vals xs us->Vals ys us->xs=ys
 | _,_,_, .nil, .nil=>rfl
 | _,_,_, .cons r t, .cons r' t'=>by rw[r.inj r',Vals.inj t t']
section
variable {σ:St}{xs ys:List V}
theorem SqL.of {K:W.Frag}(h:H a=some (.lst xs)):SqL K H a xs:= .inl (.inl h)
theorem SqT.of {K:W.Frag}(h:H a=some (.tup xs)):SqT K H a xs:= .inl (.inl h)
theorem Inv.list (I:Inv X lK σ H s)(h:SqL X.K H a xs):∃ its:Al,Vals xs its/\PlainL s.heap a its.toArray/\xs.length<=sizeLine:=by
 rcases h with h | ⟨o,its,n,hk,hc,hd,hs,hz,r⟩
 ·obtain⟨z,its,n,r,e⟩:=h.ok I.hok;exact⟨its,r,⟨_,n,e,rfl,rfl,rfl⟩,z⟩
 ·refine⟨its.toList,r,⟨o,n,I.kIn a o hk,hc,hd,by simpa using hs⟩,?_⟩;have e:=r.length;simp only [aM] at e;lia
theorem Inv.tuple (I:Inv X lK σ H s)(h:SqT X.K H a xs):∃ its:Al,Vals xs its/\IsTup s.heap a its.toArray/\xs.length<=sizeLine:=by
 rcases h with h | ⟨o,its,n,hk,hc,hs,hz,r⟩
 ·obtain⟨z,its,r,p⟩:=h.ok I.hok;exact⟨its,r,p.isTup,z⟩
 ·refine⟨its.toList,r,⟨o,I.kIn a o hk,hc,n,by simpa using hs⟩,?_⟩;have e:=r.length;simp only [aM] at e;lia
theorem Inv.list_inj (I:Inv X lK σ H s)(h:SqL X.K H a xs)(h':SqL X.K H a ys):xs=ys:=by
 obtain⟨its,r,⟨o,n,e,_,_,d⟩,_⟩:=I.list h;obtain⟨its',r',⟨o',n',e',_,_,d'⟩,_⟩:=I.list h';rw[e] at e'; cases e';rw[d] at d';injection d' with d1 _;have:its=its':=by simpa using bY Array.toList d1
 subst this;exact r.inj r'
theorem Inv.tuple_inj (I:Inv X lK σ H s)(h:SqT X.K H a xs)(h':SqT X.K H a ys):xs=ys:=by
 obtain⟨its,r,⟨o,e,_,n,d⟩,_⟩:=I.tuple h;obtain⟨its',r',⟨o',e',_,n',d'⟩,_⟩:=I.tuple h';rw[e] at e'; cases e';rw[d] at d';injection d' with d1 _;have:its=its':=by simpa using bY Array.toList d1
 subst this;exact r.inj r'
end
abbrev Cx.wish (X:Cx)(E:Ah):Cx:= { X with xe:=E}
abbrev Cx.nox (X:Cx):Cx:=X.wish fun _ _=>False
theorem Cx.Ok.wish {X:Cx}(ok:X.Ok)(E:Ah):(X.wish E).Ok:=
 ⟨ok.mod,ok.kind,ok.glob,ok.blt,ok.above,ok.inj,ok.has,ok.cab,ok.hd,ok.frames,ok.stk,ok.exf,ok.bs,ok.bsz,ok.noex,ok.exfs,ok.funs,ok.frf⟩
theorem Cx.Ok.unwish {X:Cx}{E:Ah}(ok:(X.wish E).Ok):X.Ok:=
 ⟨ok.mod,ok.kind,ok.glob,ok.blt,ok.above,ok.inj,ok.has,ok.cab,ok.hd,ok.frames,ok.stk,ok.exf,ok.bs,ok.bsz,ok.noex,ok.exfs,ok.funs,ok.frf⟩
variable {E:Ah}
section
variable {σ:St}
theorem Inv.wish (I:Inv X lK σ H s)(E:Ah):Inv (X.wish E) lK σ H s:=⟨I.ok.wish E,I.os,I.bare,I.Aq,I.loc,I.cell,I.free,I.freeC,I.pin,I.hok,I.len⟩
theorem Inv.unwish (I:Inv (X.wish E) lK σ H s):Inv X lK σ H s:=⟨I.ok.unwish,I.os,I.bare,I.Aq,I.loc,I.cell,I.free,I.freeC,I.pin,I.hok,I.len⟩
theorem SP.unwish {D:Ends}{f:Flow}{s':Shared}(h:SP (X.wish E) lK D f s'):SP X lK D f s':=by
 cases f with
 | next=>obtain⟨σ',H',I,q⟩:=h; exact⟨σ',H',I.unwish,q⟩
 | brk=>obtain⟨σ',H',I,q⟩:=h; exact⟨σ',H',I.unwish,q⟩
 | cont=>obtain⟨σ',H',I,q⟩:=h; exact⟨σ',H',I.unwish,q⟩
 | ret u=>obtain⟨v,σ',H',I,r,q⟩:=h; exact⟨v,σ',H',I.unwish,r,q⟩
theorem PSs.nox {st:List Stmt}{t:TS}(h:PSs X.nox st t):PSs X st t:=fun lK s σ H D I hw=>
 ck (h lK s σ H D (I.wish _) hw) (fun _ _ q=>q.unwish) fun _ _ z=>False.elim z
end
variable {e:Expr}{te:TE}
section
variable {st:Stmt}{rest:List Stmt}{t u:TS}
def tNext:TS:=fun D σ H=>D.nx σ H
def tSeq (t u:TS):TS:=fun D σ H=>t { D with nx:=u D} σ H
theorem jGD:PSs X [] tNext:=fun _ _ σ H _ I h=>ic ⟨σ,H,I,h⟩
theorem kW (h1:PS X st t)(h2:PSs X rest u):PSs X (st::rest) (tSeq t u):=by
 intro lK s σ H D I h;refine wpAny_execs_cons (lN (h1 lK s σ H { D with nx:=u D} I h) fun f s1 q=>?_);cases f with
 | next=>
  obtain⟨σ',H',I',q⟩:=q;exact h2 lK s1 σ' H' D I' q
 | ret v=>exact q
 | brk=>exact q
 | cont=>exact q
theorem jAZ (h1:PS X st t):PSs X [st] t:=by
 intro lK s σ H D I h;refine wpAny_execs_cons (lN (h1 lK s σ H D I h) fun f s1 q=>?_);cases f with
 | next=>exact ic q
 | ret v=>exact q
 | brk=>exact q
 | cont=>exact q
theorem Inv.quiet {lK:Ai}{σ:St}{H:Hp}{s:Shared}(I:Inv X lK σ H s):interactive X.env=false:=by simp [interactive,I.ok.kind]
def tDrop (te:TE):TS:=fun D σ H=>te σ H fun _ H1=>D.nx σ H1
theorem jTZ (he:PE X e te)(hs:swapsWith e none pos.line X.env=pure false:=by rfl):PS X (.Expr e pos) (tDrop te):=by
 intro lK s σ H D I h;exact wpAny_Expr_any (lN (he lK s σ H _ I h) fun v s1 ⟨x,H1,I1,r1,q1⟩=>⟨σ,H1,I1,q1⟩) I.quiet hs
def tRet (te:TE):TS:=fun D σ H=>te σ H D.rt
theorem jDU (he:PE X e te):PS X (.Return (some e) pos) (tRet te):=by
 intro lK s σ H D I h;exact wpAny_Return_some (lN (he lK s σ H _ I h) fun v s1 ⟨x,H1,I1,r1,q1⟩=>⟨x,σ,H1,I1,r1,q1⟩)
def tIfS (c:TT)(t u:TS):TS:=fun D σ H=>c σ H fun b H1=>if b=true then t D σ H1 else u D σ H1
theorem ps_if {c:Expr}{a b:List Stmt}{tc:TT}(hc:PT X c tc)(ha:PSs X a t)(hb:PSs X b u):PS X (.If c a b pos) (tIfS tc t u):=by
 intro lK s σ H D I h;refine wpAny_If (lN (hc lK s σ H _ I h) fun d s1 ⟨H1,I1,q1⟩=>?_);cases d with
 | true=>exact ha lK s1 σ H1 D I1 q1
 | false=>exact hb lK s1 σ H1 D I1 q1
end
abbrev TG:=V->St->Hp->(St->Hp->Prop)->Prop
abbrev TGs:=List V->St->Hp->(St->Hp->Prop)->Prop
def PG (X:Cx)(target:Expr)(t:TG):Prop:=
 ∀ (lK:Ai) (s:Shared) (σ:St) (H:Hp) (v:V) (u:Value) (Q:St->Hp->Prop),Inv X lK σ H s->RelV v u->t v σ H Q->
  wpAny (model X.prog X.w) X.A (assign target X.env u) (fun _ s'=>∃ σ' H',Inv X lK σ' H' s'/\Q σ' H') X.xe s
def PGs (X:Cx)(ts:List Expr)(t:TGs):Prop:=
 ∀ (lK:Ai) (s:Shared) (σ:St) (H:Hp) (vs:List V) (us:Al) (Q:St->Hp->Prop),Inv X lK σ H s->Vals vs us->t vs σ H Q->
  wpAny (model X.prog X.w) X.A (assignInOrder ((assignEach ts X.env).map (·.2)) us) (fun _ s'=>∃ σ' H',Inv X lK σ' H' s'/\Q σ' H') X.xe s
abbrev TSet:=V->V->V->Hp->(Hp->Prop)->Prop
def PSet (X:Cx)(t:TSet):Prop:=
 ∀ (lK:Ai) (s:Shared) (σ:St) (H:Hp) (o i v:V) (ov iv u:Value) (Q:Hp->Prop),Inv X lK σ H s->RelV o ov->RelV i iv->RelV v u->t o i v H Q->
  wpAny (model X.prog X.w) X.A (setItem ov iv u) (fun _ s'=>∃ H',Inv X lK σ H' s'/\Q H') X.xe s
def kL (i:Nat):TG:=fun v σ H Q=>Q (σ.set i (some v)) H
theorem jGE {i:Nat}{x:Str}(hN:X.N.Nodup)(hi:X.N[i]?=some x)(hx:Loc X.env.scope x)(hf:X.fn x=true\/X.env.scope.names.lookup x=some .local:=by first | exact .inl rfl | exact .inr rfl | assumption):PG X (.Name x pos) (kL i):=by
 intro lK s σ H v u Q I r h;exact wpAny_assign_Name (jDY I hN hi hx r (fun s' I'=>⟨_,H,I',h⟩) hf)
def gNil:TGs:=fun vs σ H Q=>vs=[]/\Q σ H
def gCons (t:TG)(u:TGs):TGs:=fun vs σ H Q=>∃ v r,vs=v::r/\t v σ H fun σ' H'=>u r σ' H' Q
theorem jU9:PGs X [] gNil:=by
 intro lK s σ H vs us Q I r h;obtain⟨e,h⟩:=h;subst e;cases r;exact assignInOrder_nil ⟨σ,H,I,h⟩
theorem jQY {e:Expr}{es:List Expr}{t:TG}{u:TGs}(h1:PG X e t)(h2:PGs X es u)
  (hs:(assignEach (e::es) X.env).map (·.2)=assign e X.env::(assignEach es X.env).map (·.2):=by rfl):PGs X (e::es) (gCons t u):=by
 intro lK s σ H vs us Q I r h;obtain⟨v,vr,e1,h⟩:=h;subst e1;cases r with
 | cons r rr=>
  rw[hs];refine assignInOrder_cons (lN (h1 lK s σ H _ _ _ I r h) fun _ s1 ⟨σ1,H1,I1,q1⟩=>?_);exact h2 lK s1 σ1 H1 _ _ Q I1 rr q1
def gTup (K:W.Frag)(n:Nat)(t:TGs):TG:=fun v σ H Q=>∃ a xs,v= .ref a/\SqT K H a xs/\xs.length=n/\t xs σ H Q
theorem jWF {es:List Expr}{k:Nat}{t:TGs}{n:Nat}(hc:X.calm=true)(h:PGs X es t)
  (hn:(assignEach es X.env).length=n:=by rfl) (hst:(assignEach es X.env).findIdx? (·.1)=none:=by rfl):PG X (.Tuple es k pos) (gTup X.K n t):=by
 intro lK s σ H v u Q I r hw;obtain⟨a,xs,e1,hq,hl,hw⟩:=hw;subst e1;cases r;obtain⟨its,rv,ht,hz⟩:=I.tuple hq;refine assign_Tuple_tuple (I.ok.hd hc) ht (by simp [hn,<- hl,rv.length]) hst fun h' hx=>?_;have I1:Inv X lK σ H { s with heap:=h'} :=I.kept (t':=s.toks) fun b o e=>hx b o (aW (aG e)) e;exact h lK _ σ H xs _ Q I1 (by simpa using rv) hw
def gSub (to ti:TE)(t:TSet):TG:=fun v σ H Q=>to σ H fun o H1=>ti σ H1 fun i H2=>t o i v H2 fun H3=>Q σ H3
theorem jWG {o i:Expr}{to ti:TE}{t:TSet}(ho:PE X o to)(hi:PE X i ti)(hs:PSet X t)
  (ha:∀ v,assign (.Subscript o i pos) X.env v=(do
   let ov <- holding [v] (eval o X.env)
   let iv <- holding [v,ov] (eval i X.env)
   standAt pos
   holding [v,ov,iv] (setItem ov iv v)
   release [v,ov,iv] []):=by intro _; rfl):PG X (.Subscript o i pos) (gSub to ti t):=by
 intro lK s σ H v u Q I r h;rw[ha];refine ae (bS (lN (ho lK s σ H _ I h) fun ov s1 ⟨x,H1,I1,r1,q1⟩=>?_));refine ae (bS (lN (hi lK s1 σ H1 _ I1 q1) fun iv s2 ⟨y,H2,I2,r2,q2⟩=>?_));refine ae (ff (ae (bS (lN (hs lK s2 σ H2 x y v ov iv u _ I2 r1 r2 r q2) fun _ s3 ⟨H3,I3,q3⟩=>?_))));exact wpAny_release ⟨σ,H3,I3,q3⟩
def tAsg (te:TE)(g:TG):TS:=fun D σ H=>te σ H fun x H1=>g x σ H1 D.nx
theorem jWC {tg e:Expr}{te:TE}{g:TG}(he:PE X e te)(hg:PG X tg g)(hs:swapsWithSole [tg] e pos.line X.env=pure false:=by rfl)(hw:swappedStores [tg] e X.env=pure none:=by rfl)
  (h1:(assignEach [tg] X.env).map (·.2)=[assign tg X.env]:=by rfl):PS X (.Assign [tg] e pos) (tAsg te g):=by
 intro lK s σ H D I h;refine wpAny_Assign_stores (lN (he lK s σ H _ I h) fun v s1 ⟨x,H1,I1,r1,q1⟩=>?_) hs hw;rw[h1];exact lN (hg lK s1 σ H1 x v _ I1 r1 q1) fun _ s2 q=>q
theorem qL {i:Nat}{x:Str}{e:Expr}{te:TE}{pos':Pos}(hN:X.N.Nodup)(hi:X.N[i]?=some x)(hx:Loc X.env.scope x)(he:PE X e te)(hs:swapsWith e (some (.Name x pos')) pos.line X.env=pure false:=by rfl)(hf:X.fn x=true\/X.env.scope.names.lookup x=some .local:=by first | exact .inl rfl | exact .inr rfl | assumption):
  PS X (.Assign [.Name x pos'] e pos) (tAsg te (kL i)):=by
 intro lK s σ H D I h;refine wpAny_Assign_Name (lN (he lK s σ H _ I h) fun v s1 ⟨y,H1,I1,r1,q1⟩=>?_) hs;exact jDY I1 hN hi hx r1 (fun s2 I2=>⟨_,H1,I2,q1⟩) hf
def jSL (c:TT)(tb:TS):TS:=fun D σ H=>∃ W:Nat->St->Hp->Prop,(∃ m,W m σ H)/\∀ m σ H,W m σ H->
 c σ H fun b H1=>if b=true then ∃ N:St->Hp->Prop,(∀ σ' H',N σ' H'->∃ m',m'<m/\W m' σ' H')/\tb { D with nx:=N,ct:=N,bk:=D.nx} σ H1 else D.nx σ H1
theorem jQR {c:Expr}{body:List Stmt}{tc:TT}{tb:TS}(hp:PassesOwn (model X.prog X.w) X.A X.env X.xe)(hc:PT X c tc)(hb:PSs X body tb):PS X (.While c body [] pos) (jSL tc tb):=by
 intro lK s σ H D I h;obtain⟨W,⟨m0,w0⟩,turn⟩:=h;refine wpAny_While (codeAny_whileLoop (fun n s'=>∃ σ' H',Inv X lK σ' H' s'/\W n σ' H') ?_ m0 ⟨σ,H,I,w0⟩);rintro n s1 ⟨σ1,H1,I1,w1⟩;refine d0 hp (lN (hc lK s1 σ1 H1 _ I1 (turn n σ1 H1 w1)) fun b s2 ⟨H2,I2,q2⟩=>?_);cases b with
 | true=>
  obtain⟨N,hN,q2⟩:=q2;rw[ay rfl];refine d0 hp (lN (hb lK s2 σ1 H2 _ I2 q2) fun f s3 q3=>?_);cases f with
  | next=>
   obtain⟨σ3,H3,I3,n3⟩:=q3;obtain⟨m',hm,w3⟩:=hN σ3 H3 n3;exact⟨m',hm,σ3,H3,I3,w3⟩
  | cont=>
   obtain⟨σ3,H3,I3,n3⟩:=q3;obtain⟨m',hm,w3⟩:=hN σ3 H3 n3;exact⟨m',hm,σ3,H3,I3,w3⟩
  | brk=>exact q3
  | ret v=>exact q3
 | false=>
  rw[aw az];exact ic ⟨σ1,H2,I2,q2⟩
structure It where
 go:Nat->Hp->Prop
 yld:Nat->Hp->V->Hp->Prop
 stop:Nat->Hp->Prop
def FpOk (X:Cx)(lK:Ai)(H:Hp)(b:Addr):Prop:=
 H b=none/\b≠X.env.locals/\b∉X.fs/\(b∈X.ex\/X.s₀.heap.objs.size<=b)/\(∀ x c,X.env.cells.lookup x=some c->c≠b)/\∀ p∈X.pn++lK,p.1≠b
theorem Inv.fpOk {X:Cx}{lK:Ai}{σ:St}{H H':Hp}{s:Shared}{b:Addr}(I:Inv X lK σ H s)(hb:s.heap.objs.size<=b)(hn:H' b=none):FpOk X lK H' b:=by
 refine⟨hn,cR (aX I.lt hb),I.nofs hb, .inr (bi I.sz hb),fun x c e z=>?_,fun p hp z=>?_⟩
 ·obtain⟨v,q⟩:=I.cell x c e;exact absurd (aX q.lt (by rw[z]; exact hb)) (db _)
 ·exact absurd (aX (aG (I.pin p hp).1) (by rw[z]; exact hb)) (db _)
structure Turn (P:Program)(w:World)(K:W.Frag)(tg:Expr)(J:It)(fp:List Addr)(it:Addr)(tn:Nat->Heap->Prop):Prop where
 mem:it∈fp
 obj:∀ i h,tn i h->∀ b∈fp,∃ o,h.get? b=some o/\∀ v,o.data≠ .cell v
 keep:∀ i h h',tn i h->(∀ b∈fp,∀ o,h.get? b=some o->h'.get? b=some o)->tn i h'
 item:∀ (X:Cx),X.prog=P->X.w=w->X.K=K->X.calm=true->∀ (i:Nat) (lK:Ai) (s:Shared) (σ:St) (H:Hp) (E:Ah),Inv X lK σ H s->(∀ b∈fp,FpOk X lK H b)->tn i s.heap->J.go i H->
  wpAny (model P w) X.A (pyNext (.ref it)) (fun r s1=>∃ u,r=some u/\
   wpAny (model P w) X.A (letOwnedTupleGo tg (.ref it) u) (fun _ s2=>∃ x H',Inv X lK σ H' s2/\RelV x u/\J.yld i H x H'/\tn (i+1) s2.heap/\∀ b∈fp,H' b=none) E s1) E s
 done:∀ (X:Cx),X.prog=P->X.w=w->X.K=K->X.calm=true->∀ (i:Nat) (lK:Ai) (s:Shared) (σ:St) (H:Hp) (E:Ah),Inv X lK σ H s->(∀ b∈fp,FpOk X lK H b)->tn i s.heap->J.stop i H->
  wpAny (model P w) X.A (pyNext (.ref it)) (fun r s1=>r=none/\Inv X lK σ H s1) E s
 self:∀ (A:Around) (i:Nat) (s:Shared) (Q:Ah) (E:Ah),tn i s.heap->Q (.ref it) s->wpAny (model P w) A (pyIter (.ref it)) Q E s
abbrev TI:=St->Hp->(It->Hp->Prop)->Prop
def PIE (X:Cx)(lK:Ai)(σ:St)(tg:Expr)(R:It->Hp->Prop)(itv:Value)(s2:Shared):Prop:=
 ∃ (it:Addr) (fp:List Addr) (tn:Nat->Heap->Prop) (J:It) (H':Hp),itv= .ref it/\Inv X lK σ H' s2/\Turn X.prog X.w X.K tg J fp it tn/\tn 0 s2.heap/\(∀ b∈fp,FpOk X lK H' b)/\R J H'
def PI (X:Cx)(tg iter:Expr)(wi:TI):Prop:=
 ∀ (lK:Ai) (s:Shared) (σ:St) (H:Hp) (R:It->Hp->Prop),Inv X lK σ H s->wi σ H R->
  wpAny (model X.prog X.w) X.A (eval iter X.env) (fun v s1=>wpAny (model X.prog X.w) X.A (pyIter v) (PIE X lK σ tg R) X.xe s1) X.xe s
theorem go_of {M:Model}{A:Around}{E:Ah}{s:Shared}{tg:Expr}{it:Addr}{u:Value}{o:Obj}{n:String}{vs:An}{Q:Unit->Shared->Prop}(ho:s.heap.get? it=some o)(hc:o.cls= .type n)(hd:o.data= .fields vs)
  (hn: ["enumerate","zip","dict_itemiterator","dict_reverseitemiterator","odict_iterator","itertools.zip_longest","itertools.pairwise"].contains n=false) (hQ:Q () s):wpAny M A (letOwnedTupleGo tg (.ref it) u) Q E s:=by
 unfold letOwnedTupleGo;cases tg <;> first
  | exact am hQ
  | (cases u <;> first
    | exact am hQ
    | (refine ae (gX ho ?_)
       rw [hc, hd];show wpAny M A (if (["enumerate", "zip", "dict_itemiterator", "dict_reverseitemiterator", "odict_iterator", "itertools.zip_longest", "itertools.pairwise"].contains n && vs[0]? == some (rawInt _)) = true then _ else _) Q E s;rw [aw (by intro h; rw [hn, gw] at h; cases h)];exact am hQ))
def Itl (K:W.Frag)(a:Addr):It:=
 ⟨fun i H=>∃ xs x,SqL K H a xs/\xs[i]?=some x,fun i H x H'=>H'=H/\∀ xs,SqL K H a xs->xs[i]?=some x,fun i H=>∃ xs,SqL K H a xs/\xs.length<=i⟩
def Itt (K:W.Frag)(a:Addr):It:=
 ⟨fun i H=>∃ xs x,SqT K H a xs/\xs[i]?=some x,fun i H x H'=>H'=H/\∀ xs,SqT K H a xs->xs[i]?=some x,fun i H=>∃ xs,SqT K H a xs/\xs.length<=i⟩
def Itr (lo:Int)(n:Nat):It:=⟨fun i _=>i<n,fun i H x H'=>H'=H/\x= .int (lo+i),fun i _=>n<=i⟩
theorem jMZ {P:Program}{w:World}{K:W.Frag}{tg:Expr}(a it:Addr):Turn P w K tg (Itl K a) [it] it (fun i h=>h.IsListIter it a i) where
 mem:=by simp
 obj:=fun i h st b hb=>by
  have e:b=it:=by simpa using hb
  subst e;obtain⟨o,e,c,d⟩:=st;exact⟨o,e,fun v z=>by rw[d] at z; cases z⟩
 keep:=fun i h h' st k=>st.at fun o e=>k it Ad o e
 item:=by
  intro X hP hw hK hc i lK s σ H E I hf st hg;subst hP hw hK;obtain⟨xs,x,hq,hx⟩:=hg;obtain⟨its,rv,p,hz⟩:=I.list hq;obtain⟨u,hu,ru⟩:=rv.get hx;obtain⟨f0,f1,f2,f3,f4,f5⟩:=hf it Ad;refine wpAny_pyNext_list_item st p.isList (x:=u) (by simpa using hu) fun h' st' sb=>?_;have I1:Inv X lK σ H { s with heap:=h'} :=I.turned (t':=s.toks) (fun b o hb e=>(sb.2 b hb).trans e) f0 f1 f3 f4 f5;obtain⟨o,e,c,d⟩:=id st';exact⟨u,rfl,go_of (s:= { s with heap:=h'}) e c d Ac ⟨x,H,I1,ru,⟨rfl,fun ys hy=>by rw[I.list_inj hy hq]; exact hx⟩,st',fun b hb=>(hf b hb).1⟩⟩
 done:=by
  intro X hP hw hK hc i lK s σ H E I hf st hg;subst hP hw hK;obtain⟨xs,hq,hx⟩:=hg;obtain⟨its,rv,p,hz⟩:=I.list hq;obtain⟨f0,f1,f2,f3,f4,f5⟩:=hf it Ad;have hl:=rv.length;exact wpAny_pyNext_list_end (I.ok.hd hc) st p.isList (by simp; lia) fun h' eb=>⟨rfl,I.turned (t':=s.toks) (fun b o hb e=>eb b o hb e) f0 f1 f3 f4 f5⟩
 self:=fun _ _ _ _ _ st h=>wpAny_pyIter_listiter st h
theorem jLX {P:Program}{w:World}{K:W.Frag}{tg:Expr}(a it:Addr):Turn P w K tg (Itt K a) [it] it (fun i h=>h.IsTupleIter it a i) where
 mem:=by simp
 obj:=fun i h st b hb=>by
  have e:b=it:=by simpa using hb
  subst e;obtain⟨o,e,c,d⟩:=st;exact⟨o,e,fun v z=>by rw[d] at z; cases z⟩
 keep:=fun i h h' st k=>st.at fun o e=>k it Ad o e
 item:=by
  intro X hP hw hK hc i lK s σ H E I hf st hg;subst hP hw hK;obtain⟨xs,x,hq,hx⟩:=hg;obtain⟨its,rv,p,hz⟩:=I.tuple hq;obtain⟨u,hu,ru⟩:=rv.get hx;obtain⟨f0,f1,f2,f3,f4,f5⟩:=hf it Ad;refine wpAny_pyNext_tuple_item st (show s.heap.IsTuple a its.toArray from p) (x:=u) (by simpa using hu) fun h' st' sb=>?_;have I1:Inv X lK σ H { s with heap:=h'} :=I.turned (t':=s.toks) (fun b o hb e=>(sb.2 b hb).trans e) f0 f1 f3 f4 f5;obtain⟨o,e,c,d⟩:=id st';exact⟨u,rfl,go_of (s:= { s with heap:=h'}) e c d Ac ⟨x,H,I1,ru,⟨rfl,fun ys hy=>by rw[I.tuple_inj hy hq]; exact hx⟩,st',fun b hb=>(hf b hb).1⟩⟩
 done:=by
  intro X hP hw hK hc i lK s σ H E I hf st hg;subst hP hw hK;obtain⟨xs,hq,hx⟩:=hg;obtain⟨its,rv,p,hz⟩:=I.tuple hq;obtain⟨f0,f1,f2,f3,f4,f5⟩:=hf it Ad;have hl:=rv.length;exact wpAny_pyNext_tuple_end (I.ok.hd hc) st (show s.heap.IsTuple a its.toArray from p) (by simp; lia) fun h' eb=>⟨rfl,I.turned (t':=s.toks) (fun b o hb e=>eb b o hb e) f0 f1 f3 f4 f5⟩
 self:=fun _ _ _ _ _ st h=>wpAny_pyIter_tupleiter st h
theorem jLY {P:Program}{w:World}{K:W.Frag}{tg:Expr}(it:Addr)(lo:Int)(n:Nat):Turn P w K tg (Itr lo n) [it] it (fun i h=>IsRangeIter h it (lo+(i:Nat)*1) ((n:Int) - (i:Nat)) 1) where
 mem:=by simp
 obj:=fun i h st b hb=>by
  have e:b=it:=by simpa using hb
  subst e;exact⟨_,st,fun v z=>by
   have z':Data.fields _=Data.cell v:=z;cases z'⟩
 keep:=fun i h h' st k=>k it Ad _ st
 item:=by
  intro X hP hw hK hc i lK s σ H E I hf st hg;subst hP hw hK;obtain⟨f0,f1,f2,f3,f4,f5⟩:=hf it Ad;have W:=Walks.range (prog:=X.prog) (w:=X.w) (I.ok.hd hc) it lo 1 n;refine W.item i s _ _ hg st fun v h' tk hv st' kk=>?_;obtain⟨t,rfl⟩:=hv;have I1:Inv X lK σ H { s with heap:=h',toks:=tk} :=I.turned (fun b o hb e=>kk b o (by simpa using hb) e) f0 f1 f3 f4 f5;refine⟨_,rfl,go_of (s:= { s with heap:=h',toks:=tk}) (n:= "range_iterator") st' rfl rfl Ac ⟨.int (lo+i),H,I1,⟨t,?_⟩,⟨rfl,rfl⟩,st',fun b hb=>(hf b hb).1⟩⟩;rw[Int.mul_one]
 done:=by
  intro X hP hw hK hc i lK s σ H E I hf st hg;subst hP hw hK;obtain⟨f0,f1,f2,f3,f4,f5⟩:=hf it Ad;exact wpAny_pyNext_range_end (I.ok.hd hc) st (by have:n<=i:=hg; lia) fun h' eb=>⟨rfl,I.turned (t':=s.toks) (fun b o hb e=>eb b o hb e) f0 f1 f3 f4 f5⟩
 self:=fun _ _ _ _ _ st h=>wpAny_pyIter_rangeiter st h
section
variable {tg:Expr}
def iList (K:W.Frag)(tl:TE):TI:=fun σ H R=>tl σ H fun x H1=>∃ a,x= .ref a/\(∃ xs,SqL K H1 a xs)/\R (Itl K a) H1
def iTup (K:W.Frag)(tl:TE):TI:=fun σ H R=>tl σ H fun x H1=>∃ a,x= .ref a/\(∃ xs,SqT K H1 a xs)/\R (Itt K a) H1
theorem jU7 {l:Expr}{tl:TE}(hl:PE X l tl):PI X tg l (iList X.K tl):=by
 intro lK s σ H R I h;refine lN (hl lK s σ H _ I h) fun v s1 ⟨x,H1,I1,r1,q1⟩=>?_;obtain⟨a,e,⟨xs,hq⟩,q⟩:=q1;subst e;cases r1;obtain⟨its,rv,p,hz⟩:=I1.list hq;refine df p.isList ?_;refine⟨s1.heap.objs.size,[s1.heap.objs.size],_,_,H1,rfl,I1.kept (t':=s1.toks) fun b o e=>ah _ e,jMZ a _,⟨_,aC _ rfl,rfl,rfl⟩,fun b hb=>?_,q⟩;have e:b=s1.heap.objs.size:=by simpa using hb
 subst e;exact I1.fpOk (aA _) (I1.hok.fresh (aA _))
theorem jWE {l:Expr}{tl:TE}(hl:PE X l tl):PI X tg l (iTup X.K tl):=by
 intro lK s σ H R I h;refine lN (hl lK s σ H _ I h) fun v s1 ⟨x,H1,I1,r1,q1⟩=>?_;obtain⟨a,e,⟨xs,hq⟩,q⟩:=q1;subst e;cases r1;obtain⟨its,rv,p,hz⟩:=I1.tuple hq;refine wpAny_pyIter_tuple (show s1.heap.IsTuple a its.toArray from p) ?_;refine⟨s1.heap.objs.size,[s1.heap.objs.size],_,_,H1,rfl,I1.kept (t':=s1.toks) fun b o e=>ah _ e,jLX a _,⟨_,aC _ rfl,rfl,rfl⟩,fun b hb=>?_,q⟩;have e:b=s1.heap.objs.size:=by simpa using hb
 subst e;exact I1.fpOk (aA _) (I1.hok.fresh (aA _))
theorem jKL {lK:Ai}{σ:St}{H:Hp}{s:Shared}{R:It->Hp->Prop}{E:Ah}{lo hi:Int}{t u v:Tok}{tk:Nat}(I:Inv X lK σ H s)(h1: -(2 ^ 62)<=lo)(h2:lo<2 ^ 62)(h3: -(2 ^ 62)<=hi)(h4:hi<2 ^ 62)
  (q:R (Itr lo (hi - lo).toNat) H):wpAny (model X.prog X.w) X.A (pyIter (.ref s.heap.objs.size)) (PIE X lK σ tg R) E { s with heap:=s.heap.push { cls:= .type "range",data:= .fields #[.int lo t, .int hi u, .int 1 v]},toks:=tk} :=by
 refine wpAny_pyIter_range (IsRange.new ..) (small_one h1 h2 h3 h4) ?_;have I1:Inv X lK σ H { s with heap:=s.heap.push { cls:= .type "range",data:= .fields #[.int lo t, .int hi u, .int 1 v]},toks:=tk} :=I.kept fun b o e=>ah _ e;refine⟨(s.heap.push { cls:= .type "range",data:= .fields #[.int lo t, .int hi u, .int 1 v]}).objs.size,[(s.heap.push { cls:= .type "range",data:= .fields #[.int lo t, .int hi u, .int 1 v]}).objs.size],_,_,H,rfl,
  I1.kept (t':=tk) fun b o e=>ah _ e,jLY _ lo (hi - lo).toNat,?_,fun b hb=>?_,q⟩
 ·have e1:lo+((0:Nat):Int)*1=lo:=Ad;have e2:(((hi - lo).toNat:Nat):Int) - ((0:Nat):Int)=Builtin.Range.rangeSize lo hi 1:=by rw[rangeSize_one]; split <;> lia
  show IsRangeIter _ _ (lo+((0:Nat):Int)*1) ((((hi - lo).toNat:Nat):Int) - ((0:Nat):Int)) 1;rw[e1,e2];exact aC _ rfl
 ·have e:b=(s.heap.push { cls:= .type "range",data:= .fields #[.int lo t, .int hi u, .int 1 v]}).objs.size:=by simpa using hb
  subst e;exact I1.fpOk (aA _) (I1.hok.fresh (aA _))
def iRng1 (ta:TA):TI:=fun σ H R=>ta σ H fun vs H1=>∃ j:Int,vs=[.int j]/\ -(2 ^ 62)<=j/\j<2 ^ 62/\R (Itr 0 j.toNat) H1
def iRng2 (ta:TA):TI:=fun σ H R=>ta σ H fun vs H1=>∃ i j:Int,vs=[.int i, .int j]/\(-(2 ^ 62)<=i/\i<2 ^ 62/\ -(2 ^ 62)<=j/\j<2 ^ 62)/\R (Itr i (j - i).toNat) H1
theorem jCX {a:Expr}{ta:TA}{p pos:Pos}(hg:Gl X "range")(hm:X.mg "range" =none)(ha:PA X [a] ta)(hs:starEach [a] X.env=[(false,eval a X.env)]:=by rfl):PI X tg (.Call (.Name "range" p) [a] [] pos) (iRng1 ta):=by
 intro lK s σ H R I h;refine Call_ (jEY I hg hm boot_range (dP (lN (ha pos lK s σ H _ I h) fun us s1 ⟨vs,H1,I1,r1,q1⟩=>?_) hs rfl));obtain⟨j,e,q1,q2,q⟩:=q1;subst e;cases r1 with
 | cons r rr=>
  cases rr;obtain⟨t,rfl⟩:=r;exact call_range_1 (jKL I1 Aa Aa q1 q2 (by simpa using q))
theorem jNP {a b:Expr}{ta:TA}{p pos:Pos}(hg:Gl X "range")(hm:X.mg "range" =none)(ha:PA X [a,b] ta)(hs:starEach [a,b] X.env=[(false,eval a X.env),(false,eval b X.env)]:=by rfl)(hs2:starEach [b] X.env=[(false,eval b X.env)]:=by rfl):
  PI X tg (.Call (.Name "range" p) [a,b] [] pos) (iRng2 ta):=by
 intro lK s σ H R I h;refine Call_ (jEY I hg hm boot_range (dP (lN (ha pos lK s σ H _ I h) fun us s1 ⟨vs,H1,I1,r1,q1⟩=>?_) (by rw[hs,hs2]) (by rw[hs2]; rfl)));obtain⟨i,j,e,⟨q1,q2,q3,q4⟩,q⟩:=q1;subst e;cases r1 with
 | cons r rr=>
  cases rr with
  | cons r' rr=>
   cases rr;obtain⟨t,rfl⟩:=r;obtain⟨t',rfl⟩:=r';exact call_range_2 (jKL I1 q1 q2 q3 q4 q)
def tFor (wi:TI)(g:TG)(tb:TS):TS:=fun D σ H=>wi σ H fun J H1=>∃ W:Nat->Nat->St->Hp->Prop,(∃ m,W 0 m σ H1)/\∀ i m σ H,W i m σ H->
 (J.stop i H/\D.nx σ H)\/(J.go i H/\∃ N:St->Hp->Prop,(∀ σ' H',N σ' H'->∃ m',m'<m/\W (i+1) m' σ' H')/\∀ x H',J.yld i H x H'->g x σ H' fun σ2 H2=>tb { D with nx:=N,ct:=N,bk:=D.nx} σ2 H2)
def jHR (fp:List Addr)(h:Heap):Ai:=fp.filterMap fun b=>(h.get? b).map fun o=>(b,o)
theorem jBW {fp:List Addr}{h:Heap}{b:Addr}{o:Obj}(hb:b∈fp)(e:h.get? b=some o):(b,o)∈jHR fp h:=lv.mpr ⟨b,hb,by rw[e]; rfl⟩
theorem jO6 {fp:List Addr}{h:Heap}{p:Addr×Obj}(hp:p∈jHR fp h):p.1∈fp/\h.get? p.1=some p.2:=by
 obtain⟨b,hb,e⟩:=lv.mp hp;cases q:h.get? b with
 | none=>rw[q] at e; cases e
 | some o=>
  rw[q] at e;have e':(b,o)=p:=bw e;subst e';exact⟨hb,q⟩
theorem Inv.pinned {lK:Ai}{σ:St}{H:Hp}{s:Shared}{fp:List Addr}(I:Inv X lK σ H s)(hf:∀ b∈fp,FpOk X lK H b)(ho:∀ b∈fp,∃ o,s.heap.get? b=some o/\∀ v,o.data≠ .cell v):Inv X (lK++jHR fp s.heap) σ H s:=
 I.pins_of fun p hp=>(aP.mp hp).elim (fun z=>I.pin p (aF _ z)) fun z=>by
  obtain⟨hb,e⟩:=jO6 z;obtain⟨f0,f1,f2,_⟩:=hf p.1 hb;obtain⟨o,e',d⟩:=ho p.1 hb;rw[e] at e'; cases e';exact⟨e,f0,f1,f2,d⟩
theorem Inv.unpinned {lK pl:Ai}{σ:St}{H:Hp}{s:Shared}(I:Inv X (lK++pl) σ H s):Inv X lK σ H s:=I.pins_of fun p hp=>I.pin p (aF _ (aZ _ hp))
theorem jST {iter:Expr}{body:List Stmt}{wi:TI}{g:TG}{tb:TS}{pos:Pos}(hp:PassesOwn (model X.prog X.w) X.A X.env X.xe)(hc:X.calm=true)(hi:PI X tg iter wi)(hg:PG X tg g)(hb:PSs X body tb)
  (hs:∀ x,foldedSetIterable iter X.env x=pure x:=by intro _; rfl):PS X (.For tg iter body [] pos) (tFor wi g tb):=by
 intro lK s σ H D I h;refine wpAny_For (lN (hi lK s σ H _ I h) fun v s1 h1=>lN h1 fun itv s2 h2=>?_) hs;obtain⟨it,fp,tn,J,H2,e,I2,T,st2,f2,W,⟨m0,w0⟩,turn⟩:=h2;subst e;have stat:∀ {H':Hp},(∀ b∈fp,H' b=none)->∀ b∈fp,FpOk X lK H' b:=fun hn b hb=>⟨hn b hb,(f2 b hb).2⟩;refine codeAny_forLoop_any (fun n s'=>∃ i σ' H',Inv X lK σ' H' s'/\tn i s'.heap/\(∀ b∈fp,H' b=none)/\W i n σ' H') ?_ m0 ⟨0,σ,H2,I2,st2,fun b hb=>(f2 b hb).1,w0⟩;rintro n s3 ⟨i,σ3,H3,I3,st3,fr3,w3⟩;rcases turn i n σ3 H3 w3 with ⟨stop,qn⟩ | ⟨go,N,hN,step⟩
 ·refine d0 hp (lN (T.done X rfl rfl rfl hc i lK s3 σ3 H3 X.xe I3 (stat fr3) st3 stop) fun r s4 ⟨hr,I4⟩=>?_);subst hr;exact ic ⟨σ3,H3,I4,qn⟩
 ·refine d0 hp (lN (T.item X rfl rfl rfl hc i lK s3 σ3 H3 X.xe I3 (stat fr3) st3 go) fun r s4 ⟨u,hr,h4⟩=>?_);subst hr;refine d0 hp (lN h4 fun _ s5 ⟨x,H5,I5,r5,y5,st5,fr5⟩=>?_);have I5':=I5.pinned (stat fr5) (T.obj _ _ st5);refine d0 hp (lN (hg _ s5 σ3 H5 x u _ I5' r5 (step x H5 y5)) fun _ s6 ⟨σ6,H6,I6,q6⟩=>?_);refine d0 hp (lN (hb _ s6 σ6 H6 _ I6 q6) fun f s7 q7=>?_);have again:∀ {σ7:St}{H7:Hp},Inv X (lK++jHR fp s5.heap) σ7 H7 s7->N σ7 H7->∃ m,m<n/\∃ i σ' H',Inv X lK σ' H' s7/\tn i s7.heap/\(∀ b∈fp,H' b=none)/\W i m σ' H':=fun {σ7 H7} I7 n7=>by
   obtain⟨m',hm,w7⟩:=hN σ7 H7 n7;refine⟨m',hm,i+1,σ7,H7,I7.unpinned,T.keep _ _ _ st5 fun b hb o e=>(I7.pin (b,o) (aF _ (aF _ (jBW hb e)))).1,fun b hb=>?_,w7⟩;obtain⟨o,e,d⟩:=T.obj _ _ st5 b hb;exact(I7.pin (b,o) (aF _ (aF _ (jBW hb e)))).2.1
  cases f with
  | next=>obtain⟨σ7,H7,I7,n7⟩:=q7; exact again I7 n7
  | cont=>obtain⟨σ7,H7,I7,n7⟩:=q7; exact again I7 n7
  | brk=>obtain⟨σ7,H7,I7,q7⟩:=q7; exact⟨σ7,H7,I7.unpinned,q7⟩
  | ret v=>obtain⟨x7,σ7,H7,I7,r7,q7⟩:=q7; exact⟨x7,σ7,H7,I7.unpinned,r7,q7⟩
end
theorem jD6 {K:W.Frag}{a:Addr}{xs:List V}{g:TG}{tb:TS}{D:Ends}{σ:St}{H:Hp}(Pv:Nat->St->Hp->Prop)(h0:Pv 0 σ H)(hl:∀ i σ H,i<=xs.length->Pv i σ H->SqL K H a xs)
  (hs:∀ i x σ H,xs[i]?=some x->Pv i σ H->g x σ H fun σ2 H2=>tb { D with nx:=Pv (i+1),ct:=Pv (i+1),bk:=D.nx} σ2 H2) (hd:∀ σ H,Pv xs.length σ H->D.nx σ H):
  ∃ W:Nat->Nat->St->Hp->Prop,(∃ m,W 0 m σ H)/\∀ i m σ H,W i m σ H->
   ((Itl K a).stop i H/\D.nx σ H)\/((Itl K a).go i H/\∃ N:St->Hp->Prop,(∀ σ' H',N σ' H'->∃ m',m'<m/\W (i+1) m' σ' H')/\∀ x H',(Itl K a).yld i H x H'->g x σ H' fun σ2 H2=>tb { D with nx:=N,ct:=N,bk:=D.nx} σ2 H2):=by
 refine⟨fun i m σ H=>m=xs.length - i/\i<=xs.length/\Pv i σ H,⟨xs.length,Ad,bo _,h0⟩,?_⟩;rintro i m σ H ⟨rfl,hi,p⟩;have q:=hl i σ H hi p;by_cases hlt:i<xs.length
 ·refine .inr ⟨⟨xs,xs[i],q,by simp [hlt]⟩,Pv (i+1),fun σ' H' p'=>⟨xs.length - (i+1),Aa,rfl,hlt,p'⟩,fun x H' y=>?_⟩;obtain⟨e,y⟩:=y;subst e;exact hs i x σ _ (y xs q) p
 ·have e:i=xs.length:=Aa;subst e;exact .inl ⟨⟨xs,q,aA _⟩,hd σ H p⟩
theorem jVE {K:W.Frag}{a:Addr}{xs:List V}{g:TG}{tb:TS}{D:Ends}{σ:St}{H:Hp}(Pv:Nat->St->Hp->Prop)(h0:Pv 0 σ H)(hl:∀ i σ H,i<=xs.length->Pv i σ H->SqT K H a xs)
  (hs:∀ i x σ H,xs[i]?=some x->Pv i σ H->g x σ H fun σ2 H2=>tb { D with nx:=Pv (i+1),ct:=Pv (i+1),bk:=D.nx} σ2 H2) (hd:∀ σ H,Pv xs.length σ H->D.nx σ H):
  ∃ W:Nat->Nat->St->Hp->Prop,(∃ m,W 0 m σ H)/\∀ i m σ H,W i m σ H->
   ((Itt K a).stop i H/\D.nx σ H)\/((Itt K a).go i H/\∃ N:St->Hp->Prop,(∀ σ' H',N σ' H'->∃ m',m'<m/\W (i+1) m' σ' H')/\∀ x H',(Itt K a).yld i H x H'->g x σ H' fun σ2 H2=>tb { D with nx:=N,ct:=N,bk:=D.nx} σ2 H2):=by
 refine⟨fun i m σ H=>m=xs.length - i/\i<=xs.length/\Pv i σ H,⟨xs.length,Ad,bo _,h0⟩,?_⟩;rintro i m σ H ⟨rfl,hi,p⟩;have q:=hl i σ H hi p;by_cases hlt:i<xs.length
 ·refine .inr ⟨⟨xs,xs[i],q,by simp [hlt]⟩,Pv (i+1),fun σ' H' p'=>⟨xs.length - (i+1),Aa,rfl,hlt,p'⟩,fun x H' y=>?_⟩;obtain⟨e,y⟩:=y;subst e;exact hs i x σ _ (y xs q) p
 ·have e:i=xs.length:=Aa;subst e;exact .inl ⟨⟨xs,q,aA _⟩,hd σ H p⟩
theorem jD5 {lo:Int}{n:Nat}{g:TG}{tb:TS}{D:Ends}{σ:St}{H:Hp}(Pv:Nat->St->Hp->Prop)(h0:Pv 0 σ H)
  (hs:∀ i σ H,i<n->Pv i σ H->g (.int (lo+i)) σ H fun σ2 H2=>tb { D with nx:=Pv (i+1),ct:=Pv (i+1),bk:=D.nx} σ2 H2) (hd:∀ σ H,Pv n σ H->D.nx σ H):
  ∃ W:Nat->Nat->St->Hp->Prop,(∃ m,W 0 m σ H)/\∀ i m σ H,W i m σ H->
   ((Itr lo n).stop i H/\D.nx σ H)\/((Itr lo n).go i H/\∃ N:St->Hp->Prop,(∀ σ' H',N σ' H'->∃ m',m'<m/\W (i+1) m' σ' H')/\∀ x H',(Itr lo n).yld i H x H'->g x σ H' fun σ2 H2=>tb { D with nx:=N,ct:=N,bk:=D.nx} σ2 H2):=by
 refine⟨fun i m σ H=>m=n - i/\i<=n/\Pv i σ H,⟨n,Ad,bo _,h0⟩,?_⟩;rintro i m σ H ⟨rfl,hi,p⟩;by_cases hlt:i<n
 ·refine .inr ⟨hlt,Pv (i+1),fun σ' H' p'=>⟨n - (i+1),Aa,rfl,hlt,p'⟩,fun x H' y=>?_⟩;obtain⟨e,y⟩:=y;subst e y;exact hs i σ _ hlt p
 ·have e:i=n:=Aa;subst e;exact .inl ⟨aA _,hd σ H p⟩
abbrev R2:=V->V->Hp->VK->Prop
def OpR (X:Cx)(f:Value->Value->Sem Value)(r:R2):Prop:=
 ∀ (lK:Ai) (s:Shared) (σ:St) (H:Hp) (x y:V) (v u:Value) (Q:VK),Inv X lK σ H s->RelV x v->RelV y u->r x y H Q->
  wpAny (model X.prog X.w) X.A (f v u) (EP X lK σ Q) X.xe s
def UnR (X:Cx)(f:Value->Sem Value)(r:V->Hp->VK->Prop):Prop:=
 ∀ (lK:Ai) (s:Shared) (σ:St) (H:Hp) (x:V) (v:Value) (Q:VK),Inv X lK σ H s->RelV x v->r x H Q->
  wpAny (model X.prog X.w) X.A (f v) (EP X lK σ Q) X.xe s
def yR (X:Cx)(f:Value)(r:List V->Hp->VK->Prop):Prop:=
 ∀ (lK:Ai) (s:Shared) (σ:St) (H:Hp) (xs:List V) (us:Al) (Q:VK),Inv X lK σ H s->Vals xs us->r xs H Q->
  wpAny (model X.prog X.w) X.A (call f us) (EP X lK σ Q) X.xe s
def tOp (r:R2)(ta tb:TE):TE:=fun σ H Q=>ta σ H fun x H1=>tb σ H1 fun y H2=>r x y H2 Q
def tUn (r:V->Hp->VK->Prop)(ta:TE):TE:=fun σ H Q=>ta σ H fun x H1=>r x H1 Q
def rI (C:Int->Int->Prop)(g:Int->Int->V):R2:=fun x y H Q=>∃ i j,x= .int i/\y= .int j/\C i j/\Q (g i j) H
def rI0 (g:Int->Int->V):R2:=fun x y H Q=>∃ i j,x= .int i/\y= .int j/\Q (g i j) H
def rU (g:Int->V):V->Hp->VK->Prop:=fun x H Q=>∃ i,x= .int i/\Q (g i) H
variable {c:Expr}{tc:TE}
section
variable {a:Expr}
theorem binT (ha:PE X a ta)(hb:PE X b tb){lK:Ai}{s:Shared}{σ:St}{H:Hp}{R:V->V->Hp->Prop}(I:Inv X lK σ H s)
  (h:ta σ H fun x H1=>tb σ H1 fun y H2=>R x y H2) {Q:Ah}{f:Value->Value->Sem Value}
  (hf:∀ v u s2 x y H2,Inv X lK σ H2 s2->RelV x v->RelV y u->R x y H2->wpAny (model X.prog X.w) X.A (f v u) Q X.xe s2):
  wpAny (model X.prog X.w) X.A (eval a X.env) (fun v s₁=>wpAny (model X.prog X.w) X.A (eval b X.env) (fun u s₂=>wpAny (model X.prog X.w) X.A (f v u) Q X.xe s₂) X.xe s₁) X.xe s:=by
 refine lN (ha lK s σ H _ I h) fun v s1 ⟨x,H1,I1,r1,q1⟩=>?_;refine lN (hb lK s1 σ H1 _ I1 q1) fun u s2 ⟨y,H2,I2,r2,q2⟩=>?_;exact hf v u s2 x y H2 I2 r1 r2 q2
theorem kR {op:Operator}{r:R2}(ho:OpR X (binaryOp op) r)(ha:PE X a ta)(hb:PE X b tb):PE X (.BinOp a op b pos) (tOp r ta tb):=by
 intro lK s σ H Q I h;exact wpAny_BinOp (binT ha hb I h fun v u s2 x y H2 I2 rx ry q=>ho lK s2 σ H2 x y v u Q I2 rx ry q)
theorem pe_un {op:UnaryOp}{r:V->Hp->VK->Prop}(ho:UnR X (unaryOp op) r)(ha:PE X a ta):PE X (.UnaryOp op a pos) (tUn r ta):=by
 intro lK s σ H Q I h;exact UnaryOp_ (lN (ha lK s σ H _ I h) fun v s1 ⟨x,H1,I1,r1,q1⟩=>ho lK s1 σ H1 x v Q I1 r1 q1)
theorem opI {f:Value->Value->Sem Value}{C:Int->Int->Prop}{g:Int->Int->Int}
  (rule:∀ (i j:Int) (t u:Tok) (s:Shared) (Q:Ah) (E:Ah),C i j->Q (.int (g i j) s.toks) { s with toks:=s.toks+1} ->wpAny (model X.prog X.w) X.A (f (.int i t) (.int j u)) Q E s):
  OpR X f (rI C fun i j=> .int (g i j)):=by
 intro lK s σ H x y v u Q I rx ry h;obtain⟨i,j,rfl,rfl,hc,q⟩:=h;obtain⟨t,rfl⟩:=rx;obtain⟨t',rfl⟩:=ry;exact rule i j t t' s _ _ hc ⟨.int (g i j),H,I.tok _,⟨_,rfl⟩,q⟩
theorem opI0 {f:Value->Value->Sem Value}{g:Int->Int->Int}
  (rule:∀ (i j:Int) (t u:Tok) (s:Shared) (Q:Ah) (E:Ah),Q (.int (g i j) s.toks) { s with toks:=s.toks+1} ->wpAny (model X.prog X.w) X.A (f (.int i t) (.int j u)) Q E s):
  OpR X f (rI0 fun i j=> .int (g i j)):=by
 intro lK s σ H x y v u Q I rx ry h;obtain⟨i,j,rfl,rfl,q⟩:=h;obtain⟨t,rfl⟩:=rx;obtain⟨t',rfl⟩:=ry;exact rule i j t t' s _ _ ⟨.int (g i j),H,I.tok _,⟨_,rfl⟩,q⟩
theorem opB0 {f:Value->Value->Sem Value}{g:Int->Int->Bool}
  (rule:∀ (i j:Int) (t u:Tok) (s:Shared) (Q:Ah) (E:Ah),Q (.bool (g i j)) s->wpAny (model X.prog X.w) X.A (f (.int i t) (.int j u)) Q E s):
  OpR X f (rI0 fun i j=> .bl (g i j)):=by
 intro lK s σ H x y v u Q I rx ry h;obtain⟨i,j,rfl,rfl,q⟩:=h;obtain⟨t,rfl⟩:=rx;obtain⟨t',rfl⟩:=ry;exact rule i j t t' s _ _ ⟨.bl (g i j),H,I,rfl,q⟩
def CPow (i j:Int):Prop:=0<=j/\j<=1000000/\i.natAbs<2 ^ 64
def CMul (i j:Int):Prop:=(-(2 ^ 64)<i/\i<2 ^ 64)\/(-(2 ^ 64)<j/\j<2 ^ 64)
theorem CMul.ok {i j:Int}(h:CMul i j):IntMulOk i j:=by
 rcases h with ⟨h1,h2⟩ | ⟨h1,h2⟩
 ·exact .of_left (intBits_le_64 h1 h2)
 ·exact .of_right (intBits_le_64 h1 h2)
theorem jLW (k:Nat):(0:Int)<=2 ^ k:=by
 rw[two_pow_cast];exact gj _
theorem yE:OpR X (binaryOp .Add) (rI0 fun i j=> .int (i+j)):=opI0 fun _ _ _ _ _ _ _ q=>add_int q
theorem jEK:OpR X (binaryOp .Sub) (rI0 fun i j=> .int (i - j)):=opI0 fun _ _ _ _ _ _ _ q=>sub_int q
theorem jDW:OpR X (binaryOp .Mult) (rI CMul fun i j=> .int (i*j)):=opI fun _ _ _ _ _ _ _ hc q=>mul_int q hc.ok
theorem jHX:OpR X (binaryOp .Mod) (rI (fun _ j=>0<j) fun i j=> .int (i % j)):=opI fun i j _ _ _ _ _ hc q=>by
 have h1:(0:Int)<j:=hc;exact mod_int' Aa (by rw[Int.fmod_eq_emod_of_nonneg i Aa]; exact q)
theorem jNT:OpR X (binaryOp .Pow) (rI CPow fun i j=> .int (i ^ j.toNat)):=opI fun _ _ _ _ _ _ _ hc q=>pow_int_small hc.1 hc.2.1 hc.2.2 q
theorem jHW:OpR X (binaryOp .LShift) (rI CPow fun i j=> .int (i*2 ^ j.toNat)):=opI fun _ _ _ _ _ _ _ hc q=>lshift_int_small hc.1 hc.2.1 hc.2.2 q
theorem jSW:OpR X (binaryOp .RShift) (rI (fun _ j=>0<=j) fun i j=> .int (i / 2 ^ j.toNat)):=opI fun i j _ _ _ _ _ hc q=>
 rshift_int hc (by rw[iE i (jLW _)]; exact q)
theorem jKT:OpR X (binaryOp .BitAnd) (rI0 fun i j=> .int (Builtin.bitAnd i j)):=opI0 fun _ _ _ _ _ _ _ q=>and_int q
theorem op_or:OpR X (binaryOp .BitOr) (rI0 fun i j=> .int (Builtin.bitOr i j)):=opI0 fun _ _ _ _ _ _ _ q=>or_int q
theorem unI {f:Value->Sem Value}{g:Int->Int}
  (rule:∀ (i:Int) (t:Tok) (s:Shared) (Q:Ah) (E:Ah),Q (.int (g i) s.toks) { s with toks:=s.toks+1} ->wpAny (model X.prog X.w) X.A (f (.int i t)) Q E s):
  UnR X f (rU fun i=> .int (g i)):=by
 intro lK s σ H x v Q I rx h;obtain⟨i,rfl,q⟩:=h;obtain⟨t,rfl⟩:=rx;exact rule i t s _ _ ⟨.int (g i),H,I.tok _,⟨_,rfl⟩,q⟩
theorem jSF:UnR X (unaryOp .USub) (rU fun i=> .int (-i)):=unI fun _ _ _ _ _ q=>neg_int q
theorem jVV:UnR X (unaryOp .Invert) (rU fun i=> .int (Builtin.bitNot i)):=unI fun _ _ _ _ _ q=>invert_int q
end
def scal:V->V->Bool
 | .non, .non=>true | .non, .int _=>true | .int _, .non=>true | .non, .bl _=>true | .bl _, .non=>true | .non, .str _=>true | .str _, .non=>true
 | .int _, .int _=>true | .bl _, .bl _=>true | .str _, .str _=>true | .byt _, .byt _=>true
 | .int _, .str _=>true | .str _, .int _=>true | .bl _, .str _=>true | .str _, .bl _=>true
 | _,_=>false
def rEq:R2:=fun x y H Q=>scal x y=true/\Q (.bl (decide (x=y))) H
def rNe:R2:=fun x y H Q=>scal x y=true/\Q (.bl (!decide (x=y))) H
theorem jF7 {i j:Int} :decide (V.int i=V.int j)=(i==j):=by
 rw[bZ];simp
theorem jTD {i j:Bool} :decide (V.bl i=V.bl j)=(i==j):=by
 rw[bZ];simp
theorem jPT {i j:Str} :decide (V.str i=V.str j)=(i==j):=by
 rw[bZ];simp
theorem jPU {i j:Array UInt8} :decide (V.byt i=V.byt j)=(i.toList==j.toList):=by
 rw[bZ];cases i;cases j;simp
section
variable {a:Expr}
theorem kD {lK:Ai}{σ:St}{H:Hp}{s:Shared}{Q:VK}{k k':Bool}(I:Inv X lK σ H s)(q:Q (.bl k) H)(e:k=k'):EP X lK σ Q (.bool k') s:=by
 subst e;exact⟨.bl k,H,I,rfl,q⟩
theorem qU:OpR X (compareOp .Eq) rEq:=by
 intro lK s σ H x y v u Q I rx ry h;obtain⟨hs,q⟩:=h;cases x with
 | non=>
  cases rx;cases y with
  | non=>cases ry; exact PySem.EqNone.eq_none_none (kD I q Ad)
  | bl j=>cases ry; exact PySem.EqNone.eq_none_bool (kD I q Ad)
  | int j=>obtain⟨t',rfl⟩:=ry; exact PySem.EqNone.eq_none_int (kD I q Ad)
  | str j=>obtain⟨t',rfl⟩:=ry; exact PySem.EqNone.eq_none_str (kD I q Ad)
  | _=>exact absurd (show false=true from hs) az
 | bl i=>
  cases rx;cases y with
  | non=>cases ry; exact PySem.EqNone.eq_bool_none (kD I q Ad)
  | bl j=>cases ry; exact eq_bool (kD I q jTD)
  | str j=>obtain⟨t',rfl⟩:=ry; exact PySem.EqMixed.eq_bool_str (kD I q Ad)
  | _=>exact absurd (show false=true from hs) az
 | int i=>
  obtain⟨t,rfl⟩:=rx;cases y with
  | non=>cases ry; exact PySem.EqNone.eq_int_none (kD I q Ad)
  | int j=>obtain⟨t',rfl⟩:=ry; exact eq_int (kD I q jF7)
  | str j=>obtain⟨t',rfl⟩:=ry; exact PySem.EqMixed.eq_int_str (kD I q Ad)
  | _=>exact absurd (show false=true from hs) az
 | str i=>
  obtain⟨t,rfl⟩:=rx;cases y with
  | non=>cases ry; exact PySem.EqNone.eq_str_none (kD I q Ad)
  | bl j=>cases ry; exact PySem.EqMixed.eq_str_bool (kD I q Ad)
  | int j=>obtain⟨t',rfl⟩:=ry; exact PySem.EqMixed.eq_str_int (kD I q Ad)
  | str j=>obtain⟨t',rfl⟩:=ry; exact eq_str (kD I q jPT)
  | _=>exact absurd (show false=true from hs) az
 | byt i=>
  obtain⟨t,rfl⟩:=rx;cases y with
  | byt j=>obtain⟨t',rfl⟩:=ry; exact PySem.W.eq_bytes (kD I q jPU)
  | _=>exact absurd (show false=true from hs) az
 | _=>cases y <;> exact absurd (show false=true from hs) az
theorem op_ne:OpR X (compareOp .NotEq) rNe:=by
 intro lK s σ H x y v u Q I rx ry h;obtain⟨hs,q⟩:=h;cases x with
 | non=>
  cases rx;cases y with
  | non=>cases ry; exact PySem.EqNone.ne_none_none (kD I q Ad)
  | bl j=>cases ry; exact PySem.EqNone.ne_none_bool (kD I q Ad)
  | int j=>obtain⟨t',rfl⟩:=ry; exact PySem.EqNone.ne_none_int (kD I q Ad)
  | str j=>obtain⟨t',rfl⟩:=ry; exact PySem.EqNone.ne_none_str (kD I q Ad)
  | _=>exact absurd (show false=true from hs) az
 | bl i=>
  cases rx;cases y with
  | non=>cases ry; exact PySem.EqNone.ne_bool_none (kD I q Ad)
  | bl j=>cases ry; exact ne_bool (kD I q (bY not jTD))
  | str j=>obtain⟨t',rfl⟩:=ry; exact PySem.EqMixed.ne_bool_str (kD I q Ad)
  | _=>exact absurd (show false=true from hs) az
 | int i=>
  obtain⟨t,rfl⟩:=rx;cases y with
  | non=>cases ry; exact PySem.EqNone.ne_int_none (kD I q Ad)
  | int j=>obtain⟨t',rfl⟩:=ry; exact ne_int (kD I q (bY not jF7))
  | str j=>obtain⟨t',rfl⟩:=ry; exact PySem.EqMixed.ne_int_str (kD I q Ad)
  | _=>exact absurd (show false=true from hs) az
 | str i=>
  obtain⟨t,rfl⟩:=rx;cases y with
  | non=>cases ry; exact PySem.EqNone.ne_str_none (kD I q Ad)
  | bl j=>cases ry; exact PySem.EqMixed.ne_str_bool (kD I q Ad)
  | int j=>obtain⟨t',rfl⟩:=ry; exact PySem.EqMixed.ne_str_int (kD I q Ad)
  | str j=>obtain⟨t',rfl⟩:=ry; exact ne_str (kD I q (bY not jPT))
  | _=>exact absurd (show false=true from hs) az
 | byt i=>
  obtain⟨t,rfl⟩:=rx;cases y with
  | byt j=>obtain⟨t',rfl⟩:=ry; exact PySem.W.ne_bytes (kD I q (bY not jPU))
  | _=>exact absurd (show false=true from hs) az
 | _=>cases y <;> exact absurd (show false=true from hs) az
theorem op_lt:OpR X (compareOp .Lt) (rI0 fun i j=> .bl (decide (i<j))):=opB0 fun _ _ _ _ _ _ _ q=>lt_int q
theorem op_le:OpR X (compareOp .LtE) (rI0 fun i j=> .bl (decide (i<=j))):=opB0 fun _ _ _ _ _ _ _ q=>le_int q
theorem op_gt:OpR X (compareOp .Gt) (rI0 fun i j=> .bl (decide (j<i))):=opB0 fun _ _ _ _ _ _ _ q=>gt_int q
theorem op_ge:OpR X (compareOp .GtE) (rI0 fun i j=> .bl (decide (j<=i))):=opB0 fun _ _ _ _ _ _ _ q=>ge_int q
theorem jSX:OpR X (compareOp .Is) (fun x y H Q=>y= .non/\Q (.bl (decide (x= .non))) H):=by
 intro lK s σ H x y v u Q I rx ry h;obtain⟨rfl,q⟩:=h;cases ry;refine is_none_gen (kD I q ?_);cases x <;> first
  | (cases rx; rfl)
  | (obtain⟨t,rfl⟩:=rx; rfl)
theorem jNU:OpR X (compareOp .IsNot) (fun x y H Q=>y= .non/\Q (.bl (!decide (x= .non))) H):=by
 intro lK s σ H x y v u Q I rx ry h;obtain⟨rfl,q⟩:=h;cases ry;refine isnot_none_gen (kD I q ?_);cases x <;> first
  | (cases rx; rfl)
  | (obtain⟨t,rfl⟩:=rx; rfl)
theorem jT (b:Expr){op:CmpOp}(h:op≠ .In:=by decide)(h2:op≠ .NotIn:=by decide):behindInMarks op b=false:=by
 have e1:(op==CmpOp.In)=false:=by cases op <;> first | rfl | exact absurd rfl h
 have e2:(op==CmpOp.NotIn)=false:=by cases op <;> first | rfl | exact absurd rfl h2
 cases b <;> simp [behindInMarks,e1,e2]
theorem jUF {op:CmpOp}{r:R2}(ho:OpR X (compareOp op) r)(ha:PE X a ta)(hb:PE X b tb)(hm:behindInMarks op b=false):PE X (.Compare a [op] [b] pos) (tOp r ta tb):=by
 intro lK s σ H Q I h;exact wpAny_Compare1 (binT ha hb I h fun v u s2 x y H2 I2 rx ry q=>ho lK s2 σ H2 x y v u Q I2 rx ry q) hm
def tTest (t:TE):TT:=fun σ H Q=>t σ H fun x H'=>∃ k,x= .bl k/\Q k H'
theorem jEF {op:CmpOp}{r:R2}(ho:OpR X (compareOp op) r)(ha:PE X a ta)(hb:PE X b tb)(hm:behindInMarks op b=false):PT X (.Compare a [op] [b] pos) (tTest (tOp r ta tb)):=by
 intro lK s σ H Q I h;refine wpAny_isTrue_Compare1 (lN (ha lK s σ H _ I h) fun v s1 ⟨x,H1,I1,r1,q1⟩=>lN (hb lK s1 σ H1 _ I1 q1) fun u s2 ⟨y,H2,I2,r2,q2⟩=>
  lN (ho lK s2 σ H2 x y v u _ I2 r1 r2 q2) fun c s3 ⟨z,H3,I3,r3,k,e,q3⟩=>?_) hm
 subst e;cases r3;exact dJ ⟨H3,I3,q3⟩
theorem jI4:(sizeLine:Nat)<2 ^ 63:=by rw[eW]; decide
theorem vals1 {x:V}{us:Al}(r:Vals [x] us):∃ u,us=[u]/\RelV x u:=by
 cases r with
 | cons r1 r2=>cases r2; exact⟨_,rfl,r1⟩
theorem jQ3:yR X (.type "int") (fun xs H Q=>(∃ i,xs=[.int i]/\Q (.int i) H)\/∃ k,xs=[.bl k]/\Q (.int (if k then 1 else 0)) H):=by
 intro lK s σ H xs us Q I r h;rcases h with ⟨i,rfl,q⟩ | ⟨k,rfl,q⟩
 ·obtain⟨u,rfl,t,rfl⟩:=vals1 r;exact call_int_int ⟨.int i,H,I,⟨_,rfl⟩,q⟩
 ·obtain⟨u,rfl,r1⟩:=vals1 r;cases r1;exact call_int_bool ⟨.int (if k then 1 else 0),H,I.tok _,⟨_,rfl⟩,q⟩
end
structure ObjM (h:Heap)(x dx C:Addr)(mA:Ak):Prop where
 obj:h.get? x=some (instObj C dx)
 ns:h.Ns1 dx mA
 ne:dx≠x
theorem jOP {h:Heap}{dx:Addr}{mA:Ak}(n:h.Ns1 dx mA):∃ od,h.get? dx=some od/\∀ name,lookIn name od=some (mA name):=by
 obtain⟨o,es,ep,ho,hd,hk,_,hm⟩:=n;refine⟨o,ho,fun name=>?_⟩;have e:=hm name;unfold nsFind findBy at e;rw[<- Array.find?_toList] at e;unfold lookIn;rw[hd];dsimp only;split
 ·rename_i y q;rw[q] at e;exact bY some e
 ·rename_i q;rw[q] at e;have a:es.toList.any (·.refKey)=false:=by
   rw[List.any_eq_false];intro y hy;obtain⟨z,t,hkey⟩:=hk y (Array.mem_toList_iff.mp hy);simp [DictEntry.refKey,hkey]
  have a':¬ es.toList.any (·.refKey)=true:=by rw[a]; exact az
  rw[aw a'];exact bY some e
theorem ObjM.look {h:Heap}{x dx C:Addr}{mA:Ak}(I:ObjM h x dx C mA):∃ od,PySem.W.InstAt h x (instObj C dx) C (some od)/\∀ name,lookIn name od=some (mA name):=
 let ⟨od,ho,hl⟩:=jOP I.ns
 ⟨od,⟨I.obj,rfl,rfl,ho⟩,hl⟩
variable {A:Around}{dx C f:Addr}
section
variable {prog:Program}{K:W.Frag}{mA:Ak}{name:Str}{v:Value}
end
theorem RelO.some_of {v:V}{o:Ao}(r:RelO (some v) o):∃ u,o=some u/\RelV v u:=by
 cases o with
 | none=>exact(show False from r).elim
 | some u=>exact⟨u,rfl,r⟩
section
variable {fs fs':List (Str×V)}
theorem jV7 (hok:HOk P w H h)(e:H a=some (.ins C dx fs)):∃ mA,ObjM h a dx C mA/\(∀ f,RelO (fs.lookup f) (mA f))/\PySem.Within mA (fs.map (·.1))/\fs.length<=1000/\H dx=some (.own a):=by
 obtain⟨d,z,ne,ob,mA,n,r,q⟩:=(show ObjOk P w H h a (.ins C dx fs) from hok a _ e);exact⟨mA,⟨ob,n,ne⟩,r,q,z,d⟩
end
structure Cls (K:W.Frag)(C:Addr):Prop where
 pg:plainGet K C Str.empty=true
 hd:PySem.W.hasDictIn K C=true
 po:PySem.W.plainOver K C=true
 sa:findIn K (.ref C) "__setattr__" =some (some (.builtin "object.__setattr__"))
theorem Cls.get {K:W.Frag}{C:Addr}(c:Cls K C)(f:Str):plainGet K C f=true:=c.pg
section
variable {σ:St}{fs:List (Str×V)}{f:Str}{v:V}
end
variable {o:Expr}
section
variable {value:Expr}{f:Str}{pos' tpos:Pos}{tv:TE}
end
section
variable {σ:St}{Q:Ah}{c:Value}{b:Bool}
inductive TyOf (K:W.Frag) (H:Hp):V->Value->Prop where
 | non:TyOf K H .non (.type "NoneType")
 | bl (x:Bool):TyOf K H (.bl x) (.type "bool")
 | int (i:Int):TyOf K H (.int i) (.type "int")
 | str (x:Str):TyOf K H (.str x) (.type "str")
 | flt (x:UInt64):TyOf K H (.flt x) (.type "float")
 | lst {a:Addr}{xs:List V}(e:H a=some (.lst xs)):TyOf K H (.ref a) (.type "list")
 | frz {a:Addr}{o:Obj}{xs:List V}(e:H a=some (.frz o (.lst xs))):TyOf K H (.ref a) (.type "list")
 | tup {a:Addr}{xs:List V}(e:H a=some (.tup xs)):TyOf K H (.ref a) (.type "tuple")
 | dK {a:Addr}{kvs:List (Key×V)}(e:H a=some (.dK kvs)):TyOf K H (.ref a) (.type "dict")
 | dT {a:Addr}{kvs:List (List Key×V)}(e:H a=some (.dT kvs)):TyOf K H (.ref a) (.type "dict")
 | ins {a C dx:Addr}{fs:List (Str×V)}(e:H a=some (.ins C dx fs)) (cl:Cls K C) (ha:findIn K (.ref C) "__class__" =some (some (.builtin "object.__class__")))
   (hn:PySem.W.specialIn K (.builtin "object.__class__") "__get__" =some (some (.builtin "getset_descriptor.__get__"))) (htk:PySem.W.takesIn K (.builtin "object.__class__")=some true)
   (hm:mroIn K C (.type "object")=some true):TyOf K H (.ref a) (.ref C)
theorem jPD {x:V}{u t:Value}(I:Inv X lK σ H s)(rx:RelV x u)(ty:TyOf X.K H x t)(e:kitOne X.K t c=some b)(h:∀ tk,Q (.bool b) { s with toks:=tk}):
  wpAny (model X.prog X.w) A (call (.builtin "isinstance") [u,c]) Q E s:=by
 cases ty with
 | non=>cases (show u=Value.none from rx); exact cJ PySem.W.kitx_none I.kIn True.intro e (fun z=>nomatch z) h
 | bl y=>cases (show u=Value.bool y from rx); exact cJ PySem.W.kitx_bool I.kIn True.intro e (fun z=>nomatch z) h
 | int i=>obtain⟨t,q⟩:=(show ∃ t,u=Value.int i t from rx); cases q; exact cJ PySem.W.kitx_int I.kIn True.intro e (fun z=>nomatch z) h
 | str y=>obtain⟨t,q⟩:=(show ∃ t,u=Value.str y t from rx); cases q; exact cJ PySem.W.kitx_str I.kIn True.intro e (fun z=>nomatch z) h
 | flt y=>obtain⟨t,q⟩:=(show ∃ t,u=Value.float y t from rx); cases q; exact cJ PySem.W.kitx_float I.kIn True.intro e (fun z=>nomatch z) h
 | @lst a xs ea=>
  cases (show u=Value.ref a from rx);obtain⟨_,_,n,_,h1⟩:=(show ObjOk X.prog X.w H s.heap a (.lst xs) from I.hok a _ ea);exact cJ kitx_list I.kIn ⟨_,h1,rfl⟩ e (fun z=>nomatch z) h
 | @frz a ob xs ea=>
  cases (show u=Value.ref a from rx);obtain⟨_,_,_,n,_,h1⟩:=(show ObjOk X.prog X.w H s.heap a (.frz ob (.lst xs)) from I.hok a _ ea);exact cJ kitx_list I.kIn ⟨_,h1,rfl⟩ e (fun z=>nomatch z) h
 | @tup a xs ea=>
  cases (show u=Value.ref a from rx);obtain⟨_,_,_,p⟩:=(show ObjOk X.prog X.w H s.heap a (.tup xs) from I.hok a _ ea);obtain⟨o,h1,h2,_⟩:=p.isTup;exact cJ PySem.W.kitx_tuple I.kIn ⟨o,h1,h2⟩ e (fun z=>nomatch z) h
 | @dK a kvs ea=>
  cases (show u=Value.ref a from rx);obtain⟨_,_,vs,_,p⟩:=(show ObjOk X.prog X.w H s.heap a (.dK kvs) from I.hok a _ ea);obtain⟨o,es,ep,h1,h2,_⟩:=p;exact cJ kitx_dict I.kIn ⟨o,h1,h2.1⟩ e (fun z=>nomatch z) h
 | @dT a kvs ea=>
  cases (show u=Value.ref a from rx);obtain⟨_,_,xs,_,o,es,ep,h1,h2,_⟩:=(show ObjOk X.prog X.w H s.heap a (.dT kvs) from I.hok a _ ea);exact cJ kitx_dict I.kIn ⟨o,h1,h2.1⟩ e (fun z=>nomatch z) h
 | @ins a C dx fs ea cl ha hn htk hm=>
  cases (show u=Value.ref a from rx);obtain⟨mA,O,_⟩:=jV7 I.hok ea;obtain⟨od,J,_⟩:=O.look;exact cJ (PySem.W.kitx_own (cl.get _) cl.hd ha hn htk hm) I.kIn J e (fun z=>nomatch z) h
end
structure Room (k:Nat)(A:Around):Prop where
 hd:A.handled=none
 dp:A.depth+3*k+5<recursionLimit
 un:A.units+16*k+200<cLine
theorem Room.mono {j k:Nat}{A:Around}(r:Room k A)(h:j<=k):Room j A:=⟨r.hd,by have:=r.dp; lia,by have:=r.un; lia⟩
theorem Room.deeper {k:Nat}{A:Around}(r:Room (k+1) A)(env:Env):Room k (A.deeper env):=
 ⟨r.hd,by have:=r.dp; show A.depth+1+3*k+5<_; lia,by have:=r.un; show A.units+3+16*k+200<_; lia⟩
theorem Room.in1 {k:Nat}{A:Around}(r:Room (k+1) A):Room k A.in1:=
 ⟨r.hd,by have:=r.dp; show A.depth+3*k+5<_; lia,by have:=r.un; show A.units+1+16*k+200<_; lia⟩
theorem Room.depth {k:Nat}{A:Around}(r:Room k A):A.depth<recursionLimit:=by have:=r.dp; lia
theorem Room.units {k:Nat}{A:Around}(r:Room k A):A.units+64<cLine:=by have:=r.un; lia
theorem Room.units0 {k:Nat}{A:Around}(r:Room k A):A.units<cLine:=by have:=r.un; lia
def tNil:TA:=fun _ H Q=>Q [] H
def tCons (ta:TE)(tr:TA):TA:=fun σ H Q=>ta σ H fun x H1=>tr σ H1 fun xs H2=>Q (x::xs) H2
variable {es:List Expr}{t:TA}
theorem yQ:PA X [] tNil:=fun _ _ _ _ H Q I h=>Calls.spliced_nil ⟨[],H,I, .nil,h⟩
theorem kI (ha:PE X e te)(hr:PA X es t)(hs:starEach (e::es) X.env=(false,eval e X.env)::starEach es X.env:=by rfl):PA X (e::es) (tCons te t):=by
 intro pos lK s σ H Q I h;rw[hs];show wpAny _ _ (spliced ((false,eval e X.env)::backTo pos (starEach es X.env))) _ _ s;refine Calls.spliced_cons (lN (ha lK s σ H _ I h) fun u s1 ⟨x,H1,I1,r1,q1⟩=>?_);exact lN (hr pos lK s1 σ H1 _ I1 q1) fun us s2 ⟨xs,H2,I2,r2,q2⟩=>⟨x::xs,H2,I2, .cons r1 r2,q2⟩
def tTup (t:TA):TE:=fun σ H Q=>t σ H fun xs H1=>xs.length<=sizeLine/\∀ p,H1 p=none->Q (.ref p) (upd H1 p (.tup xs))
def tLst (t:TA):TE:=fun σ H Q=>t σ H fun xs H1=>xs.length<=sizeLine/\∀ p,H1 p=none->Q (.ref p) (upd H1 p (.lst xs))
theorem jWH {x1}(h:PA X es t):PE X (.Tuple es x1 pos) (tTup t):=by
 intro lK s σ H Q I hq;refine wpAny_Tuple_spliced (lN (h pos lK s σ H _ I hq) fun us s1 ⟨xs,H1,I1,r,z,q⟩=>⟨by rw[<- r.length]; exact z,?_⟩);have hf:H1 s1.heap.objs.size=none:=I1.hok.fresh (aA _);refine⟨.ref s1.heap.objs.size,upd H1 s1.heap.objs.size (.tup xs),I1.laid (t':=s1.toks) (fun b u e=>ah _ e) (aA _) ?_,rfl,q _ hf⟩;exact⟨z,us,r,TupO.new _ _⟩
theorem jKR (h:PA X es t):PE X (.List es pos) (tLst t):=by
 intro lK s σ H Q I hq;refine wpAny_List_spliced (lN (h pos lK s σ H _ I hq) fun us s1 ⟨xs,H1,I1,r,z,q⟩=>⟨by rw[<- r.length]; exact z,?_⟩);have hf:H1 s1.heap.objs.size=none:=I1.hok.fresh (aA _);refine⟨.ref s1.heap.objs.size,upd H1 s1.heap.objs.size (.lst xs),I1.laid (t':=s1.toks) (fun b u e=>ah _ e) (aA _) ?_,rfl,q _ hf⟩;exact⟨z,us,0,r,aC _ rfl⟩
abbrev Sp:=List V->Hp->VK->XK->Prop
abbrev CXT:=List Env->Hp->Shared->XK->Ah
structure Env0 (P:Program)(w:World)(K:W.Frag)(mg:Ak)(Aq:Heap)(A:Around)(Ap:List Env)(s:Shared)(H:Hp):Prop where
 frames:A.frames=some Ap
 mod:Mod K mg Aq
 bs:∀ b o,Aq.get? b=some o->s.heap.get? b=some o/\H b=none
 bsz:Aq.objs.size<=s.heap.objs.size
 funs:s.heap.FunFrames Aq Ap
 frf:∀ b∈frs Ap,H b=none
 hok:HOk P w H s.heap
 bare:AllBare s.gens
def CE (Ap:List Env)(P:Program)(w:World)(H:Hp)(s:Shared)(Q:VK)(u:Value)(s':Shared):Prop:=
 ∃ v H',s'.os=s.os/\AllBare s'.gens/\Un (frs Ap) [] H H' s.heap s'.heap/\HOk P w H' s'.heap/\RelV v u/\Q v H'
def CR (CX:CXT)(Ap:List Env)(P:Program)(w:World)(H:Hp)(s:Shared)(Q:VK)(E:XK)(r:Result)(s':Shared):Prop:=
 match r with
 | .ok (.ret u)=>CE Ap P w H s Q u s'
 | .ok _=>False
 | .error e=>CX Ap H s E e s'
structure FnOk (P:Program)(w:World)(K:W.Frag)(mg:Ak)(Aq:Heap)(CX:CXT)(k:Nat)(f:Addr)(fd:FuncData)(ps:Am)(sp:Sp):Prop where
 len:∀ vs H Q E,sp vs H Q E->vs.length=ps.length
 run:∀ (A:Around) (Ap:List Env) (s:Shared) (H:Hp) (args:Args) (us:Al) (vs:List V) (Q:VK) (E:XK),Room k A->Env0 P w K mg Aq A Ap s H->BindsTo s fd args (ps.zip us)->Vals vs us->sp vs H Q E->
  codeAny (model P w) A (.call (.ref f) args) (CR CX Ap P w H s Q E) s
theorem Env0.in1 {P:Program}{w:World}{K:W.Frag}{mg:Ak}{Aq:Heap}{A:Around}{Ap:List Env}{s:Shared}{H:Hp}(e:Env0 P w K mg Aq A Ap s H):
  Env0 P w K mg Aq A.in1 Ap s H:=⟨e.frames,e.mod,e.bs,e.bsz,e.funs,e.frf,e.hok,e.bare⟩
section
variable {σ:St}{s':Shared}
theorem Inv.env0 (I:Inv X lK σ H s):Env0 X.prog X.w X.K X.mg X.Aq X.A X.stack s H:=
 ⟨I.ok.frames,I.ok.mod,I.bs,bi I.ok.bsz I.sz,I.stack,I.stkFree,I.hok,I.bare⟩
theorem Inv.after {Q:VK}{u:Value}(I:Inv X lK σ H s)(h:CE X.stack X.prog X.w H s Q u s'):EP X lK σ Q u s':=by
 obtain⟨v,H',os,bare,un,hok,r,q⟩:=h;obtain⟨hh,g,d,t,os'⟩:=s';obtain rfl:os'=s.os:=os;exact⟨v,H',I.call (h':=hh) (g':=g) (d':=d) (t':=t) (ch:=[]) un hok bare (fun b z=>absurd z Ad),r,q⟩
end
def tCall (sp:Sp)(dvs:List V)(E:XK)(t:TA):TE:=fun σ H Q=>t σ H fun vs H1=>sp (vs++dvs) H1 Q E
def Binds (K:W.Frag)(fd:FuncData)(ps:Am)(ds:Al):Prop:=
 ∀ (s:Shared) (us:Al),K.In s.heap->(us++ds).length=ps.length->BindsTo s fd ⟨us,[]⟩ (ps.zip (us++ds))
theorem Binds.all {K:W.Frag}{fd:FuncData}{ps:Am}(h:∀ us:Al,us.length=ps.length->bindArgs fd ⟨us,[]⟩=pure (ps.zip us)):Binds K fd ps []:=fun s us _ hl=>by
 rw[bg] at hl ⊢;exact .of_eq (h us hl)
def jQF (CX:CXT)(X:Cx)(E:XK):Prop:=∀ (lK:Ai) (σ:St) (H:Hp) (s:Shared) (e:Value) (s':Shared),Inv X lK σ H s->CX X.stack H s E e s'->X.xe e s'
variable {CX:CXT}{fd:FuncData}{ps:Am}{sp:Sp}{m:Str}{p apos:Pos}
section
variable {k:Nat}{dvs:List V}{ds:Al}{E:XK}{x:Str}
theorem jW4 {lK:Ai}{σ:St}{H:Hp}{s:Shared}{Q:VK}{us:Al}{vs:List V}(F:FnOk X.prog X.w X.K X.mg X.Aq CX k f fd ps sp)(hr:Room k X.A)(hb:Binds X.K fd ps ds)(hd:Vals dvs ds)(hx:jQF CX X E)
  (I:Inv X lK σ H s) (r:Vals vs us) (h:sp (vs++dvs) H Q E):wpAny (model X.prog X.w) X.A (call (.ref f) us) (EP X lK σ Q) X.xe s:=by
 have r2:Vals (vs++dvs) (us++ds):=r.append hd;have hl:(us++ds).length=ps.length:=by rw[<- r2.length]; exact F.len _ _ _ _ h
 refine iF (dQ (F.run X.A X.stack s H ⟨us,[]⟩ (us++ds) (vs++dvs) Q E hr I.env0 (hb s us I.kIn hl) r2 h) fun r s' hq=>?_);cases r with
 | error e=>exact hx lK σ H s e s' I hq
 | ok fl=>
  cases fl with
  | ret u=>exact I.after hq
  | next=>exact False.elim hq
  | brk=>exact False.elim hq
  | cont=>exact False.elim hq
theorem jUG (F:FnOk X.prog X.w X.K X.mg X.Aq CX k f fd ps sp)(hr:Room k X.A)(hg:Gl X x)(hm:X.mg x=some (.ref f))(hk:keepIn X.K (.ref f)=true)(hb:Binds X.K fd ps ds)(hd:Vals dvs ds)(hx:jQF CX X E)
  (ha:PA X (e::es) t) (hdb:(x==("__debug__" :Str))=false:=by decide) (he:starEach (e::es) X.env=(false,eval e X.env)::starEach es X.env:=by rfl) (hpl:(backTo pos (starEach es X.env)).any (·.1)=false:=by rfl):
  PE X (.Call (.Name x p) (e::es) [] pos) (tCall sp dvs E t):=by
 intro lK s σ H Q I h;refine cS (jJM I hg hm ?_ hdb);refine lw (h₀:=X.Aq) I.ok.mod.kin hk (lN (ha pos lK s σ H _ I h) fun us s1 ⟨vs,H1,I1,r,q⟩=>⟨I1.kIn,?_⟩) he hpl;exact jW4 F hr hb hd hx I1 r q
end
def PK (X:Cx)(kws:List Keyword)(t:TA):Prop:=
 ∀ (pos:Pos) (lK:Ai) (s:Shared) (σ:St) (H:Hp) (Q:List V->Hp->Prop),Inv X lK σ H s->t σ H Q->wpAny (model X.prog X.w) X.A (evalAll ((backToKw pos (keywordEach kws X.env)).map (·.2))) (AP X lK σ Q) X.xe s
section
variable {k:Nat}{ks:Am}{E:XK}{x:Str}{kpos:Pos}{kws:List Keyword}{tk:TA}{nm:Option Str}
theorem jWD:PK X [] tNil:=fun _ _ _ _ H Q I h=>wpAny_evalAll_nil ⟨[],H,I, .nil,h⟩
theorem jU4 (ha:PE X e te)(hr:PK X kws t):PK X (⟨nm,e,kpos⟩::kws) (tCons te t):=by
 intro pos lK s σ H Q I h;show wpAny _ _ (evalAll ((do let v <- eval e X.env; standAt pos; pure v)::(backToKw pos (keywordEach kws X.env)).map (·.2))) _ _ s;refine wpAny_evalAll_cons (ae (lN (ha lK s σ H _ I h) fun u s1 ⟨x,H1,I1,r1,q1⟩=>ae (ff (am ?_))));exact lN (hr pos lK s1 σ H1 _ I1 q1) fun us s2 ⟨xs,H2,I2,r2,q2⟩=>⟨x::xs,H2,I2, .cons r1 r2,q2⟩
variable {g:Al->Al->Al}{gV:List V->List V->List V}
end
structure FnScope (N P:Am)(sc:Scope):Prop where
 kind:sc.kind= .function:=by rfl
 co:sc.isCoroutine=false:=by rfl
 gen:sc.isGenerator=false:=by rfl
 nd:N.Nodup:=by decide+kernel
 pre:N.take P.length=P:=by rfl
 par:∀ x∈P,sc.names.lookup x=some .local\/sc.names.lookup x=some .cell:=by decide+kernel
 nofree:∀ y∈sc.names,y.2≠ .free:=by decide+kernel
theorem jIS {kindOf:Str->Option NameKind}{x:Str} :∀ {binds:List (Str×Value)}{m:Ak},(∀ v,(x,v)∉binds)->bindL kindOf binds m x=m x
 | [],_,_=>rfl
 | (n,v)::r,m,h=>by
  unfold bindL;rw[jIS fun w hw=>h w (ag _ hw)];split
  ·have:x≠n:=by rintro rfl; exact h v ai
   simp [this]
  ·rfl
theorem jIU {kindOf:Str->Option NameKind}{x:Str} :∀ {binds:List (Str×Value)}{m:Ak},(∀ v,(x,v)∉binds)->bindC kindOf binds m x=m x
 | [],_,_=>rfl
 | (n,v)::r,m,h=>by
  unfold bindC;rw[jIU fun w hw=>h w (ag _ hw)];split
  ·rfl
  ·have:x≠n:=by rintro rfl; exact h v ai
   simp [this]
theorem jIT {kindOf:Str->Option NameKind}{x:Str}{v:Value} :∀ {P:Am}{vs:Al}{i:Nat}{m:Ak},P.Nodup->P[i]?=some x->vs[i]?=some v->kindOf x=some .local->
  bindL kindOf (P.zip vs) m x=some v
 | [],_,_,_,_,h,_,_=>by simp at h
 | _::_,[],_,_,_,_,h,_=>by simp at h
 | p::P,w::vs,0,m,nd,h1,h2,hk=>by
  simp at h1 h2; subst h1; subst h2;show bindL kindOf ((p,w)::P.zip vs) m p=_;unfold bindL;rw[jIS fun v hv=>(cf.mp nd).1 (dN hv).1,ay hk];simp
 | p::P,w::vs,i+1,m,nd,h1,h2,hk=>by
  show bindL kindOf ((p,w)::P.zip vs) m x=_;unfold bindL;exact jIT (i:=i) (cf.mp nd).2 (by simpa using h1) (by simpa using h2) hk
theorem jIV {kindOf:Str->Option NameKind}{x:Str}{v:Value} :∀ {P:Am}{vs:Al}{i:Nat}{m:Ak},P.Nodup->P[i]?=some x->vs[i]?=some v->kindOf x≠some .local->
  bindC kindOf (P.zip vs) m x=some v
 | [],_,_,_,_,h,_,_=>by simp at h
 | _::_,[],_,_,_,_,h,_=>by simp at h
 | p::P,w::vs,0,m,nd,h1,h2,hk=>by
  simp at h1 h2; subst h1; subst h2;show bindC kindOf ((p,w)::P.zip vs) m p=_;unfold bindC;rw[jIU fun v hv=>(cf.mp nd).1 (dN hv).1,aw hk];simp
 | p::P,w::vs,i+1,m,nd,h1,h2,hk=>by
  show bindC kindOf ((p,w)::P.zip vs) m x=_;unfold bindC;exact jIV (i:=i) (cf.mp nd).2 (by simpa using h1) (by simpa using h2) hk
def yA (N:Am)(vs:List V):St:=vs.map some++List.replicate (N.length - vs.length) none
def cxOf (CX:CXT)(P:Program)(w:World)(K:W.Frag)(mg:Ak)(Aq:Heap)(N:Am)(qual:Str)(scope:Scope)(f:Addr)(cd:Value)(A:Around)(Ap:List Env)(s:Shared)(H:Hp)(E:XK):Cx where
 prog:=P
 w:=w
 K:=K
 mg:=mg
 Aq:=Aq
 A:=A.deeper (envOfC qual scope s.heap.objs.size f cd)
 N:=N
 s₀:=s
 H₀:=H
 env:=envOfC qual scope s.heap.objs.size f cd
 Ap:=Ap
 stack:=envOfC qual scope s.heap.objs.size f cd::Ap
 ex:=[]
 calm:=true
 fn:=fun _=>true
 pn:=[]
 xe:=fun e s'=>wpAny (model P w) (A.deeper (envOfC qual scope s.heap.objs.size f cd)) (leaving (envOfC qual scope s.heap.objs.size f cd) e) (fun _ s''=>CX Ap H s E e s'') (fun e' s''=>CX Ap H s E e' s'') s'
theorem jLN {sc:Scope}{n:Nat}{x:Str}(h:sc.names.lookup x=some .cell):∃ c,(cellsFrom n sc.names []).lookup x=some c:=by
 have q:=gx sc.names n [] (.inl h);exact Option.isSome_iff_exists.mp q
theorem jIB {CX:CXT}{P:Program}{w:World}{K:W.Frag}{mg:Ak}{Aq:Heap}{N ps:Am}{qual:Str}{scope:Scope}{f:Addr}{cd:Value}{A:Around}{Ap:List Env}{s s1:Shared}{H:Hp}{E:XK}{us:Al}{vs:List V}
  (S:FnScope N ps scope) (hd:A.handled=none) (e0:Env0 P w K mg Aq A Ap s H) (hl:vs.length=ps.length) (r:Vals vs us)
  (x:InCallC s s.heap.objs.size (bindL (envOfC qual scope s.heap.objs.size f cd).kindOf (ps.zip us) fun _=>none) (cellsFrom (s.heap.objs.size+1) scope.names []) (bindC (envOfC qual scope s.heap.objs.size f cd).kindOf (ps.zip us) fun _=>none) s1):
  Inv (cxOf CX P w K mg Aq N qual scope f cd A Ap s H E) [] (yA N vs) H s1:=by
 have hpl:ps.length<=N.length:=by have:=bY List.length S.pre; rw[bI] at this; lia
 obtain⟨h1,tk,rfl,hk⟩:=x.done;have noA:∀ b:Addr,b∉(cxOf CX P w K mg Aq N qual scope f cd A Ap s H E).ex:=fun b z=>absurd (show b∈([]:List Addr) from z) Ad;refine⟨⟨e0.mod,S.kind,rfl,rfl,aA _,fun y z c h1 h2=>?_,fun y hy=>?_,fun y c _ h=>?_,fun _=>hd,Around.frames_deeper e0.frames, .inr ⟨rfl,rfl⟩,fun b z=>absurd z (noA b),e0.bs,e0.bsz,fun b _ _=>noA b,fun b z=>absurd z (noA b),e0.funs,e0.frf⟩,
  rfl,e0.bare,Un.kept hk,⟨_,x.toInCall.ns,fun i y v h1 h2 h3=>?_⟩,fun y c h=>⟨_,x.cell y c h⟩,e0.hok.fresh (aA _),fun y c h=>?_,fun p hp=>absurd (show p∈([]:Ai) from hp) Ad,e0.hok.kept hk,?_⟩
 ·exact name_of_addr x.apart (b9 h1) (b9 h2)
 ·have hy:scope.names.lookup y=some .cell\/scope.names.lookup y=some .free:=hy;rcases hy with hy | hy
  ·exact jLN hy
  ·exact absurd rfl (S.nofree _ (b9 hy))
 ·exact de (x.above y c (b9 h))
 ·have hi:i<vs.length:=by
   unfold yA at h2;by_cases hi:i<vs.length
   ·exact hi
   ·rw[bu (by simpa using hi)] at h2;rw[i7] at h2;split at h2 <;> cases h2
  have ha:vs[i]?=some v:=by
   unfold yA at h2;rw[ce (by simpa using hi),aS] at h2;cases e:vs[i]? with
   | none=>rw[e] at h2; cases h2
   | some a=>rw[e] at h2; cases h2; rfl
  obtain⟨u,hu,rv⟩:=r.get ha;have hp:ps[i]?=some y:=by
   rw[<- S.pre,cC Aa]; exact h1
  have ndP:ps.Nodup:=by rw[<- S.pre]; exact S.nd.sublist (dL _ _)
  refine⟨u,rv,?_⟩;rcases S.par y (aB hp) with k | k
  ·exact .inl ⟨k,jIT ndP hp hu k⟩
  ·obtain⟨c,e⟩:=jLN (n:=s.heap.objs.size+1) k;refine .inr ⟨.inl k,c,e,?_⟩;have q:=x.cell y c e;rw[jIV ndP hp hu (by show scope.names.lookup y≠_; rw[k]; decide)] at q;exact q
 ·exact e0.hok.fresh (de (x.above y c (b9 h)))
 ·unfold yA;show _=N.length;rw[aJ,af,kf];lia
theorem fn_of {CX:CXT}{P:Program}{w:World}{K:W.Frag}{mg:Ak}{Aq:Heap}{k:Nat}{f:Addr}{name qual:Str}{params:Arguments}{body:List Stmt}{scope:Scope}{dV kV doc pm lM ct oc:Value}{an od:Option Addr}
  {osl:Array (Ao)}{N ps:Am}{sp:Sp}(lk:K.lookup f=some ⟨oc,od, .func (PySem.W.fnOf name qual params body scope dV kV doc pm an lM ct),osl⟩) (hcd:PySem.W.codeIn K lM qual=true) (S:FnScope N ps scope)
  (len:∀ vs H Q E,sp vs H Q E->vs.length=ps.length)
  (hbody:∀ (A:Around) (Ap:List Env) (s:Shared) (H:Hp) (vs:List V) (Q:VK) (E:XK),Room k (A.deeper (envOfC qual scope s.heap.objs.size f lM))->sp vs H Q E->
   ∃ t,PSs (cxOf CX P w K mg Aq N qual scope f lM A Ap s H E) body t/\t { nx:=fun _ H'=>Q .non H',rt:=Q} (yA N vs) H):
  FnOk P w K mg Aq CX (k+1) f (PySem.W.fnOf name qual params body scope dV kV doc pm an lM ct) ps sp:=by
 refine⟨len,fun A Ap s H args us vs Q E hr e0 hb r hsp=>?_⟩;have hl:=len _ _ _ _ hsp;have KX:K.In s.heap:=e0.mod.kin.keeps fun b o e=>(e0.bs b o e).1;have lim:s.heap.NoLimit:=e0.mod.nolimit.keeps fun b o e=>(e0.bs b o e).1;have hkind:∀ y∈ps.zip us,scope.names.lookup y.1=some .local\/(scope.names.lookup y.1=some .cell/\((cellsFrom (s.heap.objs.size+1) scope.names []).lookup y.1).isSome=true):=fun ⟨n,v⟩ hy=>by
  rcases S.par n (dN hy).1 with q | q
  ·exact .inl q
  ·exact .inr ⟨q,gx _ _ _ (.inl q)⟩
 refine codeAny_call_function hr.depth (KX _ _ lk) rfl S.co S.gen rfl (ly KX hcd) (hb _ _ _ _ ?_);refine iG S.kind hkind fun env he s1 x=>?_;subst he;refine⟨lim.keeps x.toInCall.keep,codeAny_func ?_⟩;obtain⟨t,ht,hq⟩:=hbody A Ap s H vs Q E (hr.deeper _) hsp;have I:Inv (cxOf CX P w K mg Aq N qual scope f lM A Ap s H E) [] (yA N vs) H s1:=jIB S hr.hd e0 hl r x;refine ck (ht [] s1 (yA N vs) H _ I hq) (fun fl s' hs=>?_) fun e s' hs=>hs;have fin:∀ {σ':St}{H':Hp}{v:V}{u:Value},Inv (cxOf CX P w K mg Aq N qual scope f lM A Ap s H E) [] σ' H' s'->RelV v u->Q v H'->CE Ap P w H s Q u s':=
  fun {σ' H' v u} J rv q=>⟨v,H',J.os,J.bare,J.Aq,J.hok,rv,q⟩
 cases fl with
 | ret u=>
  obtain⟨v,σ',H',J,rv,q⟩:=hs;exact fin J rv q
 | next=>
  obtain⟨σ',H',J,q⟩:=hs;exact fin (v:=V.non) (u:=Value.none) J rfl q
 | brk=>
  obtain⟨_,_,_,q⟩:=hs;exact False.elim q
 | cont=>
  obtain⟨_,_,_,q⟩:=hs;exact False.elim q
section
variable {x:Str}{id T:String}{r:List V->Hp->VK->Prop}
def tCB (r:List V->Hp->VK->Prop)(t:TA):TE:=fun σ H Q=>t σ H fun vs H1=>r vs H1 Q
theorem jGF (hc:yR X (.builtin id) r)(hg:Gl X x)(hm:X.mg x=none)(hv:bootBuiltins x=some (.builtin id))(ha:PA X (e::es) t)(hn:x≠ "__name__" :=by decide)(hdb:(x==("__debug__" :Str))=false:=by decide)
  (he:starEach (e::es) X.env=(false,eval e X.env)::starEach es X.env:=by rfl) (hpl:(backTo pos (starEach es X.env)).any (·.1)=false:=by rfl):PE X (.Call (.Name x p) (e::es) [] pos) (tCB r t):=by
 intro lK s σ H Q I h;refine cS (jEY I hg hm hv ?_ hn hdb);exact PyProof.Rows.callWith_builtin1 (lN (ha pos lK s σ H _ I h) fun us s1 ⟨vs,H1,I1,r1,q1⟩=>hc lK s1 σ H1 vs us Q I1 r1 q1) he hpl
theorem jCY (hc:yR X (.type T) r)(hg:Gl X x)(hm:X.mg x=none)(hv:bootBuiltins x=some (.type T))(ha:PA X (e::es) t)(hn:x≠ "__name__" :=by decide)(hdb:(x==("__debug__" :Str))=false:=by decide)
  (he:starEach (e::es) X.env=(false,eval e X.env)::starEach es X.env:=by rfl) (hpl:(backTo pos (starEach es X.env)).any (·.1)=false:=by rfl):PE X (.Call (.Name x p) (e::es) [] pos) (tCB r t):=by
 intro lK s σ H Q I h;refine cS (jEY I hg hm hv ?_ hn hdb);exact dP (lN (ha pos lK s σ H _ I h) fun us s1 ⟨vs,H1,I1,r1,q1⟩=>hc lK s1 σ H1 vs us Q I1 r1 q1) he hpl
end
end L2
namespace HT
open PySem PyProof.Rows
def lexLt:Ag->Ag->Bool
 | [],[]=>false
 | [],_::_=>true
 | _::_,[]=>false
 | x::xs,y::ys=>if x=y then lexLt xs ys else decide (x<y)
theorem lexLt_cons (x y:Int)(xs ys:Ag):lexLt (x::xs) (y::ys)=if x=y then lexLt xs ys else decide (x<y):=rfl
theorem jGP:lexLt [] []=false:=rfl
theorem jFD (y:Int)(ys:Ag):lexLt [] (y::ys)=true:=rfl
theorem jFE (x:Int)(xs:Ag):lexLt (x::xs) []=false:=rfl
theorem jS0 (A:Around)(s:Shared)(a:Int)(t:Tok)(c:Int)(u:Tok):∃ e,SeqAt.EqAt A s (.int a t) (.int c u) e/\(e=true↔a=c):=
 ⟨(a==c),eX a t c u,Ad⟩
theorem rcLt_int (A:Around)(s:Shared)(a:Int)(t:Tok)(c:Int)(u:Tok)(prog:Program)(w:World)(E:Ah)(Q:Ah)(h:Q (.bool (decide (a<c))) s):
  wpAny (model prog w) A (richCompare .Lt (.int a t) (.int c u)) Q E s:=
 (PyProof.Rows.lt_int h:wpAny (model prog w) A (compareOp .Lt (.int a t) (.int c u)) Q E s)
section
open PySem.SeqAt
open PySem.AutoSeq1 (wpAny_loadPart')
open PySem.MeetsSeq PySem.MeetsSeq2 PySem.MeetsSeq3
theorem tuple_lt_ints (l b:Addr)(items items2:An)(n n2:Nat)(dd dd2:Option Addr)(sl sl2:Array (Ao))(ns ms:Ag)(hi:IntsAre items.toList ns)(hj:IntsAre items2.toList ms):
  Meets (Builtin.«tuple.__lt__» ⟨[.ref l, .ref b],[]⟩)
   (fun _ R s=>s.heap.get? l=some { cls:= .type "tuple",dict:=dd,data:= .seq items n,slots:=sl} /\s.heap.get? b=some { cls:= .type "tuple",dict:=dd2,data:= .seq items2 n2,slots:=sl2} /\
    R (.ok (.ret (.bool (lexLt ns ms)))) s):=
 .of_wp fun prog w A R s h=>by
  obtain⟨hp,g,d,tk,os⟩:=s; obtain⟨hl,hb,h⟩:=h;have f2:=AutoSeq1.sub_tuple_tuple;have z1:items.size=ns.length:=by rw[<- hi.length]; simp
  have z2:items2.size=ms.length:=by rw[<- hj.length]; simp
  wp_walk using cy hl,cy hb,wpAny_forIn_list _ (fun rest b s'=>b.1=none/\s'=⟨hp,g,d,tk,os⟩/\∃ (vs ws:Al) (ns' ms':Ag),rest=vs.zip ws/\
   IntsAre vs ns'/\IntsAre ws ms'/\ns'.length+items2.size=ms'.length+items.size/\R (.ok (.ret (.bool (lexLt ns' ms')))) ⟨hp,g,d,tk,os⟩) _
  case turn=>
   rintro ⟨y,x⟩ rest b s' ⟨hb',rfl,vs,ws,ns',ms',hz,hvi,hwi,hlen,hR⟩;cases hvi with
   | nil=>rw[List.zip_nil_left] at hz; cases hz
   | cons a t hvi'=>
    cases hwi with
    | nil=>rw[List.zip_nil_right] at hz; cases hz
    | cons c u hwi'=>
     rw[dS] at hz;injection hz with hyx hrest;injection hyx with hy hx;subst hy hx;rw[lexLt_cons] at hR;simp only [aV] at hlen;obtain⟨e,he,hiff⟩:=jS0 A.in1 ⟨hp,g,d,tk,os⟩ a t c u;refine ae (he prog w _ _ ?_);cases e with
     | true=>
      rw[ay (hiff.mp rfl)] at hR
      wp_walk
      exact⟨rfl,rfl,_,_,_,_,hrest,hvi',hwi',Aa,hR⟩
     | false=>
      rw[aw (fun q=>absurd (hiff.mpr q) az)] at hR;have hri:=rcLt_int A.in1 ⟨hp,g,d,tk,os⟩ a t c u prog w
      wp_walk using hri
      exact⟨_,rfl,by simpa using hR⟩
  case fin=>
   rintro ⟨b1,b2⟩ s' ⟨hb',rfl,vs,ws,ns',ms',hz,hvi,hwi,hlen,hR⟩;simp only at hb';subst hb';have hv:lexLt ns' ms'=decide (items.size<items2.size):=by
    cases hvi with
    | nil=>
     cases hwi with
     | nil=>
      simp only [cz] at hlen;rw[jGP];exact(aN Aa).symm
     | cons c u hw=>
      simp only [cz,aV] at hlen;rw[jFD];exact(ax Aa).symm
    | cons a t hv=>
     cases hwi with
     | nil=>
      simp only [cz,aV] at hlen;rw[jFE];exact(aN Aa).symm
     | cons c u hw=>
      rw[dS] at hz;cases hz
   rw[hv] at hR
   wp_walk
   exact⟨_,rfl,by simpa [Builtin.Tuple.tupleCompareSizes] using hR⟩
  case h=>
   exact⟨rfl,rfl,items.toList,items2.toList,ns,ms,rfl,hi,hj,Aa,h⟩
end
section
variable {prog:Program}{w:World}{A:Around}{E:Ah}{s:Shared}
theorem lt_tupInts {l b:Addr}{items items2:An}{ns ms:Ag}{Q:Ah}(hl:IsTup s.heap l items)(hb:IsTup s.heap b items2)(hi:IntsAre items.toList ns)(hj:IntsAre items2.toList ms)
  (hu:A.units<cLine) (h:Q (.bool (lexLt ns ms)) s):wpAny (model prog w) A (compareOp .Lt (.ref l) (.ref b)) Q E s:=by
 obtain⟨⟨cls,dd,data,sl⟩,ho,hc,n,hd⟩:=id hl;obtain⟨⟨cls2,dd2,data2,sl2⟩,ho2,hc2,n2,hd2⟩:=id hb;simp only at hc hd hc2 hd2;subst hc hd hc2 hd2;exact richCompare_meets_room (op:= .Lt) ⟨_,ho,rfl⟩ ⟨_,ho2,rfl⟩ gR jm (i8 _ _) (tuple_lt_ints l b items items2 n n2 dd dd2 sl sl2 ns ms hi hj)
  ⟨ho,ho2,show Value.bool (lexLt ns ms)≠Value.notImplemented/\Q (.bool (lexLt ns ms)) s from ⟨(fun x=>nomatch x),h⟩⟩ hu
theorem cat_tup {t b:Addr}{vs ws:Al}{Q:Ah}(ht:IsTup s.heap t vs.toArray)(hb:IsTup s.heap b ws.toArray)(hv:vs≠ [])
  (h1:ws=[]->Q (.ref t) s) (h2:ws≠ []->Q (.ref s.heap.objs.size) { s with heap:=s.heap.push { cls:= .type "tuple",data:= .seq (vs++ws).toArray}})
  (hsz:vs.length+ws.length<=sizeLine):wpAny (model prog w) A (binaryOp .Add (.ref t) (.ref b)) Q E s:=by
 obtain⟨⟨cls,dd,data,sl⟩,ho,hc,n,hd⟩:=id ht;obtain⟨⟨cls2,dd2,data2,sl2⟩,ho2,hc2,n2,hd2⟩:=id hb;simp only at hc hd hc2 hd2;subst hc hd hc2 hd2;have e:vs.toArray++ws.toArray=(vs++ws).toArray:=Ad;by_cases hw:ws=[]
 ·exact concat_meets ⟨_,ho,rfl⟩ ⟨_,ho2,rfl⟩ i9 seq_tuple_add gy gu (ga _ _)
   (tuple_addW1 t b vs.toArray ws.toArray n n2 dd dd2 sl sl2 (by simpa using hv) (by simp [hw])) ⟨ho,ho2,h1 hw⟩
 ·refine concat_meets ⟨_,ho,rfl⟩ ⟨_,ho2,rfl⟩ i9 seq_tuple_add gy gu (ga _ _)
   (tuple_addW2 t b vs.toArray ws.toArray n n2 dd dd2 sl sl2 (by simpa using hv) (by simpa using hw) (by rw[ar,ar]; exact hsz)) ⟨ho,ho2,?_⟩
  rw[e];exact h2 hw
def sIx (n d:Nat):Option Int->Nat
 | none=>d
 | some v=>if v<0 then (v+(n:Int)).toNat else min v.toNat n
end
end HT
namespace L2
open PySem PySem.Spec PyProof.Rows
abbrev TO:=St->Hp->(Option Int->Hp->Prop)->Prop
def PO (X:Cx)(e:Option Expr)(t:TO):Prop:=
 ∀ (lK:Ai) (s:Shared) (σ:St) (H:Hp) (Q:Option Int->Hp->Prop),Inv X lK σ H s->t σ H Q->
  wpAny (model X.prog X.w) X.A (evalPart e X.env) (fun u s'=>∃ o H',Inv X lK σ H' s'/\IsPart u o/\Q o H') X.xe s
def jN5:TO:=fun _ H Q=>Q none H
def tPart (t:TE):TO:=fun σ H Q=>t σ H fun x H1=>∃ i,x= .int i/\Q (some i) H1
theorem jFX {ns:Ag} :∀ {us:Al},Vals (ns.map V.int) us->IntsAre us ns:=by
 induction ns with
 | nil=>intro us r; rw[iq] at r; cases r; exact .nil
 | cons n ns ih=>
  intro us r;rw[bf] at r;cases r with
  | cons r1 r2=>
   obtain⟨t,e⟩:=r1;subst e;exact .cons n t (ih r2)
variable {X:Cx}{e:Expr}{pos:Pos}
section
variable {te:TE}{lo hi:Option Expr}{tl th:TO}{p2:Pos}
theorem jU3:PO X none jN5:=by
 intro lK s σ H Q I h;rw[evalPart_none];exact am ⟨none,H,I, .none,h⟩
theorem jU2 (h:PE X e te):PO X (some e) (tPart te):=by
 intro lK s σ H Q I hw;rw[evalPart_some];refine lN (h lK s σ H _ I hw) fun u s1 ⟨x,H1,I1,r1,q1⟩=>?_;obtain⟨i,rfl,q⟩:=q1;obtain⟨t,rfl⟩:=r1;exact⟨some i,H1,I1, .int i t,q⟩
def SlR (X:Cx)(r:V->Option Int->Option Int->Hp->VK->Prop):Prop:=
 ∀ (lK:Ai) (s:Shared) (σ:St) (H:Hp) (x:V) (v vl vu:Value) (lo hi:Option Int) (sl:Addr) (Q:VK),Inv X lK σ H s->RelV x v->s.heap.IsSliceOf sl vl vu .none->IsPart vl lo->IsPart vu hi->r x lo hi H Q->
  ∃ T id,typeLookup (.type T) "__getitem__" =pure (some (.builtin id))/\s.TypeIs v T/\wpAny (model X.prog X.w) X.A (getItem v (.ref sl)) (EP X lK σ Q) X.xe s
def tSl (r:V->Option Int->Option Int->Hp->VK->Prop)(te:TE)(tl th:TO):TE:=fun σ H Q=>te σ H fun x H1=>tl σ H1 fun l H2=>th σ H2 fun u H3=>r x l u H3 Q
theorem jR0 {r:V->Option Int->Option Int->Hp->VK->Prop}(hr:SlR X r)(he:PE X e te)(hl:PO X lo tl)(hu:PO X hi th):PE X (.Subscript e (.Slice lo hi none p2) pos) (tSl r te tl th):=by
 intro lK s σ H Q I h;refine Subscript_ (lN (he lK s σ H _ I h) fun v s1 ⟨x,H1,I1,r1,q1⟩=>?_);refine wpAny_Slice (lN (hl lK s1 σ H1 _ I1 q1) fun vl s2 ⟨l,H2,I2,pl,q2⟩=>lN (hu lK s2 σ H2 _ I2 q2) fun vu s3 ⟨u,H3,I3,pu,q3⟩=>?_);rw[evalPart_none];refine am ?_;have I4:Inv X lK σ H3 { s3 with heap:=s3.heap.push { cls:= .type "slice",data:= .fields #[vl,vu, .none]}} :=I3.kept (t':=s3.toks) fun b ob q=>ah _ q;obtain⟨T,id,hT,ht,hg⟩:=hr lK { s3 with heap:=s3.heap.push { cls:= .type "slice",data:= .fields #[vl,vu, .none]}} σ H3 x v vl vu l u s3.heap.objs.size Q I4 r1 (Heap.IsSliceOf.new ..) pl pu q3;show wpAny (model X.prog X.w) X.A (subscriptTail e (.Slice lo hi none p2) v (.ref s3.heap.objs.size)) (EP X lK σ Q) X.xe { s3 with heap:=s3.heap.push { cls:= .type "slice",data:= .fields #[vl,vu, .none]}};exact tail_any (ops:=[.ref s3.heap.objs.size,v]) ht hT hg (by with_unfolding_all rfl)
def cutV (xs:List V)(lo hi:Option Int):List V:=(xs.drop (HT.sIx xs.length 0 lo)).take (HT.sIx xs.length xs.length hi - HT.sIx xs.length 0 lo)
theorem jK2 (xs:List V)(lo hi:Option Int):(cutV xs lo hi).length<=xs.length:=by
 unfold cutV;rw[bI,gY];lia
def rCatT (K:W.Frag):R2:=fun x y H Q=>∃ a b xs ys,x= .ref a/\y= .ref b/\SqT K H a xs/\SqT K H b ys/\xs≠ []/\xs.length+ys.length<=sizeLine/\
 (ys=[]->Q (.ref a) H)/\(ys≠ []->∀ p,H p=none->Q (.ref p) (upd H p (.tup (xs++ys))))
theorem Vals.nil_iff {xs:List V}{us:Al}(r:Vals xs us):us=[]↔xs=[]:=by
 cases r with
 | nil=>simp
 | cons _ _=>simp
theorem jUK:OpR X (binaryOp .Add) (rCatT X.K):=by
 intro lK s σ H x y v u Q I rx ry h;obtain⟨a,b,xs,ys,rfl,rfl,ha,hb,hx,hz,q1,q2⟩:=h;cases rx;cases ry;obtain⟨its,r1,p1,_⟩:=I.tuple ha;obtain⟨its2,r2,p2,_⟩:=I.tuple hb;refine HT.cat_tup p1 p2 (fun z=>hx (r1.nil_iff.mp z)) (fun z=>⟨.ref a,H,I,rfl,q1 (r2.nil_iff.mp z)⟩) (fun z=>?_) (by rw[<- r1.length,<- r2.length]; exact hz);refine⟨.ref s.heap.objs.size,_,I.laid (t':=s.toks) (o:= .tup (xs++ys)) (fun b ob q=>ah _ q) (aA _) ?_,rfl,q2 (fun w=>z (r2.nil_iff.mpr w)) _ (I.hok.fresh (aA _))⟩;exact⟨by rw[aJ]; exact hz,_,r1.append r2,TupO.new _ _⟩
end
def ixN (n:Nat)(i:Int):Option Nat:=if 0<=i then (if i<n then some i.toNat else none) else if -(n:Int)<=i then some (i+n).toNat else none
def atI {α:Type}(xs:List α)(i:Int):Option α:=(ixN xs.length i).bind fun j=>xs[j]?
theorem jPB {n:Nat}{i:Int}{j:Nat}(h:ixN n i=some j):seqIndex? i n=some j/\j<n/\ -(n:Int)<=i/\i<n:=by
 unfold ixN at h;by_cases h0:0<=i
 ·rw[ay h0] at h;by_cases h1:i<n
  ·rw[ay h1] at h;have e:i.toNat=j:=bw h;exact⟨by rw[seqIndex_of h0 h1,e],Aa,Aa,h1⟩
  ·rw[aw h1] at h; cases h
 ·rw[aw h0] at h;by_cases h1: -(n:Int)<=i
  ·rw[ay h1] at h;have e:(i+n).toNat=j:=bw h;exact⟨by rw[seqIndex_neg Aa h1,e],Aa,h1,Aa⟩
  ·rw[aw h1] at h; cases h
theorem jQA {α:Type}{xs:List α}{i:Int}{v:α}(h:atI xs i=some v):∃ j,seqIndex? i xs.length=some j/\xs[j]?=some v/\j<xs.length/\ -(xs.length:Int)<=i/\i<xs.length:=by
 unfold atI at h;cases e:ixN xs.length i with
 | none=>rw[e] at h; cases h
 | some j=>
  rw[e] at h;obtain⟨h1,h2,h3,h4⟩:=jPB e;exact⟨j,h1,h,h2,h3,h4⟩
theorem yW {α:Type}{xs:List α}{j:Nat}{v:α}(h:xs[j]?=some v):atI xs (j:Int)=some v:=by
 have hj:j<xs.length:=(ao.mp h).1;have e:ixN xs.length (j:Int)=some j:=by
  unfold ixN;rw[ay Aa,ay Aa]; simp
 unfold atI; rw[e]; exact h
def jB5 (b:Expr):Prop:=∀ o i,subscripted b false o i=operate [o,i] (getItem o i)
def IxR (X:Cx)(r:R2):Prop:=
 ∀ (value slice:Expr) (lK:Ai) (s:Shared) (σ:St) (H:Hp) (x y:V) (v u:Value) (Q:VK),Inv X lK σ H s->RelV x v->RelV y u->r x y H Q->
  subscripted slice false v u=operate [v,u] (getItem v u)->wpAny (model X.prog X.w) X.A (subscriptTail value slice v u) (EP X lK σ Q) X.xe s
def MtR (X:Cx)(id:String)(r:V->List V->Hp->VK->Prop):Prop:=
 ∀ (lK:Ai) (s:Shared) (σ:St) (H:Hp) (x:V) (xs:List V) (v:Value) (us:Al) (Q:VK),Inv X lK σ H s->RelV x v->Vals xs us->r x xs H Q->
  wpAny (model X.prog X.w) X.A (call (.builtin id) (v::us)) (EP X lK σ Q) X.xe s
section
variable {a b:Expr}{ta tb:TE}
theorem pe_ix {r:R2}(hr:IxR X r)(ha:PE X a ta)(hb:PE X b tb)(hs:jB5 b):PE X (.Subscript a b pos) (tOp r ta tb):=by
 intro lK s σ H Q I h;exact Subscript_ (binT ha hb I h fun v u s2 x y H2 I2 rx ry q=>hr a b lK s2 σ H2 x y v u Q I2 rx ry q (hs _ _))
def rIxL (K:W.Frag):R2:=fun x y H Q=>∃ p xs i v,x= .ref p/\y= .int i/\SqL K H p xs/\atI xs i=some v/\Q v H
def rIxT (K:W.Frag):R2:=fun x y H Q=>∃ p xs i v,x= .ref p/\y= .int i/\SqT K H p xs/\atI xs i=some v/\Q v H
theorem jCH:IxR X (rIxL X.K):=by
 intro value slice lK s σ H x y v u Q I rx ry h hs;obtain⟨p,xs,i,z,rfl,rfl,hq,he,q⟩:=h;cases rx;obtain⟨t,rfl⟩:=ry;obtain⟨its,r,pl,hz⟩:=I.list hq;obtain⟨j,h1,h2,h3,h4,h5⟩:=jQA he;obtain⟨w,ew,rw'⟩:=r.get h2;have hl:=r.length;have hn:=jI4;have fin:EP X lK σ Q w s:=⟨z,H,I,rw',q⟩;by_cases h0:0<=i
 ·have hj:i.toNat=j:=by
   rw[seqIndex_of h0 h5] at h1;exact bw h1
  exact item_listR pl.isList h0 Aa (by rw[hj]; simpa using ew) fin hs
 ·have hj:(i+(its.toArray.size:Int)).toNat=j:=by
   rw[seqIndex_neg Aa h4] at h1;rw[ar,<- hl];exact bw h1
  exact subscriptTail_builtinR (x:=w) pl.isList.typeIs slot_list_getitem.lookup
   (wpAny_getItem_list_neg (Q:=fun r s'=>r=w/\EP X lK σ Q r s') pl.isList Aa (by rw[ar] <;> lia) Aa (by rw[hj]; simpa using ew) ⟨rfl,fin⟩) hs
theorem jQ:IxR X (rIxT X.K):=by
 intro value slice lK s σ H x y v u Q I rx ry h hs;obtain⟨p,xs,i,z,rfl,rfl,hq,he,q⟩:=h;cases rx;obtain⟨t,rfl⟩:=ry;obtain⟨its,r,pl,hz⟩:=I.tuple hq;obtain⟨j,h1,h2,h3,h4,h5⟩:=jQA he;obtain⟨w,ew,rw'⟩:=r.get h2;have hl:=r.length;have hn:=jI4;have fin:EP X lK σ Q w s:=⟨z,H,I,rw',q⟩;exact subscriptTail_builtinR (x:=w) pl.typeIs slot_tuple_getitem.lookup
  (getItem_tuple (j:=j) (Q:=fun r s'=>r=w/\EP X lK σ Q r s') pl Aa Aa (by rw[ar,<- hl]; exact h1) (by simpa using ew) ⟨rfl,fin⟩) hs
theorem jMD (its:Al)(n j:Nat)(u:Value):Obj.mapSeq (·.setIfInBounds j u) { cls:= .type "list",data:= .seq its.toArray n} = { cls:= .type "list",data:= .seq (its.set j u).toArray n} :=by
 simp [Obj.mapSeq]
theorem Inv.lst {lK:Ai}{σ:St}{H:Hp}{s:Shared}{p:Addr}{xs:List V}(I:Inv X lK σ H s)(h:H p=some (.lst xs)):
  ∃ (its:Al) (n:Nat),Vals xs its/\s.heap.get? p=some { cls:= .type "list",data:= .seq its.toArray n} /\xs.length<=sizeLine:=by
 obtain⟨z,its,n,r,e⟩:=I.hok p _ h;exact⟨its,n,r,e,z⟩
theorem Inv.lstUpd {lK:Ai}{σ:St}{H:Hp}{s:Shared}{p:Addr}{xs ys:List V}{its its':Al}{n n':Nat}{f:Obj->Obj}(I:Inv X lK σ H s)(h:H p=some (.lst xs))
  (ho:s.heap.get? p=some { cls:= .type "list",data:= .seq its.toArray n}) (hf:f { cls:= .type "list",data:= .seq its.toArray n} = { cls:= .type "list",data:= .seq its'.toArray n'}) (r:Vals ys its') (hz:ys.length<=sizeLine) (t:Nat):
  Inv X lK σ (upd H p (.lst ys)) { s with heap:=s.heap.update p f,toks:=t} :=by
 have e:(s.heap.update p f).get? p=some { cls:= .type "list",data:= .seq its'.toArray n'} :=by
  rw[dX f ho (by rw[hf] <;> rfl),hf]
 refine I.write (x:=p) (e:=p) (by rw[h]; trivial) (.inl rfl) (fun b u hb q=>(bA _ _ (eh hb)).trans q) ⟨_,e⟩ ?_;exact⟨hz,its',n',r,e⟩
def rSetL:V->V->V->Hp->(Hp->Prop)->Prop:=fun o i v H Q=>∃ p xs k j,o= .ref p/\i= .int k/\H p=some (.lst xs)/\ixN xs.length k=some j/\Q (upd H p (.lst (xs.set j v)))
theorem jQO:PSet X rSetL:=by
 intro lK s σ H o i v ov iv u Q I ro ri rv h;obtain⟨p,xs,k,j,rfl,rfl,hp,hj,q⟩:=h;cases ro;obtain⟨t,rfl⟩:=ri;obtain⟨its,n,r,ho,hz⟩:=I.lst hp;obtain⟨h1,h2,h3,h4⟩:=jPB hj;have hl:=r.length;have hn:=jI4;have I':Inv X lK σ (upd H p (.lst (xs.set j v))) { s with heap:=s.heap.update p (Obj.mapSeq (·.setIfInBounds j u))} :=
  I.lstUpd hp ho (jMD its n j u) (r.set rv j) (by rw[List.length_set]; exact hz) s.toks
 by_cases h0:0<=k
 ·have hk:k.toNat=j:=by
   rw[seqIndex_of h0 h4] at h1;exact bw h1
  exact PySem.W.ki_setAt ho h0 Aa (by rw[ar,<- hl]; exact h4) (by rw[hk]; exact⟨_,I',q⟩)
 ·have hk:(k+(its.toArray.size:Int)).toNat=j:=by
   rw[seqIndex_neg Aa h3] at h1;rw[ar,<- hl];exact bw h1
  exact PySem.W.ki_setBack ho Aa (by rw[ar,<- hl]; exact h3) Aa (by rw[hk]; exact⟨_,I',q⟩)
theorem jHJ (lo hi:Option Int)(n:Nat):(sliceBounds lo hi none n).1=((HT.sIx n 0 lo:Nat):Int)/\(sliceBounds lo hi none n).2.1=((HT.sIx n n hi:Nat):Int)/\(sliceBounds lo hi none n).2.2=1:=by
 refine⟨?_,?_,rfl⟩
 ·cases lo with
  | none=>simp [sliceBounds,HT.sIx]
  | some i=>
   simp only [sliceBounds,HT.sIx,getD_none,show (1:Int)>0 by decide,g5];by_cases h:i<0
   ·simp only [h,g5] <;> lia
   ·simp only [h,ja] <;> lia
 ·cases hi with
  | none=>simp [sliceBounds,HT.sIx]
  | some i=>
   simp only [sliceBounds,HT.sIx,getD_none,show (1:Int)>0 by decide,g5];by_cases h:i<0
   ·simp only [h,g5] <;> lia
   ·simp only [h,ja] <;> lia
theorem jGA (its:Al)(lo hi:Option Int):slicePick its.toArray lo hi none=((its.drop (HT.sIx its.length 0 lo)).take (HT.sIx its.length its.length hi - HT.sIx its.length 0 lo)).toArray:=by
 obtain⟨h1,h2,h3⟩:=jHJ lo hi its.toArray.size;unfold slicePick;rw[h1,h2,h3];simp only [sliceRange_one,pick_run,ar] <;> rfl
def rSlL (K:W.Frag):V->Option Int->Option Int->Hp->VK->Prop:=fun x lo hi H Q=>∃ a xs,x= .ref a/\SqL K H a xs/\∀ p,H p=none->Q (.ref p) (upd H p (.lst (cutV xs lo hi)))
theorem jJ6:SlR X (rSlL X.K):=by
 intro lK s σ H x v vl vu lo hi sl Q I rx hs pl pu h;obtain⟨a,xs,rfl,hx,q⟩:=h;cases rx;obtain⟨its,r,ht,hz⟩:=I.list hx;have hlen:=r.length;refine⟨"list",_,slot_list_getitem.lookup,ht.isList.typeIs,?_⟩;refine wpAny_getItem_list_slice ht.isList hs pl pu .none Ad ?_ (by rw[ar] <;> lia);rw[jGA,<- hlen];refine⟨.ref s.heap.objs.size,_,I.laid (t':=s.toks) (o:= .lst (cutV xs lo hi)) (fun b ob q=>ah _ q) (aA _) ?_,rfl,q _ (I.hok.fresh (aA _))⟩;exact⟨bi (jK2 xs lo hi) hz,_,0,(r.drop (HT.sIx xs.length 0 lo)).take (HT.sIx xs.length xs.length hi - HT.sIx xs.length 0 lo),aC _ rfl⟩
def qV:V->Bool
 | .non=>true
 | .bl _=>true
 | .int _=>true
 | .str _=>true
 | _=>false
def eqV:V->V->Bool
 | .non, .non=>true
 | .bl a, .bl b=>a==b
 | .bl a, .int b=>(if a then 1 else 0)==b
 | .int a, .bl b=>a==(if b then 1 else 0)
 | .int a, .int b=>a==b
 | .str a, .str b=>a==b
 | _,_=>false
theorem jTB {A:Around}{s:Shared}{y x:V}{u v:Value}(ry:RelV y u)(rx:RelV x v)(fy:qV y=true)(fx:qV x=true):SeqAt.EqAt A s u v (eqV y x):=by
 cases y with
 | non=>
  cases ry;cases x with
  | non=>cases rx; exact SeqAt.EqAt.same _
  | bl b=>cases rx; exact SeqAt.EqAt.none_bool b
  | int b=>obtain⟨t,rfl⟩:=rx; exact SeqAt.EqAt.none_int b t
  | str b=>obtain⟨t,rfl⟩:=rx; exact SeqAt.EqAt.none_str b t
  | _=>exact absurd (show false=true from fx) az
 | bl a=>
  cases ry;cases x with
  | non=>cases rx; exact SeqAt.EqAt.bool_none a
  | bl b=>cases rx; exact SeqAt.EqAt.bool_bool a b
  | int b=>obtain⟨t,rfl⟩:=rx; exact SeqAt.EqAt.bool_int a b t
  | str b=>obtain⟨t,rfl⟩:=rx; exact SeqAt.EqAt.bool_str a b t
  | _=>exact absurd (show false=true from fx) az
 | int a=>
  obtain⟨t',rfl⟩:=ry;cases x with
  | non=>cases rx; exact SeqAt.EqAt.int_none a t'
  | bl b=>cases rx; exact SeqAt.EqAt.int_bool a t' b
  | int b=>obtain⟨t,rfl⟩:=rx; exact eX a t' b t
  | str b=>obtain⟨t,rfl⟩:=rx; exact SeqAt.EqAt.int_str a t' b t
  | _=>exact absurd (show false=true from fx) az
 | str a=>
  obtain⟨t',rfl⟩:=ry;cases x with
  | non=>cases rx; exact SeqAt.EqAt.str_none a t'
  | bl b=>cases rx; exact SeqAt.EqAt.str_bool a t' b
  | int b=>obtain⟨t,rfl⟩:=rx; exact SeqAt.EqAt.str_int a t' b t
  | str b=>obtain⟨t,rfl⟩:=rx; exact SeqAt.EqAt.str_str a t' b t
  | _=>exact absurd (show false=true from fx) az
 | _=>exact absurd (show false=true from fy) az
def eqU (x:V)(u:Value):Bool:=match u with
 | .none=>eqV .non x
 | .bool b=>eqV (.bl b) x
 | .int i _=>eqV (.int i) x
 | .str z _=>eqV (.str z) x
 | _=>false
theorem jPS {x y:V}{u:Value}(r:RelV y u)(f:qV y=true):eqU x u=eqV y x:=by
 cases y with
 | non=>cases r; rfl
 | bl b=>cases r; rfl
 | int i=>obtain⟨t,rfl⟩:=r; rfl
 | str z=>obtain⟨t,rfl⟩:=r; rfl
 | _=>exact absurd (show false=true from f) az
theorem jK7 {x:V} :∀ {xs:List V}{us:Al},Vals xs us->xs.all qV=true->us.any (eqU x)=xs.any fun y=>eqV y x
 | _,_, .nil,_=>rfl
 | y::xs,u::us, .cons r t,f=>by
  rw[fg,bD] at f;rw[g6,g6,jPS r f.1,jK7 t f.2]
theorem jCZ {A:Around}{s:Shared}{x:V}{v:Value}(rx:RelV x v)(fx:qV x=true):∀ {xs:List V}{us:Al},Vals xs us->xs.all qV=true->∀ u∈us,SeqAt.EqAt A s u v (eqU x u)
 | _,_, .nil,_=>fun u hu=>by cases hu
 | y::xs,u::us, .cons r t,f=>fun u' hu=>by
  rw[fg,bD] at f;rcases aE.mp hu with rfl | hu
  ·rw[jPS r f.1]; exact jTB r rx f.1 fx
  ·exact jCZ rx fx t f.2 u' hu
def inV (x:V)(xs:List V):Bool:=xs.any fun y=>eqV y x
def rIn (K:W.Frag)(neg:Bool):R2:=fun x y H Q=>∃ p xs,y= .ref p/\(SqL K H p xs\/SqT K H p xs)/\qV x=true/\xs.all qV=true/\Q (.bl (if neg then !inV x xs else inV x xs)) H
theorem jEL:OpR X (compareOp .In) (rIn X.K false):=by
 intro lK s σ H x y v u Q I rx ry h;obtain⟨p,xs,rfl,hq,fx,fs,q⟩:=h;cases ry;rcases hq with hq | hq
 ·obtain⟨its,r,pl,hz⟩:=I.list hq;refine SeqAt.in_listAt (eqU x) pl.isList (fun w hw=>jCZ rx fx r fs w (by simpa using hw)) ⟨.bl _,H,I,rfl,?_⟩;rw[show its.toArray.any (eqU x)=its.any (eqU x) by simp,jK7 r fs];exact q
 ·obtain⟨its,r,pl,hz⟩:=I.tuple hq;refine SeqAt.in_tupleAt (eqU x) pl (fun w hw=>jCZ rx fx r fs w (by simpa using hw)) ⟨.bl _,H,I,rfl,?_⟩;rw[show its.toArray.any (eqU x)=its.any (eqU x) by simp,jK7 r fs];exact q
theorem jN:yR X (.builtin "len") (fun xs H Q=>∃ p ys,xs=[.ref p]/\(SqL X.K H p ys\/SqT X.K H p ys)/\Q (.int ys.length) H):=by
 intro lK s σ H xs us Q I r h;obtain⟨p,ys,rfl,hq,q⟩:=h;obtain⟨u,rfl,rx⟩:=vals1 r;cases rx;have hn:=jI4;rcases hq with hq | hq
 ·obtain⟨its,r',pl,hz⟩:=I.list hq;have hlen:=r'.length;exact Calls.call_len_list pl.isList (by simp only [ar] <;> lia) ⟨.int ys.length,H,I.tok _,⟨s.toks+1,by rw[ar,hlen]⟩,q⟩
 ·obtain⟨its,r',pl,hz⟩:=I.tuple hq;have hlen:=r'.length;exact len_tuple pl (by simp only [ar] <;> lia) ⟨.int ys.length,H,I.tok _,⟨s.toks+1,by rw[ar,hlen]⟩,q⟩
theorem jV:yR X (.type "tuple") (fun xs H Q=>∃ p ys,xs=[.ref p]/\((SqL X.K H p ys/\∀ l,H l=none->Q (.ref l) (upd H l (.tup ys)))\/(SqT X.K H p ys/\Q (.ref p) H))):=by
 intro lK s σ H xs us Q I r h;obtain⟨p,ys,rfl,h⟩:=h;obtain⟨u,rfl,rx⟩:=vals1 r;cases rx;rcases h with ⟨hq,q⟩ | ⟨hq,q⟩
 ·obtain⟨its,r',pl,hz⟩:=I.list hq;have hlen:=r'.length;refine call_tuple_list pl.isList (fun h' kp=>?_) (by simp only [ar] <;> lia);have I1:Inv X lK σ H { s with heap:=h'} :=I.kept (t':=s.toks) kp;have I2:Inv X lK σ (upd H h'.objs.size (.tup ys)) { s with heap:=h'.push { cls:= .type "tuple",data:= .seq its.toArray}} :=
   I1.laid (t':=s.toks) (fun b o e=>ah _ e) (aA _) (show ObjOk X.prog X.w _ _ _ (.tup ys) from ⟨hz,its,r',TupO.new _ _⟩)
  exact⟨.ref h'.objs.size,_,I2,rfl,q _ (I1.hok.fresh (aA _))⟩
 ·obtain⟨its,r',pl,hz⟩:=I.tuple hq;exact call_tuple_same pl ⟨.ref p,H,I,rfl,q⟩
def tyV (K:W.Frag)(T:String)(x:V)(H:Hp):Prop:=match x with
 | .str _=>T= "str"
 | .int _=>T= "int"
 | .ref p=>(T= "list" /\∃ xs,SqL K H p xs)\/(T= "tuple" /\∃ o,K.lookup p=some o/\o.cls= .type "tuple" /\o.dict=none)\/
   (T= "dict" /\((∃ kvs,H p=some (.dK kvs))\/∃ kvs,H p=some (.dT kvs)))\/(T= "set" /\∃ S n,H p=some (.set S n))
 | _=>False
theorem jSG {lK:Ai}{σ:St}{H:Hp}{s:Shared}{T:String}{x:V}{v:Value}(I:Inv X lK σ H s)(r:RelV x v)(ty:tyV X.K T x H):
  s.TypeIs v T/\∀ a,v= .ref a->∃ ob,s.heap.get? a=some ob/\ob.dict=none:=by
 cases x with
 | str z=>
  obtain⟨t,rfl⟩:=r;cases (show T= "str" from ty);exact⟨typeIs_str s z t,fun _ e=>nomatch e⟩
 | int i=>
  obtain⟨t,rfl⟩:=r;cases (show T= "int" from ty);exact⟨typeIs_int s i t,fun _ e=>nomatch e⟩
 | ref p=>
  cases r;rcases ty with ⟨rfl,xs,hq⟩ | ⟨rfl,o,hk,hc,hd⟩ | ⟨rfl,hk⟩ | ⟨rfl,S,n,hk⟩
  ·obtain⟨its,_,pl,_⟩:=I.list hq;refine⟨pl.isList.typeIs,fun a e=>?_⟩;cases e;obtain⟨o,n,e,c,hd,_⟩:=pl;exact⟨o,e,hd⟩
  ·refine⟨⟨o,I.kIn p o hk,hc⟩,fun a e=>?_⟩;cases e;exact⟨o,I.kIn _ o hk,hd⟩
  ·have z:∃ o,s.heap.get? p=some o/\o.ExactDict:=by
    rcases hk with ⟨kvs,hk⟩ | ⟨kvs,hk⟩
    ·obtain⟨_,_,_,_,o,_,_,e,ex,_⟩:=I.hok p _ hk;exact⟨o,e,ex⟩
    ·obtain⟨_,_,_,_,o,_,_,e,ex,_⟩:=I.hok p _ hk;exact⟨o,e,ex⟩
   obtain⟨o,e,ex⟩:=z;refine⟨⟨o,e,ex.1⟩,fun a e2=>?_⟩;cases e2;exact⟨o,e,ex.2.1⟩
  ·obtain⟨o,_,_,_,e,ex,_⟩:=I.hok p _ hk;refine⟨⟨o,e,ex.1⟩,fun a e2=>?_⟩;cases e2;exact⟨o,e,ex.2.1⟩
 | _=>exact False.elim ty
def tBM0 (K:W.Frag)(T:String)(r:V->List V->Hp->VK->Prop)(to:TE):TE:=fun σ H Q=>to σ H fun x H1=>tyV K T x H1/\r x [] H1 Q
def tBM (K:W.Frag)(T:String)(r:V->List V->Hp->VK->Prop)(to:TE)(t:TA):TE:=fun σ H Q=>to σ H fun x H1=>tyV K T x H1/\t σ H1 fun xs H2=>r x xs H2 Q
variable {o:Expr}{es:List Expr}{to:TE}{t:TA}{name:Str}{apos cpos:Pos}{T id:String}{r:V->List V->Hp->VK->Prop}
theorem jWM (pa:PlainAttrs T)(slot:Slot T name id)(hty:typeOf (.builtin id)=pure (.type "method_descriptor"))(hm:MtR X id r)(ho:PE X o to)
  (hbase:attributeBase o name X.env (eval o X.env)=eval o X.env:=by rfl) (hline:(apos.endLine==cpos.line)=true:=by rfl):PE X (.Call (.Attribute o name apos) [] [] cpos) (tBM0 X.K T r to):=by
 intro lK s σ H Q I h;refine wpAny_Call_method0_late hbase hline (lN (ho lK s σ H _ I h) fun v s1 ⟨x,H1,I1,r1,ty,q1⟩=>?_);obtain⟨h1,h2⟩:=jSG I1 r1 ty;exact⟨T,id,pa,slot,hty,h1,h2,gz rfl (PySem.evalArgs_none (hm lK s1 σ H1 x [] v [] Q I1 r1 .nil q1))⟩
theorem pe_bm (pa:PlainAttrs T)(slot:Slot T name id)(hty:typeOf (.builtin id)=pure (.type "method_descriptor"))(hm:MtR X id r)(ho:PE X o to)(ha:PA X (e::es) t)
  (hbase:attributeBase o name X.env (eval o X.env)=eval o X.env:=by rfl)
  (hfew:((backTo cpos (starEach (e::es) X.env)).all (fun x=>!x.1)&&(backToKw cpos (keywordEach [] X.env)).all (fun x=>x.1.isSome)
   &&decide ((e::es).length+([]:List Keyword).length+(if ([]:List Keyword).isEmpty then 0 else 1)<30))=true:=by rfl)
  (hline:(apos.endLine==cpos.line)=true:=by rfl) (hs:starEach (e::es) X.env=(false,eval e X.env)::starEach es X.env:=by rfl) (hplain:(backTo cpos (starEach es X.env)).any (·.1)=false:=by rfl):
  PE X (.Call (.Attribute o name apos) (e::es) [] cpos) (tBM X.K T r to t):=by
 intro lK s σ H Q I h;refine wpAny_Call_method_late hbase hfew hline rfl (lN (ho lK s σ H _ I h) fun v s1 ⟨x,H1,I1,r1,ty,q1⟩=>?_);obtain⟨h1,h2⟩:=jSG I1 r1 ty;refine⟨T,id,pa,slot,hty,h1,h2,?_⟩;have hA:=ha cpos lK s1 σ H1 _ I1 q1;rw[hs] at hA ⊢;refine gz (by show (false || (backTo cpos (starEach es X.env)).any (·.1))=false; rw[hplain] <;> rfl) (ek ?_);exact lN hA fun us s2 ⟨vs,H2,I2,r2,q2⟩=>hm lK s2 σ H2 x vs v us Q I2 r1 r2 q2
/- xs.append(e),list.index on a module's tuple .. are MtR facts of 06m -/
end
def MtM (X:Cx)(id:String)(r:V->List V->Hp->VK->Prop):Prop:=
 ∀ (lK:Ai) (s:Shared) (σ:St) (H:Hp) (x:V) (xs:List V) (v:Value) (us:Al) (Q:VK),Inv X lK σ H s->RelV x v->Vals xs us->r x xs H Q->
  wpAny (model X.prog X.w) X.A (call (.builtin id) (v::us)) (EP X lK σ Q) X.xe s
theorem Vals.one:∀ {x:V}{us:Al},Vals [x] us->∃ u,us=[u]/\RelV x u
 | _,_, .cons r .nil=>⟨_,rfl,r⟩
theorem Vals.two:∀ {x y:V}{us:Al},Vals [x,y] us->∃ u v,us=[u,v]/\RelV x u/\RelV y v
 | _,_,_, .cons r (.cons q .nil)=>⟨_,_,rfl,r,q⟩
theorem Vals.zero:∀ {us:Al},Vals [] us->us=[]
 | _, .nil=>rfl
theorem Vals.dropLast {xs:List V}{us:Al}(h:Vals xs us):Vals xs.dropLast us.dropLast:=by
 induction h with
 | nil=>exact .nil
 | cons r t ih=>
  cases t with
  | nil=>exact .nil
  | cons q t'=>exact .cons r ih
theorem Vals.eraseIdx:∀ {xs:List V}{us:Al}(i:Nat),Vals xs us->Vals (xs.eraseIdx i) (us.eraseIdx i)
 | _,_,_, .nil=> .nil
 | _,_,0, .cons _ t=>t
 | _,_,i+1, .cons r t=> .cons r (Vals.eraseIdx i t)
theorem jMO {α:Type}(l:List α):l.eraseIdx (l.length - 1)=l.dropLast:=by
 induction l with
 | nil=>rfl
 | cons a r ih=>
  cases r with
  | nil=>rfl
  | cons b r=>
   have e:(a::b::r).length - 1=((b::r).length - 1)+1:=by
    have h1:(a::b::r).length=r.length+2:=rfl;have h2:(b::r).length=r.length+1:=rfl;lia
   rw[e,List.eraseIdx_cons_succ,ih]
   all_goals rfl
theorem jI5 {α:Type} :∀ (l:List α) (i:Nat),(l.eraseIdx i).length<=l.length
 | [],_=>aA _
 | _::_,0=>dz _
 | _::r,i+1=>Nat.succ_le_succ (jI5 r i)
variable {s:Shared}
section
variable {lK:Ai}{σ:St}{H:Hp}{l b:Addr}{xs ys zs:List V}
theorem Inv.lset {its its':Al}{n:Nat}{f:An->An}{t':Nat}(I:Inv X lK σ H s)(hH:H l=some (.lst xs))
  (e:s.heap.get? l=some { cls:= .type "list",data:= .seq its.toArray n}) (hf:f its.toArray=its'.toArray) (hv:Vals ys its') (hz:ys.length<=sizeLine):
  Inv X lK σ (upd H l (.lst ys)) { s with heap:=s.heap.update l (Obj.mapSeq f),toks:=t'} :=by
 have q:=PySem.IsL.update e f;rw[hf] at q;refine I.write (x:=l) (e:=l) (by rw[hH]; exact trivial) (.inl rfl) (fun b' u hb hu=>(bA s.heap (Obj.mapSeq f) (eh hb)).trans hu) ⟨_,q⟩ ?_;exact⟨hz,its',_,hv,q⟩
theorem Inv.lnew {its:Al}{t':Nat}(I:Inv X lK σ H s)(hv:Vals ys its)(hz:ys.length<=sizeLine):
  Inv X lK σ (upd H s.heap.objs.size (.lst ys)) { s with heap:=s.heap.push { cls:= .type "list",data:= .seq its.toArray},toks:=t'} :=
 I.laid (fun _ _ q=>ah _ q) (aA _) ⟨hz,its,0,hv,aC _ rfl⟩
theorem Inv.fresh (I:Inv X lK σ H s):H s.heap.objs.size=none:=I.hok.fresh (aA _)
theorem Inv.lstM (I:Inv X lK σ H s)(hH:H l=some (.lst xs)):xs.length<=sizeLine/\∃ (its:Al) (n:Nat),Vals xs its/\xs.length=its.length/\s.heap.get? l=some { cls:= .type "list",data:= .seq its.toArray n} :=by
 obtain⟨z,its,n,r,e⟩:=I.hok l _ hH;exact⟨z,its,n,r,r.length,e⟩
theorem jRB {n:Nat}(h:n<=sizeLine):Builtin.List.listTooLong n=false:=by
 unfold Builtin.List.listTooLong;exact aN Aa
end
def jTU:V->List V->Hp->VK->Prop:=fun x vs H Q=>∃ l xs y,x= .ref l/\vs=[y]/\H l=some (.lst xs)/\xs.length<sizeLine/\Q .non (upd H l (.lst (xs++[y])))
theorem jBD:MtM X "list.append" jTU:=by
 intro lK s σ H x vs v us Q I rx rv h;obtain⟨l,xs,y,rfl,rfl,hH,hz,q⟩:=h;cases rx;obtain⟨u,rfl,ru⟩:=rv.one;obtain⟨z,its,n,r,hl,e⟩:=I.lstM hH;refine fm F.slot_list_append ⟨_,e,rfl⟩ F.entry_list_append (F.args_list_append_2 _ _) (PySem.list_append l its.toArray n u (by rw[ar]; lia)) ⟨e,?_⟩;refine⟨.non,_,I.lset (its':=its++[u]) hH e Ad (r.append (.cons ru .nil)) ?_,rfl,q⟩;rw[aJ,gS];lia
def rPop:V->List V->Hp->VK->Prop:=fun x vs H Q=>∃ l xs y,x= .ref l/\vs=[]/\H l=some (.lst xs)/\xs[xs.length - 1]?=some y/\Q y (upd H l (.lst xs.dropLast))
theorem jX2:MtM X "list.pop" rPop:=by
 intro lK s σ H x vs v us Q I rx rv h;obtain⟨l,xs,y,rfl,rfl,hH,hy,q⟩:=h;cases rx;have hus:=rv.zero;subst hus;obtain⟨z,its,n,r,hl,e⟩:=I.lstM hH;obtain⟨u,hu,ru⟩:=r.get hy;have hy':its.toArray[its.toArray.size - 1]?=some u:=by
  show its.toArray[its.length - 1]?=some u;rw[<- bN,<- hl];exact hu
 refine fm F.slot_list_pop ⟨_,e,rfl⟩ F.entry_list_pop (F.args_list_pop_1 _) (MeetsSeq.list_pop_last l its.toArray n u hy' (by rw[ar]; lia)) ⟨e,?_⟩;refine⟨y,_,I.lset (its':=its.dropLast) hH e ?_ r.dropLast ?_,ru,q⟩
 ·show its.toArray.eraseIdxIfInBounds (its.toArray.size - 1)=its.dropLast.toArray;rw[ar,gQ,jMO]
 ·rw[List.length_dropLast];lia
def jW5:V->List V->Hp->VK->Prop:=fun x vs H Q=>∃ l xs i k y,x= .ref l/\vs=[.int i]/\H l=some (.lst xs)/\ -(2 ^ 63)<=i/\i<2 ^ 63/\seqIndex? i xs.length=some k/\xs[k]?=some y/\Q y (upd H l (.lst (xs.eraseIdx k)))
theorem jRC:MtM X "list.pop" jW5:=by
 intro lK s σ H x vs v us Q I rx rv h;obtain⟨l,xs,i,k,y,rfl,rfl,hH,h1,h2,hk,hy,q⟩:=h;cases rx;obtain⟨u,rfl,ru⟩:=rv.one;obtain⟨t,rfl⟩:=ru;obtain⟨z,its,n,r,hl,e⟩:=I.lstM hH;obtain⟨w,hw,rw'⟩:=r.get hy;refine fm F.slot_list_pop ⟨_,e,rfl⟩ F.entry_list_pop (F.args_list_pop_2 _ _)
  (MeetsSeq.list_pop_at l its.toArray n i t k w (fitsIndex_both h1 h2) (by rw[ar,<- hl]; exact hk) (by rw[<- bN]; exact hw) (by rw[ar]; lia)) ⟨e,?_⟩
 refine⟨y,_,I.lset (its':=its.eraseIdx k) hH e ?_ (r.eraseIdx k) ?_,rw',q⟩
 ·show its.toArray.eraseIdxIfInBounds k=(its.eraseIdx k).toArray;rw[gQ]
 ·have:=jI5 xs k;lia
def rCat:R2:=fun x y H Q=>∃ l b xs zs,x= .ref l/\y= .ref b/\H l=some (.lst xs)/\H b=some (.lst zs)/\xs.length+zs.length<=sizeLine/\∀ p,H p=none->Q (.ref p) (upd H p (.lst (xs++zs)))
theorem jWS:OpR X (binaryOp .Add) rCat:=by
 intro lK s σ H x y v u Q I rx ry h;obtain⟨l,b,xs,zs,rfl,rfl,hH,hB,hz,q⟩:=h;cases rx;cases ry;obtain⟨z,its,n,r,hl,e⟩:=I.lstM hH;obtain⟨z2,its2,n2,r2,hl2,e2⟩:=I.lstM hB;refine PySem.P.add_list e e2 ?_ (by rw[ar,ar]; lia);have ea:its.toArray++its2.toArray=(its++its2).toArray:=Ad;rw[ea];exact⟨.ref _,_,I.lnew (t':=s.toks) (r.append r2) (by rw[aJ]; lia),rfl,q _ I.fresh⟩
section
variable {prog:Program}{w:World}{A:Around}{E:Ah}
set_option maxRecDepth 100000 in
end
end L2
namespace Att
open PySem PySem.W PySem.Calls PyProof.Rows
theorem jF0 {P:Params}{h:Heap} :∀ (ns:Ag) (vs:Al),WellAll P h vs (ns.map WData.int)->IntsAre vs ns:=by
 intro ns
 induction ns with
 | nil=>
  intro vs w;rw[iq] at w;cases w;exact .nil
 | cons n ns ih=>
  intro vs w;rw[bf] at w;cases w with
  | cons a b=>
   cases a;exact .cons _ _ (ih _ b)
theorem jNG {l:OpenLaw}{n:Nat}(hn:l.most=some n){P:Params}{h:Heap}{args:List WData}{vals:Al}
  (hpre:l.row.toRowW.claim.pre args=true) (hwl:WellAll P h vals args):
  ∃ a vs ns,vals=[Value.ref a]/\args=[WData.list (ns.map WData.int)]/\h.get? a=some { cls:= .type "list",data:= .seq vs.toArray} /\IntsAre vs ns/\ns.length<=n:=by
 have hsh:WShape.hasAll [] args [.list .int]=true:=(pre_splitW hpre).1;have hc:l.pre.holds [] { args:=args} =true:=(pre_splitW hpre).2;obtain⟨d,r,rfl,h1,h2⟩:=hasAllW_cons hsh;obtain rfl:=hasAllW_nil h2;obtain⟨xs,rfl,h3⟩:=hasW_list h1;obtain⟨ns,rfl⟩:=items_int h3;have hlen:ns.length<=n:=by
  unfold OpenLaw.pre at hc;have h4:(WTm.not (.lt (.lit (.int (n:Int))) (.len (.arg 0)))).holds [] { args:=[.list (ns.map .int)]} =true:=by
   have h4:=(holds_andW hc).1;rw[hn] at h4;exact h4
  have h5:=condW_of h4 (w_not (w_lt w_lit (w_len_list (w_arg rfl))));rw[af] at h5;refine Nat.le_of_not_lt fun q=>?_;have q':(n:Int)<((ns.length:Nat):Int):=Aa
  first
   | (rw[ax q'] at h5; exact absurd h5 Ac)
   | (simp at h5; lia)
 cases hwl with
 | cons w1 w2=>
  cases w2;cases w1 with
  | list ho hall=>exact⟨_,_,ns,rfl,rfl,ho,jF0 ns _ hall,hlen⟩
theorem jNM (l:OpenLaw)(args:List WData):l.row.toRowW.claim.post args (.bool true) args=true:=
 postW_of (r:=l.row.toRowW) (X:=(true==true))
  (show WShape.has [] (.bool true) .bool=true by first | rfl | decide | simp [WShape.has,WShape.arms,WShape.armsAll])
  (show (WTm.eq .res (.lit (.bool true))).value [] { args:=args,res:=some (.bool true),after:=args} =some (.bool (true==true)) from w_eq_bool (w_res rfl) w_lit) rfl
theorem attach_call {l:OpenLaw}{n:Nat}{q:Program}{loose:Am}{XP:(Ak)->Heap->Prop}{YP:World->Heap->Prop}{d:DefRec}
  (hn:l.most=some n) (hdf:d.params.defaults=[])
  (call:∀ (w:World) (s₀ s₁:Shared) (mg mb:Ak) (fa:Addr) (o:Obj) (pm cd doc:Value) (a:Addr) (vs:Al) (ns:Ag),
   Ground q loose [] XP w s₀ mg mb s₁.heap->YP w s₁.heap->
   s₁.heap.get? fa=some o->o.data= .func (docDef d.name d.params d.body d.scope pm cd doc)->s₁.heap.CodeRec cd d.name->mg d.name=some (.ref fa)->
   s₁.heap.get? a=some { cls:= .type "list",data:= .seq vs.toArray} ->IntsAre vs ns->ns.length<=n->s₁.gens=#[]->
   codeAny (model l.prog w) callerA (.call (.ref fa) ⟨[.ref a],[]⟩) (fun r s'=>r= .ok (.ret (.bool true))/\OldK s₁.heap s'.heap/\s'.os=s₁.os/\AllBare s'.gens) s₁):
  WalkO q loose XP YP l.row.toRowW d [] (fun f vs=>PySem.call f vs):=by
 intro w s₀ s₁ mg mb G Y fa o pm cd doc dV kV ho hd hcd hD hmg hg args vals as hpre hlay hrd hwl hlo;obtain rfl:dV= .none:=Dflts.none hD hdf;obtain rfl:kV= .none:=Dflts.noKw hD;obtain⟨a,vs,ns,rfl,rfl,hobj,hints,hlen⟩:=jNG hn hpre hwl;refine enter_call (dQ (call w s₀ s₁ mg mb fa o pm cd doc a vs ns G Y ho (fd_plain hd) hcd hmg hobj hints hlen hg) fun r s' hq=>?_);obtain⟨rfl,h2,h3,h4⟩:=hq;exact⟨.inl ⟨.bool true, .bool true,[],rfl,fun _=>rfl, .bool true,jNM l _,fun _=>⟨List.Pairwise.nil,fun _ hm=>(nomatch hm)⟩⟩,h2,h3,h4⟩
section
variable {prog:Program}{w:World}{A:Around}{E:Ah}{s:Shared}{K:Frag}
end
end Att
namespace L2
open PySem PySem.Spec PyProof.Rows
theorem jHA:∀ {vs:Al}{ns:Ag},IntsAre vs ns->Vals (ns.map V.int) vs
 | _,_, .nil=> .nil
 | _,_, .cons n t h=> .cons ⟨t,rfl⟩ (jHA h)
end L2
/- THE LAST THEOREM (shape; LID,My.* are yours):
  My.Adr:a structure of the addresses that your layer names (classes,functions); My.Txt K t:a structure (Prop) of the equations over K;
  My.txt_mk: {K} {implicit addresses ..} (e1:nsIn K mainGlobals "law" =some (some (.ref f))) (e2:K.lookup f=some ⟨oc,od, .func (fnOf "law" "law" params body scope dV kV doc pm an lM ct),sl⟩) (e3:codeIn K lM "law" =true) .. :∃ t,My.Txt K t
set_option maxRecDepth 100000 in
set_option maxHeartbeats 0 in
theorem PySem.Challenge.cw_LID_holds : PySem.Challenge.rw_LID.Holds := by
 w_on; o_law; k_head; (case hw=>w_witness2)
 k_fill
 refine L2.walk_of (l:=PySem.Challenge.rw_LID) (n:=63) (k:=40) (x:= "script") (CX:=fun w=> ..) (sp:=fun _=>My.sp_law) rfl Ac rfl ⟨rfl,Ac,Ac⟩ (fun w h Y=>PySem.W.kIn_of Y) ?F ?S ?C
 case F=>
  intro w mg fa h KX G hmg;have T:∃ t,My.Txt (L2.KOf KX) t:=by
   dsimp only [L2.KOf] -- K must stand as «<heap const>w.params» for k_is
   refine' My.txt_mk ?e1 ?e2 ?e3 ..
   (case e1=>PySem.W.k_is) -- in the order:a name->its address->its object->its parts
   (case e2=>PySem.W.k_is)
   ..
  obtain⟨t,T⟩:=T;have e0:=hmg.symm.trans (g7 KX G T.law);cases e0 -- fa is the law's own address;exact⟨_,fun s u=> .of_eq rfl,fun Aq kb nb=>My.law_fn T kb nb⟩ -- if «.of_eq rfl» comes too early:refine' ⟨_,?b,fun Aq kb nb=>My.law_fn T kb nb⟩; exact fun s u=> .of_eq rfl
 case S=>exact fun w H a ns hl hO hS=> ..
 case C=>exact ..
(the tactic k_is has no namespace:write k_is) -/
namespace L2
open PySem PySem.Spec PyProof.Rows
abbrev CX0:CXT:=fun _ _ _ _ _ _=>False
abbrev E0:XK:=fun _ _ _=>False
theorem pass0 {X:Cx} :jQF CX0 X E0:=fun _ _ _ _ _ _ _ h=>h.elim
structure Fun (K:W.Frag)(x qual:Str)(st:Stmt)(f:Addr)(fd:FuncData):Prop where
 ex:∃ (oc:Value) (od:Option Addr) (kV doc pm:Value) (an:Option Addr) (lM ct:Value) (osl:Array (Ao)),
  fd=PySem.W.fnOf x qual (y0 st) (jD st) (j7 st) .none kV doc pm an lM ct/\K.lookup f=some ⟨oc,od, .func fd,osl⟩/\PySem.W.codeIn K lM qual=true
 kp:keepIn K (.ref f)=true
variable {w:World}
section
variable {P:Program}{K:W.Frag}{mg:Ak}{Aq:Heap}
theorem Fun.ok {x qual:Str}{st:Stmt}{f:Addr}{fd:FuncData}{N ps:Am}{k:Nat}{sp:Sp}(F:Fun K x qual st f fd)(S:FnScope N ps (j7 st))(len:∀ vs H Q E,sp vs H Q E->vs.length=ps.length)
  (hbody:∀ (lM:Value) (A:Around) (Ap:List Env) (s:Shared) (H:Hp) (vs:List V) (Q:VK) (E:XK),Room k (A.deeper (envOfC qual (j7 st) s.heap.objs.size f lM))->sp vs H Q E->
   ∃ t,PSs (cxOf CX0 P w K mg Aq N qual (j7 st) f lM A Ap s H E).nox (jD st) t/\t { nx:=fun _ H'=>Q .non H',rt:=Q} (yA N vs) H):FnOk P w K mg Aq CX0 (k+1) f fd ps sp:=by
 obtain⟨oc,od,kV,doc,pm,an,lM,ct,osl,rfl,lk,hcd⟩:=F.ex;refine fn_of lk hcd S len fun A Ap s H vs Q E hr hsp=>?_;obtain⟨t,h,q⟩:=hbody lM A Ap s H vs Q E hr hsp;exact⟨t,h.nox,q⟩
theorem Fun.binds {x qual:Str}{st:Stmt}{f:Addr}{fd:FuncData}{ps:Am}(F:Fun K x qual st f fd)
  (h:∀ (kV doc pm:Value) (an:Option Addr) (lM ct:Value) (us:Al),us.length=ps.length->bindArgs (PySem.W.fnOf x qual (y0 st) (jD st) (j7 st) .none kV doc pm an lM ct) ⟨us,[]⟩=pure (ps.zip us)):Binds K fd ps []:=by
 obtain⟨oc,od,kV,doc,pm,an,lM,ct,osl,rfl,lk,hcd⟩:=F.ex;exact .all (h kV doc pm an lM ct)
theorem jZ {x qual:Str}{st:Stmt}{f:Addr}{oc:Value}{od an:Option Addr}{osl:Array (Ao)}{kV doc pm lM ct:Value}(l:K.lookup f=some ⟨oc,od, .func (PySem.W.fnOf x qual (y0 st) (jD st) (j7 st) .none kV doc pm an lM ct),osl⟩)
  (c:PySem.W.codeIn K lM qual=true) (k:keepIn K (.ref f)=true):Fun K x qual st f (PySem.W.fnOf x qual (y0 st) (jD st) (j7 st) .none kV doc pm an lM ct):=⟨⟨oc,od,kV,doc,pm,an,lM,ct,osl,rfl,l,c⟩,k⟩
end
theorem hu_of {A:Around}{k:Nat}(hr:Room k A):A.units+1<cLine:=lz (Nat.add_le_add_left (by decide:1<=64) _) hr.units
variable {X:Cx}
theorem pv (i:Nat){x:Str}{pos:Pos}(hN:X.N[i]?=some x:=by rfl)(hv:Vis X.env.scope x:=by first | exact Or.inl rfl | exact Or.inr (Or.inl rfl) | exact Or.inr (Or.inr rfl))(hd:(x==("__debug__" :Str))=false:=by decide)
  (hcd:(x==("__classdict__" :Str))=false:=by decide):PE X (.Name x pos) (tVar i):=jHU hN hv hd hcd
theorem iteF {A B:Prop}(h:B):if false=true then A else B:=by
 rw[aw az];exact h
theorem iteT {A B:Prop}(h:A):if true=true then A else B:=by
 rw[ay rfl];exact h
theorem ite2 {c A B:Prop} [Decidable c](h1:c->A)(h2:¬ c->B):if c then A else B:=by
 by_cases h:c
 ·rw[ay h];exact h1 h
 ·rw[aw h];exact h2 h
def jO (cells:Aj):List (Str×NameKind)->Aj->Aj
 | [],acc=>acc
 | (n,k)::r,acc=>if k= .free then jO cells r ((n,(cells.lookup n).getD 0)::acc) else jO cells r acc
theorem jDM {env:Env} :∀ (l:List (Str×NameKind)) (acc:Aj),(∀ y∈l,y.2= .free->∃ c,env.cells.lookup y.1=some c)->
  (forIn l acc fun (x:Str×NameKind) (cs:Aj)=>(if (x.2==NameKind.free)=true then (do let a <- cellOf env x.1; pure (ForInStep.yield ((x.1,a)::cs))) else pure (ForInStep.yield cs):Sem (ForInStep (Aj))))=pure (jO env.cells l acc)
 | [],acc,_=>rfl
 | (n,k)::r,acc,h=>by
  have hr:∀ y∈r,y.2= .free->∃ c,env.cells.lookup y.1=some c:=fun y hy=>h y (ag _ hy);rw[List.forIn_cons];by_cases hk:k= .free
  ·subst hk;obtain⟨c,hc⟩:=h (n, .free) ai rfl;have e:cellOf env n=pure c:=by unfold cellOf; rw[hc]
   have e2:jO env.cells ((n,NameKind.free)::r) acc=jO env.cells r ((n,c)::acc):=by
    show (if NameKind.free=NameKind.free then jO env.cells r ((n,(env.cells.lookup n).getD 0)::acc) else _)=_;rw[ay rfl,hc]; rfl
   rw[e2,<- jDM r ((n,c)::acc) hr];show ((do let a <- cellOf env n; pure (ForInStep.yield ((n,a)::acc))) >>= _)=_;rw[e]; rfl
  ·have hb:(k==NameKind.free)=false:=by cases k <;> first | rfl | exact absurd rfl hk
   have e2:jO env.cells ((n,k)::r) acc=jO env.cells r acc:=by
    show (if k=NameKind.free then _ else jO env.cells r acc)=_;rw[aw hk]
   rw[e2,<- jDM r acc hr];show ((if (k==NameKind.free)=true then _ else pure (ForInStep.yield acc)) >>= _)=_;rw[hb]; rfl
theorem jK6 {env:Env}{sc:Scope}(h:∀ y∈sc.names,y.2= .free->∃ c,env.cells.lookup y.1=some c):closureFor sc env=pure (jO env.cells sc.names []):=by
 unfold closureFor;show (forIn sc.names [] _ >>= fun cs=>pure cs)=_;rw[show (forIn sc.names ([]:Aj) _:Sem _)=_ from jDM sc.names [] h];rfl
theorem jAH {cells:Aj} :∀ (l:List (Str×NameKind)) (acc:Aj),(∀ y∈l,y.2= .free->∃ c,cells.lookup y.1=some c)->
  (∀ x c,acc.lookup x=some c->cells.lookup x=some c)->∀ x c,(jO cells l acc).lookup x=some c->cells.lookup x=some c
 | [],acc,_,ha=>ha
 | (n,k)::r,acc,h,ha=>by
  have hr:∀ y∈r,y.2= .free->∃ c,cells.lookup y.1=some c:=fun y hy=>h y (ag _ hy);unfold jO;by_cases hk:k= .free
  ·rw[ay hk];obtain⟨c0,hc⟩:=h (n,k) ai hk;refine jAH r _ hr fun x c e=>?_;rw[bJ] at e;cases hx:x==n with
   | true=>
    rw[hx] at e;have exn:x=n:=eq_of_beq hx;subst exn;have hc':cells.lookup x=some c0:=hc;rw[hc'] at e ⊢;exact e
   | false=>rw[hx] at e; exact ha x c e
  ·rw[aw hk]; exact jAH r acc hr ha
theorem jAS {cells:Aj}{x:Str} :∀ (l:List (Str×NameKind)) (acc:Aj),((x,NameKind.free)∈l\/∃ c,acc.lookup x=some c)->∃ c,(jO cells l acc).lookup x=some c
 | [],acc,h=>by
  rcases h with h | h
  ·cases h
  ·exact h
 | (n,k)::r,acc,h=>by
  unfold jO;by_cases hk:k= .free
  ·rw[ay hk];refine jAS r _ ?_;by_cases e:x=n
   ·subst e;exact .inr ⟨_,by rw[bJ,beq_self_eq_true]⟩
   ·rcases h with h | ⟨c,h⟩
    ·rcases aE.mp h with q | q
     ·cases q; exact absurd rfl e
     ·exact .inl q
    ·refine .inr ⟨c,?_⟩;rw[bJ,cm.mpr e];exact h
  ·rw[aw hk];refine jAS r _ ?_;rcases h with h | h
   ·rcases aE.mp h with q | q
    ·cases q; exact absurd rfl hk
    ·exact .inl q
   ·exact .inr h
theorem jAQ {x:Str}{k:NameKind} :∀ {l:List (Str×NameKind)},l.lookup x=some k->(x,k)∈l
 | [],h=>by cases h
 | (n,k')::r,h=>by
  rw[bJ] at h;cases hx:x==n with
  | true=>rw[hx] at h; cases h; rw[eq_of_beq hx]; exact ai
  | false=>rw[hx] at h; exact ag _ (jAQ h)
theorem jDF {env:Env}{x:Str}{k:NameKind}(hk:k= .cell\/k= .free):∀ {l:List (Str×NameKind)},(∀ y∈l,y.2≠ .cell)->
  (l.map fun (n,k)=>if (k==NameKind.free&&env.scope.kind== .function&&env.kindOf n==some .cell) then (n,NameKind.cell) else (n,k)).lookup x=some k->l.lookup x=some .free
 | [],_,h=>by simp at h
 | (n,k')::r,hc,h=>by
  have ih:= @jDF env x k hk r (fun y hy=>hc y (ag _ hy));have hc0:k'≠ .cell:=hc (n,k') ai;rw[bJ];rw[bf] at h;dsimp only at h;by_cases hb:(k'==NameKind.free&&env.scope.kind== .function&&env.kindOf n==some .cell)=true
  ·rw[ay hb,bJ] at h;cases hx:x==n with
   | true=>
    have:k'= .free:=by
     simp only [bD] at hb;exact eq_of_beq hb.1.1
    rw[this]
   | false=>rw[hx] at h; exact ih h
  ·rw[aw hb,bJ] at h;cases hx:x==n with
   | true=>
    rw[hx] at h;have e:k'=k:=bw h;rcases hk with q | q
    ·exact absurd (e.trans q) hc0
    ·rw[e,q]
   | false=>rw[hx] at h; exact ih h
theorem jC3 {env:Env}{x:Str} :∀ {l:List (Str×NameKind)},l.lookup x=some .free->
  (l.map fun (n,k)=>if (k==NameKind.free&&env.scope.kind== .function&&env.kindOf n==some .cell) then (n,NameKind.cell) else (n,k)).lookup x=some .cell\/
  (l.map fun (n,k)=>if (k==NameKind.free&&env.scope.kind== .function&&env.kindOf n==some .cell) then (n,NameKind.cell) else (n,k)).lookup x=some .free
 | [],h=>by cases h
 | (n,k')::r,h=>by
  have ih:= @jC3 env x r;rw[bJ] at h;rw[bf];dsimp only;by_cases hb:(k'==NameKind.free&&env.scope.kind== .function&&env.kindOf n==some .cell)=true
  ·rw[ay hb,bJ];cases hx:x==n with
   | true=>exact .inl rfl
   | false=>rw[hx] at h; exact ih h
  ·rw[aw hb,bJ];cases hx:x==n with
   | true=>rw[hx] at h; exact .inr h
   | false=>rw[hx] at h; exact ih h
section
variable {prog:Program}{A:Around}{R:Result->Shared->Prop}{s:Shared}
abbrev jN2 (ifs:List Expr)(env:Env):Sem Bool:=forIn ifs true fun c r=>if r=true then do let ok <- isTrue c env (eval c env); pure (ForInStep.yield ok) else pure (ForInStep.yield r)
theorem jMP {elt tg iter:Expr}{ifs:List Expr}{sc:Scope}{pos:Pos}{it acc:Value}{env:Env}(J:Nat->Shared->Prop)
  (turn:∀ n z,J n z->wpAny (model prog w) A (pyNext it) (fun r z1=>match r with
   | none=>R (.ok .next) z1
   | some v=>wpAny (model prog w) A (letOwnedTupleGo tg it v) (fun _ z2=>wpAny (model prog w) A (assign tg env v) (fun _ z3=>wpAny (model prog w) A (jN2 ifs env) (fun ok z4=>
     if ok=true then wpAny (model prog w) A (eval elt env) (fun x z5=>wpAny (model prog w) A (call (.builtin "list.append") [acc,x]) (fun _ z6=>∃ k,k<n/\J k z6) (fun _ _=>False) z5) (fun _ _=>False) z4
     else ∃ k,k<n/\J k z4) (fun _ _=>False) z3) (fun _ _=>False) z2) (fun _ _=>False) z1) (fun _ _=>False) z)
  (n:Nat) (h:J n s):codeAny (model prog w) A (.compLoop (.ListComp elt [⟨tg,iter,ifs,0⟩] sc pos) 0 it acc env) R s:=by
 refine codeAny_loop rfl J (fun k z hJ=>?_) n h;have noE:∀ {α:Type}{t:Sem α}{Q:α->Shared->Prop}{E:Ah}{z:Shared},wpAny (model prog w) A t Q (fun _ _=>False) z->wpAny (model prog w) A t Q E z:=
  fun q=>ck q (fun _ _ a=>a) fun _ _ f=>f.elim
 show wpAny _ A ((compTurn (.ListComp elt [⟨tg,iter,ifs,0⟩] sc pos) 0 it acc env).onRaise (fun x=>do noteFrame x env; theTreesLotGoes x)) _ _ z;refine wpAny_noted ?_;rw[compTurn_list];refine ae (ff (ae (ck (turn k z hJ) (fun r z1 q1=>?_) fun _ _ f=>f.elim)));cases r with
 | none=>exact am q1
 | some v=>
  refine ae (ck q1 (fun _ z2 q2=>?_) fun _ _ f=>f.elim);refine ae (ck q2 (fun _ z3 q3=>?_) fun _ _ f=>f.elim);refine ae (ck q3 (fun ok z4 q4=>?_) fun _ _ f=>f.elim);cases ok with
  | false=>exact am ⟨rfl,q4⟩
  | true=>
   refine ae (ae (ck q4 (fun x z5 q5=>?_) fun _ _ f=>f.elim));exact ae (ck q5 (fun _ z6 q6=>am (am ⟨rfl,q6⟩)) fun _ _ f=>f.elim)
end
def blk (X:Cx)(sc:Scope)(cl:Aj)(C:Addr)(Nc:Am)(fp:List Addr)(s:Shared)(H:Hp):Cx where
 prog:=X.prog
 w:=X.w
 K:=X.K
 mg:=X.mg
 Aq:=X.Aq
 A:=X.A
 N:=Nc
 s₀:=s
 H₀:=H
 env:=compEnvC sc cl C X.env
 Ap:=X.stack
 stack:=X.stack
 ex:=fp
 fn:=fun _=>false
 calm:=X.calm
 pn:=[]
 xe:=fun _ _=>False
def blkσ (m:List (Option Nat))(σ:St):St:=m.map fun o=>match o with
 | none=>none
 | some i=>(σ[i]?).getD none
def PTs (X:Cx)(ifs:List Expr)(t:TT):Prop:=
 ∀ (lK:Ai) (s:Shared) (σ:St) (H:Hp) (Q:Bool->Hp->Prop),Inv X lK σ H s->t σ H Q->wpAny (model X.prog X.w) X.A (jN2 ifs X.env) (TP X lK σ Q) X.xe s
def yB:TT:=fun _ H Q=>Q true H
theorem jNJ {X:Cx} :PTs X [] yB:=fun _ _ _ H _ I h=>wpAny_tests_nil ⟨H,I,h⟩
theorem jNI {X:Cx}{c:Expr}{t:TT}(h:PT X c t):PTs X [c] t:=fun lK s σ H Q I q=>wpAny_tests_one (h lK s σ H Q I q)
def qQ (m:List (Option Nat))(g:TG)(tt:TT)(te:TE)(σ:St)(Q:VK)(J:It)(H1:Hp):Prop:=∀ D,H1 D=none->∃ W:Nat->Nat->St->Hp->List V->Prop,
  (∃ n,W 0 n (blkσ m σ) (upd H1 D (.lst [])) [])/\∀ i n σ' H' ys,W i n σ' H' ys->H' D=some (.lst ys)/\ys.length<sizeLine/\
   ((J.stop i H'/\Q (.ref D) H')\/(J.go i H'/\∃ N:St->Hp->List V->Prop,(∀ σ2 H2 zs,N σ2 H2 zs->∃ n',n'<n/\W (i+1) n' σ2 H2 zs)/\∀ x H'',J.yld i H' x H''->g x σ' H'' fun σ2 H2=>tt σ2 H2 fun b H3=>
    if b=true then te σ2 H3 fun v H4=>H4 D=some (.lst ys)/\N σ2 (upd H4 D (.lst (ys++[v]))) (ys++[v])
    else N σ2 H3 ys))
def tComp (m:List (Option Nat))(wi:TI)(g:TG)(tt:TT)(te:TE):TE:=fun σ H Q=>wi σ H (qQ m g tt te σ Q)
theorem Un.sameBut {fs ex:List Addr}{H H':Hp}{h h1 h2:Heap}{C:Addr}(u:Un fs ex H H' h h1)(sb:Heap.SameBut C h1 h2)(hC:h.objs.size<=C):Un fs ex H H' h h2:=by
 have ne:∀ {b:Addr}{o:Obj},h.get? b=some o->b≠C:=fun e=>aW (aX (aG e) hC);refine⟨fun b o e n hf hx=>(sb.2 b (ne e)).trans (u.keep b o e n hf hx),fun b o e n hf hx=>?_,u.free,fun b o e hx=>?_,u.tups,u.frzs,u.tbls⟩
 ·obtain⟨sl,q⟩:=u.slot b o e n hf hx;exact⟨sl,(sb.2 b (ne e)).trans q⟩
 ·obtain⟨o',q⟩:=u.there b o e hx;exact⟨o',(sb.2 b (ne e)).trans q⟩
theorem HOk.sameBut {P:Program}{w:World}{H:Hp}{h1 h2:Heap}{C:Addr}(x:HOk P w H h1)(sb:Heap.SameBut C h1 h2)(hC:H C=none):HOk P w H h2:=fun a o e=>
 (x a o e).stay (fun b u hb q=>(sb.2 b (by
  rintro rfl;rcases hb with rfl | hb
  ·rw[hC] at e; cases e
  ·rw[hC] at hb; cases hb)).trans q) (fun _ q=>q) fun _ _ q=>q
variable {g:TG}{tt:TT}{te:TE}{m:List (Option Nat)}
section
variable {tg iter elt:Expr}{ifs:List Expr}{sc:Scope}{pos:Pos}{wi:TI}{Nc:Am}
def jCC (X:Cx)(sc:Scope)(Nc:Am)(m:List (Option Nat)):Prop:=
 m.length=Nc.length/\∀ (k i:Nat),m[k]?=some (some i)->∃ x,Nc[k]?=some x/\X.N[i]?=some x/\sc.names.lookup x=some .free
theorem jQ6 {lK:Ai}{s:Shared}{σ:St}{H:Hp}{fp:List Addr}(I:Inv X lK σ H s)(hkind:sc.kind= .function)(hcell:∀ y∈sc.names,y.2≠ .cell)
  (hfree:∀ y∈sc.names,y.2= .free->X.env.scope.names.lookup y.1=some .cell\/X.env.scope.names.lookup y.1=some .free) (hm:jCC X sc Nc m) (hfp:∀ b∈fp,FpOk X lK H b) (hlt:∀ b∈fp,b<s.heap.objs.size)
  {h1:Heap}{tk:Nat}{md:Ak}(hns:h1.Ns s.heap.objs.size md) (old:∀ b o,s.heap.get? b=some o->h1.get? b=some o):
  Inv (blk X sc (jO X.env.cells sc.names []) s.heap.objs.size Nc fp s H) [] (blkσ m σ) H { s with heap:=h1,toks:=tk} :=by
 have hcl:∀ y∈sc.names,y.2= .free->∃ c,X.env.cells.lookup y.1=some c:=fun y hy hf=>I.ok.has y.1 (hfree y hy hf);have sub:∀ x c,(jO X.env.cells sc.names []).lookup x=some c->X.env.cells.lookup x=some c:=jAH sc.names [] hcl (fun x c e=>by cases e);have isfree:∀ x,(compEnvC sc (jO X.env.cells sc.names []) s.heap.objs.size X.env).kindOf x=some .cell\/(compEnvC sc (jO X.env.cells sc.names []) s.heap.objs.size X.env).kindOf x=some .free->sc.names.lookup x=some .free:=fun x h=>by
  rcases h with h | h
  ·exact jDF (.inl rfl) hcell h
  ·exact jDF (.inr rfl) hcell h
 refine⟨⟨I.ok.mod,hkind,I.ok.glob,I.ok.blt,aA _,fun x y c h1 h2=>I.ok.inj x y c (sub x c h1) (sub y c h2),fun x hx=>?_,fun x c hf _=>?_,I.ok.hd,I.ok.frames, .inl rfl,fun b hb=>?_,I.bs,bi I.ok.bsz I.sz,fun b o e hb=>?_,fun b hb hz=>?_,I.stack,I.stkFree⟩,
  rfl,I.bare,Un.kept old,⟨md,hns,fun k x v e1 e2 e3=>?_⟩,fun x c e=>?_,I.hok.fresh (aA _),fun x c e=>I.freeC x c (sub x c e),fun p hp=>absurd (show p∈([]:Ai) from hp) Ad,I.hok.kept old,?_⟩
 ·exact jAS sc.names [] (.inl (jAQ (isfree x hx)))
 ·exact absurd (show false=true from hf) az
 ·obtain⟨f0,f1,f2,f3,f4,f5⟩:=hfp b hb;exact⟨aW (hlt b hb),fun x c e=>f4 x c (sub x c e)⟩
 ·obtain⟨f0,f1,f2,f3,f4,f5⟩:=hfp b hb;rcases f3 with q | q
  ·exact I.ok.noex b o e q
  ·exact absurd (aX (aG (I.ok.bs b o e).1) q) (db _)
 ·obtain⟨f0,f1,f2,f3,f4,f5⟩:=hfp b hb;rcases aE.mp (I.stkSub b hz) with q | q
  ·exact f1 q
  ·exact f2 q
 ·have e2':∃ i,m[k]?=some (some i)/\σ[i]?=some (some v):=by
   unfold blkσ at e2;rw[aS] at e2;cases q:m[k]? with
   | none=>rw[q] at e2; cases e2
   | some o=>
    rw[q] at e2;cases o with
    | none=>cases e2
    | some i=>
     refine⟨i,rfl,?_⟩;have e2:(σ[i]?).getD none=some v:=bw e2;cases r:σ[i]? with
     | none=>rw[r] at e2; cases e2
     | some z=>rw[r] at e2; exact bY some e2
  obtain⟨i,q1,q2⟩:=e2';obtain⟨x',a1,a2,a3⟩:=hm.2 k i q1;have e1':Nc[k]?=some x:=e1;rw[e1'] at a1;cases a1;have vis:=hfree (x, .free) (jAQ a3) rfl;obtain⟨m0,hn0,hl0⟩:=I.loc;obtain⟨u,r,l⟩:=hl0 i x v a2 q2 (.inr vis);refine⟨u,r, .inr ⟨jC3 a3,?_⟩⟩;obtain⟨c,hc⟩:=jAS (cells:=X.env.cells) (x:=x) sc.names [] (.inl (jAQ a3));rcases l with ⟨lk,_⟩ | ⟨_,c',hc',o,ho,hd⟩
  ·have lk':X.env.scope.names.lookup x=some .local:=lk;rcases vis with z | z
   ·rw[lk'] at z; cases z
   ·rw[lk'] at z; cases z
  ·have:=sub x c hc;rw[hc'] at this;cases this;exact⟨c,hc,o,old _ _ ho,hd⟩
 ·obtain⟨v,o,ho,hd⟩:=I.cell x c (sub x c e);exact⟨v,o,old _ _ ho,hd⟩
 ·show (blkσ m σ).length=Nc.length;unfold blkσ;rw[af];exact hm.1
theorem jH1 {tf:St->TE}(hc:X.calm=true)(hi:PI X tg iter wi)(hkind:sc.kind= .function)(hcell:∀ y∈sc.names,y.2≠ .cell)(hnames:∀ y∈sc.names,y.2= .local->sc.names.lookup y.1=some .local)
  (hfree:∀ y∈sc.names,y.2= .free->X.env.scope.names.lookup y.1=some .cell\/X.env.scope.names.lookup y.1=some .free) (hm:jCC X sc Nc m)
  (hg:∀ cl C fp s H,PG (blk X sc cl C Nc fp s H) tg g) (ht:∀ cl C fp s H,PTs (blk X sc cl C Nc fp s H) ifs tt) (he:∀ cl C fp s H lK σ,Inv X lK σ H s->(∀ b∈fp,FpOk X lK H b)->PE (blk X sc cl C Nc fp s H) elt (tf σ))
  (hs:∀ x,foldedSetIterable iter X.env x=pure x) {fpos:Pos}{use:Option (Value->Sem Unit)}{R:Ah}{lK:Ai}{s:Shared}{σ:St}{H:Hp}{Q:VK}(I:Inv X lK σ H s) (h:tComp m wi g tt (tf σ) σ H Q)
  (fin:∀ (D C:Addr) (H5:Hp) (z1:Shared) (r:Flow),(∃ mm,z1.heap.Ns C mm)->FpOk X lK H5 C->(∀ h',Heap.SameBut C z1.heap h'->Inv X lK σ H5 { z1 with heap:=h'})->Q (.ref D) H5->compPost (model X.prog X.w) X.A X.xe use R (.ref D) C (.ok r) z1):
  wpAny (model X.prog X.w) X.A (comprehension (.ListComp elt [⟨tg,iter,ifs,0⟩] sc pos) sc X.env fpos (newList []) false (eval iter X.env) use) R X.xe s:=by
 have hcl:∀ y∈sc.names,y.2= .free->∃ c,X.env.cells.lookup y.1=some c:=fun y hy hf=>I.ok.has y.1 (hfree y hy hf);refine wpAny_comprehension_free (use:=use) rfl hs (jK6 hcl) hkind hnames (lN (hi lK s σ H _ I h) fun v s1 h1=>lN h1 fun itv s2 h2=>?_);obtain⟨it,fp,tn,J,H2,e,I2,T,st2,f2,hQ⟩:=h2;subst e;have hlt:∀ b∈fp,b<s2.heap.objs.size:=fun b hb=>by
  obtain⟨o,e,_⟩:=T.obj 0 _ st2 b hb;exact aG e
 refine dh (wpAny_newFunctionEnv hcell (by intro y hy; simp at hy) (fun h₁ hns₁ hsb₁=>?_) hkind);have I3:Inv X lK σ (upd H2 s2.heap.objs.size (.lst [])) { s2 with heap:=s2.heap.push { cls:= .type "list",data:= .seq ([]:Al).toArray}} :=I2.lnew (t':=s2.toks) .nil (bo _);obtain⟨W,⟨n0,w0⟩,turn⟩:=hQ s2.heap.objs.size I2.fresh;have hD3:∀ b∈fp,b≠s2.heap.objs.size:=fun b hb=>aW (hlt b hb);have f3:∀ b∈fp,FpOk X lK (upd H2 s2.heap.objs.size (.lst [])) b:=fun b hb=>by
  obtain⟨a0,a1⟩:=f2 b hb;exact⟨by rw[j9 (hD3 b hb)]; exact a0,a1⟩
 generalize hE:({ s2 with heap:=s2.heap.push { cls:= .type "list",data:= .seq ([]:Al).toArray}} :Shared)=s3 at I3 hns₁ hsb₁ ⊢;generalize hH3:upd H2 s2.heap.objs.size (.lst [])=H3 at I3 f3 w0;have hsz3:s3.heap.objs.size=s2.heap.objs.size+1:=by rw[<- hE]; exact dU _ _
 have old:∀ b o,s3.heap.get? b=some o->h₁.get? b=some o:=fun b o e=>hsb₁.extBut b o (aW (aG e)) (ah _ e);have old2:∀ b o,s2.heap.get? b=some o->h₁.get? b=some o:=fun b o e=>old b o (by rw[<- hE]; exact ah _ e);have I4:=jQ6 (fp:=fp) (tk:=s3.toks+([]:List (Str×Value)).length) I3 hkind hcell hfree hm f3 (fun b hb=>show b<s3.heap.objs.size by rw[hsz3]; exact cN (hlt b hb)) hns₁ old;have st4:tn 0 h₁:=T.keep _ _ _ st2 fun b hb o e=>old2 b o e;have loop:codeAny (model X.prog X.w) X.A (.compLoop (.ListComp elt [⟨tg,iter,ifs,0⟩] sc pos) 0 (.ref it) (.ref s2.heap.objs.size) (compEnvC sc (jO X.env.cells sc.names []) s3.heap.objs.size X.env))
   (compPost (model X.prog X.w) X.A X.xe use R (.ref s2.heap.objs.size) s3.heap.objs.size) { s3 with heap:=h₁,toks:=s3.toks+([]:List (Str×Value)).length} :=by
  generalize hX:blk X sc (jO X.env.cells sc.names []) s3.heap.objs.size Nc fp s3 H3=Xb at I4;have eP:Xb.prog=X.prog:=by rw[<- hX]; rfl
  have ew:Xb.w=X.w:=by rw[<- hX]; rfl
  have eK:Xb.K=X.K:=by rw[<- hX]; rfl
  have eA:Xb.A=X.A:=by rw[<- hX]; rfl
  have ec:Xb.calm=true:=by rw[<- hX]; exact hc
  have ee:Xb.env=compEnvC sc (jO X.env.cells sc.names []) s3.heap.objs.size X.env:=by rw[<- hX]; rfl
  have ex:Xb.xe=fun _ _=>False:=by rw[<- hX]; rfl
  have hgb:PG Xb tg g:=by rw[<- hX]; exact hg _ _ _ _ _
  have htb:PTs Xb ifs tt:=by rw[<- hX]; exact ht _ _ _ _ _
  have heb:PE Xb elt (tf σ):=by rw[<- hX]; exact he _ _ _ _ _ _ _ I3 f3
  have stat:∀ {H':Hp},(∀ b∈fp,H' b=none)->∀ b∈fp,FpOk Xb [] H' b:=fun {H'} hn b hb=>by
   obtain⟨o,eo,_⟩:=T.obj _ _ st4 b hb;have q:=I4.ok.exf b (by rw[<- hX]; exact hb);exact⟨hn b hb,q.1,I4.ok.exfs b (by rw[<- hX]; exact hb), .inl (by rw[<- hX]; exact hb),q.2,fun p hp=>absurd hp (by rw[<- hX]; simp [blk])⟩
  have fr4:∀ b∈fp,H3 b=none:=fun b hb=>(f3 b hb).1;unfold PG at hgb;unfold PTs at htb;unfold PE at heb;rw[eP,ew,eA,ee,ex] at hgb htb heb;refine jMP (fun n z=>∃ i σ' H' ys,Inv Xb [] σ' H' z/\tn i z.heap/\(∀ b∈fp,H' b=none)/\W i n σ' H' ys) ?_ n0 ⟨0,_,H3,[],I4,st4,fr4,w0⟩;rintro n z ⟨i,σ5,H5,ys,I5,st5,fr5,w5⟩;obtain⟨hD,hlen,way⟩:=turn i n σ5 H5 ys w5;rcases way with ⟨stop,q⟩ | ⟨go,N,hN,step⟩
  ·have RR:=T.done Xb eP ew eK ec i [] z σ5 H5 (fun _ _=>False) I5 (stat fr5) st5 stop;rw[eA] at RR;refine lN RR fun r z1 ⟨hr,I6⟩=>?_;subst hr;obtain⟨mm,hn6,_⟩:=I6.loc;rw[ee] at hn6;have u6:Un (frs X.stack) fp H3 H5 s3.heap z1.heap:=by
    have:=I6.Aq;rw[<- hX] at this;exact this
   have fC:H5 s3.heap.objs.size=none:=by
    have:=I6.free;rw[ee] at this;exact this
   have hok6:HOk X.prog X.w H5 z1.heap:=by
    have:=I6.hok;rw[eP,ew] at this;exact this
   have os6:z1.os=s3.os:=by
    have:=I6.os;rw[<- hX] at this;exact this
   refine fin s2.heap.objs.size s3.heap.objs.size H5 z1 .next ⟨mm,hn6⟩ (I3.fpOk (aA _) fC) (fun h' sb=>?_) q;refine I3.call' (s':= { z1 with heap:=h'}) (ch:=fp) os6 (u6.sameBut sb (aA _)) (hok6.sameBut sb fC) I6.bare (fun b hb=>?_);obtain⟨a0,a1,a2,a3,a4,a5⟩:=f3 b hb;exact⟨a3,a1,a4,a5⟩
  ·have RR:=T.item Xb eP ew eK ec i [] z σ5 H5 (fun _ _=>False) I5 (stat fr5) st5 go;rw[eA] at RR;refine lN RR fun r z1 ⟨u,hr,h6⟩=>?_;subst hr;refine lN h6 fun _ z2 ⟨x,H7,I7,r7,y7,st7,fr7⟩=>?_;have I7':=I7.pinned (stat fr7) (T.obj _ _ st7);refine lN (hgb _ z2 σ5 H7 x u _ I7' r7 (step x H7 y7)) fun _ z3 ⟨σ8,H8,I8,q8⟩=>?_;refine lN (htb _ z3 σ8 H8 _ I8 q8) fun ok z4 ⟨H9,I9,q9⟩=>?_;have again:∀ {σ7:St}{Hz:Hp}{zz:Shared}{yy:List V}{n':Nat},Inv Xb ([]++jHR fp z2.heap) σ7 Hz zz->n'<n->W (i+1) n' σ7 Hz yy->∃ k,k<n/\∃ i σ' H' ys,Inv Xb [] σ' H' zz/\tn i zz.heap/\(∀ b∈fp,H' b=none)/\W i k σ' H' ys:=fun {σ7 Hz zz yy n'} Iz hn wz=>by
    refine⟨n',hn,i+1,σ7,Hz,yy,Iz.unpinned,T.keep _ _ _ st7 fun b hb o e=>(Iz.pin (b,o) (aF _ (aF _ (jBW hb e)))).1,fun b hb=>?_,wz⟩;obtain⟨o,e,d⟩:=T.obj _ _ st7 b hb;exact(Iz.pin (b,o) (aF _ (aF _ (jBW hb e)))).2.1
   cases ok with
   | false=>
    obtain⟨n',hn,w9⟩:=hN _ _ _ (show N σ8 H9 ys from q9);exact again I9 hn w9
   | true=>
    refine lN (heb _ z4 σ8 H9 _ I9 q9) fun xv z5 ⟨vv,H10,I10,r10,hD10,n10⟩=>?_;obtain⟨n',hn,w10⟩:=hN _ _ _ n10;have RR:=jBD (X:=Xb) _ z5 σ8 H10 (.ref s2.heap.objs.size) [vv] (.ref s2.heap.objs.size) [xv] (fun _ H'=>H'=upd H10 s2.heap.objs.size (.lst (ys++[vv]))) I10 rfl (.cons r10 .nil) ⟨_,ys,vv,rfl,rfl,hD10,hlen,rfl⟩;rw[eP,ew,eA,ex] at RR;refine lN RR fun _ z6 ⟨_,H11,I11,_,e11⟩=>?_;subst e11;exact again I11 hn w10
 exact codeAny_compStart_list loop (T.self _ 0 _ _ _ st4 loop)
theorem jJA (hc:X.calm=true)(hi:PI X tg iter wi)(hkind:sc.kind= .function)(hcell:∀ y∈sc.names,y.2≠ .cell)(hnames:∀ y∈sc.names,y.2= .local->sc.names.lookup y.1=some .local)
  (hfree:∀ y∈sc.names,y.2= .free->X.env.scope.names.lookup y.1=some .cell\/X.env.scope.names.lookup y.1=some .free) (hm:jCC X sc Nc m)
  (hg:∀ cl C fp s H,PG (blk X sc cl C Nc fp s H) tg g) (ht:∀ cl C fp s H,PTs (blk X sc cl C Nc fp s H) ifs tt) (he:∀ cl C fp s H,PE (blk X sc cl C Nc fp s H) elt te)
  (hs:∀ x,foldedSetIterable iter X.env x=pure x:=by intro _; rfl):PE X (.ListComp elt [⟨tg,iter,ifs,0⟩] sc pos) (tComp m wi g tt te):=by
 intro lK s σ H Q I h;rw[eval_ListComp];exact jH1 (tf:=fun _=>te) (use:=none) hc hi hkind hcell hnames hfree hm hg ht (fun cl C fp s H _ _ _ _=>he cl C fp s H) hs I h (fun D C H5 z1 r ⟨mm,hn⟩ fC sb q=>⟨mm,hn,fun h' s2=>⟨.ref D,H5,sb h' s2,rfl,q⟩⟩)
end
theorem jK {X:Cx}{sc psc:Scope}(h:(sc.names.all fun y=>decide (y.2= .free->psc.names.lookup y.1=some .cell\/psc.names.lookup y.1=some .free))=true:=by decide+kernel)(e:X.env.scope=psc:=by rfl):
  ∀ y∈sc.names,y.2= .free->X.env.scope.names.lookup y.1=some .cell\/X.env.scope.names.lookup y.1=some .free:=by
 rw[e];intro y hy;exact aI (bK.mp h y hy)
def jPL (sc:Scope)(N Nc:Am)(m:List (Option Nat))(k:Nat):Bool:=match m[k]? with
 | some (some i)=>match Nc[k]? with
  | some x=>decide (N[i]?=some x)&&decide (sc.names.lookup x=some .free)
  | none=>false
 | _=>true
theorem jI {X:Cx}{sc:Scope}{N Nc:Am}{m:List (Option Nat)}(e:X.N=N)(hl:m.length=Nc.length)(h:((List.range m.length).all (jPL sc N Nc m))=true):jCC X sc Nc m:=by
 refine⟨hl,fun k i hk=>?_⟩;have hlt:k<m.length:=(ao.mp hk).1;have q:=bK.mp h k (bF.mpr hlt);unfold jPL at q;rw[hk] at q;cases e2:Nc[k]? with
 | none=>rw[e2] at q; cases q
 | some x=>
  rw[e2] at q;have q:(decide (N[i]?=some x)&&decide (sc.names.lookup x=some .free))=true:=q;rw[bD] at q;exact⟨x,rfl,by rw[e]; exact aI q.1,aI q.2⟩
section
variable {σ:St}{H1:Hp}{Q:VK}
theorem jC6 {lo:Int}{n:Nat}(hn:n<sizeLine)(Pv:Addr->Nat->St->Hp->List V->Prop)(h0:∀ D,H1 D=none->Pv D 0 (blkσ m σ) (upd H1 D (.lst [])) [])
  (hD:∀ D i σ' H' ys,H1 D=none->i<=n->Pv D i σ' H' ys->H' D=some (.lst ys)/\ys.length<=i)
  (hs:∀ D i σ' H' ys,H1 D=none->i<n->Pv D i σ' H' ys->g (.int (lo+i)) σ' H' fun σ2 H2=>tt σ2 H2 fun b H3=>if b=true then te σ2 H3 fun v H4=>H4 D=some (.lst ys)/\Pv D (i+1) σ2 (upd H4 D (.lst (ys++[v]))) (ys++[v]) else Pv D (i+1) σ2 H3 ys)
  (hd:∀ D σ' H' ys,H1 D=none->Pv D n σ' H' ys->Q (.ref D) H'):qQ m g tt te σ Q (Itr lo n) H1:=by
 intro D hDn;refine⟨fun i k σ' H' ys=>k=n - i/\i<=n/\Pv D i σ' H' ys,⟨n,rfl,bo _,h0 D hDn⟩,?_⟩;rintro i k σ' H' ys ⟨rfl,hi,p⟩;obtain⟨q1,q2⟩:=hD D i σ' H' ys hDn hi p;refine⟨q1,Aa,?_⟩;by_cases hlt:i<n
 ·refine .inr ⟨hlt,Pv D (i+1),fun σ2 H2 zs z=>⟨n - (i+1),Aa,rfl,hlt,z⟩,fun x H'' y=>?_⟩;obtain⟨e1,e2⟩:=y;subst e1 e2;exact hs D i σ' _ ys hDn hlt p
 ·have e:i=n:=Aa;subst e;exact .inl ⟨aA _,hd D σ' H' ys hDn p⟩
end
end L2
end
namespace SS
open PySem PySem.SetTable
abbrev Ris (xs:Array Nat):Prop:=xs.toList.Pairwise (· < ·)
theorem jDE {xs:Array Nat}(h:Ris xs){a b:Nat}(hab:a<b)(hb:b<xs.size):xs.getD a 0<xs.getD b 0:=by
 have h1:a<xs.size:=eY hab hb;have:=bL.mp h a b (by simpa using h1) (by simpa using hb) hab;simpa [Array.getD,h1,hb] using this
theorem jVB {xs:Array Nat}{j:Nat}(hr:Ris xs):∀ (fuel lo hi:Nat),hi - lo<=fuel->lo<=hi->hi<=xs.size->(∀ a,a<lo->xs.getD a 0<j)->(∀ a,hi<=a->a<xs.size->j<=xs.getD a 0)->
  (below.go xs j fuel lo hi<=xs.size/\(∀ a,a<below.go xs j fuel lo hi->xs.getD a 0<j)/\(∀ a,below.go xs j fuel lo hi<=a->a<xs.size->j<=xs.getD a 0)):=by
 intro fuel
 induction fuel with
 | zero=>
  intro lo hi h1 h2 h3 h4 h5;have e:lo=hi:=Aa;subst e;exact⟨h3,h4,h5⟩
 | succ fuel ih=>
  intro lo hi h1 h2 h3 h4 h5;unfold below.go;by_cases hlt:lo<hi
  ·rw[ay hlt];have hm:(lo+hi) / 2<xs.size:=Aa;have e:xs.getD ((lo+hi) / 2) j=xs.getD ((lo+hi) / 2) 0:=by simp [Array.getD,hm]
   dsimp only;rw[e];by_cases hc:xs.getD ((lo+hi) / 2) 0<j
   ·rw[ay hc];refine ih _ _ Aa Aa h3 (fun a ha=>?_) h5;by_cases e2:a=(lo+hi) / 2
    ·rw[e2]; exact hc
    ·exact eY (jDE hr Aa hm) hc
   ·rw[aw hc];refine ih _ _ Aa Aa Aa h4 (fun a ha hs=>?_);by_cases e2:a=(lo+hi) / 2
    ·rw[e2]; lia
    ·have:=jDE hr (show (lo+hi) / 2<a by lia) hs;lia
  ·rw[aw hlt];have e:lo=hi:=Aa;subst e;exact⟨h3,h4,h5⟩
theorem jG2 {xs:Array Nat}(hr:Ris xs)(j:Nat):below xs j<=xs.size/\(∀ a,a<below xs j->xs.getD a 0<j)/\(∀ a,below xs j<=a->a<xs.size->j<=xs.getD a 0):=
 jVB hr xs.size 0 xs.size Aa (bo _) (aA _) (fun a h=>absurd h (fe _)) (fun a h1 h2=>absurd h2 Aa)
theorem jH4 {xs:Array Nat}(hr:Ris xs){j i:Nat}(hi:i<=xs.size)(h1:∀ a,a<i->xs.getD a 0<j)(h2:∀ a,i<=a->a<xs.size->j<=xs.getD a 0):below xs j=i:=by
 obtain⟨b1,b2,b3⟩:=jG2 hr j;rcases gA (below xs j) i with h | h | h
 ·have q1:=h1 _ h;have q2:=b3 _ (aA _) Aa;lia
 ·exact h
 ·have q1:=b2 _ h;have q2:=h2 _ (aA _) Aa;lia
theorem jAI {α:Type}(xs:Array α)(p:Nat)(x:α):(insertAt xs p x).toList=xs.toList.take p++x::xs.toList.drop p:=by
 unfold insertAt;simp [fo,List.extract];rw[bX Ad]
theorem jCT {α:Type}(xs:Array α)(p:Nat)(x:α):(insertAt xs p x).size=xs.size+1:=by
 rw[<- aM,jAI];simp;lia
theorem jM4 {xs:Array Nat}{j:Nat}(hr:Ris xs)(hj:j∉xs.toList):Ris (insertAt xs (below xs j) j):=by
 obtain⟨b1,b2,b3⟩:=jG2 hr j;show (insertAt xs (below xs j) j).toList.Pairwise (· < ·);rw[jAI,cw,cU];have hl:∀ a∈xs.toList.take (below xs j),a<j:=by
  intro a ha;obtain⟨i,hi,e⟩:=List.mem_take_iff_getElem.mp ha;have:=b2 i Aa;have hs:i<xs.size:=by simp at hi; lia
  simp [Array.getD,hs] at this;simp at e;lia
 have hg:∀ a∈xs.toList.drop (below xs j),j<a:=by
  intro a ha;obtain⟨i,hi,e⟩:=List.mem_drop_iff_getElem.mp ha;have hs:i+below xs j<xs.size:=by simpa [lH] using hi
  have:=b3 (i+below xs j) Aa hs;simp [Array.getD,hs] at this;have e':xs[i+below xs j]=a:=by simpa [lH] using e
  have hne:a≠j:=by
   intro z;apply hj;rw[<- z];exact cI ha
  lia
 refine⟨hr.sublist (dL _ _),⟨hg,hr.sublist (iR _ _)⟩,?_⟩;intro a ha b hb;rcases aE.mp hb with rfl | hb
 ·exact hl a ha
 ·exact eY (hl a ha) (hg b hb)
theorem jEN {t:SetTable}{j:Nat}(hr:Ris t.place)(h:t.slot j= .empty):j∉t.place.toList:=by
 intro hm;obtain⟨i,hi,e⟩:=eR hm;have hs:i<t.place.size:=by simpa using hi
 have e0:t.place[i]=j:=by simpa using e
 have eb:below t.place j=i:=by
  refine jH4 hr (de hs) (fun a ha=>?_) (fun a h1 h2=>?_)
  ·have:=jDE hr ha hs;simp only [Array.getD,hs] at this ⊢;simp [e0] at this ⊢;exact this
  ·by_cases e2:a=i
   ·subst e2;simp [Array.getD,hs,e0]
   ·have:=jDE hr (show i<a by lia) h2;simp only [Array.getD,hs] at this;simp [e0] at this;simp [Array.getD];lia
 unfold SetTable.slot at h;dsimp only at h;rw[eb] at h;rw[ay (by simp [hs,e0])] at h;cases h
theorem jJU (j:Nat):has #[] j=false:=by
 unfold has;simp
theorem jKO {t:SetTable}(hd:t.dummies=#[]){f:Nat->Int}{h:Int} :∀ (fuel:Nat) (p:Probe) (m:Met),p.dummy=none->probe.go t f h fuel p=some m->
  (∃ j,m= .empty j none/\t.slot j= .empty)\/(∃ j i n,m= .candidate j i n):=by
 intro fuel
 induction fuel with
 | zero=>intro p m _ e; simp [probe.go] at e
 | succ fuel ih=>
  intro p m hp e;unfold probe.go at e;cases hs:t.slot p.j with
  | empty=>
   rw[hs] at e;simp only [gB] at e;subst e;exact .inl ⟨p.j,by rw[hp],hs⟩
  | dummy=>
   unfold SetTable.slot at hs;dsimp only at hs;rw[hd,jJU] at hs;split at hs
   ·cases hs
   ·simp at hs
  | live i=>
   rw[hs] at e;dsimp only at e;split at e
   ·simp only [gB] at e;subst e;exact .inr ⟨_,_,_,rfl⟩
   ·refine ih _ _ ?_ e;unfold advance;split
    ·exact hp
    ·exact hp
theorem jGW {t:SetTable}(hr:Ris t.place)(hd:t.dummies=#[]){h:Int}{slot:Nat}{d:Bool}(e:t.freeSlot h=some (slot,d)):slot∉t.place.toList:=by
 unfold SetTable.freeSlot at e;split at e
 ·rename_i j dummy hp;simp only [gB,Prod.mk.injEq] at e;have hp':probe.go t (fun _=>h+1) h (10*turns t.mask) (t.probeStart h)=some (.empty j dummy):=hp;rcases jKO hd _ _ _ (by unfold probeStart; rfl) hp' with ⟨j',em,hs⟩ | ⟨_,_,_,em⟩
  ·cases em;have:slot=j:=by rw[<- e.1]; rfl
   rw[this];exact jEN hr hs
  ·cases em
 ·cases e
theorem jM2 {t:SetTable}{j:Nat}(hd:t.dummies=#[])(h:t.slot j≠ .empty):(∃ i,t.slot j= .live i)/\j∈t.place.toList:=by
 unfold SetTable.slot at h ⊢;dsimp only at h ⊢;by_cases q:(t.place[below t.place j]?==some j)=true
 ·rw[ay q];refine⟨⟨_,rfl⟩,?_⟩;have e:t.place[below t.place j]?=some j:=eq_of_beq q;obtain⟨hi,e⟩:=Array.getElem?_eq_some_iff.mp e;rw[<- e];exact Array.getElem_mem_toList hi
 ·rw[aw q,hd,jJU] at h;exact absurd rfl h
theorem run7 (i:Nat):runEnd 7 i=i:=by unfold runEnd; rw[aw Aa]
theorem jNK {t:SetTable}(hm:t.mask=7)(hd:t.dummies=#[]){h:Int} :∀ (k fuel:Nat) (p:Probe),p.j=p.i->p.more=0->p.i<8->p.perturb<32->k<=fuel->
  probe.go t (fun _=>h+1) h fuel p=none->∀ r,r<k->Nat.repeat (fun i=>(i*5+1) % 8) r p.i∈t.place.toList:=by
 intro k
 induction k with
 | zero=>intro fuel p _ _ _ _ _ _ r hr; lia
 | succ k ih=>
  intro fuel p h1 h2 h3 h4 h5 h6 r hr;obtain⟨f,rfl⟩:∃ f,fuel=f+1:=⟨fuel - 1,Aa⟩;unfold probe.go at h6;by_cases he:t.slot p.j= .empty
  ·rw[he] at h6; cases h6
  ·obtain⟨⟨i,hl⟩,hmem⟩:=jM2 hd he;rw[hl] at h6;dsimp only at h6;rw[aw (by simp; lia)] at h6;have hz:p.perturb / 32=0:=Aa;have ea:t.advance p= { p with j:=(p.i*5+1) % 8,more:=0,i:=(p.i*5+1) % 8,perturb:=0} :=by
    unfold advance leap;rw[aw Aa,hm,hz];simp [run7]
   rw[ea] at h6;cases r with
   | zero=>show p.i∈_; rw[<- h1]; exact hmem
   | succ r=>
    have q:=ih f _ (by rfl) (by rfl) (by show (p.i*5+1) % 8<8; lia) (by show 0<32; lia) Aa h6 r Aa;have e:∀ (r i:Nat),Nat.repeat (fun i=>(i*5+1) % 8) (r+1) i=Nat.repeat (fun i=>(i*5+1) % 8) r ((i*5+1) % 8):=by
     intro r
     induction r with
     | zero=>intro i; rfl
     | succ r ihr=>
      intro i;show ((Nat.repeat _ (r+1) i)*5+1) % 8=((Nat.repeat _ r ((i*5+1) % 8))*5+1) % 8;rw[ihr]
    rw[e];exact q
theorem jQD:∀ i,i<8->∀ j,j<8->∃ r,r<8/\Nat.repeat (fun i=>(i*5+1) % 8) r i=j:=by decide+kernel
theorem jGV {t:SetTable}(hm:t.mask=7)(hd:t.dummies=#[])(hz:t.place.size<8){h:Int}(h0:0<=h)(h1:h<32):∃ q,t.freeSlot h=some q:=by
 unfold SetTable.freeSlot;have hb:bits h<32:=by unfold bits; lia
 have hps:t.probeStart h= { j:=bits h % 8,more:=0,i:=bits h % 8,perturb:=bits h,dummy:=none} :=by
  unfold probeStart;rw[hm];simp [run7]
 cases e:t.probe (fun _=>h+1) h (t.probeStart h) with
 | none=>
  exfalso;have e':probe.go t (fun _=>h+1) h (10*turns t.mask) (t.probeStart h)=none:=e;rw[hps] at e';have q:=jNK hm hd 8 _ _ (by rfl) (by rfl) (by show bits h % 8<8; lia) (by exact hb) (by rw[hm]; decide) e';have sub:List.range 8 ⊆ t.place.toList:=by
   intro j hj;obtain⟨r,hr,er⟩:=jQD (bits h % 8) Aa j (bF.mp hj);rw[<- er];exact q r hr
  have:=List.Nodup.length_le_of_subset (List.nodup_range (n:=8)) sub;simp at this;lia
 | some m=>
  rcases jKO hd _ _ _ (by rw[hps]) (show probe.go t (fun _=>h+1) h (10*turns t.mask) (t.probeStart h)=some m from e) with ⟨j,rfl,_⟩ | ⟨j,i,n,rfl⟩
  ·exact⟨_,rfl⟩
  ·exfalso;have nc:∀ (fuel:Nat) (p:Probe) (j i:Nat) (n:Probe),probe.go t (fun _=>h+1) h fuel p≠some (.candidate j i n):=by
    intro fuel
    induction fuel with
    | zero=>intro p j i n; simp [probe.go]
    | succ f ih=>
     intro p j i n;unfold probe.go;cases t.slot p.j with
     | empty=>simp
     | dummy=>exact ih _ _ _ _
     | live i'=>
      dsimp only;rw[aw (by simp; lia)];exact ih _ _ _ _
   exact nc _ _ _ _ _ e
structure Tab (t:SetTable)(n:Nat)(led:Bool):Prop where
 ris:Ris t.place
 sz:t.place.size=n
 dm:t.dummies=#[]
 msk:t.mask=7
 pl:t.plain=true
 ld:t.led=led
theorem Tab.fits {t:SetTable}{n:Nat}{led:Bool}(T:Tab t n led)(hn:n<=4):t.fits n=true:=by
 unfold SetTable.fits fill;simp [T.sz,T.dm,T.msk];lia
theorem Tab.full {t:SetTable}{n:Nat}{led:Bool}(T:Tab t n led)(hn:n<=4):t.tooFull=false:=by
 unfold tooFull fill;simp [T.sz,T.dm,T.msk];lia
theorem jN3 (led:Bool):Tab (fresh 0 0 led) 0 led:=⟨List.Pairwise.nil,rfl,rfl,rfl,rfl,rfl⟩
theorem jMJ {t:SetTable}{n:Nat}{led:Bool}(T:Tab t n led)(hn:n+1<=4)(es:Array (Int×Value))(he:es.size=n){h:Int}(h0:0<=h)(h1:h<32)(x:Value):
  Tab (layNew t es h x).2.1 (n+1) led/\∃ p,(layNew t es h x).1.toList=es.toList.take p++(h,x)::es.toList.drop p:=by
 obtain⟨⟨slot,d⟩,hf⟩:=jGV T.msk T.dm (by rw[T.sz]; lia) h0 h1;unfold layNew;rw[hf];dsimp only [SetTable.put];have hnm:=jGW T.ris T.dm hf;have T2:Tab { t with place:=insertAt t.place (below t.place slot) slot,dummies:=if has t.dummies slot then eraseAt t.dummies (below t.dummies slot) else t.dummies} (n+1) led:=by
  refine⟨jM4 T.ris hnm,by rw[jCT,T.sz],?_,T.msk,T.pl,T.ld⟩;rw[T.dm,jJU];rfl
 refine⟨?_,_,jAI _ _ _⟩;unfold SetTable.orStandIn;rw[jCT,he,T2.fits hn];exact T2
def jKJ (xs:Array Nat):Nat->Nat
 | 0=>0
 | i+1=>xs.getD i 0+1
theorem jIW {xs:Array Nat}(hr:Ris xs){i:Nat}(hi:i<=xs.size):below xs (jKJ xs i)=i:=by
 cases i with
 | zero=>exact jH4 hr (bo _) (fun a h=>absurd h (fe _)) (fun a _ _=>bo _)
 | succ i=>
  refine jH4 hr hi (fun a ha=>?_) (fun a h1 h2=>?_)
  ·show _<xs.getD i 0+1;by_cases e:a=i
   ·rw[e]; lia
   ·have:=jDE hr (show a<i by lia) (show i<xs.size by lia);lia
  ·show xs.getD i 0+1<=_;exact jDE hr (show i<a by lia) h2
theorem jC5 {α:Type}{l:List α}{i:Nat}(h:i<l.length):(l[i]::l.eraseIdx i).Perm l:=by
 rw[List.eraseIdx_eq_take_drop_succ];have e:l=l.take i++l[i]::l.drop (i+1):=by rw[<- List.drop_eq_getElem_cons h,bG]
 conv=>rhs; rw[e]
 exact List.perm_middle.symm
theorem jU6 {α:Type}(next:Nat->Nat):∀ (fuel k:Nat) (left:List α) (out:Array α),fuel=left.length->(pickOrder.go next fuel k left out).toList.Perm (out.toList++left):=by
 intro fuel
 induction fuel with
 | zero=>
  intro k left out h;have:left=[]:=eS.mp h.symm;subst this;simp [pickOrder.go]
 | succ f ih=>
  intro k left out h;have hl:next k % left.length<left.length:=Nat.mod_lt _ Aa;unfold pickOrder.go;rw[aq hl];dsimp only;refine(ih _ _ _ (by rw[iH hl]; lia)).trans ?_;rw[ev,aY];exact cP _ (jC5 hl)
theorem jHT {α:Type}(next:Nat->Nat)(xs:Array α):(pickOrder next xs).toList.Perm xs.toList:=by
 unfold pickOrder;have:=jU6 next xs.size 0 xs.toList #[] Ad;simpa using this
end SS
namespace SS
open PySem
abbrev ledW (w:World):Bool:=!(w.params.followText "set-order")
def El (e:Int×Value)(k:Int):Prop:=e.1=hashInt k/\∃ t,e.2= .int k t
theorem jCE {α β:Type}{F:α->β->Prop} :∀ {l:List α}{r:List β},Paired F l r->∀ a∈l,∃ b∈r,F a b
 | _,_, .nil=>fun a h=>by cases h
 | _,_, .cons f t=>fun a h=>by
  rcases aE.mp h with rfl | h
  ·exact⟨_,ai,f⟩
  ·obtain⟨b,hb,q⟩:=jCE t a h;exact⟨b,ag _ hb,q⟩
theorem jDV {α β:Type}{F:α->β->Prop} :∀ {l:List α}{r:List β},Paired F l r->∀ b∈r,∃ a∈l,F a b
 | _,_, .nil=>fun a h=>by cases h
 | _,_, .cons f t=>fun b h=>by
  rcases aE.mp h with rfl | h
  ·exact⟨_,ai,f⟩
  ·obtain⟨a,ha,q⟩:=jDV t b h;exact⟨a,ag _ ha,q⟩
theorem jFQ {α β:Type}{F:α->β->Prop}{a:α}{b:β}(f:F a b):∀ {l:List α}{r:List β}(p:Nat),Paired F l r->Paired F (l.take p++a::l.drop p) (r.take p++b::r.drop p)
 | _,_,0,q=>by simpa using Paired.cons f q
 | _,_,p+1, .nil=>by simpa using Paired.cons f .nil
 | _,_,p+1, .cons g t=>by
  simp only [List.take_succ_cons,List.drop_succ_cons,jc];exact .cons g (jFQ f p t)
theorem jTX {α:Type}(l:List α)(p:Nat)(x z:α):z∈l.take p++x::l.drop p↔z=x\/z∈l:=by
 conv=>rhs; rw[<- bG p l]
 simp only [aP,aE];constructor
 ·rintro (h | h | h)
  ·exact .inr (.inl h)
  ·exact .inl h
  ·exact .inr (.inr h)
 ·rintro (h | h | h)
  ·exact .inr (.inl h)
  ·exact .inl h
  ·exact .inr (.inr h)
theorem jGC {α:Type}(l:List α)(p:Nat)(x:α):(l.take p++x::l.drop p).Perm (x::l):=by
 have h:(l.take p++x::l.drop p).Perm (x::(l.take p++l.drop p)):=List.perm_middle;rw[bG] at h;exact h
structure SetG (w:World)(h:Heap)(a:Addr)(ks:Ag):Prop where
 ex:∃ o es ep t,h.get? a=some o/\o.ExactSet/\o.data= .set es ep t/\Paired El es.toList ks/\Tab t es.size (ledW w)
 nd:ks.Nodup
 len:ks.length<=4
variable {prog:Program}{w:World}{A:Around}{E:Ah}{s:Shared}{a:Addr}
section
variable {ks:Ag}{k:Int}{tk:Tok}
theorem elems {es:List (Int×Value)}(h:Paired El es ks):ElemsOf (intKind prog w) es:=fun e he=>by
 obtain⟨k,_,h1,t,h2⟩:=jCE h e he;rw[h2];exact⟨⟨k,by show Value.isInt k (.int k t)=true; simp [Value.isInt],h1⟩,rfl⟩
theorem SetG.at {h h':Heap}(S:SetG w h a ks)(e:∀ o,h.get? a=some o->h'.get? a=some o):SetG w h' a ks:=by
 obtain⟨⟨o,es,ep,t,ho,r⟩,nd,len⟩:=S;exact⟨⟨o,es,ep,t,e _ ho,r⟩,nd,len⟩
theorem jD4 (k0:0<=k)(k1:k<32):hashInt k=k:=by
 obtain⟨n,rfl⟩:=Int.eq_ofNat_of_zero_le k0;have e:∀ n:Nat,n<32->hashInt (n:Int)=(n:Int):=Ab;exact e n Aa
theorem jXU {Q:Bool->Shared->Prop}(S:SetG w s.heap a ks)(hl:ks.length+1<=4)(k0:0<=k)(k1:k<32)
  (h:∀ b h' ks',Heap.SameBut a s.heap h'->SetG w h' a ks'->(∀ z,z∈ks'↔z=k\/z∈ks)->ks'.length<=ks.length+1->Q b { s with heap:=h'}):
  wpAny (model prog w) A (setAddHashed a (.int k tk) (hashInt k)) Q E s:=by
 obtain⟨o,es,ep,t,ho,hex,hd,hp,T⟩:=id S.ex;have hn:es.size=ks.length:=by rw[<- aM]; exact fZ hp
 have hf:=T.fits Aa;have hel:ElemsOf (intKind prog w) es.toList:=elems hp;have hb:es.size<scanBound:=by unfold scanBound; lia
 have hi:∀ (j:Int) (t:Tok),Value.isInt k (.int j t)=true->j=k:=fun j t e=>by simpa [Value.isInt] using e
 unfold setAddHashed setAddHashedIn;refine bS (ae (dM ho hd hf ?_));dsimp only;rw[byScan_of (knd:=intKind prog w) rfl hb hel,ay rfl];unfold setAddByScan;refine ae (ae (di (ae ?_)));refine wpAny_setScan_of (knd:=intKind prog w) (k:=k) (by show Value.isInt k (.int k tk)=true; simp [Value.isInt]) ho hd hf hel ?_;have es0:s= { s with heap:=s.heap} :=by cases s; rfl
 cases hr:List.findIdx? (fun e=>(intKind prog w).is k e.2) es.toList with
 | some j=>
  obtain⟨hj,hpj,_⟩:=List.findIdx?_eq_some_iff_getElem.mp hr;obtain⟨k',hk',_,t',e'⟩:=jCE hp _ (cn hj);have hkk:k'=k:=hi k' t' (by rw[<- e']; exact hpj);subst hkk;refine am (am ?_);rw[es0];exact h false s.heap ks (Heap.SameBut.refl a s.heap) S (fun z=>⟨.inr,fun q=>q.elim (fun e=>e ▸ hk') id⟩) Aa
 | none=>
  have hnk:k∉ks:=fun hm=>by
   obtain⟨e,he,_,t',e'⟩:=jDV hp k hm;have q:=List.findIdx?_eq_none_iff.mp hr e he;rw[e'] at q;have q':Value.isInt k (.int k t')=false:=q;simp [Value.isInt] at q'
  obtain⟨T1,p,hp1⟩:=jMJ T Aa es rfl (h:=hashInt k) (by rw[jD4 k0 k1]; exact k0) (by rw[jD4 k0 k1]; exact k1) (.int k tk);dsimp only;show wpAny _ A (match layNew t es (hashInt k) (Value.int k tk) with | (es,t,wasDummy,gave)=>_) _ E s;generalize layNew t es (hashInt k) (Value.int k tk)=L at T1 hp1 ⊢;obtain⟨es1,t1,wd,gv⟩:=L;dsimp only at T1 hp1 ⊢;have hp2:Paired El es1.toList (ks.take p++k::ks.drop p):=by
   rw[hp1];exact jFQ ⟨rfl,tk,rfl⟩ p hp
  have hz1:es1.size=es.size+1:=by
   rw[<- aM,hp1,(jGC es.toList p (hashInt k,Value.int k tk)).length_eq];simp
  have hlen:(ks.take p++k::ks.drop p).length=ks.length+1:=(jGC ks p k).length_eq;have T1':Tab t1 es1.size (ledW w):=by rw[hz1]; exact T1
  have hg:(s.heap.update a (Obj.putSet es1 t1)).get? a=some { o with data:= .set es1 (ep+1) t1} :=by
   have q:=dX (Obj.putSet es1 t1) ho (by rw[putSet_of es1 t1 hd]; rfl);rw[putSet_of es1 t1 hd] at q;exact q
  have fin:Q true { s with heap:=s.heap.update a (Obj.putSet es1 t1)} :=
   h true _ _ (ik ..) ⟨⟨_,es1,ep+1,t1,hg,hex,rfl,hp2,T1'⟩,(jGC ks p k).nodup_iff.mpr (cf.mpr ⟨hnk,S.nd⟩),Aa⟩ (fun z=>jTX ks p k z) Aa
  have hfull:t1.tooFull=false:=T1'.full Aa;refine ae (show wpAny _ A (match gv with | true=>rule "set.scan.the-table-gave-way" | false=>pure ()) _ E s from ?_);have hzl:es1.size<=sizeLine:=by rw[hz1,show sizeLine=2 ^ 24 from rfl]; lia
  cases gv with
  | true=>
   refine di ?_;split
   all_goals
    refine ae (show wpAny _ A (pure true:Sem Bool) _ E s from am ?_);simp only [g5];refine ae (wpAny_storeSet_of ho hd ?_ hzl);rw[hfull,dq,aw az];exact am (am fin)
  | false=>
   refine am ?_;split
   all_goals
    refine ae (show wpAny _ A (pure true:Sem Bool) _ E s from am ?_);simp only [g5];refine ae (wpAny_storeSet_of ho hd ?_ hzl);rw[hfull,dq,aw az];exact am (am fin)
end
theorem jCB:entryFor table "set.update.loop" =some Builtin.«set.update.loop»:=entryFor_of_fast (by kernel_rfl)
theorem jAM:plainId "set.update.loop" =true:=by decide+kernel
variable {I:Addr}
section
variable {R:Result->Shared->Prop}{fp wr:List Addr}{n:Nat}{P:Nat->Value->Prop}{St:Nat->Shared->Prop}
theorem jQM (W:WalksS prog w A.in1 I fp wr (fun a b=>b=a) n P St)(S:Addr)(hSf:S∉fp)(val:Nat->Int)(hval:∀ i v,P i v->∃ t,v= .int (val i) t)(hv:∀ i,i<n->0<=val i/\val i<32)(hn:n<=4):
  ∀ (k i:Nat) (s:Shared) (ks:Ag),n - i=k->i<=n->St i s->SetG w s.heap S ks->ks.length<=i->(∀ z,z∈ks↔∃ j,j<i/\val j=z)->
   (∀ s' ks',Moved (S::wr) (fun a b=>b=a) s s'->SetG w s'.heap S ks'->(∀ z,z∈ks'↔∃ j,j<n/\val j=z)->R (.ok (.ret .none)) s')->
   codeAny (model prog w) A (.builtin "set.update.loop" ⟨[.ref S, .ref I],[]⟩) R s:=by
 have hSw:S∉wr:=fun h=>hSf (W.sub _ h);have sub1:∀ b∈wr,b∈S::wr:=fun b hb=>ag _ hb;intro k
 induction k with
 | zero=>
  intro i s ks hk hi hst hS hl hm hR;obtain rfl:i=n:=by lia
  refine cA jCB ?_;rw[cx jAM _];show wpAny _ A.in1 (pyNext (.ref I) >>= _) _ _ s;refine ae (W.done s _ _ hst fun s' mv=>?_);show wpAny _ A.in1 (ret Value.none) _ _ s';exact am (hR s' ks (mv.mono sub1) (hS.at fun o e=>mv.heap S o hSw e) hm)
 | succ k ih=>
  intro i s ks hk hi hst hS hl hm hR;have hlt:i<n:=Aa;refine cA jCB ?_;rw[cx jAM _];show wpAny _ A.in1 (pyNext (.ref I) >>= _) _ _ s;refine ae (W.item i s _ _ hlt hst fun v s' hP hst' mv=>?_);obtain⟨t,rfl⟩:=hval i v hP;have hS':=hS.at (h':=s'.heap) fun o e=>mv.heap S o hSw e;show wpAny _ A.in1 (holding [Value.int (val i) t] (setAdd S (.int (val i) t)) >>= _) _ _ s';refine ae (bS ?_);unfold setAdd;refine bS (ae (wpAny_pyHash_int ?_));refine jXU (s:= { s' with toks:=s'.toks+1}) hS' Aa (hv i hlt).1 (hv i hlt).2 fun b h' ks' sb hS2 hm2 hl2=>?_;refine am ⟨fh jAM _,ih (i+1) _ ks' Aa hlt (W.frame _ s' _ _ hst' (dz _) fun b hb o e=>?_) hS2 Aa (fun z=>?_) fun s'' ks'' mv2 hS3 hm3=>?_⟩
  ·rw[sb.2 b (fun h:b=S=>hSf (by rw[<- h]; exact hb))];exact e
  ·rw[hm2,hm];constructor
   ·rintro (h | ⟨j,hj,e⟩)
    ·exact⟨i,Aa,h.symm⟩
    ·exact⟨j,Aa,e⟩
   ·rintro ⟨j,hj,e⟩;by_cases hji:j=i
    ·exact .inl (by rw[<- e,hji])
    ·exact .inr ⟨j,Aa,e⟩
  ·refine hR s'' ks'' (Moved.trans W.gtrans ((mv.mono sub1).then_heap (dz _) fun b o hb e=>?_) mv2) hS3 hm3;rw[sb.2 b (fun h:b=S=>hb (by rw[h]; exact ai))];exact e
end
section
theorem jUX (a:Value){Q:Ah}
  (h:Q (.ref s.heap.objs.size) { s with heap:=s.heap.push { cls:= .type "set",dict:=none,data:= .set #[] 0 (.fresh 0 0 (ledW w))}}):
  codeAny (model prog w) A (.call (.builtin "set.__new__") ⟨[.type "set",a],[]⟩) (wants Q E) s:=by
 refine codeAny_of_tree (show wpAny _ A.in1 (do checkBuiltinCall "set.__new__" ⟨[.type "set",a],[]⟩; again (.builtin "set.__new__" ⟨[.type "set",a],[]⟩)) _ _ s from ?_);refine ae (wpAny_of_eq (F.newCall_set_1 a) (am ⟨fh F.plain_set_new _,cA F.entry_set_new ?_⟩));rw[cx F.plain_set_new _];unfold Builtin.«set.__new__» Builtin.Frozenset.newClass;have q:=sub_set_self;obtain⟨hp,g,d,tk,os⟩:=s;dsimp only
 wp_walk
 refine fq (am ?_);dsimp only;simp only [newObj];exact ae (wpAny_alloc (am (am h)))
set_option maxHeartbeats 3200000 in
theorem set_of_list {l:Addr}{items:An}{ns:Ag}{Q:Ah}(hh:A.handled=none)(hl:s.heap.IsList l items)(hi:PyProof.Rows.IntsAre items.toList ns)
  (hn:items.size<=4) (hv:∀ z∈ns,0<=z/\z<32)
  (h:∀ (h':Heap) (tk:Nat) (ks:Ag),SetG w h' s.heap.objs.size ks->(∀ z,z∈ks↔z∈ns)->(∀ b o,s.heap.get? b=some o->h'.get? b=some o)->Q (.ref s.heap.objs.size) { s with heap:=h',toks:=tk}):
  wpAny (model prog w) A (call (.type "set") [.ref l]) Q E s:=by
 obtain⟨c,tl,hmro⟩:=F.called_set.mro;have hmade:=F.called_set.made;have hsub:=F.called_set.sub;have g1:=F.called_set.notType;have g2:=F.called_set.canCreate;have g3:=F.typeCall_set_1 (.ref l);refine iF (codeAny_of_tree (show wpAny _ _ (callAny (.type "set") _) _ _ _ from ?_));refine am ⟨Code.quiet_builtin _ Ab,cA F.entry_type_call ?_⟩;rw[Around.under_plain (weight_type_call_type "set" [.ref l] []) rfl]
 repeat (any_goals (first | assumption | wp_step))
 have hlen:items.size=ns.length:=by rw[<- aM]; exact hi.length
 refine dQ (jUX (.ref l) (E:=E) (Q:=fun obj z=>obj= .ref s.heap.objs.size/\z= { s with heap:=s.heap.push { cls:= .type "set",dict:=none,data:= .set #[] 0 (.fresh 0 0 (ledW w))}}) ⟨rfl,rfl⟩) fun r z hr=>?_;cases r with
 | error e=>exact hr
 | ok fl=>
  cases fl with
  | ret obj=>
   obtain⟨rfl,rfl⟩:=hr;generalize hO:({ cls:= .type "set",dict:=none,data:= .set #[] 0 (.fresh 0 0 (ledW w))} :Obj)=oS;have hS:(s.heap.push oS).get? s.heap.objs.size=some oS:=aC _ (by rw[<- hO]; rfl);have hT:Shared.TypeIs { s with heap:=s.heap.push oS} (.ref s.heap.objs.size) "set" :=⟨_,hS,by rw[<- hO]⟩;have hli:=F.called_set.init.lookup;have hbi:=F.called_set.init.bind (.ref s.heap.objs.size)
   repeat (any_goals (first | assumption | wp_step))
   refine dQ (codeAny_call_builtin (R:=wants (fun r z2=>r= .none/\∃ h' tk ks,z2= { s with heap:=h',toks:=tk} /\SetG w h' s.heap.objs.size ks/\(∀ z,z∈ks↔z∈ns)/\(∀ b o,s.heap.get? b=some o->h'.get? b=some o)) E)
    F.called_set.init.plain F.entry_set_init (check_set_init_1 hT ?_)) fun r2 z2 hr2=>?_
   ·obtain⟨ol,hol,hcl,nl,hdl⟩:=hl;obtain⟨ocls,odict,odata,oslots⟩:=ol;simp only at hcl hdl;subst hcl; subst hdl;have hol':(s.heap.push oS).get? l=some { cls:= .type "list",dict:=odict,data:= .seq items nl,slots:=oslots} :=ah _ hol;have y1:=F.sub_list_set;have y2:=F.sub_list_frozenset;have y3:(Value.type "list" ==Value.type "dict")=false:=Ac;have hl1:(s.heap.push oS).IsList l items:=⟨_,hol',rfl,nl,rfl⟩;subst hO;unfold Builtin.«set.__init__» noKeywords Builtin.Frozenset.updateFrom;generalize hPI:pyIter=PI
    wp_walk
    subst hPI;refine df hl1 (ae (iI ?_));have hlS:l<s.heap.objs.size:=aG hol;have hz1:(s.heap.push { cls:= .type "set",dict:=none,data:= .set #[] 0 (.fresh 0 0 (ledW w))}).objs.size=s.heap.objs.size+1:=dU _ _;have nI:l≠(s.heap.push { cls:= .type "set",dict:=none,data:= .set #[] 0 (.fresh 0 0 (ledW w))}).objs.size:=by
     rw[hz1];exact aW (cN hlS)
    have nS:s.heap.objs.size∉ [(s.heap.push { cls:= .type "set",dict:=none,data:= .set #[] 0 (.fresh 0 0 (ledW w))}).objs.size,l]:=by
     rw[hz1];simp only [aE,bE,dD,lA];exact⟨aW (jd _),cR hlS⟩
    have hget:((s.heap.push { cls:= .type "set",dict:=none,data:= .set #[] 0 (.fresh 0 0 (ledW w))}).push { cls:= .type "list_iterator",data:= .fields #[.ref l, .int 0 0]}).get? s.heap.objs.size
      =some { cls:= .type "set",dict:=none,data:= .set #[] 0 (.fresh 0 0 (ledW w))} :=ah _ hS
    refine jQM ((iJ (by simp [hh]) _ l nI items).toS) s.heap.objs.size nS (fun i=>ns.getD i 0) (fun i v q=>PyProof.Rows.IntsAre.int_at hi i v (by rw[bN]; exact q))
     (fun i q=>hv _ ?_) hn (items.size - 0) 0 _ [] rfl (bo _) ⟨⟨_,aC _ rfl,rfl,rfl⟩,hl1.push _⟩ ⟨⟨_,#[],0,_,hget,⟨rfl,rfl,rfl⟩,rfl, .nil,jN3 _⟩,ko,bo _⟩ (aA _) (fun z=>⟨fun q=>by(cases q),fun ⟨j,q,_⟩=>absurd q (fe _)⟩) ?_
    ·have q':i<ns.length:=by rw[<- hlen]; exact q
     simp [List.getD,q']
    ·intro s' ks mv S' hm;obtain⟨h',g',d',tk',os'⟩:=s';have e1:g'=s.gens:=mv.gens;have e2:d'=s.drawn:=mv.drawn;have e3:os'=s.os:=mv.os;subst e1; subst e2; subst e3;refine am (am ⟨rfl,h',tk',ks,rfl,S',fun z=>?_,fun b o e=>?_⟩)
     ·rw[hm];constructor
      ·rintro ⟨j,hj,e⟩;have hj':j<ns.length:=by rw[<- hlen]; exact hj
       rw[<- e];simp [List.getD,hj']
      ·intro hz;obtain⟨j,hj,e⟩:=eR hz;exact⟨j,by rw[hlen]; exact hj,by simp [List.getD,hj,e]⟩
     ·have hb:=aG e;refine mv.heap b o ?_ (ah _ (ah _ e));rw[hz1];simp only [aE,bE,dD,lA];exact⟨aW hb,aW (cN hb)⟩
   ·cases r2 with
    | error e=>exact hr2
    | ok fl2=>
     cases fl2 with
     | ret r=>
      obtain⟨rfl,h',tk,ks,rfl,hS',hm,hk⟩:=hr2
      repeat (any_goals (first | assumption | wp_step))
      exact h _ _ _ hS' hm hk
     | _=>exact hr2.elim
  | _=>exact hr.elim
end
theorem slot_si_next:Slot "set_iterator" "__next__" "set_iterator.__next__" :=
 .of (owner:= "set_iterator") (n:= "__next__") (by
   rw[jt,gU]
   kernel_rfl) Ab Ab
  Ab
  (by first
   | exact .inl Ab
   | exact .inr Ab)
  (by
   rw[kq]
   kernel_rfl)
theorem jDP:Slot "set_iterator" "__iter__" "set_iterator.__iter__" :=
 .of (owner:= "set_iterator") (n:= "__iter__") (by
   rw[jt,gU]
   kernel_rfl) Ab Ab
  Ab
  (by first
   | exact .inl Ab
   | exact .inr Ab)
  (by
   rw[kq]
   kernel_rfl)
theorem jD7:entryFor table "set_iterator.__next__" =some Builtin.«set_iterator.__next__»:=entryFor_of_tree (by kernel_rfl)
theorem jFF:entryFor table "set.__iter__" =some Builtin.«frozenset.__iter__»:=
 entryFor_alias (id':= "frozenset.__iter__") (by kernel_rfl) rfl Ab (by kernel_rfl)
theorem jGZ:entryFor table "set_iterator.__iter__" =some Builtin.«dict_keyiterator.__iter__»:=
 entryFor_alias (id':= "dict_keyiterator.__iter__") (by kernel_rfl) (by first | rfl | decide+kernel | (unfold String.splitOn; simp+decide [String.splitOnAux])) Ab
  (by kernel_rfl)
theorem jDX (a:Value):argsOk "set_iterator.__next__" ⟨[a],[]⟩:=by unfold argsOk; kernel_rfl
theorem jIX (a:Value):argsOk "set_iterator.__iter__" ⟨[a],[]⟩:=by unfold argsOk; kernel_rfl
theorem jH5 (a:Value):argsOk "set.__iter__" ⟨[a],[]⟩:=by unfold argsOk; kernel_rfl
abbrev byTxt (w:World):Bool:=w.params.followText "set-order"
abbrev IsSI (h:Heap)(I:Addr)(slot i:Nat)(a:Addr)(n ep:Nat):Prop:=
 h.get? I=some { cls:= .type "set_iterator",dict:=none,data:= .fields #[rawInt slot,rawInt i, .ref a,rawInt n,rawInt ep],slots:=#[]}
def qI (w:World)(t:SetTable)(i:Nat):Nat:=if byTxt w=true then 0 else jKJ t.place i
def told (w:World)(a:Addr)(ep:Nat)(es:Array (Int×Value)):Al:=(if byTxt w=true then (pickOrder (w.params.setOrder a ep) es).toList else es.toList).map (·.2)
theorem jAT (w:World)(a:Addr)(ep:Nat)(es:Array (Int×Value)):(told w a ep es).length=es.size:=by
 unfold told;rw[af];split
 ·rw[(jHT _ es).length_eq]; simp
 ·simp
theorem jN1 (w:World)(a:Addr)(ep:Nat)(es:Array (Int×Value)):(told w a ep es).Perm (es.toList.map (·.2)):=by
 unfold told;split
 ·exact(jHT _ es).map _
 ·exact .refl _
variable {o:Obj}{es:Array (Int×Value)}{ep:Nat}{t:SetTable}
theorem jOB {i:Nat}{Q:Option (Value×Nat)->Shared->Prop}(ho:s.heap.get? a=some o)(hd:o.data= .set es ep t)(T:Tab t es.size (ledW w))(hn:es.size<=4)(hi:i<=es.size)
  (h:Q ((told w a ep es)[i]?.map fun v=>(v,qI w t (i+1))) s):wpAny (model prog w) A (setNext a (qI w t i) i ep) Q E s:=by
 unfold setNext;refine ae (dM ho hd (T.fits hn) ?_);dsimp only;unfold setsByText;refine ae (ae (fq (am ?_)));show wpAny _ A (if byTxt w=true then _ else _) Q E s;have hl:=jAT w a ep es;by_cases hb:byTxt w=true
 ·rw[ay hb,aw Ad];unfold setWalk;refine ae (ae (dM ho hd (T.fits hn) ?_));dsimp only;unfold setsByText;refine ae (ae (fq (am ?_)));show wpAny _ A (if byTxt w=true then _ else _) _ E s;rw[ay hb];refine ae (fq (am (am ?_)));have e:(told w a ep es)[i]?.map (fun v=>(v,qI w t (i+1)))=(pickOrder (w.params.setOrder a ep) es)[i]?.map (fun e=>(e.snd,qI w t i)):=by
   unfold told qI;rw[ay hb,ay hb,ay hb,aS,bN,Option.map_map];rfl
  rw[e] at h;exact h
 ·rw[aw hb];have hb':byTxt w=false:=by simpa using hb
  have hld:t.led=true:=by rw[T.ld]; show (!byTxt w)=true; rw[hb']; rfl
  show wpAny _ A (if (!t.plain&&decide (es.size>1))=true then _ else _) Q E s;rw[T.pl,lj,gw,aw az];refine ae ?_;show wpAny _ A (if (!t.led&&!es.isEmpty)=true then _ else pure ()) _ E s;rw[hld,lj,gw,aw az];refine am (am ?_);have eb:SetTable.below t.place (qI w t i)=i:=by
   unfold qI;rw[aw hb];exact jIW T.ris (by rw[T.sz]; exact hi)
  rw[eb];have et:(told w a ep es)[i]?=es[i]?.map (·.2):=by
   unfold told;rw[aw hb,aS,bN]
  rw[et] at h;by_cases hlt:i<es.size
  ·have h1:es[i]?=some es[i]:=by simp [hlt]
   have hlt2:i<t.place.size:=by rw[T.sz]; exact hlt
   have h2:t.place[i]?=some t.place[i]:=by simp [hlt2]
   have h3:qI w t (i+1)=t.place[i]+1:=by
    unfold qI jKJ;rw[aw hb];simp [Array.getD,hlt2]
   rw[h1,h3] at h;rw[h1,h2];exact h
  ·have h1:es[i]?=none:=by simp; lia
   rw[h1] at h;rw[h1];exact h
theorem jHK {i:Nat}{v:Value}{Q:Ao->Shared->Prop}(ho:s.heap.get? a=some o)(hd:o.data= .set es ep t)(T:Tab t es.size (ledW w))(hn:es.size<=4)
  (hit:IsSI s.heap I (qI w t i) i a es.size ep) (hv:(told w a ep es)[i]?=some v)
  (hQ:∀ h',IsSI h' I (qI w t (i+1)) (i+1) a es.size ep->Heap.SameBut I s.heap h'->Q (some v) { s with heap:=h'}):wpAny (model prog w) A (pyNext (.ref I)) Q E s:=by
 have hT:s.TypeIs (.ref I) "set_iterator" :=⟨_,hit,rfl⟩;have hi:i<es.size:=by
  rw[<- jAT w a ep es];exact(ao.mp hv).1
 unfold pyNext;refine ae (eG (cW (name:=Str.ofString "__next__") hT slot_si_next (cD slot_si_next hT jD7 ?_ (jDX _))));unfold Builtin.«set_iterator.__next__»;refine ae (m:=slotArgs "__next__" 0 _) (am ?_);dsimp only;unfold fieldsOf;refine ae (ae (gX hit ?_));refine am ?_;dsimp only [rawInt];unfold setEntries;refine ae (ae (dM ho hd (T.fits hn) (am ?_)));rw[aw Ad];simp only [aR];refine ae (jOB ho hd T hn (de hi) ?_);rw[hv];dsimp only [Option.map];refine ae (cV hit Ad fun h1 hit1 sb1=>?_);refine ae (cV hit1 Ad fun h2 hit2 sb2=>?_);refine am ⟨v,rfl,am (hQ h2 ?_ (sb1.trans sb2))⟩;show h2.get? I=_;rw[hit2];simp [rawInt]
theorem jJ7 {Q:Ao->Shared->Prop}(hh:A.handled=none)(ho:s.heap.get? a=some o)(hd:o.data= .set es ep t)(T:Tab t es.size (ledW w))(hn:es.size<=4)
  (hit:IsSI s.heap I (qI w t es.size) es.size a es.size ep)
  (hQ:∀ h',Heap.ExtBut I s.heap h'->Q none { s with heap:=h'}):wpAny (model prog w) A (pyNext (.ref I)) Q E s:=by
 have hT:s.TypeIs (.ref I) "set_iterator" :=⟨_,hit,rfl⟩;unfold pyNext;refine ae (eG (cW (name:=Str.ofString "__next__") hT slot_si_next (cD slot_si_next hT jD7 ?_ (jDX _))));unfold Builtin.«set_iterator.__next__»;refine ae (m:=slotArgs "__next__" 0 _) (am ?_);dsimp only;unfold fieldsOf;refine ae (ae (gX hit ?_));refine am ?_;dsimp only [rawInt];unfold setEntries;refine ae (ae (dM ho hd (T.fits hn) (am ?_)));rw[aw Ad];simp only [aR];refine ae (jOB ho hd T hn (aA _) ?_);rw[b8 (by rw[jAT]; exact aA _)];dsimp only [Option.map];refine ae (cV hit Ad fun h1 hit1 sb1=>?_);refine ae ?_;simp only [newExc,newTuple];refine ae (dh ?_ (by size_fits));refine ae (m:=firstArgMember _ _) (wpAny_of_eq (a:=Value.none) (by first | rfl | (simp only [firstArgMember]; rfl)) ?_);refine dh ?_ (by size_fits);simp only [raiseNew];refine ae (wpAny_handled ?_);rw[show A.in1.handled=none from hh];refine ae (am (wpAny_throw ?_));refine ae (jf (T:= "StopIteration") (b:=true) ⟨_,aC _ rfl,rfl⟩ isSubtype_stop ?_);exact am (hQ _ ((sb1.extBut.push _).push _))
theorem jTQ {i:Nat}{slot n:Nat}{Q:Ah}(hit:IsSI s.heap I slot i a n ep)(h:Q (.ref I) s):wpAny (model prog w) A (pyIter (.ref I)) Q E s:=by
 have hT:s.TypeIs (.ref I) "set_iterator" :=⟨_,hit,rfl⟩;refine wpAny_pyIter_slot hT jDP (cD jDP hT jGZ ?_ (jIX _));show wpAny _ _ (ret (.ref I)) _ _ s;exact am ⟨_,rfl,"set_iterator",_,hT,slot_si_next.lookup,h⟩
theorem jQP {Q:Ah}(hx:o.ExactSet)(ho:s.heap.get? a=some o)(hd:o.data= .set es ep t)(T:Tab t es.size (ledW w))(hn:es.size<=4)
  (hQ:∀ h',h'.get? s.heap.objs.size=some { cls:= .type "set_iterator",dict:=none,data:= .fields #[rawInt (qI w t 0),rawInt 0, .ref a,rawInt es.size,rawInt ep],slots:=#[]} ->(∀ b u,s.heap.get? b=some u->h'.get? b=some u)->
   h'.objs.size=s.heap.objs.size+1->Q (.ref s.heap.objs.size) { s with heap:=h'}):wpAny (model prog w) A (pyIter (.ref a)) Q E s:=by
 have hT:s.TypeIs (.ref a) "set" :=⟨o,ho,hx.1⟩;refine wpAny_pyIter_slot hT kg (cD kg hT jFF ?_ (jH5 _));unfold Builtin.«frozenset.__iter__»;refine ae (show wpAny _ _ (pure a:Sem Addr) _ _ s from am ?_);unfold Builtin.Frozenset.sizeOf setEntries;refine ae (ae (ae (dM ho hd (T.fits hn) (am (am ?_)))));dsimp only;unfold setDrawn;refine ae (ae (dM ho hd (T.fits hn) ?_));dsimp only;unfold setsByText;refine ae (ae (fq (am (am ?_))));show wpAny _ _ (if (!byTxt w&&(!t.plain&&decide (es.size>1)))=true then _ else _) _ _ s;rw[T.pl,lj,gw,dq,aw az];refine ae (am ?_);refine ae (wpAny_setEpoch_of ho hd (T.fits hn) ?_);refine ae (dh (am ⟨_,rfl,"set_iterator",_,⟨_,aC _ rfl,rfl⟩,slot_si_next.lookup,hQ _ ?_ (fun b u e=>ah _ e) (dU _ _)⟩) (by size_fits));have e0:qI w t 0=0:=by unfold qI jKJ; split <;> rfl
 rw[e0];exact aC _ rfl
theorem jMX (hh:A.handled=none)(hne:a≠I)(hd:o.data= .set es ep t)(T:Tab t es.size (ledW w))(hn:es.size<=4):
  Walks prog w A I [I,a] [I] es.size (fun i v=>(told w a ep es)[i]?=some v) (fun i h=>IsSI h I (qI w t i) i a es.size ep/\h.get? a=some o) where
 sub:=fun b hb=>by simp at hb; simp [hb]
 frame:=fun _ _ _ st hk=>⟨hk I Ad _ st.1,hk a Ad _ st.2⟩
 item:=fun i s Q E hi st hQ=>by
  obtain⟨v,hv⟩:∃ v,(told w a ep es)[i]?=some v:=⟨_,aq (by rw[jAT]; exact hi)⟩;exact jHK st.2 hd T hn st.1 hv fun h' hit' sb=>hQ v h' s.toks hv ⟨hit',(sb.2 a hne).trans st.2⟩ fun b o hb e=>(sb.2 b (fun z=>hb (by simp [z]))).trans e
 done:=fun s Q E st hQ=>jJ7 hh st.2 hd T hn st.1 fun h' eb=>hQ h' s.toks fun b o hb e=>eb b o (fun z=>hb (by simp [z])) e
 self:=fun _ _ _ _ st hQ=>jTQ st.1 hQ
theorem jHI:typeLookup (.type "set") "__len__" =pure (some (.builtin "set.__len__")):=by rw[jt,gU]; kernel_rfl
theorem jRV {Q:Bool->Shared->Prop}(hT:s.TypeIs (.ref a) "set")(h:Q false s):wpAny (model prog w) A (Builtin.List.listLengthHint (.ref a)) Q E s:=by
 unfold Builtin.List.listLengthHint;refine ae (wpAny_specialOf hT jHI ?_);generalize hid:("set.__len__" :String)=id0
 wp_delta
 rw[show splitId id0=some ("set","__len__") from by subst hid; decide+kernel];subst hid;refine ae (jf (b:=true) hT (by rw[kq]; kernel_rfl) ?_);refine wpAny_ite_split (fun q=>absurd q Ac) (fun _=>?_);refine wpAny_ite_split (fun _=>?_) (fun q=>absurd Ab q);exact ae (jn hT (am h))
theorem jK5 {Q:Al->Shared->Prop}(hh:A.handled=none)(hx:o.ExactSet)(ho:s.heap.get? a=some o)(hd:o.data= .set es ep t)(T:Tab t es.size (ledW w))(hn:es.size<=4)
  (hQ:∀ s',(∀ b u,s.heap.get? b=some u->s'.heap.get? b=some u)->s'.gens=s.gens->s'.drawn=s.drawn->s'.os=s.os->s.heap.objs.size<s'.heap.objs.size->Q (told w a ep es) s'):wpAny (model prog w) A (collect (.ref a)) Q E s:=by
 have ha:a<s.heap.objs.size:=aG ho;have hSa:s.heap.objs.size≠a:=cR ha;unfold collect;refine ae (iI (cA PySem.F.entry_proto_collect ?_));rw[cx ir _];show wpAny _ A.in1 (newList [] >>= fun l=>again (.builtin "list.__iadd__" ⟨[l, .ref a],[]⟩)) _ _ s;refine ae (dh (am ⟨fh eT _,cA PySem.F.entry_list_iadd ?_⟩));rw[cx eT _];generalize hE:({ s with heap:=s.heap.push { cls:= .type "list",dict:=none,data:= .seq ([]:Al).toArray}} :Shared)=s1;have ho1:s1.heap.get? a=some o:=by rw[<- hE]; exact ah _ ho
 have hL1:s1.heap.get? s.heap.objs.size=some { cls:= .type "list",dict:=none,data:= .seq ([]:Al).toArray} :=by rw[<- hE]; exact aC _ rfl
 have hz1:s1.heap.objs.size=s.heap.objs.size+1:=by rw[<- hE]; exact dU _ _
 have hT1:s1.TypeIs (.ref a) "set" :=⟨o,ho1,hx.1⟩;show wpAny _ A.in1 (Builtin.List.listExtendWith (.ref s.heap.objs.size) (.ref a) (.ref s.heap.objs.size)) _ _ _;unfold Builtin.List.listExtendWith;refine ae (jn hT1 ?_);have q1:Builtin.List.listSameRef (.ref s.heap.objs.size) (.ref a)=false:=by simp [Builtin.List.listSameRef,hSa]
 rw[aw (by rw[q1]; decide)];refine ae (jQP hx ho1 hd T hn fun h2 hI2 k2 z2=>?_);refine ae (bS ?_);have ho2:h2.get? a=some o:=k2 _ _ ho1;have hT2:Shared.TypeIs { s1 with heap:=h2} (.ref a) "set" :=⟨o,ho2,hx.1⟩;have hL2:=k2 _ _ hL1;refine jRV hT2 ?_;rw[ay Ab];refine ae (di ?_);have hne:s.heap.objs.size≠s1.heap.objs.size:=Aa;refine ae ?_;show wpAny _ A.in1 (updateSeq s.heap.objs.size (·.push .none) >>= fun _=>updateSeq s.heap.objs.size (·.pop)) _ _ _;refine ae (wpAny_updateSeq hL2 rfl ?_);have hL3:=dX (Obj.mapSeq (·.push Value.none)) hL2 rfl;refine wpAny_updateSeq hL3 rfl ?_;have hL4:=dX (Obj.mapSeq (·.pop)) hL3 rfl;have oth:∀ b u,b≠s.heap.objs.size->h2.get? b=some u->((h2.update s.heap.objs.size (Obj.mapSeq (·.push Value.none))).update s.heap.objs.size (Obj.mapSeq (·.pop))).get? b=some u:=
  fun b u hb e=>(bA _ _ (eh hb)).trans ((bA _ _ (eh hb)).trans e)
 have W:=(jMX (prog:=prog) (A:=A.in1) (a:=a) (I:=s1.heap.objs.size) hh (aW (show a<s1.heap.objs.size by rw[hz1]; exact cN ha)) hd T hn).toS;have z24:es.size<=sizeLine:=by rw[show sizeLine=2 ^ 24 from rfl]; lia
 refine am ⟨fh PySem.F.plain_extend_loop _,codeAny_extend_loopS W z24 s.heap.objs.size (by simp [hne,hSa]) _ es.size 0 _ _ _ rfl (bo _) ⟨oth _ _ (eh hne) hI2,oth _ _ (eh hSa) ho2⟩ hL4 (ItemsOf.nil _) fun s' acc' c' hm hS' hacc=>?_⟩;show wpAny _ A (load s.heap.objs.size >>= _) _ _ s';refine ae (gX hS' ?_);have eacc:acc'.toList=told w a ep es:=by
  apply gC;intro i;by_cases hi:i<es.size
  ·have hi':i<acc'.size:=by rw[hacc.1]; exact hi
   have:=hacc.2 i acc'[i] (by simp [hi']);rw[this];simp [hi']
  ·rw[b8 (by rw[aM,hacc.1]; lia),b8 (by rw[jAT]; lia)]
 refine am ?_;rw[eacc];refine hQ s' (fun b u e=>?_) ?_ ?_ ?_ (aG hS')
 ·have hb:b≠s.heap.objs.size:=aW (aG e);have hb1:b≠s1.heap.objs.size:=aW (show b<s1.heap.objs.size by rw[hz1]; exact cN (aG e));exact hm.heap b u (by simp [hb,hb1]) (oth b u hb (k2 b u (by rw[<- hE]; exact ah _ e)))
 ·have:=hm.gens; rw[<- hE] at this; exact this
 ·have:=hm.drawn; rw[<- hE] at this; exact this
 ·have:=hm.os; rw[<- hE] at this; exact this
end SS
namespace SS
open PySem PyProof.Rows
section
variable {prog:Program}{w:World}{A:Around}{E:Ah}{s:Shared}{a:Addr}{ks:Ag}
theorem jPE:∀ {vs:Al}{ks:Ag},Paired (fun v k=>∃ t,v=Value.int k t) vs ks->IntsAre vs ks
 | _,_, .nil=> .nil
 | _,_, .cons ⟨t,e⟩ r=>by subst e; exact .cons _ t (jPE r)
theorem jFR {es:List (Int×Value)} :∀ {ks:Ag},Paired El es ks->Paired (fun v k=>∃ t,v=Value.int k t) (es.map (·.2)) ks
 | _, .nil=> .nil
 | _, .cons ⟨_,q⟩ r=> .cons q (jFR r)
theorem jJB {α β:Type}{F:α->β->Prop}{l l':List α}(p:l'.Perm l):∀ {r:List β},Paired F l r->∃ r',Paired F l' r'/\r'.Perm r:=by
 induction p with
 | nil=>intro r h; cases h; exact⟨[], .nil, .nil⟩
 | cons x _ ih=>
  intro r h;cases h with
  | cons f t=>
   obtain⟨r',h1,h2⟩:=ih t;exact⟨_::r', .cons f h1,h2.cons _⟩
 | swap x y l=>
  intro r h;cases h with
  | cons f t=>
   cases t with
   | cons g t=>exact⟨_, .cons g (.cons f t), .swap _ _ _⟩
 | trans _ _ ih1 ih2=>
  intro r h;obtain⟨r1,h1,h2⟩:=ih2 h;obtain⟨r2,h3,h4⟩:=ih1 h1;exact⟨r2,h3,h4.trans h2⟩
theorem sorted_set {Q:Ah}(hh:A.handled=none)(S:SetG w s.heap a ks)
  (h:∀ (s':Shared) (l:Addr) (vs:Al) (ns:Ag) (e:Nat),s.heap.objs.size<=l->(∀ b u,s.heap.get? b=some u->s'.heap.get? b=some u)->s'.gens=s.gens->s'.drawn=s.drawn->s'.os=s.os->
   s'.heap.get? l=some { cls:= .type "list",data:= .seq vs.toArray e} ->IntsAre vs ns->ns.Perm ks->ns.Pairwise (· <= ·)->Q (.ref l) s'):
  wpAny (model prog w) A (call (.builtin "sorted") [.ref a]) Q E s:=by
 obtain⟨o,es,ep,t,ho,hex,hd,hp,T⟩:=S.ex;have hn:es.size<=4:=by
  have:=fZ hp;rw[aM] at this;have:=S.len;lia
 refine fJ iS iu iw (args_sorted1 _) ?_;unfold Builtin.«sorted»;refine ae (m:=checkCount "sorted" 1 1 _) (am ?_);refine ae (jK5 (A:=A.in1) hh hex ho hd T hn fun s1 k1 g1 d1 o1 z1=>?_);refine ae (eI ?_ (by rw[jAT,show sizeLine=2 ^ 24 from rfl]; lia));obtain⟨ks1,hp1,pm1⟩:=jJB (jN1 w a ep es) (jFR hp);have hI:=jPE hp1;have hl:(told w a ep es).length<64:=by rw[jAT]; lia
 have hL:(s1.heap.push (seqObj "list" (told w a ep es).toArray 0)).get? s1.heap.objs.size=some (seqObj "list" (told w a ep es).toArray 0):=aC _ rfl;show wpAny _ _ _ _ _ { s1 with heap:=s1.heap.push (seqObj "list" (told w a ep es).toArray 0)};refine ae (bS (cD gE ⟨_,hL,rfl⟩ gf (list_sort_tree hL hI hl fun out ns' a1 a2 a3=>⟨_,rfl,?_⟩) (args_list_sort _)));obtain⟨e,he⟩:=sortedHeap_at (out:=out) hL;have kept:∀ b u,s.heap.get? b=some u->(sortedHeap (s1.heap.push (seqObj "list" (told w a ep es).toArray 0)) s1.heap.objs.size (told w a ep es) out).get? b=some u:=fun b u q=>by
  have q1:=k1 b u q;have hb:b<s1.heap.objs.size:=aG q1;rw[sortedHeap_old (aW hb) (by rw[gZ]; exact cN hb)];exact ah _ q1
 generalize sortedHeap (s1.heap.push (seqObj "list" (told w a ep es).toArray 0)) s1.heap.objs.size (told w a ep es) out=hf at he kept ⊢;exact am ⟨_,rfl,h { s1 with heap:=hf} s1.heap.objs.size out.toList ns' e (de z1) kept g1 d1 o1 (by rw[cX]; exact he) a1 (a2.trans pm1) a3⟩
end
end SS
namespace L2
open PySem PySem.Spec PyProof.Rows
variable {es xs:List Expr}{env:Env}{a b:Expr}{pos:Pos}
section
variable {ys:List Expr}
theorem yT {op:Operator} :starEach (.BinOp a op b pos::es) env=(false,eval (.BinOp a op b pos) env)::starEach es env:=rfl
theorem se_un {op:UnaryOp} :starEach (.UnaryOp op a pos::es) env=(false,eval (.UnaryOp op a pos) env)::starEach es env:=rfl
theorem jSQ {ops:List CmpOp} :starEach (.Compare a ops xs pos::es) env=(false,eval (.Compare a ops xs pos) env)::starEach es env:=rfl
theorem jE {kw:List Keyword} :starEach (.Call a xs kw pos::es) env=(false,eval (.Call a xs kw pos) env)::starEach es env:=rfl
theorem jR:starEach (.Subscript a b pos::es) env=(false,eval (.Subscript a b pos) env)::starEach es env:=rfl
theorem jH {gs sc} :starEach (.ListComp a gs sc pos::es) env=(false,eval (.ListComp a gs sc pos) env)::starEach es env:=rfl
theorem jDQ {x1} :starEach (.Tuple xs x1 pos::es) env=(false,eval (.Tuple xs x1 pos) env)::starEach es env:=rfl
theorem kO {c k} :starEach (.Constant c k pos::es) env=(false,eval (.Constant c k pos) env)::starEach es env:=rfl
theorem j4 {x:Str} :starEach (.Name x pos::es) env=(false,eval (.Name x pos) env)::starEach es env:=rfl
end
variable {X:Cx}
def CDivL (i j:Int):Prop:=0<j/\j<2 ^ 64
theorem jKS:OpR X (binaryOp .FloorDiv) (rI CDivL fun i j=> .int (i / j)):=opI fun i j _ _ _ _ _ hc q=>by
 have h1:(0:Int)<j:=hc.1;have h2:j<2 ^ 64:=hc.2;refine floordiv_int Aa (by rw[iE i Aa]; exact q) (.inl (PyProof.noPylong_of_log2 ?_));have h3:j.natAbs<2 ^ 64:=Aa;have h4:j.natAbs≠0:=Aa;have:=(Nat.log2_lt h4).mpr h3;lia
theorem jB4:yR X (.builtin "isinstance") (fun xs H Q=>∃ x T t b,xs=[x, .ty T]/\TyOf X.K H x t/\kitOne X.K t (.type T)=some b/\Q (.bl b) H):=by
 intro lK s σ H xs us Q I r h;obtain⟨x,T,t,b,rfl,ty,e,q⟩:=h;obtain⟨u,v,rfl,ru,rv⟩:=r.two;cases rv;exact jPD I ru ty e fun tk=>⟨.bl b,H,I.tok tk,rfl,q⟩
def jTS:V->List V->Hp->VK->Prop:=fun x vs H Q=>∃ l xs i y,x= .ref l/\vs=[.int i,y]/\H l=some (.lst xs)/\0<=i/\i<=xs.length/\xs.length<sizeLine/\Q .non (upd H l (.lst (xs.take i.toNat++y::xs.drop i.toNat)))
theorem Vals.put {y:V}{v:Value}(r:RelV y v){xs:List V}{us:Al}(h:Vals xs us)(k:Nat):Vals (xs.take k++y::xs.drop k) (us.take k++v::us.drop k):=(h.take k).append (.cons r (h.drop k))
theorem jOG:MtM X "list.insert" jTS:=by
 intro lK s σ H x vs v us Q I rx rv h;obtain⟨l,xs,i,y,rfl,rfl,hH,h0,h1,hz,q⟩:=h;cases rx;obtain⟨a,b,rfl,ra,rb⟩:=rv.two;obtain⟨t,rfl⟩:=ra;obtain⟨z,its,n,r,hl,e⟩:=I.lstM hH;have line:=jI4;have hf:Builtin.List.listFitsIndex i=true:=fitsIndex_both Aa Aa;refine fm F.slot_list_insert ⟨_,e,rfl⟩ F.entry_list_insert (F.args_list_insert_3 _ _ _) (AutoSeq1.list_insert_list_int_val_1 l its.toArray n i t b (by simp [hf]) (by rw[ar]; lia)) ⟨e,?_⟩;refine⟨.non,_,I.lset (its':=its.take i.toNat++b::its.drop i.toNat) hH e ?_ (Vals.put rb r i.toNat) ?_,rfl,q⟩
 ·have hk:(if i<0 then (i+(its.toArray.size:Int)).toNat else min i.toNat its.toArray.size)=i.toNat:=by
   rw[aw Aa,ar];lia
  show (its.toArray.extract 0 (if i<0 then (i+(its.toArray.size:Int)).toNat else min i.toNat its.toArray.size)).push b++its.toArray.extract (if i<0 then (i+(its.toArray.size:Int)).toNat else min i.toNat its.toArray.size)=_;rw[hk];apply Array.ext';simp [dZ,bX]
 ·rw[aJ,aV,bI,gY];lia
def tBMT (r:V->List V->Hp->VK->Prop)(to:TE)(t:TA):TE:=fun σ H Q=>to σ H fun x H1=>(∃ p xs,x= .ref p/\H1 p=some (.tup xs))/\t σ H1 fun xs H2=>r x xs H2 Q
theorem jWL {o e:Expr}{es:List Expr}{to:TE}{t:TA}{name:Str}{apos cpos:Pos}{id:String}{r:V->List V->Hp->VK->Prop}(slot:Slot "tuple" name id)(hty:typeOf (.builtin id)=pure (.type "method_descriptor"))(hm:MtM X id r)(ho:PE X o to)(ha:PA X (e::es) t)
  (hbase:attributeBase o name X.env (eval o X.env)=eval o X.env:=by rfl)
  (hfew:((backTo cpos (starEach (e::es) X.env)).all (fun x=>!x.1)&&(backToKw cpos (keywordEach [] X.env)).all (fun x=>x.1.isSome)
   &&decide ((e::es).length+([]:List Keyword).length+(if ([]:List Keyword).isEmpty then 0 else 1)<30))=true:=by rfl)
  (hline:(apos.endLine==cpos.line)=true:=by rfl) (hs:starEach (e::es) X.env=(false,eval e X.env)::starEach es X.env:=by rfl) (hplain:(backTo cpos (starEach es X.env)).any (·.1)=false:=by rfl):
  PE X (.Call (.Attribute o name apos) (e::es) [] cpos) (tBMT r to t):=by
 intro lK s σ H Q I h;refine wpAny_Call_method_late hbase hfew hline rfl (lN (ho lK s σ H _ I h) fun v s1 ⟨x,H1,I1,r1,⟨p,xs,ex,hp⟩,q1⟩=>?_);subst ex;cases r1;obtain⟨_,its,_,n,e0⟩:=I1.hok p _ hp;refine⟨"tuple",id,PySem.F.plainAttrs_tuple,slot,hty,⟨_,e0,rfl⟩,fun a ea=>?_,?_⟩
 ·cases ea;exact⟨_,e0,rfl⟩
 have hA:=ha cpos lK s1 σ H1 _ I1 q1;rw[hs] at hA ⊢;refine gz (by show (false || (backTo cpos (starEach es X.env)).any (·.1))=false; rw[hplain] <;> rfl) (ek ?_);exact lN hA fun us s2 ⟨vs,H2,I2,r2,q2⟩=>hm lK s2 σ H2 (.ref p) vs (.ref p) us Q I2 rfl r2 q2
theorem jFZ {x:V} :∀ {xs:List V}{us:Al},Vals xs us->xs.all qV=true->us.countP (eqU x)=xs.countP fun y=>eqV y x
 | _,_, .nil,_=>rfl
 | y::xs,u::us, .cons r t,f=>by
  rw[fg,bD] at f;rw[cF,cF,jPS r f.1,jFZ t f.2]
def rEqE (K:W.Frag):R2:=fun x y H Q=>∃ p q xs,x= .ref p/\y= .ref q/\SqT K H p xs/\SqT K H q []/\Q (.bl (decide (xs=[]))) H
theorem jWR (hu:X.A.units<cLine):OpR X (compareOp .Eq) (rEqE X.K):=by
 intro lK s σ H x y v u Q I rx ry h;obtain⟨p,q,xs,rfl,rfl,hp,hq,k⟩:=h;cases rx;cases ry;obtain⟨its,r,t1,_⟩:=I.tuple hp;obtain⟨its2,r2,t2,_⟩:=I.tuple hq;have e2:its2=[]:=r2.zero;subst e2;refine SeqAt.eq_tupleAt (e:=fun _=>true) (show s.heap.IsTuple p its.toArray from t1) (show s.heap.IsTuple q ([]:Al).toArray from t2) hu (fun j h1 h2=>absurd h2 Ad) ⟨.bl _,H,I,rfl,?_⟩;have hl:=r.length;have e:((List.range (min its.toArray.size ([]:Al).toArray.size)).all (fun _=>true)&&its.toArray.size==([]:Al).toArray.size)=decide (xs=[]):=by
  cases xs with
  | nil=>
   have:its=[]:=by simpa using hl.symm
   subst this;rfl
  | cons a b=>
   have:its.length≠0:=by rw[<- hl]; simp
   simp [this]
 rw[e];exact k
theorem jBK (hc:X.calm=true):yR X (.builtin "all") (fun xs H Q=>∃ (p:Addr) (bs:List Bool),xs=[.ref p]/\SqL X.K H p (bs.map V.bl)/\Q (.bl (bs.all id)) H):=by
 intro lK s σ H xs us Q I r h;obtain⟨p,bs,rfl,hq,q⟩:=h;obtain⟨u,rfl,rx⟩:=r.one;cases rx;obtain⟨its,r',pl,hz⟩:=I.list hq;have hlen:=r'.length;rw[af] at hlen;refine call_all_walk (df pl.isList ?_);have hne:p≠s.heap.objs.size:=by
  obtain⟨o,ho,_⟩:=pl.isList;exact aW (aG ho)
 refine⟨s.heap.objs.size,_,_,_,_,_,fun i=>bs.getD i true,rfl,iJ (by simpa using I.ok.hd hc) _ p hne its.toArray,⟨⟨_,aC _ rfl,rfl,rfl⟩,pl.isList.push _⟩,fun i v z Q' E' hP hQ'=>?_,fun h' tk hk=>?_⟩
 ·have hi:its[i]?=some v:=by simpa using hP
  have hb:i<bs.length:=by
   rw[hlen];exact(ao.mp hi).1
  obtain⟨u,hu,ru⟩:=r'.get (i:=i) (x:= .bl (bs[i])) (by simp [hb]);rw[hi] at hu;cases hu;cases ru;have e:bs.getD i true=bs[i]:=by simp [List.getD,hb]
  have hQ2:Q' (bs.getD i true) z:=hQ';rw[e] at hQ2;exact am hQ2
 ·have e:(List.range its.toArray.size).all (fun i=>bs.getD i true)=bs.all id:=by
   rw[ar,<- hlen];rw[bZ,bK,bK];constructor
   ·intro a b hb;obtain⟨i,hi,rfl⟩:=eR hb;have:=a i (bF.mpr hi);simpa [List.getD,hi] using this
   ·intro a i hi;have hi:=bF.mp hi;have:=a bs[i] (cn hi);simpa [List.getD,hi] using this
  rw[e];exact⟨.bl _,H,I.kept (t':=tk) fun b o e=>hk b o (by
   intro z;have z:b=s.heap.objs.size:=by simpa using z
   exact absurd (aG e) (by rw[z]; exact db _)) (ah _ e),rfl,q⟩
def yZ (n:Nat):List V:=(List.range n).map fun (i:Nat)=>V.int (i:Int)
theorem jLV {n:Nat}{acc:An}(h:ItemsOf (fun i v=>∃ t,v=Value.int (0+(i:Int)*1) t) acc n):Vals (yZ n) acc.toList:=by
 have key:∀ (l:Al) (k:Nat),(∀ j v,l[j]?=some v->∃ t,v=Value.int ((k+j:Nat):Int) t)->Vals ((range' k l.length).map fun (i:Nat)=>V.int (i:Int)) l:=by
  intro l
  induction l with
  | nil=>intro k _; exact .nil
  | cons v l ih=>
   intro k hk;rw[aV,List.range'_succ,bf];refine .cons ?_ (ih (k+1) fun j u hj=>?_)
   ·obtain⟨t,e⟩:=hk 0 v rfl;exact⟨t,by simpa using e⟩
   ·obtain⟨t,e⟩:=hk (j+1) u (by simpa using hj);exact⟨t,by rw[e]; congr 1; lia⟩
 have:=key acc.toList 0 fun j v hj=>by
  obtain⟨t,e⟩:=h.2 j v (by simpa using hj);exact⟨t,by rw[e]; congr 1; lia⟩
 rw[aM,h.1] at this;unfold yZ;rw[List.range_eq_range'];exact this
theorem jCK:yR X (.type "range") (fun xs H Q=>∃ j:Int,xs=[.int j]/\∀ p,H p=none->Q (.ref p) (upd H p (.rng 0 j))):=by
 intro lK s σ H xs us Q I r h;obtain⟨j,rfl,q⟩:=h;obtain⟨u,rfl,t,rfl⟩:=r.one;refine call_range_1 ⟨.ref s.heap.objs.size,_,I.laid (o:= .rng 0 j) (fun b o e=>ah _ e) (aA _) ?_,rfl,q _ I.fresh⟩;exact⟨_,_,_,aC _ rfl⟩
theorem jBJ (hc:X.calm=true):yR X (.type "list") (fun xs H Q=>∃ p j,xs=[.ref p]/\H p=some (.rng 0 j)/\0<=j/\j<=1000/\∀ l,H l=none->Q (.ref l) (upd H l (.lst (yZ j.toNat)))):=by
 intro lK s σ H xs us Q I r h;obtain⟨p,j,rfl,hp,h0,h1,q⟩:=h;obtain⟨u,rfl,rx⟩:=r.one;cases rx;obtain⟨t,u,v,e⟩:=I.hok p _ hp;have en:Builtin.Range.rangeSize 0 j 1=(j.toNat:Int):=by
  rw[rangeSize_one];split <;> lia
 refine call_list_range (I.ok.hd hc) (show IsRange s.heap p 0 j 1 t u v from e) (small_one Aa Aa Aa Aa) en Aa fun h' tk acc' c' kp hS hacc=>?_;refine⟨.ref s.heap.objs.size,_,I.laid (t':=tk) (o:= .lst (yZ j.toNat)) kp (aA _) ?_,rfl,q _ I.fresh⟩;refine⟨?_,acc'.toList,c',jLV hacc,by rw[cX]; exact hS⟩;unfold yZ;rw[af,cr,eW];lia
def SetO (w:World)(a:Addr)(ks:Ag):HO:= .ext fun h=>SS.SetG w h a ks
theorem jB8 {ns:Ag} :∀ {us:Al},Vals (ns.map V.int) us->IntsAre us ns:=by
 induction ns with
 | nil=>intro us h; cases h; exact .nil
 | cons n ns ih=>
  intro us h;cases h with
  | cons r t=>
   obtain⟨k,rfl⟩:=r;exact .cons n k (ih t)
theorem jA9:∀ {us:Al}{ns:Ag},IntsAre us ns->Vals (ns.map V.int) us
 | _,_, .nil=> .nil
 | _,_, .cons n t r=> .cons ⟨t,rfl⟩ (jA9 r)
theorem jQ1 (hc:X.calm=true):yR X (.type "set") (fun xs H Q=>∃ (p:Addr) (ns:Ag),xs=[.ref p]/\SqL X.K H p (ns.map V.int)/\ns.length<=4/\(∀ z∈ns,0<=z/\z<32)/\
  ∀ (l:Addr) (ks:Ag),H l=none->(∀ z,z∈ks↔z∈ns)->Q (.ref l) (upd H l (SetO X.w l ks))):=by
 intro lK s σ H xs us Q I r h;obtain⟨p,ns,rfl,hq,hl,hv,q⟩:=h;obtain⟨u,rfl,rx⟩:=r.one;cases rx;obtain⟨its,r',pl,hz⟩:=I.list hq;have hlen:=r'.length;rw[af] at hlen;refine SS.set_of_list (I.ok.hd hc) pl.isList (jB8 r') (by rw[ar]; lia) hv fun h' tk ks S hm kp=>?_;have hg:∃ o,h'.get? s.heap.objs.size=some o:=let ⟨o,_,_,_,e,_⟩:=S.ex; ⟨o,e⟩;exact⟨.ref s.heap.objs.size,_,I.laid (t':=tk) (o:=SetO X.w s.heap.objs.size ks) kp (aA _) ⟨S,hg,fun h1 h2 a b=>a.at b⟩,rfl,q _ ks I.fresh hm⟩
theorem jFG (hc:X.calm=true):yR X (.builtin "sorted") (fun xs H Q=>∃ (p:Addr) (ks:Ag),xs=[.ref p]/\H p=some (SetO X.w p ks)/\
  ∀ (l:Addr) (ns:Ag),H l=none->ns.Pairwise (· < ·)->(∀ z,z∈ns↔z∈ks)->Q (.ref l) (upd H l (.lst (ns.map V.int)))):=by
 intro lK s σ H xs us Q I r h;obtain⟨p,ks,rfl,hp,q⟩:=h;obtain⟨u,rfl,rx⟩:=r.one;cases rx;obtain⟨S,_,_⟩:=I.hok p _ hp;refine SS.sorted_set (I.ok.hd hc) S fun s' l vs ns e hl kp g d o he hi pm srt=>?_;obtain⟨h',g',d',t',o'⟩:=s';have g:g'=s.gens:=g;have o:o'=s.os:=o;have d:d'=s.drawn:=d;subst g; subst o; subst d;have nd:ns.Nodup:=pm.nodup_iff.mpr S.nd;have lt:ns.Pairwise (· < ·):=by
  have:=iT srt nd;exact this.imp fun {a b} ⟨x,y⟩=>by lia
 have hz:(ns.map V.int).length<=sizeLine:=by
  rw[af,pm.length_eq,eW];have:=S.len;lia
 have I2:Inv X lK σ (upd H l (.lst (ns.map V.int))) { s with heap:=h',toks:=t'} :=I.laid (t':=t') kp hl ⟨hz,vs,e,jA9 hi,he⟩;exact⟨.ref l,_,I2,rfl,q l ns (I.hok.fresh hl) lt fun z=>pm.mem_iff⟩
variable {p2:Pos}
section
variable {p1 p3 p4 p5 p6 p7:Pos}{k1 k2 k3 k4:Nat}
theorem jUD {i j r:Int}(hj:0<=j)(hj2:j<=1000000)(hi:i.natAbs<2 ^ 64)(e:i ^ j.toNat=r):PE X (.BinOp (.Constant (.int i) k2 p2) .Pow (.Constant (.int j) k3 p3) p4) (tC (.int r)):=fun lK s σ H Q I h=>
 (kR (X:=X) jNT jS jS) lK s σ H Q I ⟨_,_,rfl,rfl,⟨hj,hj2,hi⟩,by subst e; exact h⟩
theorem jUE {a b:Expr}{i j r:Int}(ha:PE X a (tC (.int i)))(hb:PE X b (tC (.int j)))(hc:CMul i j)(e:i*j=r):PE X (.BinOp a .Mult b p1) (tC (.int r)):=fun lK s σ H Q I h=>
 (kR (X:=X) jDW ha hb) lK s σ H Q I ⟨_,_,rfl,rfl,hc,by subst e; exact h⟩
theorem jUH {a b:Expr}{i j r:Int}(ha:PE X a (tC (.int i)))(hb:PE X b (tC (.int j)))(e:i+j=r):PE X (.BinOp a .Add b p1) (tC (.int r)):=fun lK s σ H Q I h=>
 (kR (X:=X) yE ha hb) lK s σ H Q I ⟨_,_,rfl,rfl,by subst e; exact h⟩
theorem jWN:PE X (.BinOp (.BinOp (.Constant (.int 2) k1 p1) .Mult (.BinOp (.Constant (.int 10) k2 p2) .Pow (.Constant (.int 12) k3 p3) p4) p5) .Add (.Constant (.int 1) k4 p6) p7) (tC (.int 2000000000001)):=
 jUH (i:=2000000000000) (jUE (j:=1000000000000) jS (jUD Ac Ac Ac Ac) (.inl ⟨Ac,Ac⟩) Ac) jS Ac
end
def ItAt (tp:Bool)(h:Heap)(it a:Addr)(i:Nat):Prop:=match tp with
 | false=>h.IsListIter it a i
 | true=>h.IsTupleIter it a i
def ObAt (tp:Bool)(h:Heap)(a:Addr)(xs:An):Prop:=match tp with
 | false=>h.IsList a xs
 | true=>h.IsTuple a xs
theorem ItAt.but {tp:Bool}{h h':Heap}{it a b:Addr}{i:Nat}(x:ItAt tp h it a i)(e:Heap.ExtBut b h h')(n:it≠b):ItAt tp h' it a i:=by
 cases tp with
 | false=>exact Heap.IsListIter.extBut x e n
 | true=>exact Heap.IsTupleIter.extBut x e n
theorem ItAt.at {tp:Bool}{h h':Heap}{it a:Addr}{i:Nat}(x:ItAt tp h it a i)(e:∀ o,h.get? it=some o->h'.get? it=some o):ItAt tp h' it a i:=by
 cases tp with
 | false=>exact Heap.IsListIter.at x e
 | true=>exact Heap.IsTupleIter.at x e
theorem ItAt.obj {tp:Bool}{h:Heap}{it a:Addr}{i:Nat}(x:ItAt tp h it a i):∃ o,h.get? it=some o/\∀ v,o.data≠ .cell v:=by
 cases tp with
 | false=>obtain⟨o,e,_,d⟩:=x; exact⟨o,e,fun v q=>by rw[d] at q; cases q⟩
 | true=>obtain⟨o,e,_,d⟩:=x; exact⟨o,e,fun v q=>by rw[d] at q; cases q⟩
variable {w:World}{A:Around}{s:Shared}
section
variable {prog:Program}{E:Ah}
theorem next1 {tp:Bool}{it a:Addr}{i:Nat}{xs:An}{x:Value}{Q:Ah}(hi:ItAt tp s.heap it a i)(ha:ObAt tp s.heap a xs)(hx:xs[i]?=some x)
  (k:∀ h',ItAt tp h' it a (i+1)->Heap.SameBut it s.heap h'->Q x { s with heap:=h'}):wpAny (model prog w) A (Builtin.SmallTypes.nextOf (.ref it)) Q E s:=by
 cases tp with
 | false=>exact wpAny_nextOf_list_item hi ha hx k
 | true=>
  obtain⟨o,e,c,d⟩:=id (show s.heap.IsTupleIter it a i from hi);obtain⟨u,eu,_,n,du⟩:=(show s.heap.IsTuple a xs from ha);have ty:=Heap.IsTupleIter.typeIs (show s.heap.IsTupleIter it a i from hi);unfold Builtin.SmallTypes.nextOf;refine ae (cW (name:=Str.ofString "__next__") ty F.slot_tuple_iterator_next (cD F.slot_tuple_iterator_next ty F.entry_tuple_iterator_next (?_:wpAny (model prog w) _ (field (.ref it) 0 >>= _) _ _ s) (F.args_tuple_iterator_next_1 _)));refine ae (eD e d (x:= .ref a) rfl (?_:wpAny (model prog w) _ (if (Value.ref a==Value.none)=true then _ else _) _ _ s));rw[aw (by exact az)];show wpAny (model prog w) _ (field (.ref it) 1 >>= _) _ _ s;refine ae (eD e d (x:= .int i 0) rfl ?_);show wpAny (model prog w) _ (seqItems? (.ref a) >>= _) _ _ s;refine ae (wpAny_seqItems eu du ?_);simp only [aR,hx];refine ae (wpAny_setField e d Ad (am ⟨x,rfl,am (k _ ⟨_,dX _ e (Obj.isFreed_of_fields (Obj.data_mapFields d _)),(Obj.cls_mapFields ..).trans c,?_⟩ (ik ..))⟩));rw[Obj.data_mapFields d];simp [rawInt]
theorem next0 {tp:Bool}{it a:Addr}{i:Nat}{xs:An}{Q:Ah}(hh:A.handled=none)(hi:ItAt tp s.heap it a i)(ha:ObAt tp s.heap a xs)(hx:xs[i]?=none)
  (k:∀ h' e,Heap.ExtBut it s.heap h'->(∃ o,h'.get? e=some o/\o.cls= .type "StopIteration")->E (.ref e) { s with heap:=h'}):wpAny (model prog w) A (Builtin.SmallTypes.nextOf (.ref it)) Q E s:=by
 cases tp with
 | false=>exact wpAny_nextOf_list_end hh hi ha hx k
 | true=>
  obtain⟨o,e,c,d⟩:=id (show s.heap.IsTupleIter it a i from hi);obtain⟨u,eu,_,n,du⟩:=(show s.heap.IsTuple a xs from ha);have ty:=Heap.IsTupleIter.typeIs (show s.heap.IsTupleIter it a i from hi);unfold Builtin.SmallTypes.nextOf;refine ae (cW (name:=Str.ofString "__next__") ty F.slot_tuple_iterator_next (cD F.slot_tuple_iterator_next ty F.entry_tuple_iterator_next (?_:wpAny (model prog w) _ (field (.ref it) 0 >>= _) _ _ s) (F.args_tuple_iterator_next_1 _)));refine ae (eD e d (x:= .ref a) rfl (?_:wpAny (model prog w) _ (if (Value.ref a==Value.none)=true then _ else _) _ _ s));rw[aw (by exact az)];show wpAny (model prog w) _ (field (.ref it) 1 >>= _) _ _ s;refine ae (eD e d (x:= .int i 0) rfl ?_);show wpAny (model prog w) _ (seqItems? (.ref a) >>= _) _ _ s;refine ae (wpAny_seqItems eu du ?_);simp only [aR,hx];refine ae (di (ae (wpAny_setField e d Ad (?_:wpAny (model prog w) _ (newExc (.type "StopIteration") [] >>= _) _ _ _))));refine ae (by
   simp only [newExc,newTuple];refine ae (dh (ae (m:=firstArgMember _ _) (wpAny_of_eq (a:=Value.none) (by first | rfl | (simp only [firstArgMember]; rfl)) (dh ?_ (by size_fits)))) (by size_fits));simp only [raiseNew];refine ae (wpAny_handled ?_)
   first | rw[show A.in1.handled=none from hh] | rw[hh]
   exact ae (am (wpAny_throw (k _ _ (((ik ..).extBut.push _).push _) ⟨_,aC _ rfl,rfl⟩))))
end
def iterO (tp:Bool)(a:Addr):Obj:=match tp with
 | false=> { cls:= .type "list_iterator",data:= .fields #[.ref a, .int 0 0]}
 | true=> { cls:= .type "tuple_iterator",data:= .fields #[.ref a, .int 0 0]}
theorem jML (tp:Bool)(a:Addr):(iterO tp a).isFreed=false:=by cases tp <;> rfl
theorem jGB {prog:Program}{w:World}{A:Around}{E:Ah}{s:Shared}{tp:Bool}{a:Addr}{xs:An}{Q:Ah}(h:ObAt tp s.heap a xs)(q:Q (.ref s.heap.objs.size) { s with heap:=s.heap.push (iterO tp a)}):
  wpAny (model prog w) A (pyIter (.ref a)) Q E s:=by
 cases tp with
 | false=>exact df h q
 | true=>exact wpAny_pyIter_tuple h q
theorem ItAt.new (tp:Bool){h:Heap}{it a:Addr}(e:h.get? it=some (iterO tp a)):ItAt tp h it a 0:=by
 cases tp with
 | false=>exact⟨_,e,rfl,rfl⟩
 | true=>exact⟨_,e,rfl,rfl⟩
def Sq (tp:Bool)(K:W.Frag)(H:Hp)(a:Addr)(xs:List V):Prop:=match tp with
 | false=>SqL K H a xs
 | true=>SqT K H a xs
theorem Inv.sq {X:Cx}{lK:Ai}{σ:St}{H:Hp}{s:Shared}{tp:Bool}{a:Addr}{xs:List V}(I:Inv X lK σ H s)(h:Sq tp X.K H a xs):∃ its:Al,Vals xs its/\ObAt tp s.heap a its.toArray/\xs.length<=sizeLine:=by
 cases tp with
 | false=>
  obtain⟨its,r,p,z⟩:=I.list h;exact⟨its,r,p.isList,z⟩
 | true=>exact I.tuple h
theorem Inv.sq_inj {X:Cx}{lK:Ai}{σ:St}{H:Hp}{s:Shared}{tp:Bool}{a:Addr}{xs ys:List V}(I:Inv X lK σ H s)(h:Sq tp X.K H a xs)(h':Sq tp X.K H a ys):xs=ys:=by
 cases tp with
 | false=>exact I.list_inj h h'
 | true=>exact I.tuple_inj h h'
structure JE (X:Cx)(e:Expr)(t:TE):Prop where
 h:PE X e t
structure JA (X:Cx)(es:List Expr)(t:TA):Prop where
 h:PA X es t
structure JT (X:Cx)(e:Expr)(t:TT):Prop where
 h:PT X e t
structure JTs (X:Cx)(e:List Expr)(t:TT):Prop where
 h:PTs X e t
structure JS (X:Cx)(e:Stmt)(t:TS):Prop where
 h:PS X e t
structure JSs (X:Cx)(e:List Stmt)(t:TS):Prop where
 h:PSs X e t
structure JG (X:Cx)(e:Expr)(t:TG):Prop where
 h:PG X e t
structure JGs (X:Cx)(e:List Expr)(t:TGs):Prop where
 h:PGs X e t
structure JI (X:Cx)(tg e:Expr)(t:TI):Prop where
 h:PI X tg e t
structure JO (X:Cx)(e:Option Expr)(t:TO):Prop where
 h:PO X e t
structure Loc1 (X:Cx)(x:Str):Prop where
 a:Loc X.env.scope x
 b:X.fn x=true\/X.env.scope.names.lookup x=some .local
structure Vis1 (X:Cx)(x:Str):Prop where
 a:Vis X.env.scope x
structure Gl1 (X:Cx)(x:Str):Prop where
 a:Gl X x
section
variable {o:Option Expr}{l:Nat}
structure SwOk (e:Expr)(o:Option Expr):Prop where
 h:∀ l env,swapsWith e o l env=pure false
theorem jKF {op:Operator} :SwOk (.BinOp a op b pos) o:=⟨fun _ _=>rfl⟩
theorem kE {kw:List Keyword} :SwOk (.Call a xs kw pos) o:=⟨fun _ _=>rfl⟩
theorem jKD:SwOk (.Subscript a b pos) o:=⟨fun _ _=>rfl⟩
theorem jSN {x1} :SwOk (.Tuple xs x1 pos) o:=⟨fun _ _=>rfl⟩
theorem jEE:SwOk (.List xs pos) o:=⟨fun _ _=>rfl⟩
theorem jKE {c k} :SwOk (.Constant c k pos) o:=⟨fun _ _=>rfl⟩
theorem jSR {op:Operator} :jB5 (.BinOp a op b pos):=fun _ _=>rfl
theorem jTV {kw:List Keyword} :jB5 (.Call a xs kw pos):=fun _ _=>rfl
theorem jF {i:Int}{k} :jB5 (.Constant (.int i) k pos):=fun _ _=>rfl
theorem jAY {x:Str} :jB5 (.Name x pos):=fun _ _=>rfl
theorem jW6:jB5 (.Subscript a b pos):=fun _ _=>rfl
structure FoOk (iter:Expr):Prop where
 h:∀ env x,foldedSetIterable iter env x=pure x
theorem kP {kw:List Keyword} :FoOk (.Call a xs kw pos):=⟨fun _ _=>rfl⟩
theorem y9 {x:Str} :FoOk (.Name x pos):=⟨fun _ _=>rfl⟩
theorem jT7:FoOk (.Subscript a b pos):=⟨fun _ _=>rfl⟩
structure TvOk (e:Expr):Prop where
 h:∀ env whole,isTrue e env whole=(do let v <- whole; standAt e.pos; holding [v] (truthy v))
theorem yM {kw:List Keyword} :TvOk (.Call a xs kw pos):=⟨fun _ _=>rfl⟩
end
variable {te:TE}{x:Str}
section
variable {e o:Expr}{ta tb to:TE}{t:TA}{p cpos apos:Pos}{T:String}{id:String}
theorem jv (i:Nat)(hN:X.N[i]?=some x)(hv:Vis1 X x)(hd:(x==("__debug__" :Str))=false:=by decide)(hcd:(x==("__classdict__" :Str))=false:=by decide):JE X (.Name x pos) (tVar i):=⟨jHU hN hv.a hd hcd⟩
theorem je_int {i j} :JE X (.Constant (.int i) j pos) (tC (.int i)):=⟨jS⟩
theorem je_bl {i j} :JE X (.Constant (.bool i) j pos) (tC (.bl i)):=⟨pe_bl⟩
theorem jFT {j} :JE X (.Constant .none j pos) (tC .non):=⟨jWK⟩
theorem jGU {v:V}{u:Value}(hg:Gl1 X x)(hm:X.mg x=none)(hv:bootBuiltins x=some u)(r:RelV v u)(hn:x≠ "__name__" :=by decide)(hd:(x==("__debug__" :Str))=false:=by decide):JE X (.Name x pos) (tC v):=⟨jUI hg.a hm hv r hn hd⟩
theorem kX {op:Operator}{r:R2}(ho:OpR X (binaryOp op) r)(ha:JE X a ta)(hb:JE X b tb):JE X (.BinOp a op b pos) (tOp r ta tb):=⟨kR ho ha.h hb.h⟩
theorem je_un {op:UnaryOp}{r:V->Hp->VK->Prop}(ho:UnR X (unaryOp op) r)(ha:JE X a ta):JE X (.UnaryOp op a pos) (tUn r ta):=⟨pe_un ho ha.h⟩
theorem jXF (ha:JE X a ta):JE X (.UnaryOp .Not a pos) (tNotV ta):=⟨jWJ ha.h⟩
theorem yO {op:CmpOp}{r:R2}(ho:OpR X (compareOp op) r)(ha:JE X a ta)(hb:JE X b tb)(hm:behindInMarks op b=false):JE X (.Compare a [op] [b] pos) (tOp r ta tb):=⟨jUF ho ha.h hb.h hm⟩
theorem jPA {rest:List Expr}(ha:JE X a ta)(hb:JE X (.BoolOp .And (b::rest) pos) tb):JE X (.BoolOp .And (a::b::rest) pos) (tAndV ta tb):=⟨jWO ha.h hb.h⟩
theorem je_or {rest:List Expr}(ha:JE X a ta)(hb:JE X (.BoolOp .Or (b::rest) pos) tb):JE X (.BoolOp .Or (a::b::rest) pos) (tOrV ta tb):=⟨pe_or ha.h hb.h⟩
theorem jI8 {op}(ha:JE X a ta):JE X (.BoolOp op [a] pos) ta:=⟨jWI ha.h⟩
theorem jP3 (h:JA X es t):JE X (.List es pos) (tLst t):=⟨jKR h.h⟩
theorem jLA {x1}(h:JA X es t):JE X (.Tuple es x1 pos) (tTup t):=⟨jWH h.h⟩
theorem jGS {lo hi:Option Expr}{tl th:TO}{r:V->Option Int->Option Int->Hp->VK->Prop}(hr:SlR X r)(he:JE X e te)(hl:JO X lo tl)(hu:JO X hi th):JE X (.Subscript e (.Slice lo hi none p2) pos) (tSl r te tl th):=⟨jR0 hr he.h hl.h hu.h⟩
theorem jM {r:R2}(hr:IxR X r)(ha:JE X a ta)(hb:JE X b tb)(hs:jB5 b):JE X (.Subscript a b pos) (tOp r ta tb):=⟨pe_ix hr ha.h hb.h hs⟩
theorem jW {T}{r:List V->Hp->VK->Prop}(hc:yR X (.type T) r)(hg:Gl1 X x)(hm:X.mg x=none)(hv:bootBuiltins x=some (.type T))(ha:JA X (e::es) t)(he:starEach (e::es) X.env=(false,eval e X.env)::starEach es X.env)(hn:x≠ "__name__" :=by decide)(hdb:(x==("__debug__" :Str))=false:=by decide)
  (hpl:(backTo pos (starEach es X.env)).any (·.1)=false:=by rfl):JE X (.Call (.Name x p) (e::es) [] pos) (tCB r t):=⟨jCY hc hg.a hm hv ha.h hn hdb he hpl⟩
theorem jG {id}{r:List V->Hp->VK->Prop}(hc:yR X (.builtin id) r)(hg:Gl1 X x)(hm:X.mg x=none)(hv:bootBuiltins x=some (.builtin id))(ha:JA X (e::es) t)(he:starEach (e::es) X.env=(false,eval e X.env)::starEach es X.env)(hn:x≠ "__name__" :=by decide)(hdb:(x==("__debug__" :Str))=false:=by decide)
  (hpl:(backTo pos (starEach es X.env)).any (·.1)=false:=by rfl):JE X (.Call (.Name x p) (e::es) [] pos) (tCB r t):=⟨jGF hc hg.a hm hv ha.h hn hdb he hpl⟩
theorem j6:JA X [] tNil:=⟨yQ⟩
theorem j3 (ha:JE X e te)(hr:JA X es t)(hs:starEach (e::es) X.env=(false,eval e X.env)::starEach es X.env):JA X (e::es) (tCons te t):=⟨kI ha.h hr.h hs⟩
theorem jY {op:CmpOp}{r:R2}(ho:OpR X (compareOp op) r)(ha:JE X a ta)(hb:JE X b tb)(hm:behindInMarks op b=false):JT X (.Compare a [op] [b] pos) (tTest (tOp r ta tb)):=⟨jEF ho ha.h hb.h hm⟩
theorem qE (h:JE X e te)(he:TvOk e):JT X e (tB te):=⟨jW9 h.h (he.h _)⟩
theorem qF {tA:TT}(ha:JT X a tA):JT X (.UnaryOp .Not a pos) (tNot tA):=⟨jWA ha.h⟩
theorem kJ:JTs X [] yB:=⟨jNJ⟩
theorem jEZ {t:TT}(h:JT X e t):JTs X [e] t:=⟨jNI h.h⟩
theorem jJ {i:Nat}(hN:X.N.Nodup)(hi:X.N[i]?=some x)(hx:Loc1 X x):JG X (.Name x pos) (kL i):=⟨jGE hN hi hx.a hx.b⟩
theorem jA5 {tg:Expr}(hg:Gl1 X "range")(hm:X.mg "range" =none)(ha:JA X [a] t)(hs:starEach [a] X.env=(false,eval a X.env)::starEach [] X.env):JI X tg (.Call (.Name "range" p) [a] [] pos) (iRng1 t):=⟨jCX hg.a hm ha.h hs⟩
theorem yN {tg:Expr}(hl:JE X a ta):JI X tg a (iList X.K ta):=⟨jU7 hl.h⟩
theorem qG {tg:Expr}(hl:JE X a ta):JI X tg a (iTup X.K ta):=⟨jWE hl.h⟩
theorem jJQ:JO X none jN5:=⟨jU3⟩
theorem jJP (h:JE X e te):JO X (some e) (tPart te):=⟨jU2 h.h⟩
theorem jU {i:Nat}{pos':Pos}(hN:X.N.Nodup)(hi:X.N[i]?=some x)(hx:Loc1 X x)(he:JE X e te)(hs:SwOk e (some (.Name x pos'))):JS X (.Assign [.Name x pos'] e pos) (tAsg te (kL i)):=⟨qL hN hi hx.a he.h (hs.h _ _) hx.b⟩
theorem jL (he:JE X e te):JS X (.Return (some e) pos) (tRet te):=⟨jDU he.h⟩
theorem jDI (he:JE X e te)(hs:SwOk e none):JS X (.Expr e pos) (tDrop te):=⟨jTZ he.h (hs.h _ _)⟩
theorem kB:JSs X [] tNext:=⟨jGD⟩
theorem jC {st:Stmt}{t:TS}(h1:JS X st t):JSs X [st] t:=⟨jAZ h1.h⟩
theorem jB {st:Stmt}{rest:List Stmt}{t u:TS}(h1:JS X st t)(h2:JSs X rest u):JSs X (st::rest) (tSeq t u):=⟨kW h1.h h2.h⟩
theorem y8 {c:Expr}{a b:List Stmt}{tc:TT}{t u:TS}(hc:JT X c tc)(ha:JSs X a t)(hb:JSs X b u):JS X (.If c a b pos) (tIfS tc t u):=⟨ps_if hc.h ha.h hb.h⟩
theorem jCA {tg iter:Expr}{body:List Stmt}{wi:TI}{g:TG}{tb:TS}(hp:PassesOwn (model X.prog X.w) X.A X.env X.xe)(hc:X.calm=true)(hi:JI X tg iter wi)(hg:JG X tg g)(hb:JSs X body tb)(hs:FoOk iter):JS X (.For tg iter body [] pos) (tFor wi g tb):=⟨jST hp hc hi.h hg.h hb.h (hs.h _)⟩
theorem je_bm {T:String}{name:Str}{r}(pa:PlainAttrs T)(slot:Slot T name id)(hty:typeOf (.builtin id)=pure (.type "method_descriptor"))(hm:MtR X id r)(ho:JE X o to)(ha:JA X (e::es) t)
  (hs:starEach (e::es) X.env=(false,eval e X.env)::starEach es X.env)
  (hbase:attributeBase o name X.env (eval o X.env)=eval o X.env:=by rfl)
  (hfew:((backTo cpos (starEach (e::es) X.env)).all (fun x=>!x.1)&&(backToKw cpos (keywordEach [] X.env)).all (fun x=>x.1.isSome)
   &&decide ((e::es).length+([]:List Keyword).length+(if ([]:List Keyword).isEmpty then 0 else 1)<30))=true:=by rfl)
  (hline:(apos.endLine==cpos.line)=true:=by rfl) (hplain:(backTo cpos (starEach es X.env)).any (·.1)=false:=by rfl):
  JE X (.Call (.Attribute o name apos) (e::es) [] cpos) (tBM X.K T r to t):=⟨pe_bm pa slot hty hm ho.h ha.h hbase hfew hline hs hplain⟩
theorem jP8 {name:Str}{r}(slot:Slot "tuple" name id)(hty:typeOf (.builtin id)=pure (.type "method_descriptor"))(hm:MtM X id r)(ho:JE X o to)(ha:JA X (e::es) t)
  (hs:starEach (e::es) X.env=(false,eval e X.env)::starEach es X.env)
  (hbase:attributeBase o name X.env (eval o X.env)=eval o X.env:=by rfl)
  (hfew:((backTo cpos (starEach (e::es) X.env)).all (fun x=>!x.1)&&(backToKw cpos (keywordEach [] X.env)).all (fun x=>x.1.isSome)
   &&decide ((e::es).length+([]:List Keyword).length+(if ([]:List Keyword).isEmpty then 0 else 1)<30))=true:=by rfl)
  (hline:(apos.endLine==cpos.line)=true:=by rfl) (hplain:(backTo cpos (starEach es X.env)).any (·.1)=false:=by rfl):
  JE X (.Call (.Attribute o name apos) (e::es) [] cpos) (tBMT r to t):=⟨jWL slot hty hm ho.h ha.h hbase hfew hline hs hplain⟩
theorem kG {tg iter elt:Expr}{ifs:List Expr}{sc:Scope}{wi:TI}{g:TG}{tt:TT}{m:List (Option Nat)}{Nc:Am}(hc:X.calm=true)(hi:JI X tg iter wi)(hkind:sc.kind= .function)(hcell:∀ y∈sc.names,y.2≠ .cell)(hnames:∀ y∈sc.names,y.2= .local->sc.names.lookup y.1=some .local)
  (hfree:∀ y∈sc.names,y.2= .free->X.env.scope.names.lookup y.1=some .cell\/X.env.scope.names.lookup y.1=some .free) (hm:jCC X sc Nc m)
  (hg:∀ cl C fp s H,JG (blk X sc cl C Nc fp s H) tg g) (ht:∀ cl C fp s H,JTs (blk X sc cl C Nc fp s H) ifs tt) (he:∀ cl C fp s H,JE (blk X sc cl C Nc fp s H) elt te)
  (hs:FoOk iter):JE X (.ListComp elt [⟨tg,iter,ifs,0⟩] sc pos) (tComp m wi g tt te):=⟨jJA hc hi.h hkind hcell hnames hfree hm (fun cl C fp s H=>(hg cl C fp s H).h) (fun cl C fp s H=>(ht cl C fp s H).h) (fun cl C fp s H=>(he cl C fp s H).h) (hs.h _)⟩
theorem jXH {p1 p2 p3 p4 p5 p6 p7:Pos}{k1 k2 k3 k4:Nat} :JE X (.BinOp (.BinOp (.Constant (.int 2) k1 p1) .Mult (.BinOp (.Constant (.int 10) k2 p2) .Pow (.Constant (.int 12) k3 p3) p4) p5) .Add (.Constant (.int 1) k4 p6) p7) (tC (.int 2000000000001)):=⟨jWN⟩
end
variable {P:Program}{mg:Ak}{Aq:Heap}{N:Am}{qual:Str}{sc:Scope}{f:Addr}{lM:Value}{Ap:List Env}{H:Hp}{E:XK}
section
variable {K:W.Frag}
theorem gl_d (h:sc.names.lookup x=some .globalImplicit):Gl1 (cxOf CX0 P w K mg Aq N qual sc f lM A Ap s H E).nox x:=⟨h⟩
theorem gD (h:sc.names.lookup x=some .globalImplicit:=by decide+kernel):Gl1 (cxOf CX0 P w K mg Aq N qual sc f lM A Ap s H E).nox x:=gl_d h
theorem vis_l (h:sc.names.lookup x=some .local):Vis1 (cxOf CX0 P w K mg Aq N qual sc f lM A Ap s H E).nox x:=⟨.inl h⟩
theorem vL (h:sc.names.lookup x=some .local:=by decide+kernel):Vis1 (cxOf CX0 P w K mg Aq N qual sc f lM A Ap s H E).nox x:=vis_l h
theorem vis_c (h:sc.names.lookup x=some .cell):Vis1 (cxOf CX0 P w K mg Aq N qual sc f lM A Ap s H E).nox x:=⟨.inr (.inl h)⟩
theorem vC (h:sc.names.lookup x=some .cell:=by decide+kernel):Vis1 (cxOf CX0 P w K mg Aq N qual sc f lM A Ap s H E).nox x:=vis_c h
end
theorem jAG {env:Env}{x:Str}{k:NameKind}(hk:k≠ .free):∀ {l:List (Str×NameKind)},l.lookup x=some k->
  (l.map fun (n,k)=>if (k==NameKind.free&&env.scope.kind== .function&&env.kindOf n==some .cell) then (n,NameKind.cell) else (n,k)).lookup x=some k
 | [],h=>by cases h
 | (n,k')::r,h=>by
  have ih:= @jAG env x k hk r;rw[bJ] at h;rw[bf];dsimp only;by_cases hb:(k'==NameKind.free&&env.scope.kind== .function&&env.kindOf n==some .cell)=true
  ·rw[ay hb,bJ];cases hx:x==n with
   | true=>
    rw[hx] at h;have e:k'=k:=bw h;simp only [bD] at hb;exact absurd (e.symm.trans (eq_of_beq hb.1.1)) hk
   | false=>rw[hx] at h; exact ih h
  ·rw[aw hb,bJ];cases hx:x==n with
   | true=>rw[hx] at h; exact h
   | false=>rw[hx] at h; exact ih h
variable {cl:Aj}{C:Addr}{Nc:Am}{fp:List Addr}
theorem gl_b (h:sc.names.lookup x=some .globalImplicit:=by decide+kernel):Gl1 (blk X sc cl C Nc fp s H) x:=⟨jAG Ac h⟩
theorem jP (h:sc.names.lookup x=some .local:=by decide+kernel):Vis1 (blk X sc cl C Nc fp s H) x:=⟨.inl (jAG Ac h)⟩
theorem kN (h:sc.names.lookup x=some .free:=by decide+kernel):Vis1 (blk X sc cl C Nc fp s H) x:=⟨.inr (jC3 h)⟩
theorem yC (h:sc.names.lookup x=some .local:=by decide+kernel):Loc1 (blk X sc cl C Nc fp s H) x:=⟨.inl (jAG Ac h), .inr (jAG Ac h)⟩
section
variable {K:W.Frag}
theorem loc_l (h:sc.names.lookup x=some .local):Loc1 (cxOf CX0 P w K mg Aq N qual sc f lM A Ap s H E).nox x:=⟨.inl h, .inl rfl⟩
theorem lL (h:sc.names.lookup x=some .local:=by decide+kernel):Loc1 (cxOf CX0 P w K mg Aq N qual sc f lM A Ap s H E).nox x:=loc_l h
theorem loc_c (h:sc.names.lookup x=some .cell:=by decide+kernel):Loc1 (cxOf CX0 P w K mg Aq N qual sc f lM A Ap s H E).nox x:=⟨.inr h, .inl rfl⟩
end
structure JW (X:Cx)(e:Expr)(t:TT):Prop where
 h:PW X e t
section
variable {rest:List Expr}{tA tB':TT}
theorem jOY (ha:JT X a tA):JW X (.BoolOp .And [a] pos) tA:=⟨jTW ha.h⟩
theorem jOX (ha:JT X a tA):JW X (.BoolOp .Or [a] pos) tA:=⟨jW7 ha.h⟩
theorem jT4 (ha:JT X a tA)(hb:JW X (.BoolOp .And (b::rest) pos) tB'):JW X (.BoolOp .And (a::b::rest) pos) (tAnd tA tB'):=⟨jW8 ha.h hb.h⟩
theorem jw_or (ha:JT X a tA)(hb:JW X (.BoolOp .Or (b::rest) pos) tB'):JW X (.BoolOp .Or (a::b::rest) pos) (tOr tA tB'):=⟨pw_or ha.h hb.h⟩
theorem jt_w (h:JW X a tA):JT X a tA:=⟨h.h.pt⟩
theorem jJS:JGs X [] gNil:=⟨jU9⟩
structure AsOk (e:Expr):Prop where
 h:∀ es env,assignEach (e::es) env=(false,assign e env)::assignEach es env
theorem jDO {x:Str} :AsOk (.Name x pos):=⟨fun _ _=>rfl⟩
theorem jC1 {e:Expr}{es:List Expr}{t:TG}{u:TGs}(h1:JG X e t)(h2:JGs X es u)(hs:AsOk e):JGs X (e::es) (gCons t u):=⟨jQY h1.h h2.h (by rw[hs.h]; rfl)⟩
theorem jP2 {es:List Expr}{k:Nat}{t:TGs}{n:Nat}(hc:X.calm=true)(h:JGs X es t)(hn:(assignEach es X.env).length=n:=by rfl)(hst:(assignEach es X.env).findIdx? (·.1)=none:=by rfl):JG X (.Tuple es k pos) (gTup X.K n t):=⟨jWF hc h.h hn hst⟩
theorem jGH {op:CmpOp}{x:Str} :behindInMarks op (.Name x pos)=false:=by cases op <;> rfl
end
theorem jD3 {X:Cx}{sc:Scope}{cl:Aj}{C:Addr}{Nc:Am}{fp:List Addr}{s:Shared}{H:Hp}{x y:Str}{p1 p2 pos:Pos}{k:Nat}{i j:Nat}(hc:X.calm=true)(hN:Nc.Nodup)(hi:Nc[i]?=some x)(hj:Nc[j]?=some y)(hx:sc.names.lookup x=some .local)(hy:sc.names.lookup y=some .local):
  JG (blk X sc cl C Nc fp s H) (.Tuple [.Name x p1, .Name y p2] k pos) (gTup X.K 2 (gCons (kL i) (gCons (kL j) gNil))):=
 jP2 (X:=blk X sc cl C Nc fp s H) hc (jC1 (jJ hN hi (yC hx)) (jC1 (jJ hN hj (yC hy)) jJS jDO) jDO)
variable {m:List (Option Nat)}{g:TG}{tt:TT}{H1:Hp}{Q:VK}
section
variable {K:W.Frag}{σ:St}
end
theorem jEM:OpR (blk X sc cl C Nc fp s H) (compareOp .In) (rIn X.K false):=jEL
theorem kY:IxR (blk X sc cl C Nc fp s H) (rIxT X.K):=jQ
def Ext (H H':Hp):Prop:=∀ b o,H b=some o->H' b=some o
theorem Ext.refl (H:Hp):Ext H H:=fun _ _ h=>h
theorem Ext.trans {H H1 H2:Hp}(a:Ext H H1)(b:Ext H1 H2):Ext H H2:=fun c o h=>b c o (a c o h)
theorem Ext.new {H H1:Hp}{l:Addr}(a:Ext H H1)(hl:H1 l=none)(o:HO):Ext H (upd H1 l o):=fun c u h=>by
 have:=a c u h;rw[j9 (jA this hl)];exact this
theorem Ext.updNew {H H1:Hp}{l:Addr}(a:Ext H H1)(hl:H l=none)(o:HO):Ext H (upd H1 l o):=fun c u h=>by
 rw[j9 (jA h hl)];exact a c u h
def TupR (H:Hp)(xs:List V)(Q:VK):Prop:=∀ r H',H' r=some (.tup xs)->Ext H H'->Q (.ref r) H'
theorem TupR.new {H:Hp}{xs:List V}{Q:VK}(q:TupR H xs Q){p:Addr}(hp:H p=none):Q (.ref p) (upd H p (.tup xs)):=q p _ j5 ((Ext.refl H).new hp _)
theorem TupR.old {H:Hp}{xs:List V}{Q:VK}(q:TupR H xs Q){p:Addr}(hp:H p=some (.tup xs)):Q (.ref p) H:=q p H hp (Ext.refl H)
def rCatU:R2:=fun x y H Q=>∃ a b xs ys,x= .ref a/\y= .ref b/\H a=some (.tup xs)/\H b=some (.tup ys)/\xs.length+ys.length<=sizeLine/\TupR H (xs++ys) Q
theorem jJD:OpR X (binaryOp .Add) rCatU:=by
 intro lK s σ H x y v u Q I rx ry h;obtain⟨a,b,xs,ys,rfl,rfl,ha,hb,hz,q⟩:=h;by_cases hx:xs=[]
 ·subst hx;cases rx;cases ry;obtain⟨_,its,r1,n1,e1⟩:=I.hok a _ ha;obtain⟨_,its2,r2,n2,e2⟩:=I.hok b _ hb;cases r1;exact concat_meets ⟨_,e1,rfl⟩ ⟨_,e2,rfl⟩ i9 seq_tuple_add gy gu (ga _ _) (AutoSeq1.tuple___add___tuple_tuple_0 a _ n1 b its2.toArray n2 Ad) ⟨e1,e2, .ref b,H,I,rfl,q.old hb⟩
 ·refine jUK lK s σ H _ _ v u Q I rx ry ⟨a,b,xs,ys,rfl,rfl,SqT.of ha,SqT.of hb,hx,hz,fun e=>?_,fun _ p hp=>q.new hp⟩;subst e;rw[bg] at q;exact q.old ha
section
variable (l:Addr)(items:An)(n:Nat)(x:Int)(u:Tok)(h1:¬ (decide (x< -(2 ^ 63)) || decide (x ≥ 2 ^ 63))=true)
include h1
end
theorem Inv.big' {lK:Ai}{σ:St}{H:Hp}{s:Shared}(I:Inv X lK σ H s):sysModules<s.heap.objs.size:=eY Ac (I.mod.glob.keeps I.bk).lt
def jVY:TE:=fun _ H Q=>∀ p,H p=none->Q (.ref p) (upd H p (.dK []))
theorem jRR {pos:Pos} :JE X (.Dict [] [] pos) jVY:=⟨fun lK s σ H Q I h=>
 wpAny_Dict_empty ⟨.ref s.heap.objs.size,_,I.laid (a:=s.heap.objs.size) (o:= .dK []) (t':=s.toks) (fun _ _ q=>ah _ q) (aA _)
  ⟨bo _,cm.mpr (eh (aW I.big')),[], .nil,ju s.heap⟩,rfl,h _ (I.hok.fresh (aA _))⟩⟩
theorem jV6 {x:Str}{v:V}{u:Value}{pos:Pos}(hg:Gl1 X x)(hm:X.mg x=some u)(r:RelV v u)(hd:(x==("__debug__" :Str))=false:=by decide):JE X (.Name x pos) (tC v):=⟨jUA hg.a hm r hd⟩
theorem jP1 {tg a b:Expr}{t:TA}{p pos:Pos}(hg:Gl1 X "range")(hm:X.mg "range" =none)(ha:JA X [a,b] t)(hs:starEach [a,b] X.env=(false,eval a X.env)::starEach [b] X.env)(hs2:starEach [b] X.env=(false,eval b X.env)::starEach [] X.env):
  JI X tg (.Call (.Name "range" p) [a,b] [] pos) (iRng2 t):=⟨jNP hg.a hm ha.h (by rw[hs,hs2]; rfl) hs2⟩
section
variable {K:W.Frag}{σ:St}
theorem jB3 {a:Addr}{xs:List V}(hn:xs.length<sizeLine)(Pv:Addr->Nat->St->Hp->List V->Prop)(h0:∀ D,H1 D=none->Pv D 0 (blkσ m σ) (upd H1 D (.lst [])) [])
  (hD:∀ D i σ' H' zs,H1 D=none->Pv D i σ' H' zs->H' a=some (.tup xs)/\H' D=some (.lst zs)/\zs.length<=i)
  (hs:∀ D i σ' H' zs x,H1 D=none->xs[i]?=some x->Pv D i σ' H' zs->g x σ' H' fun σ2 H2=>tt σ2 H2 fun b H3=>if b=true then te σ2 H3 fun v H4=>H4 D=some (.lst zs)/\Pv D (i+1) σ2 (upd H4 D (.lst (zs++[v]))) (zs++[v]) else Pv D (i+1) σ2 H3 zs)
  (hd:∀ D σ' H' zs,H1 D=none->Pv D xs.length σ' H' zs->Q (.ref D) H'):qQ m g tt te σ Q (Itt K a) H1:=by
 intro D hDn;refine⟨fun i k σ' H' zs=>k=xs.length - i/\i<=xs.length/\Pv D i σ' H' zs,⟨_,rfl,bo _,h0 D hDn⟩,?_⟩;rintro i k σ' H' zs ⟨rfl,hi,p⟩;obtain⟨s1,q1,q2⟩:=hD D i σ' H' zs hDn p;refine⟨q1,Aa,?_⟩;by_cases hlt:i<xs.length
 ·refine .inr ⟨⟨xs,xs[i],SqT.of s1,by simp [hlt]⟩,Pv D (i+1),fun σ2 H2 zs z=>⟨xs.length - (i+1),Aa,rfl,hlt,z⟩,fun v H'' y=>?_⟩;obtain⟨e1,e2⟩:=y;subst e1;exact hs D i σ' _ zs v hDn (e2 xs (SqT.of s1)) p
 ·have e:i=xs.length:=Aa;subst e;exact .inl ⟨⟨xs,SqT.of s1,aA _⟩,hd D σ' H' zs hDn p⟩
end
inductive Tr where
 | non
 | bl (b:Bool)
 | int (i:Int)
 | str (x:Str)
 | lst (ts:List Tr)
 | tup (ts:List Tr)
mutual
def TAt (H:Hp):Tr->V->Prop
 | .non,v=>v= .non
 | .bl b,v=>v= .bl b
 | .int i,v=>v= .int i
 | .str x,v=>v= .str x
 | .lst ts,v=>∃ a vs,v= .ref a/\H a=some (.lst vs)/\TsAt H ts vs
 | .tup ts,v=>∃ a vs,v= .ref a/\H a=some (.tup vs)/\TsAt H ts vs
def TsAt (H:Hp):List Tr->List V->Prop
 | [],vs=>vs=[]
 | t::ts,vs=>∃ v r,vs=v::r/\TAt H t v/\TsAt H ts r
end
mutual
def dep:Tr->Nat
 | .lst ts=>deps ts+1
 | .tup ts=>deps ts+1
 | _=>0
def deps:List Tr->Nat
 | []=>0
 | t::ts=>max (dep t) (deps ts)
end
mutual
def eqT:Tr->Tr->Bool
 | .non, .non=>true
 | .bl a, .bl b=>a==b
 | .bl a, .int b=>(if a then 1 else 0)==b
 | .int a, .bl b=>a==(if b then 1 else 0)
 | .int a, .int b=>a==b
 | .str a, .str b=>a==b
 | .lst a, .lst b=>eqTs a b
 | .tup a, .tup b=>eqTs a b
 | _,_=>false
def eqTs:List Tr->List Tr->Bool
 | [],[]=>true
 | a::as,b::bs=>eqT a b&&eqTs as bs
 | _,_=>false
end
mutual
theorem jGY:∀ t:Tr,eqT t t=true
 | .non=>by simp [eqT]
 | .bl b=>by simp [eqT]
 | .int i=>by simp [eqT]
 | .str x=>by simp [eqT]
 | .lst ts=>by rw[eqT]; exact jBF ts
 | .tup ts=>by rw[eqT]; exact jBF ts
theorem jBF:∀ ts:List Tr,eqTs ts ts=true
 | []=>by simp [eqTs]
 | t::ts=>by rw[eqTs,jGY t,jBF ts]; rfl
end
mutual
theorem TAt.ext {H H':Hp}(e:Ext H H'):∀ {t:Tr}{v:V},TAt H t v->TAt H' t v
 | .non,_,h=>h
 | .bl _,_,h=>h
 | .int _,_,h=>h
 | .str _,_,h=>h
 | .lst ts,_,⟨a,vs,q,h,r⟩=>⟨a,vs,q,e _ _ h,TsAt.ext e r⟩
 | .tup ts,_,⟨a,vs,q,h,r⟩=>⟨a,vs,q,e _ _ h,TsAt.ext e r⟩
theorem TsAt.ext {H H':Hp}(e:Ext H H'):∀ {ts:List Tr}{vs:List V},TsAt H ts vs->TsAt H' ts vs
 | [],_,h=>h
 | t::ts,_,⟨v,r,q,h,s⟩=>⟨v,r,q,TAt.ext e h,TsAt.ext e s⟩
end
mutual
theorem TAt.inj {H:Hp} :∀ {t u:Tr}{v:V},TAt H t v->TAt H u v->t=u
 | .non,u,_,h,h'=>by
  cases (show _=V.non from h);cases u with
  | non=>rfl
  | bl b=>cases (show V.non=_ from h')
  | int b=>cases (show V.non=_ from h')
  | str b=>cases (show V.non=_ from h')
  | lst ts=>obtain⟨_,_,q,_⟩:=h'; cases q
  | tup ts=>obtain⟨_,_,q,_⟩:=h'; cases q
 | .bl b,u,_,h,h'=>by
  cases (show _=V.bl b from h);cases u with
  | non=>cases (show V.bl b=_ from h')
  | bl b=>cases (show V.bl _=V.bl b from h'); rfl
  | int i=>cases (show V.bl b=V.int i from h')
  | str i=>cases (show V.bl b=V.str i from h')
  | lst ts=>obtain⟨_,_,q,_⟩:=h'; cases q
  | tup ts=>obtain⟨_,_,q,_⟩:=h'; cases q
 | .int b,u,_,h,h'=>by
  cases (show _=V.int b from h);cases u with
  | non=>cases (show V.int b=_ from h')
  | bl i=>cases (show V.int b=V.bl i from h')
  | int b=>cases (show V.int _=V.int b from h'); rfl
  | str i=>cases (show V.int b=V.str i from h')
  | lst ts=>obtain⟨_,_,q,_⟩:=h'; cases q
  | tup ts=>obtain⟨_,_,q,_⟩:=h'; cases q
 | .str b,u,_,h,h'=>by
  cases (show _=V.str b from h);cases u with
  | non=>cases (show V.str b=_ from h')
  | bl i=>cases (show V.str b=V.bl i from h')
  | int i=>cases (show V.str b=V.int i from h')
  | str b=>cases (show V.str _=V.str b from h'); rfl
  | lst ts=>obtain⟨_,_,q,_⟩:=h'; cases q
  | tup ts=>obtain⟨_,_,q,_⟩:=h'; cases q
 | .lst ts,u,_,⟨a,vs,q,h,r⟩,h'=>by
  subst q;cases u with
  | non=>cases (show V.ref a=_ from h')
  | bl i=>cases (show V.ref a=V.bl i from h')
  | int i=>cases (show V.ref a=V.int i from h')
  | str i=>cases (show V.ref a=V.str i from h')
  | lst us=>
   obtain⟨a',vs',q',h2,r'⟩:=h';cases q';rw[h] at h2;cases h2;rw[TsAt.inj r r']
  | tup us=>
   obtain⟨a',vs',q',h2,r'⟩:=h';cases q';rw[h] at h2;cases h2
 | .tup ts,u,_,⟨a,vs,q,h,r⟩,h'=>by
  subst q;cases u with
  | non=>cases (show V.ref a=_ from h')
  | bl i=>cases (show V.ref a=V.bl i from h')
  | int i=>cases (show V.ref a=V.int i from h')
  | str i=>cases (show V.ref a=V.str i from h')
  | lst us=>
   obtain⟨a',vs',q',h2,r'⟩:=h';cases q';rw[h] at h2;cases h2
  | tup us=>
   obtain⟨a',vs',q',h2,r'⟩:=h';cases q';rw[h] at h2;cases h2;rw[TsAt.inj r r']
theorem TsAt.inj {H:Hp} :∀ {ts us:List Tr}{vs:List V},TsAt H ts vs->TsAt H us vs->ts=us
 | [],us,_,h,h'=>by
  cases (show _=[] from h);cases us with
  | nil=>rfl
  | cons u us=>obtain⟨_,_,q,_⟩:=h'; cases q
 | t::ts,us,_,⟨v,r,q,h,s⟩,h'=>by
  subst q;cases us with
  | nil=>cases (show v::r=[] from h')
  | cons u us=>
   obtain⟨v',r',q,h2,s2⟩:=h';cases q;rw[TAt.inj h h2,TsAt.inj s s2]
end
theorem TsAt.len {H:Hp} :∀ {ts:List Tr}{vs:List V},TsAt H ts vs->vs.length=ts.length
 | [],_,h=>by cases (show _=[] from h); rfl
 | t::ts,_,⟨v,r,q,_,s⟩=>by rw[q,aV,aV,TsAt.len s]
theorem TsAt.get {H:Hp} :∀ {ts:List Tr}{vs:List V},TsAt H ts vs->∀ {i:Nat}{v:V},vs[i]?=some v->∃ t,ts[i]?=some t/\TAt H t v
 | [],_,h,i,v,e=>by cases (show _=[] from h); cases e
 | t::ts,_,⟨v,r,q,h,s⟩,0,v',e=>by subst q; cases e; exact⟨t,rfl,h⟩
 | t::ts,_,⟨v,r,q,h,s⟩,i+1,v',e=>by subst q; exact TsAt.get s (i:=i) e
theorem jF6:∀ ts us:List Tr,eqTs ts us=((List.range (min ts.length us.length)).all (fun j=>eqT (ts.getD j .non) (us.getD j .non))&&ts.length==us.length)
 | [],[]=>by simp [eqTs]
 | [],u::us=>by simp [eqTs]
 | t::ts,[]=>by simp [eqTs]
 | t::ts,u::us=>by
  rw[eqTs,jF6 ts us,aV,aV,show min (ts.length+1) (us.length+1)=min ts.length us.length+1 by lia,List.range_succ_eq_map,fg,ix];have e:(ts.length+1==us.length+1)=(ts.length==us.length):=by
   rw[bZ];simp
  rw[e,Bool.and_assoc];rfl
theorem jJZ {ts:List Tr}{t:Tr}(h:t∈ts):dep t<=deps ts:=by
 induction ts with
 | nil=>cases h
 | cons a r ih=>
  rw[deps];rcases aE.mp h with q | q
  ·subst q; lia
  ·have:=ih q; lia
def flatT:Tr->Bool
 | .lst _=>false
 | .tup _=>false
 | _=>true
theorem jPP {H:Hp}{t:Tr}{x:V}(h:TAt H t x)(f:flatT t=true):qV x=true:=by
 cases t with
 | non=>cases (show x=_ from h); rfl
 | bl b=>cases (show x=V.bl b from h); rfl
 | int b=>cases (show x=V.int b from h); rfl
 | str b=>cases (show x=V.str b from h); rfl
 | lst ts=>cases f
 | tup ts=>cases f
theorem jVF {H:Hp}{t u:Tr}{x y:V}(h:TAt H t x)(h':TAt H u y)(f:flatT t=true)(f':flatT u=true):eqV x y=eqT t u:=by
 cases t with
 | non=>
  cases (show x=_ from h);cases u with
  | non=>cases (show y=_ from h'); simp [eqV,eqT]
  | bl b=>cases (show y=V.bl b from h'); simp [eqV,eqT]
  | int b=>cases (show y=V.int b from h'); simp [eqV,eqT]
  | str b=>cases (show y=V.str b from h'); simp [eqV,eqT]
  | lst ts=>cases f'
  | tup ts=>cases f'
 | bl c=>
  cases (show x=V.bl c from h);cases u with
  | non=>cases (show y=_ from h'); simp [eqV,eqT]
  | bl b=>cases (show y=V.bl b from h'); simp [eqV,eqT]
  | int b=>cases (show y=V.int b from h'); simp [eqV,eqT]
  | str b=>cases (show y=V.str b from h'); simp [eqV,eqT]
  | lst ts=>cases f'
  | tup ts=>cases f'
 | int c=>
  cases (show x=V.int c from h);cases u with
  | non=>cases (show y=_ from h'); simp [eqV,eqT]
  | bl b=>cases (show y=V.bl b from h'); simp [eqV,eqT]
  | int b=>cases (show y=V.int b from h'); simp [eqV,eqT]
  | str b=>cases (show y=V.str b from h'); simp [eqV,eqT]
  | lst ts=>cases f'
  | tup ts=>cases f'
 | str c=>
  cases (show x=V.str c from h);cases u with
  | non=>cases (show y=_ from h'); simp [eqV,eqT]
  | bl b=>cases (show y=V.bl b from h'); simp [eqV,eqT]
  | int b=>cases (show y=V.int b from h'); simp [eqV,eqT]
  | str b=>cases (show y=V.str b from h'); simp [eqV,eqT]
  | lst ts=>cases f'
  | tup ts=>cases f'
 | lst ts=>cases f
 | tup ts=>cases f
section
variable {lK:Ai}{σ:St}
theorem TsAt.both {ts us:List Tr}{vs ws:List V}{its its2:Al}(h1:TsAt H ts vs)(h2:TsAt H us ws)(r1:Vals vs its)(r2:Vals ws its2){j:Nat}(a1:j<its.toArray.size)(a2:j<its2.toArray.size):
  ∃ t u x y,ts.getD j .non=t/\us.getD j .non=u/\t∈ts/\TAt H t x/\TAt H u y/\RelV x its.toArray[j]/\RelV y its2.toArray[j]:=by
 have l1:=r1.length;have l2:=r2.length;rw[ar] at a1 a2;obtain⟨x,hx⟩:∃ x,vs[j]?=some x:=⟨vs[j]' Aa,by simp [show j<vs.length by lia]⟩;obtain⟨y,hy⟩:∃ y,ws[j]?=some y:=⟨ws[j]' Aa,by simp [show j<ws.length by lia]⟩;obtain⟨t,ht,hxt⟩:=h1.get hx;obtain⟨u,hu,hyu⟩:=h2.get hy;obtain⟨v,hv,rv⟩:=r1.get hx;obtain⟨w,hw,rw'⟩:=r2.get hy;have e1:its.toArray[j]=v:=by
  have:its[j]?=some its[j]:=by simp [a1]
  rw[hv] at this;simpa using (bw this).symm
 have e2:its2.toArray[j]=w:=by
  have:its2[j]?=some its2[j]:=by simp [a2]
  rw[hw] at this;simpa using (bw this).symm
 refine⟨t,u,x,y,by rw[aj,ht]; rfl,by rw[aj,hu]; rfl,aB ht,hxt,hyu,by rw[e1]; exact rv,by rw[e2]; exact rw'⟩
theorem jXM (I:Inv X lK σ H s):∀ (n:Nat) (t u:Tr) (x y:V) (vx vy:Value) (A:Around),dep t=n->TAt H t x->TAt H u y->RelV x vx->RelV y vy->A.units+n<cLine->SeqAt.EqAt A s vx vy (eqT t u):=by
 intro n
 induction n using strongRecOn with
 | ind n ih=>
  intro t u x y vx vy A hn ht hu rx ry hc;have hcu:A.units<cLine:=Aa;cases ft:flatT t with
  | true=>
   cases fu:flatT u with
   | true=>
    rw[<- jVF ht hu ft fu];exact jTB rx ry (jPP ht ft) (jPP hu fu)
   | false=>
    cases u with
    | lst us=>
     obtain⟨b,ws,rfl,hb,_⟩:=hu;cases ry;obtain⟨its,_,pl,_⟩:=I.list (SqL.of hb);cases t with
     | non=>cases (show x=_ from ht); cases rx; rw[show eqT .non (.lst us)=false by simp [eqT]]; exact .none_list pl.isList hcu
     | bl c=>cases (show x=V.bl c from ht); cases rx; rw[show eqT (.bl c) (.lst us)=false by simp [eqT]]; exact .bool_list c pl.isList hcu
     | int c=>cases (show x=V.int c from ht); obtain⟨k,rfl⟩:=rx; rw[show eqT (.int c) (.lst us)=false by simp [eqT]]; exact .int_list c k pl.isList hcu
     | str c=>cases (show x=V.str c from ht); obtain⟨k,rfl⟩:=rx; rw[show eqT (.str c) (.lst us)=false by simp [eqT]]; exact .str_list c k pl.isList hcu
     | lst ts=>cases ft
     | tup ts=>cases ft
    | tup us=>
     obtain⟨b,ws,rfl,hb,_⟩:=hu;cases ry;obtain⟨its,_,pl,_⟩:=I.tuple (SqT.of hb);cases t with
     | non=>cases (show x=_ from ht); cases rx; rw[show eqT .non (.tup us)=false by simp [eqT]]; exact .none_tuple pl hcu
     | bl c=>cases (show x=V.bl c from ht); cases rx; rw[show eqT (.bl c) (.tup us)=false by simp [eqT]]; exact .bool_tuple c pl hcu
     | int c=>cases (show x=V.int c from ht); obtain⟨k,rfl⟩:=rx; rw[show eqT (.int c) (.tup us)=false by simp [eqT]]; exact .int_tuple c k pl hcu
     | str c=>cases (show x=V.str c from ht); obtain⟨k,rfl⟩:=rx; rw[show eqT (.str c) (.tup us)=false by simp [eqT]]; exact .str_tuple c k pl hcu
     | lst ts=>cases ft
     | tup ts=>cases ft
    | non=>cases fu
    | bl c=>cases fu
    | int c=>cases fu
    | str c=>cases fu
  | false=>
   cases t with
   | non=>cases ft
   | bl c=>cases ft
   | int c=>cases ft
   | str c=>cases ft
   | lst ts=>
    have ht0:=ht;obtain⟨a,vs,rfl,ha,hts⟩:=ht;cases rx;obtain⟨its,r1,pl,_⟩:=I.list (SqL.of ha);cases u with
    | non=>cases (show y=_ from hu); cases ry; rw[show eqT (.lst ts) .non=false by simp [eqT]]; exact .list_none pl.isList hcu
    | bl c=>cases (show y=V.bl c from hu); cases ry; rw[show eqT (.lst ts) (.bl c)=false by simp [eqT]]; exact .list_bool c pl.isList hcu
    | int c=>cases (show y=V.int c from hu); obtain⟨k,rfl⟩:=ry; rw[show eqT (.lst ts) (.int c)=false by simp [eqT]]; exact .list_int c k pl.isList hcu
    | str c=>cases (show y=V.str c from hu); obtain⟨k,rfl⟩:=ry; rw[show eqT (.lst ts) (.str c)=false by simp [eqT]]; exact .list_str c k pl.isList hcu
    | tup us=>
     obtain⟨b,ws,rfl,hb,_⟩:=hu;cases ry;obtain⟨its2,_,pl2,_⟩:=I.tuple (SqT.of hb);rw[show eqT (.lst ts) (.tup us)=false by simp [eqT]];exact .list_tuple pl.isList pl2 hcu
    | lst us=>
     have hu0:=hu;obtain⟨b,ws,rfl,hb,hus⟩:=hu;cases ry;by_cases e:a=b
     ·subst e;rw[<- TAt.inj ht0 hu0,jGY];exact .same _
     ·obtain⟨its2,r2,pl2,_⟩:=I.list (SqL.of hb);refine .of_refs e ?_;have l1:=r1.length;have l2:=r2.length;have m1:=hts.len;have m2:=hus.len;rw[eqT,jF6];by_cases hl:ts.length=us.length
      ·have key:=SeqAt.RcAt.lists (e:=fun j=>eqT (ts.getD j .non) (us.getD j .non)) pl.isList pl2.isList (by rw[ar,ar]; lia) hcu fun j a1 a2=>by
        obtain⟨t',u',x',y',e1,e2,hm,q1,q2,q3,q4⟩:=TsAt.both hts hus r1 r2 a1 a2;rw[e1,e2];have hd:=jJZ hm;have hn':deps ts+1=n:=by rw[<- hn,dep]
        exact ih (dep t') Aa t' u' x' y' _ _ _ rfl q1 q2 q3 q4 (by rw[dE]; lia)
       have ez:its.toArray.size=min ts.length us.length:=by rw[ar]; lia
       rw[ez] at key;rw[show (ts.length==us.length)=true by simp [hl],Bool.and_true];exact key
      ·rw[show (ts.length==us.length)=false by simp [hl],dq];refine SeqAt.RcAt.lists_lengths pl.isList pl2.isList ?_ hcu;rw[ar,ar];simp;lia
   | tup ts=>
    have ht0:=ht;obtain⟨a,vs,rfl,ha,hts⟩:=ht;cases rx;obtain⟨its,r1,pl,_⟩:=I.tuple (SqT.of ha);cases u with
    | non=>cases (show y=_ from hu); cases ry; rw[show eqT (.tup ts) .non=false by simp [eqT]]; exact .tuple_none pl hcu
    | bl c=>cases (show y=V.bl c from hu); cases ry; rw[show eqT (.tup ts) (.bl c)=false by simp [eqT]]; exact .tuple_bool c pl hcu
    | int c=>cases (show y=V.int c from hu); obtain⟨k,rfl⟩:=ry; rw[show eqT (.tup ts) (.int c)=false by simp [eqT]]; exact .tuple_int c k pl hcu
    | str c=>cases (show y=V.str c from hu); obtain⟨k,rfl⟩:=ry; rw[show eqT (.tup ts) (.str c)=false by simp [eqT]]; exact .tuple_str c k pl hcu
    | lst us=>
     obtain⟨b,ws,rfl,hb,_⟩:=hu;cases ry;obtain⟨its2,_,pl2,_⟩:=I.list (SqL.of hb);rw[show eqT (.tup ts) (.lst us)=false by simp [eqT]];exact .tuple_list pl pl2.isList hcu
    | tup us=>
     have hu0:=hu;obtain⟨b,ws,rfl,hb,hus⟩:=hu;cases ry;by_cases e:a=b
     ·subst e;rw[<- TAt.inj ht0 hu0,jGY];exact .same _
     ·obtain⟨its2,r2,pl2,_⟩:=I.tuple (SqT.of hb);refine .of_refs e ?_;have l1:=r1.length;have l2:=r2.length;have m1:=hts.len;have m2:=hus.len;rw[eqT,jF6];have key:=SeqAt.RcAt.tuples (e:=fun j=>eqT (ts.getD j .non) (us.getD j .non)) pl pl2 hcu fun j a1 a2=>by
       obtain⟨t',u',x',y',e1,e2,hm,q1,q2,q3,q4⟩:=TsAt.both hts hus r1 r2 a1 a2;rw[e1,e2];have hd:=jJZ hm;have hn':deps ts+1=n:=by rw[<- hn,dep]
       exact ih (dep t') Aa t' u' x' y' _ _ _ rfl q1 q2 q3 q4 (by rw[dE]; lia)
      have z1:its.toArray.size=ts.length:=by rw[ar]; lia
      have z2:its2.toArray.size=us.length:=by rw[ar]; lia
      rw[z1,z2] at key;exact key
theorem jPC (I:Inv X lK σ H s){ts us:List Tr}{vs ws:List V}{its its2:Al}(h1:TsAt H ts vs)(h2:TsAt H us ws)(r1:Vals vs its)(r2:Vals ws its2){A:Around}(hc:A.units+deps ts<cLine):
  ∀ j (a1:j<its.toArray.size) (a2:j<its2.toArray.size),SeqAt.EqAt A s its.toArray[j] its2.toArray[j] (eqT (ts.getD j .non) (us.getD j .non)):=fun j a1 a2=>by
 obtain⟨t',u',x',y',e1,e2,hm,q1,q2,q3,q4⟩:=TsAt.both h1 h2 r1 r2 a1 a2;rw[e1,e2];have hd:=jJZ hm;exact jXM I (dep t') t' u' x' y' _ _ _ rfl q1 q2 q3 q4 Aa
theorem jUJ (hu:X.A.units+101<cLine):OpR X (compareOp .NotEq) (fun x y H Q=>∃ ts us,TAt H (.tup ts) x/\TAt H (.tup us) y/\deps ts<=100/\Q (.bl (!eqTs ts us)) H):=by
 intro lK s σ H x y v u Q I rx ry h;obtain⟨ts,us,⟨a,vs,rfl,ha,hts⟩,⟨b,ws,rfl,hb,hus⟩,hd,q⟩:=h;cases rx;cases ry;obtain⟨its,r1,p1,_⟩:=I.tuple (SqT.of ha);obtain⟨its2,r2,p2,_⟩:=I.tuple (SqT.of hb);have l1:=r1.length;have l2:=r2.length;have m1:=hts.len;have m2:=hus.len;refine SeqAt.RcNeAt.tuples (e:=fun j=>eqT (ts.getD j .non) (us.getD j .non)) p1 p2 Aa (jPC I hts hus r1 r2 (by rw[dE]; lia)) _ _ _ _ ⟨.bl _,H,I,rfl,?_⟩;have z1:its.toArray.size=ts.length:=by rw[ar]; lia
 have z2:its2.toArray.size=us.length:=by rw[ar]; lia
 rw[z1,z2,<- jF6];exact q
theorem jJC (hu:X.A.units+101<cLine):OpR X (compareOp .Eq) (fun x y H Q=>∃ ts us,TAt H (.lst ts) x/\TAt H (.lst us) y/\deps ts<=100/\Q (.bl (eqTs ts us)) H):=by
 intro lK s σ H x y v u Q I rx ry h;obtain⟨ts,us,⟨a,vs,rfl,ha,hts⟩,⟨b,ws,rfl,hb,hus⟩,hd,q⟩:=h;cases rx;cases ry;obtain⟨its,r1,p1,_⟩:=I.list (SqL.of ha);obtain⟨its2,r2,p2,_⟩:=I.list (SqL.of hb);have l1:=r1.length;have l2:=r2.length;have m1:=hts.len;have m2:=hus.len;rw[jF6] at q;by_cases hl:ts.length=us.length
 ·refine SeqAt.eq_listAt (e:=fun j=>eqT (ts.getD j .non) (us.getD j .non)) p1.isList p2.isList (by rw[ar,ar]; lia) Aa (jPC I hts hus r1 r2 (by rw[dE]; lia)) ⟨.bl _,H,I,rfl,?_⟩;have ez:its.toArray.size=min ts.length us.length:=by rw[ar]; lia
  rw[ez];rw[show (ts.length==us.length)=true by simp [hl],Bool.and_true] at q;exact q
 ·rw[show (ts.length==us.length)=false by simp [hl],dq] at q;refine SeqAt.eq_list_lengthsAt p1.isList p2.isList ?_ Aa ⟨.bl _,H,I,rfl,q⟩;rw[ar,ar];simp;lia
theorem Room.units101 {k:Nat}{A:Around}(r:Room k A):A.units+101<cLine:=by have:=r.un; lia
end
section
variable {tg iter elt:Expr}{ifs:List Expr}{wi:TI}
end
section
variable {sc2:Scope}{cl2:Aj}{C2:Addr}{Nc2:Am}{fp2:List Addr}{s2:Shared}{H2:Hp}
end
def jQQ:V->List V->Hp->VK->Prop:=fun x vs H Q=>∃ l b xs zs,x= .ref l/\vs=[.ref b]/\H l=some (.lst xs)/\H b=some (.tup zs)/\xs.length+zs.length<=sizeLine/\Q .non (upd H l (.lst (xs++zs)))
theorem jMA:MtM X "list.extend" jQQ:=by
 intro lK s σ H x vs v us Q I rx rv h;obtain⟨l,b,xs,zs,rfl,rfl,hH,hB,hz,q⟩:=h;cases rx;obtain⟨u,rfl,ru⟩:=rv.one;cases ru;obtain⟨z,its,n,r,hl,e⟩:=I.lstM hH;obtain⟨_,its2,r2,n2,e2⟩:=I.hok b _ hB;have hl2:=r2.length;have hsz:its.toArray.size+its2.toArray.size<=sizeLine:=by rw[ar,ar]; lia
 have hlong:¬ (!its.toArray.isEmpty&&Builtin.List.listTooLong (its.toArray.size+its2.toArray.size))=true:=by
  rw[jRB hsz,dq];exact az
 refine fm F.slot_list_extend ⟨_,e,rfl⟩ F.entry_list_extend (F.args_list_extend_2 _ _)
  (AutoSeq1.list_extend_list_tuple_0 l its.toArray n b its2.toArray n2 hlong (by rw[ar]; lia) Aa) ⟨e,e2,?_⟩
 refine⟨.non,_,I.lset (its':=its++its2) hH e Ad (r.append r2) ?_,rfl,q⟩;rw[aJ];lia
def jTT:V->List V->Hp->VK->Prop:=fun x vs H Q=>∃ p xs y,x= .ref p/\vs=[y]/\H p=some (.lst xs)/\qV y=true/\xs.all qV=true/\Q (.int ((xs.countP fun z=>eqV z y:Nat):Int)) H
theorem jHZ:MtM X "list.count" jTT:=by
 intro lK s σ H x vs v us Q I rx rv h;obtain⟨p,xs,y,rfl,rfl,hp,fy,fs,q⟩:=h;cases rx;obtain⟨u,rfl,ru⟩:=rv.one;obtain⟨z,its,n,r,hl,e0⟩:=I.lstM hp;refine fm F.slot_list_count ⟨_,e0,rfl⟩ F.entry_list_count (F.args_list_count_2 _ _) (SeqAt.list_countAt p its.toArray n none #[] u (eqU y)) ⟨e0,fun w hw=>jCZ ru fy r fs w (by simpa using hw),?_⟩;refine⟨.int _,H,I.tok _,⟨s.toks,rfl⟩,?_⟩;rw[show its.toArray.toList.countP (eqU y)=xs.countP (fun z=>eqV z y) from jFZ r fs];exact q
def rAny (K:W.Frag):List V->Hp->VK->Prop:=fun xs H Q=>∃ (p:Addr) (bs:List Bool),xs=[.ref p]/\SqL K H p (bs.map V.bl)/\Q (.bl (bs.any id)) H
theorem jFA (hc:X.calm=true):yR X (.builtin "any") (rAny X.K):=by
 intro lK s σ H xs us Q I r h;obtain⟨p,bs,rfl,hq,q⟩:=h;obtain⟨u,rfl,rx⟩:=r.one;cases rx;obtain⟨its,r',pl,hz⟩:=I.list hq;have hlen:=r'.length;rw[af] at hlen;refine call_any_walk (df pl.isList ?_);have hne:p≠s.heap.objs.size:=by
  obtain⟨o,ho,_⟩:=pl.isList;exact aW (aG ho)
 refine⟨s.heap.objs.size,_,_,_,_,_,fun i=>bs.getD i true,rfl,iJ (by simpa using I.ok.hd hc) _ p hne its.toArray,⟨⟨_,aC _ rfl,rfl,rfl⟩,pl.isList.push _⟩,fun i v z Q' E' hP hQ'=>?_,fun h' tk hk=>?_⟩
 ·have hi:its[i]?=some v:=by simpa using hP
  have hb:i<bs.length:=by
   rw[hlen];exact(ao.mp hi).1
  obtain⟨u,hu,ru⟩:=r'.get (i:=i) (x:= .bl (bs[i])) (by simp [hb]);rw[hi] at hu;cases hu;cases ru;have e:bs.getD i true=bs[i]:=by simp [List.getD,hb]
  have hQ2:Q' (bs.getD i true) z:=hQ';rw[e] at hQ2;exact am hQ2
 ·have e:(List.range its.toArray.size).any (fun i=>bs.getD i true)=bs.any id:=by
   rw[ar,<- hlen];rw[bZ,dR,dR];constructor
   ·rintro ⟨i,hi,hb⟩;have hi:=bF.mp hi;exact⟨bs[i],cn hi,by simpa [List.getD,hi] using hb⟩
   ·rintro ⟨b,hb,hq⟩;obtain⟨i,hi,rfl⟩:=eR hb;exact⟨i,bF.mpr hi,by simpa [List.getD,hi] using hq⟩
  rw[e];exact⟨.bl _,H,I.kept (t':=tk) fun b o e=>hk b o (by
   intro z;have z:b=s.heap.objs.size:=by simpa using z
   exact absurd (aG e) (by rw[z]; exact db _)) (ah _ e),rfl,q⟩
theorem jBI:yR X (.builtin "sorted") (fun xs H Q=>∃ (p:Addr) (ks:Ag),xs=[.ref p]/\SqL X.K H p (ks.map V.int)/\ks.length<64/\
  ∀ (l:Addr) (ns:Ag),H l=none->ns.Pairwise (· <= ·)->ns.Perm ks->Q (.ref l) (upd H l (.lst (ns.map V.int)))):=by
 intro lK s σ H xs us Q I r h;obtain⟨p,ks,rfl,hp,hn,q⟩:=h;obtain⟨u,rfl,rx⟩:=r.one;cases rx;obtain⟨its,r',pl,hz⟩:=I.list hp;have hlen:=r'.length;rw[af] at hlen;refine sorted_ints pl.isList (jB8 r') Aa fun out ns' a1 a2 a3=>?_;obtain⟨e,he⟩:=sortedAll_at s.heap its out;have hz:(ns'.map V.int).length<=sizeLine:=by
  rw[af,a2.length_eq,eW];lia
 have I2:Inv X lK σ (upd H (s.heap.objs.size+1) (.lst (ns'.map V.int))) { s with heap:=sortedAll s.heap its out} :=I.laid (t':=s.toks) (fun b o e=>sortedAll_old e) (dz _) ⟨hz,out.toList,e,jA9 a1,by rw[cX]; exact he⟩;exact⟨.ref _,_,I2,rfl,q _ ns' (I.hok.fresh (dz _)) a3 a2⟩
theorem jRM {c:Expr}{body:List Stmt}{tc:TT}{tb:TS}{pos:Pos}(hp:PassesOwn (model X.prog X.w) X.A X.env X.xe)(hc:JT X c tc)(hb:JSs X body tb):JS X (.While c body [] pos) (jSL tc tb):=⟨jQR hp hc.h hb.h⟩
theorem jOA {op:CmpOp}{a b:Expr}{pos:Pos} :behindInMarks op (.Subscript a b pos)=false:=by cases op <;> rfl
theorem jP7 {o e:Expr}{es:List Expr}{to:TE}{t:TA}{cpos apos:Pos}{id:String}{T:String}{name:Str}{r}(pa:PlainAttrs T)(slot:Slot T name id)(hty:typeOf (.builtin id)=pure (.type "method_descriptor"))(hm:MtR (blk X sc cl C Nc fp s H) id r)(ho:JE (blk X sc cl C Nc fp s H) o to)(ha:JA (blk X sc cl C Nc fp s H) (e::es) t)
  (hs:starEach (e::es) (blk X sc cl C Nc fp s H).env=(false,eval e (blk X sc cl C Nc fp s H).env)::starEach es (blk X sc cl C Nc fp s H).env)
  (hbase:attributeBase o name (blk X sc cl C Nc fp s H).env (eval o (blk X sc cl C Nc fp s H).env)=eval o (blk X sc cl C Nc fp s H).env:=by rfl)
  (hfew:((backTo cpos (starEach (e::es) (blk X sc cl C Nc fp s H).env)).all (fun x=>!x.1)&&(backToKw cpos (keywordEach [] (blk X sc cl C Nc fp s H).env)).all (fun x=>x.1.isSome)
   &&decide ((e::es).length+([]:List Keyword).length+(if ([]:List Keyword).isEmpty then 0 else 1)<30))=true:=by rfl)
  (hline:(apos.endLine==cpos.line)=true:=by rfl) (hplain:(backTo cpos (starEach es (blk X sc cl C Nc fp s H).env)).any (·.1)=false:=by rfl):
  JE (blk X sc cl C Nc fp s H) (.Call (.Attribute o name apos) (e::es) [] cpos) (tBM X.K T r to t):=je_bm pa slot hty hm ho ha hs hbase hfew hline hplain
end L2
namespace L2
open PySem
def LstR (H:Hp)(xs:List V)(Q:VK):Prop:=∀ r H',H' r=some (.lst xs)->Ext H H'->H r=none->Q (.ref r) H'
theorem LstR.new {H:Hp}{xs:List V}{Q:VK}(q:LstR H xs Q){p:Addr}(hp:H p=none):Q (.ref p) (upd H p (.lst xs)):=q p _ j5 ((Ext.refl H).new hp _) hp
def tTupU (t:TA):TE:=fun σ H Q=>t σ H fun xs H1=>xs.length<=sizeLine/\TupR H1 xs Q
def tLstU (t:TA):TE:=fun σ H Q=>t σ H fun xs H1=>xs.length<=sizeLine/\LstR H1 xs Q
section
variable {X:Cx}{es:List Expr}{t:TA}{pos:Pos}
theorem yG {x1}(h:JA X es t):JE X (.Tuple es x1 pos) (tTupU t):=⟨fun lK s σ H Q I hq=>by
 refine wpAny_Tuple_spliced (lN (h.h pos lK s σ H _ I hq) fun us s1 ⟨xs,H1,I1,r,z,q⟩=>⟨by rw[<- r.length]; exact z,?_⟩);have hf:H1 s1.heap.objs.size=none:=I1.hok.fresh (aA _);exact⟨.ref s1.heap.objs.size,upd H1 s1.heap.objs.size (.tup xs),I1.laid (t':=s1.toks) (fun b u e=>ah _ e) (aA _) ⟨z,us,r,TupO.new _ _⟩,rfl,q.new hf⟩⟩
theorem jB2 (h:JA X es t):JE X (.List es pos) (tLstU t):=⟨fun lK s σ H Q I hq=>by
 refine wpAny_List_spliced (lN (h.h pos lK s σ H _ I hq) fun us s1 ⟨xs,H1,I1,r,z,q⟩=>⟨by rw[<- r.length]; exact z,?_⟩);have hf:H1 s1.heap.objs.size=none:=I1.hok.fresh (aA _);exact⟨.ref s1.heap.objs.size,upd H1 s1.heap.objs.size (.lst xs),I1.laid (t':=s1.toks) (fun b u e=>ah _ e) (aA _) ⟨z,us,0,r,aC _ rfl⟩,rfl,q.new hf⟩⟩
theorem jR3:OpR X (binaryOp .Add) (fun x y H Q=>∃ l b xs zs,x= .ref l/\y= .ref b/\H l=some (.lst xs)/\H b=some (.lst zs)/\xs.length+zs.length<=sizeLine/\LstR H (xs++zs) Q):=by
 intro lK s σ H x y v u Q I rx ry h;obtain⟨l,b,xs,zs,rfl,rfl,h1,h2,h3,q⟩:=h;exact jWS lK s σ H _ _ v u Q I rx ry ⟨l,b,xs,zs,rfl,rfl,h1,h2,h3,fun p hp=>q.new hp⟩
end
end L2
namespace L2
open PySem PySem.Spec PyProof.Rows
variable {X:Cx}
theorem jK3 {prog:Program}{w:World}{A:Around}{E:Ah}{s:Shared}{l:Addr}{vs:Al}{n:Nat}{Q:Al->Shared->Prop}(ho:s.heap.get? l=some { cls:= .type "tuple",data:= .seq vs.toArray n})
  (h:Q vs { s with heap:=(s.heap.push (seqObj "list" #[] 0)).update s.heap.objs.size (Obj.mapSeq (· ++vs.toArray))}) (hsz:vs.length<=sizeLine):
  wpAny (model prog w) A (collect (.ref l)) Q E s:=by
 unfold collect;refine ae (iI (cA entry_proto_collect' ?_));show wpAny _ _ (do again (.builtin "list.__iadd__" ⟨[<- newList [], .ref l],[]⟩)) _ _ s;refine ae (eI (am ⟨Code.quiet_builtin _ Ab,cA entry_list_iadd' ?_⟩));show wpAny _ _ (Builtin.List.listExtendWith (.ref s.heap.objs.size) (.ref l) (.ref s.heap.objs.size)) _ _ { s with heap:=s.heap.push (seqObj "list" #[] 0)};unfold Builtin.List.listExtendWith;have ho':(s.heap.push (seqObj "list" #[] 0)).get? l=some { cls:= .type "tuple",data:= .seq vs.toArray n} :=ah _ ho;refine ae (jn (T:= "tuple") ⟨_,ho',rfl⟩ ?_);have ht:(Value.type "tuple" ==Value.type "tuple")=true:=by rfl
 rw[ay (by rw[ht,fw])];refine ae (gF ho' rfl ?_);refine ae (gF (xs:=#[]) (n:=0) (aC _ rfl) rfl ?_);rw[aw Ad];refine ae (eJ (xs:=#[]) (n:=0) (aC _ rfl) rfl ?_ (bo _) (by show (#[]++vs.toArray).size<=sizeLine+1; simp only [Array.size_append,ar,cz]; lia));refine am ?_;show wpAny (model prog w) A (do
   let o <- load s.heap.objs.size
   match o.data with
   | .seq xs _=>pure xs.toList
   | _=>unsupported "internal:collect") Q E { s with heap:=(s.heap.push (seqObj "list" #[] 0)).update s.heap.objs.size (Obj.mapSeq (· ++vs.toArray))}
 refine ae (gX (gh (aC _ rfl) _) ?_);show wpAny _ _ (pure ((#[]:An)++vs.toArray).toList) Q E _;rw[show ((#[]:An)++vs.toArray).toList=vs by simp];exact am h
theorem jM1 {prog:Program}{w:World}{A:Around}{E:Ah}{s:Shared}{l:Addr}{vs:Al}{ns:Ag}{n:Nat}{Q:Ah}(ho:s.heap.get? l=some { cls:= .type "tuple",data:= .seq vs.toArray n})(hI:IntsAre vs ns)(h64:vs.length<64)
  (h:∀ (out:An) (ns':Ag),IntsAre out.toList ns'->ns'.Perm ns->ns'.Pairwise (· <= ·)->Q (.ref (s.heap.objs.size+1)) { s with heap:=sortedAll s.heap vs out}):
  wpAny (model prog w) A (call (.builtin "sorted") [.ref l]) Q E s:=by
 refine fJ iS iu iw (args_sorted1 _) ?_;unfold Builtin.«sorted»;refine ae (m:=checkCount "sorted" 1 1 _) (am ?_);refine ae (jK3 ho ?_ (by rw[eW]; lia));refine ae (eI ?_ (by rw[eW]; lia));have hsz:((s.heap.push (seqObj "list" #[] 0)).update s.heap.objs.size (Obj.mapSeq (· ++vs.toArray))).objs.size=s.heap.objs.size+1:=by
  rw[g0,gZ]
 have hoL:(((s.heap.push (seqObj "list" #[] 0)).update s.heap.objs.size (Obj.mapSeq (· ++vs.toArray))).push (seqObj "list" vs.toArray 0)).get? (s.heap.objs.size+1)=some (seqObj "list" vs.toArray 0):=by
  rw[<- hsz]; exact aC _ rfl
 show wpAny _ _ _ _ _ { s with heap:=((s.heap.push (seqObj "list" #[] 0)).update s.heap.objs.size (Obj.mapSeq (· ++vs.toArray))).push (seqObj "list" vs.toArray 0)};rw[hsz];refine ae (bS (cD gE ⟨_,hoL,rfl⟩ gf (list_sort_tree hoL hI h64 fun out ns' a1 a2 a3=>⟨_,rfl,?_⟩) (args_list_sort _)));exact am ⟨_,rfl,h out ns' a1 a2 a3⟩
theorem jBH:yR X (.builtin "sorted") (fun xs H Q=>∃ (p:Addr) (ks:Ag),xs=[.ref p]/\H p=some (.tup (ks.map V.int))/\ks.length<64/\
  ∀ (l:Addr) (ns:Ag),H l=none->ns.Pairwise (· <= ·)->ns.Perm ks->Q (.ref l) (upd H l (.lst (ns.map V.int)))):=by
 intro lK s σ H xs us Q I r h;obtain⟨p,ks,rfl,hp,hn,q⟩:=h;obtain⟨u,rfl,rx⟩:=r.one;cases rx;obtain⟨_,its,r',n,e0⟩:=I.hok p _ hp;have hlen:=r'.length;rw[af] at hlen;refine jM1 e0 (jB8 r') Aa fun out ns' a1 a2 a3=>?_;obtain⟨e,he⟩:=sortedAll_at s.heap its out;have hz:(ns'.map V.int).length<=sizeLine:=by
  rw[af,a2.length_eq,eW];lia
 have I2:Inv X lK σ (upd H (s.heap.objs.size+1) (.lst (ns'.map V.int))) { s with heap:=sortedAll s.heap its out} :=I.laid (t':=s.toks) (fun b o e=>sortedAll_old e) (dz _) ⟨hz,out.toList,e,jA9 a1,by rw[cX]; exact he⟩;exact⟨.ref _,_,I2,rfl,q _ ns' (I.hok.fresh (dz _)) a3 a2⟩
theorem jEG (ns:Ag):∀ j,preSum (fun i=>ns.getD i 0) j=(ns.take j).sum
 | 0=>rfl
 | j+1=>by
  rw[preSum,jEG ns j,be,List.sum_append];congr 1;rw[aj];cases ns[j]? with
  | none=>rfl
  | some z=>simp
section
def rSum (K:W.Frag):List V->Hp->VK->Prop:=fun xs H Q=>∃ (p:Addr) (ns:Ag),xs=[.ref p]/\(SqL K H p (ns.map V.int))/\Q (.int ns.sum) H
theorem jF9 (hc:X.calm=true):yR X (.builtin "sum") (rSum X.K):=by
 intro lK s σ H xs us Q I r h;obtain⟨p,ns,rfl,hq,q⟩:=h;obtain⟨u,rfl,rx⟩:=r.one;cases rx;obtain⟨its,r',pl,hz⟩:=I.list hq;have hlen:=r'.length;rw[af] at hlen;refine call_sum_walkG (df pl.isList ?_);have hne:p≠s.heap.objs.size:=by
  obtain⟨o,ho,_⟩:=pl.isList;exact aW (aG ho)
 refine⟨s.heap.objs.size,_,_,_,_,_,fun i=>ns.getD i 0,rfl,iJ (by simpa using I.ok.hd hc) _ p hne its.toArray,⟨⟨_,aC _ rfl,rfl,rfl⟩,pl.isList.push _⟩,(fun b hb=>?_),(fun i v hP=>?_),fun h' tk t' hk=>?_⟩
 ·show b<(s.heap.push _).objs.size;rw[dU];obtain⟨o,ho,_⟩:=pl.isList;have:=aG ho;rcases aE.mp hb with rfl | hb
  ·exact jd _
  ·rcases aE.mp hb with rfl | hb
   ·exact cN this
   ·cases hb
 ·have hi:its[i]?=some v:=by simpa using hP
  have hb:i<ns.length:=by
   rw[hlen];exact(ao.mp hi).1
  obtain⟨u,hu,ru⟩:=r'.get (i:=i) (x:= .int (ns[i])) (by simp [hb]);rw[hi] at hu;cases hu;obtain⟨t,rfl⟩:=ru;exact⟨t,by simp [List.getD,hb]⟩
 ·have e:preSum (fun i=>ns.getD i 0) its.toArray.size=ns.sum:=by
   rw[jEG,ar,<- hlen,bz]
  rw[e];exact⟨.int _,H,I.kept (t':=tk) fun b o e=>hk b o (by
   intro z;have z:b=s.heap.objs.size:=by simpa using z
   exact absurd (aG e) (by rw[z]; exact db _)) (ah _ e),⟨_,rfl⟩,q⟩
variable {sc:Scope}{cl:Aj}{C:Addr}{Nc:Am}{fp:List Addr}{s:Shared}{H:Hp}
end
theorem jG1 (a b:Nat):Builtin.bitAnd (a:Int) (b:Int)=((a&&&b:Nat):Int):=by
 unfold Builtin.bitAnd;rw[ax (gj a),ax (gj b)];rfl
theorem jD9 (a b:Nat):Builtin.bitOr (a:Int) (b:Int)=((a|||b:Nat):Int):=by
 unfold Builtin.bitOr;have ha:Builtin.bitNot (a:Int)= -(a:Int) - 1:=by unfold Builtin.bitNot; lia
 have hb:Builtin.bitNot (b:Int)= -(b:Int) - 1:=by unfold Builtin.bitNot; lia
 have na:¬ (0<=Builtin.bitNot (a:Int)):=by rw[ha]; lia
 have nb:¬ (0<=Builtin.bitNot (b:Int)):=by rw[hb]; lia
 unfold Builtin.bitAnd;rw[aN na,aN nb];have ea:Builtin.bitNot (Builtin.bitNot (a:Int))=(a:Int):=by rw[ha]; unfold Builtin.bitNot; lia
 have eb:Builtin.bitNot (Builtin.bitNot (b:Int))=(b:Int):=by rw[hb]; unfold Builtin.bitNot; lia
 show Builtin.bitNot (Builtin.bitNot _)=_;rw[ea,eb];unfold Builtin.bitNot;simp;lia
def maskN (ts:Ag):Nat:=(ts.map fun t=>2 ^ t.toNat).sum
theorem jL3:∀ (ts:Ag) (lo:Nat),ts.Pairwise (· < ·)->(∀ t∈ts,(lo:Int)<=t)->maskN ts % 2 ^ lo=0
 | [],_,_,_=>by simp [maskN]
 | t::r,lo,hp,hl=>by
  have ih:=jL3 r lo (cU.mp hp).2 fun x hx=>hl x (ag _ hx);have h0:=hl t (ai ..);have e:maskN (t::r)=2 ^ t.toNat+maskN r:=by simp [maskN]
  have d:2 ^ t.toNat % 2 ^ lo=0:=Nat.mod_eq_zero_of_dvd (Nat.pow_dvd_pow 2 Aa);rw[e,Nat.add_mod,ih,d];simp
theorem jA8:∀ (ts:Ag) (n:Nat),ts.Pairwise (· < ·)->(∀ t∈ts,0<=t)->(maskN ts).testBit n=decide ((n:Int)∈ts)
 | [],n,_,_=>by simp [maskN]
 | t::r,n,hp,h0=>by
  obtain⟨h1,h2⟩:=cU.mp hp;have ih:=jA8 r n h2 fun x hx=>h0 x (ag _ hx);have ht:=h0 t (ai ..);obtain⟨k,rfl⟩:∃ k:Nat,t=(k:Int):=⟨t.toNat,Aa⟩;have e:maskN ((k:Int)::r)=2 ^ k+maskN r:=by simp [maskN]
  have m0:maskN r % 2 ^ (k+1)=0:=jL3 r (k+1) h2 fun x hx=>by have:=h1 x hx; lia
  obtain⟨c,hc⟩:∃ c,maskN r=2 ^ (k+1)*c:=(Nat.dvd_of_mod_eq_zero m0);have hor:2 ^ k+maskN r=maskN r|||2 ^ k:=by
   rw[hc,Nat.mul_comm,<- Nat.shiftLeft_eq,Nat.shiftLeft_add_eq_or_of_lt (b:=2 ^ k) (i:=k+1) (g9 Ac Aa) c |>.symm,lH]
  rw[e,hor,b7,ih,cL];by_cases hk:k=n
  ·subst hk;simp
  ·have:¬ ((n:Int)=(k:Int)):=by lia
   simp [hk,this]
end L2
namespace L2
open PySem
variable {X:Cx}
section
variable {tg iter elt:Expr}{ifs:List Expr}{sc:Scope}{pos:Pos}{wi:TI}{g:TG}{tt:TT}{te:TE}{m:List (Option Nat)}{Nc:Am}
theorem jS3 (hc:X.calm=true)(hi:PI X tg iter wi)(hkind:sc.kind= .function)(hcell:∀ y∈sc.names,y.2≠ .cell)(hnames:∀ y∈sc.names,y.2= .local->sc.names.lookup y.1=some .local)
  (hfree:∀ y∈sc.names,y.2= .free->X.env.scope.names.lookup y.1=some .cell\/X.env.scope.names.lookup y.1=some .free) (hm:jCC X sc Nc m)
  (hg:∀ cl C fp s H,PG (blk X sc cl C Nc fp s H) tg g) (ht:∀ cl C fp s H,PTs (blk X sc cl C Nc fp s H) ifs tt) (he:∀ cl C fp s H,PE (blk X sc cl C Nc fp s H) elt te)
  (hs:∀ x,foldedSetIterable iter X.env x=pure x) {fpos:Pos}{use:Option (Value->Sem Unit)}{R:Ah}{lK:Ai}{s:Shared}{σ:St}{H:Hp}{Q:VK}(I:Inv X lK σ H s) (h:tComp m wi g tt te σ H Q)
  (fin:∀ (D C:Addr) (H5:Hp) (z1:Shared) (r:Flow),(∃ mm,z1.heap.Ns C mm)->FpOk X lK H5 C->(∀ h',Heap.SameBut C z1.heap h'->Inv X lK σ H5 { z1 with heap:=h'})->Q (.ref D) H5->compPost (model X.prog X.w) X.A X.xe use R (.ref D) C (.ok r) z1):
  wpAny (model X.prog X.w) X.A (comprehension (.ListComp elt [⟨tg,iter,ifs,0⟩] sc pos) sc X.env fpos (newList []) false (eval iter X.env) use) R X.xe s:=
 jH1 (tf:=fun _=>te) hc hi hkind hcell hnames hfree hm hg ht (fun cl C fp s H _ _ _ _=>he cl C fp s H) hs I h fin
theorem jTY {i:Nat}{x:Str}{pos' spos:Pos}(hN:X.N.Nodup)(hi':X.N[i]?=some x)(hx:Loc X.env.scope x)(hf:X.fn x=true\/X.env.scope.names.lookup x=some .local)(hsw:swapsWith (.ListComp elt [⟨tg,iter,ifs,0⟩] sc pos) (some (.Name x pos')) spos.line X.env=pure true)
  (hc:X.calm=true) (hi:PI X tg iter wi) (hkind:sc.kind= .function) (hcell:∀ y∈sc.names,y.2≠ .cell) (hnames:∀ y∈sc.names,y.2= .local->sc.names.lookup y.1=some .local)
  (hfree:∀ y∈sc.names,y.2= .free->X.env.scope.names.lookup y.1=some .cell\/X.env.scope.names.lookup y.1=some .free) (hm:jCC X sc Nc m)
  (hg:∀ cl C fp s H,PG (blk X sc cl C Nc fp s H) tg g) (ht:∀ cl C fp s H,PTs (blk X sc cl C Nc fp s H) ifs tt) (he:∀ cl C fp s H,PE (blk X sc cl C Nc fp s H) elt te)
  (hs:∀ x,foldedSetIterable iter X.env x=pure x):PS X (.Assign [.Name x pos'] (.ListComp elt [⟨tg,iter,ifs,0⟩] sc pos) spos) (tAsg (tComp m wi g tt te) (kL i)):=by
 intro lK s σ H D I h;rw[exec_Assign_Name_used _ _ _ _ hsw];refine ae (ff (ae ?_));show wpAny _ _ (do let _ <- comprehension (.ListComp elt [⟨tg,iter,ifs,0⟩] sc pos) sc X.env _ (newList []) false (eval iter X.env) (some (assign (.Name x pos') X.env))) _ _ _;refine ae (ck (jS3 (R:=fun _ s'=>SP X lK D .next s') hc hi hkind hcell hnames hfree hm hg ht he hs ⟨I.ok,I.os,I.bare,I.Aq,I.loc,I.cell,I.free,I.freeC,I.pin,I.hok,I.len⟩ h ?_) (fun _ s' hq=>am (am hq)) fun _ _ e=>e);intro D' C H5 z1 r ⟨mm,hn⟩ fC sb q;have I1:=sb _ (Heap.SameBut.refl C z1.heap);refine wpAny_assign_Name (jHD (v:= .ref D') I1 hN hi' hx rfl (fun s2 I2 ⟨a,sa,ha⟩=>?_) hf);obtain⟨f0,f1,f2,f3,f4,f5⟩:=fC;have hCa:C≠a:=by
  rcases ha with rfl | ha
  ·exact f1
  ·exact(f4 _ _ ha).symm
 refine⟨mm,hn.sameBut sa hCa,fun h' sb2=>⟨_,H5,?_,q⟩⟩;refine I2.call' (s':= { s2 with heap:=h'}) (ch:=[C]) rfl ?_ (I2.hok.sameBut sb2 f0) I2.bare (fun b hb=>?_)
 ·have ne:∀ {b:Addr},b∉ [C]->b≠C:=fun h e=>h (by rw[e]; exact aK.mpr rfl);refine⟨fun b o e n hf hx=>(sb2.2 b (ne hx)).trans e,fun b o e n hf hx=>⟨o.slots,(sb2.2 b (ne hx)).trans e⟩,fun b o e n hx=>n,fun b o e hx=>⟨o,(sb2.2 b (ne hx)).trans e⟩,fun b xs e=>e,fun b o u e=>e,fun b ps e=>⟨#[],by rw[Array.append_empty]; exact e⟩⟩
 ·cases aK.mp hb;exact⟨f3,f1,f4,f5⟩
end
structure SwC (e:Expr)(x:Str)(pos' spos:Pos)(X:Cx):Prop where
 h:swapsWith e (some (.Name x pos')) spos.line X.env=pure true
theorem jOZ {i:Nat}{x:Str}{pos' spos pos:Pos}{tg iter elt:Expr}{ifs:List Expr}{sc:Scope}{wi:TI}{g:TG}{tt:TT}{te:TE}{m:List (Option Nat)}{Nc:Am}(hN:X.N.Nodup)(hi':X.N[i]?=some x)(hx:Loc1 X x)(hsw:SwC (.ListComp elt [⟨tg,iter,ifs,0⟩] sc pos) x pos' spos X)
  (hc:X.calm=true) (hi:JI X tg iter wi) (hkind:sc.kind= .function) (hcell:∀ y∈sc.names,y.2≠ .cell) (hnames:∀ y∈sc.names,y.2= .local->sc.names.lookup y.1=some .local)
  (hfree:∀ y∈sc.names,y.2= .free->X.env.scope.names.lookup y.1=some .cell\/X.env.scope.names.lookup y.1=some .free) (hm:jCC X sc Nc m)
  (hg:∀ cl C fp s H,JG (blk X sc cl C Nc fp s H) tg g) (ht:∀ cl C fp s H,JTs (blk X sc cl C Nc fp s H) ifs tt) (he:∀ cl C fp s H,JE (blk X sc cl C Nc fp s H) elt te)
  (hs:FoOk iter):JS X (.Assign [.Name x pos'] (.ListComp elt [⟨tg,iter,ifs,0⟩] sc pos) spos) (tAsg (tComp m wi g tt te) (kL i)):=
 ⟨jTY hN hi' hx.a hx.b hsw.h hc hi.h hkind hcell hnames hfree hm (fun cl C fp s H=>(hg cl C fp s H).h) (fun cl C fp s H=>(ht cl C fp s H).h) (fun cl C fp s H=>(he cl C fp s H).h) (hs.h _)⟩
end L2
namespace L2
open PySem PySem.Spec PyProof.Rows
variable {prog:Program}{w:World}{A:Around}{E:Ah}
variable {X:Cx}
variable {s:Shared}
variable {x:Str}{C:Addr}{e:Expr}{t:TA}{np cpos pos:Pos}
section
variable {W:Hp->Prop}
end
variable {M:Model}{h:Heap}
section
variable {g:Array GenState}{d:Drawn}{tk:Nat}{os:OsState}
end
variable {lK:Ai}{H H':Hp}
section
variable {σ:List (Option V)}{h':Heap}
end
variable {T:Addr}
section
variable {σ:St}{h2:Heap}{x T':Addr}
end
section
variable {σ:St}{x:Addr}
end
section
variable {x:Addr}{Q:Unit->Shared->Prop}
end
variable {n c:Str}{i j:Nat}{f B:Addr}{fd:FuncData}{ps:Am}{sp:Sp}{es:List Expr}{yp gp cp ap rp hp tp:Pos}
section
variable {y g:Str}{k:Nat}{r:Expr}{te:Addr->TE}
end
variable {tg:Expr}
variable {g:TG}{iter elt:Expr}{ifs:List Expr}{sc:Scope}{wi:TI}{tt:TT}{te:TE}{m:List (Option Nat)}{Nc:Am}
variable {a:Addr}{p:Pos}
section
variable {k:Nat}{sp:Addr->Sp}
end
variable {P:Program}{mg:Ak}{Aq:Heap}{N:Am}{qual:Str}{Ap:List Env}
section
variable {CX:CXT}{K:W.Frag}{lM:Value}{E:XK}
end
section
variable {y g:Str}{k:Nat}{te t1:TEX}
end
def nfP (x q:Str)(args:Arguments)(body:List Stmt)(scope:Scope)(cl:Aj)(a c:Addr):Heap->Prop:=fun h=>∃ doc pm ctv,h.get? a=some (fnMade x q args body scope cl doc pm c ctv)
def ncP (q:Str)(c:Addr):Heap->Prop:=fun h=>h.CodeRec (.ref c) q
abbrev onePs (pos:Pos)(c:Addr):An:=#[rawInt pos.line,rawInt pos.col, .ref c]
def TabOk (H:Hp)(T:Addr)(pos:Pos)(q:Str):Prop:=H T=some (.tbl #[])\/∃ c,H T=some (.tbl (onePs pos c))/\H c=some (.ext (ncP q c))
def ExtT (T:Addr)(H H':Hp):Prop:=∀ b o,H b=some o->b≠T->H' b=some o
def qR (Aq:Heap)(mg:Ak):Prop:=∃ bm o,mg "__builtins__" =some (.ref bm)/\bm≠builtinsNs/\bm≠mainGlobals/\Aq.get? bm=some o/\o.cls= .type "module" /\o.dict=some builtinsNs/\o.data= .plain
theorem nfP.stay {x q:Str}{args:Arguments}{body:List Stmt}{scope:Scope}{cl:Aj}{a c:Addr}(h1 h2:Heap)(p:nfP x q args body scope cl a c h1)(k:∀ o,h1.get? a=some o->h2.get? a=some o):nfP x q args body scope cl a c h2:=by
 obtain⟨d,m,t,e⟩:=p;exact⟨d,m,t,k _ e⟩
theorem ncP.stay {q:Str}{c:Addr}(h1 h2:Heap)(p:ncP q c h1)(k:∀ o,h1.get? c=some o->h2.get? c=some o):ncP q c h2:=by
 obtain⟨c',o,vs,t,e,g,r⟩:=p;cases e;exact⟨c,o,vs,t,rfl,k _ g,r⟩
theorem ncP.is {q:Str}{c:Addr}{h:Heap}(p:ncP q c h):∃ o,h.get? c=some o:=by
 obtain⟨c',o,vs,t,e,g,r⟩:=p;cases e;exact⟨o,g⟩
def tDef (x q:Str)(args:Arguments)(body:List Stmt)(scope:Scope)(cl:Aj)(T:Addr)(pos:Pos)(j:Nat):TS:=fun D σ H=>TabOk H T pos q/\∀ a c H',H' a=some (.ext (nfP x q args body scope cl a c))->H' c=some (.ext (ncP q c))->H' T=some (.tbl (onePs pos c))->ExtT T H H'->H a=none->D.nx (σ.set j (some (.ref a))) H'
section
variable {σ:St}
theorem Inv.laidX {h':Heap}{t':Nat}{φ:Heap->Prop}{a:Addr}(I:Inv X lK σ H s)(k:∀ b u,s.heap.get? b=some u->h'.get? b=some u)(hp:s.heap.objs.size<=a)(p:φ h')(ho:∃ o,h'.get? a=some o)(st:∀ h1 h2:Heap,φ h1->(∀ o,h1.get? a=some o->h2.get? a=some o)->φ h2):Inv X lK σ (upd H a (.ext φ)) { s with heap:=h',toks:=t'} :=
 I.laid k hp ⟨p,ho,st⟩
theorem Inv.grown {h':Heap}{t':Nat}{T c:Addr}{ps more:An}{φ:Heap->Prop}(I:Inv X lK σ H s)(hT:H T=some (.tbl ps))(k:Heap.ExtBut T s.heap h')(e:h'.get? T=some { cls:= .none,data:= .fields (ps++more)})
  (hc:s.heap.objs.size<=c) (p:φ h') (ho:∃ o,h'.get? c=some o) (st:∀ h1 h2:Heap,φ h1->(∀ o,h1.get? c=some o->h2.get? c=some o)->φ h2):Inv X lK σ (upd (upd H T (.tbl (ps++more))) c (.ext φ)) { s with heap:=h',toks:=t'} :=by
 have hcn:H c=none:=I.hok.fresh hc;have nT:∀ {b:Addr},H b=none->b≠T:=fun n z=>by rw[z,hT] at n; cases n
 have cT:T≠c:=fun z=>by rw[z,hcn] at hT; cases hT
 have nc:∀ {b:Addr}{o:Obj},s.heap.get? b=some o->b≠c:=fun q z=>absurd (aG q) (by rw[z]; exact Nat.not_lt.mpr hc);have mc:∀ {b:Addr}{o:HO},H b=some o->b≠c:=fun q=>jA q hcn;refine I.un ⟨fun b o q n _ _=>k b o (nT n) q,fun b o q n _ _=>⟨o.slots,k b o (nT n) q⟩,fun b o q n _=>by rw[j9 (nc q),j9 (nT n)]; exact n,fun b o q _=>?_,fun b xs q=>?_,fun b o u q=>?_,fun b qs q=>?_⟩ fun b o q=>?_
 ·by_cases hb:b=T
  ·rw[hb]; exact⟨_,e⟩
  ·exact⟨o,k b o hb q⟩
 ·rw[j9 (mc q),j9 (fun z=>by rw[z,hT] at q; cases q)]; exact q
 ·rw[j9 (mc q),j9 (fun z=>by rw[z,hT] at q; cases q)]; exact q
 ·by_cases hb:b=T
  ·subst hb;rw[hT] at q;cases q;exact⟨more,by rw[j9 cT,j5]⟩
  ·exact⟨#[],by rw[j9 (mc q),j9 hb,q]; simp⟩
 ·by_cases hb1:b=c
  ·subst hb1;rw[j5] at q;cases q;exact⟨p,ho,st⟩
  rw[j9 hb1] at q;by_cases hb:b=T
  ·subst hb;rw[j5] at q;cases q;exact e
  ·rw[j9 hb] at q;refine(I.hok b o q).stay (fun d u hd z=>k d u ?_ z) (fun d z=>?_) fun d xs z=>?_
   ·rcases hd with rfl | hd
    ·exact hb
    ·exact fun y=>by rw[y,hT] at hd; cases hd
   ·rw[j9 (mc z),j9 (fun y=>by rw[y,hT] at z; cases z)]; exact z
   ·rw[j9 (mc z),j9 (fun y=>by rw[y,hT] at z; cases z)]; exact z
theorem jWB {x:Str}{args:Arguments}{body:List Stmt}{scope:Scope}{pos:Pos}{c0 T:Addr}{j:Nat}(hN:X.N.Nodup)(hj:X.N[j]?=some x)(lx:Loc X.env.scope x)(hcode:X.env.code= .ref c0)(CH:PySem.W.CodeHd X.Aq c0 T)(hbm:qR X.Aq X.mg)
  (hfree:∀ y∈scope.names,y.2= .free->X.env.scope.names.lookup y.1=some .cell\/X.env.scope.names.lookup y.1=some .free) (hdf:defaultsOf args X.env=([],[])) (han:annTrees args none X.env=[])
  (hf:X.fn x=true\/X.env.scope.names.lookup x=some .local:=by first | exact .inl rfl | exact .inr rfl | assumption):
  PS X (.FunctionDef x args body [] none [] scope none x pos) (tDef x (qualnameIn X.env x x) args body scope (jO X.env.cells scope.names []) T pos j):=by
 intro lK s σ H D I h;obtain⟨tab,h⟩:=h;rw[exec_def,hdf,han];refine ae (ff (ae (bS ?_)));refine ae (am (ae (bS (am (bS (ae (am ?_)))))));have hcl:closureFor scope X.env=pure (jO X.env.cells scope.names []):=jK6 fun y hy hz=>I.ok.has y.1 (hfree y hy hz);have hg:s.heap.Ns mainGlobals X.mg:=I.mod.glob.keeps I.bk;have C:=CH.keeps I.bk;have gT:∀ {ps:An},H T=some (.tbl ps)->mainGlobals≠T:=fun hT z=>by
  obtain⟨o,es,ep,e,_⟩:=I.mod.glob;have:=(I.bs _ _ e).2;rw[z,hT] at this;cases this
 have bT:∀ {ps:An},H T=some (.tbl ps)->s.heap.BuiltinsAt X.mg T:=fun hT=>by
  obtain⟨bm,o,h1,h2,h3,h4,h5,h6,h7⟩:=hbm;refine⟨bm,o,h1,h2,h3,fun z=>?_,(I.bs _ _ h4).1,h5,h6,h7⟩;have:=(I.bs _ _ h4).2;rw[z,hT] at this;cases this
 rcases tab with hT | ⟨c,hT,hc⟩
 ·refine PySem.W.makeFunction_K hcl I.ok.glob hg hcode C (I.hok T _ hT) trivial rfl (gT hT) (bT hT) fun c ctv doc h' tk k1 k2 k3 k4 k5=>?_;obtain⟨oc,hoc⟩:=ncP.is (q:=qualnameIn X.env x x) k4;have I1:Inv X lK σ (upd (upd H T (.tbl (#[]++onePs pos c))) c (.ext (ncP (qualnameIn X.env x x) c))) { s with heap:=h',toks:=tk} :=I.grown hT k1 k5 k2 k4 ⟨oc,hoc⟩ ncP.stay;have I2:=I1.laidX (t':=tk) (a:=h'.objs.size) (φ:=nfP x (qualnameIn X.env x x) args body scope (jO X.env.cells scope.names []) h'.objs.size c) (h':=h'.push (fnMade x (qualnameIn X.env x x) args body scope (jO X.env.cells scope.names []) doc ((X.mg "__name__").getD .none) c ctv)) (fun b u q=>ah _ q) (aA _) ⟨doc,_,ctv,aC _ rfl⟩ ⟨_,aC _ rfl⟩ nfP.stay;have hcn:H c=none:=I.hok.fresh k2;have han:H h'.objs.size=none:=I.hok.fresh (bi k2 (de k3));have ca:c≠h'.objs.size:=aW k3;have Tc:T≠c:=fun z=>by rw[z,hcn] at hT; cases hT
  have Ta:T≠h'.objs.size:=fun z=>by rw[z,han] at hT; cases hT
  refine ae (ff (ae (wpAny_bindName (jDY (v:= .ref h'.objs.size) I2 hN hj lx rfl (fun s' I'=>am ⟨_,_,I',?_⟩) hf))));refine h _ c _ j5 (by rw[j9 ca,j5]) (by rw[j9 Ta,j9 Tc,j5,lB]) (fun b o e n=>?_) han;rw[j9 (jA e han),j9 (jA e hcn),j9 n];exact e
 ·refine PySem.W.makeFunction_hit (cv:= .ref c) hcl I.ok.glob hg hcode C (I.hok T _ hT) (by exact trivial) (by simp [codeAmong,rawInt]) (bT hT) fun ctv doc h' tk k1 k2=>?_;have I2:=I.laidX (t':=tk) (a:=h'.objs.size) (φ:=nfP x (qualnameIn X.env x x) args body scope (jO X.env.cells scope.names []) h'.objs.size c) (h':=h'.push (fnMade x (qualnameIn X.env x x) args body scope (jO X.env.cells scope.names []) doc ((X.mg "__name__").getD .none) c ctv)) (fun b u q=>ah _ (k1 b u q)) k2 ⟨doc,_,ctv,aC _ rfl⟩ ⟨_,aC _ rfl⟩ nfP.stay;have han:H h'.objs.size=none:=I.hok.fresh k2;refine ae (ff (ae (wpAny_bindName (jDY (v:= .ref h'.objs.size) I2 hN hj lx rfl (fun s' I'=>am ⟨_,_,I',?_⟩) hf))));refine h _ c _ j5 (by rw[j9 (jA hc han)]; exact hc) (by rw[j9 (jA hT han)]; exact hT) (fun b o e n=>?_) han;rw[j9 (jA e han)];exact e
end
theorem jI2 {β:Type}{x:Str} :∀ {l:List (Str×β)},(∀ v,(x,v)∉l)->l.lookup x=none
 | [],_=>rfl
 | (y,v)::r,h=>by
  rw[bJ,cm.mpr (fun e=>h v (by rw[e]; exact ai))];exact jI2 fun w hw=>h w (ag _ hw)
theorem jDH {β:Type}{x:Str} :∀ {l m:List (Str×β)},(l++m).lookup x=(l.lookup x).or (m.lookup x)
 | [],_=>rfl
 | (y,v)::r,m=>by
  rw[jc,bJ,bJ,jDH];cases x==y <;> rfl
theorem jFO:∀ {ps:Am}{us:Al}{i:Nat}{x:Str}{u:Value},ps.Nodup->ps[i]?=some x->us[i]?=some u->(ps.zip us).reverse.lookup x=some u
 | [],_,_,_,_,_,h,_=>by simp at h
 | _::_,[],_,_,_,_,_,h=>by simp at h
 | p::ps,w::us,0,x,u,nd,h1,h2=>by
  simp at h1 h2;subst h1 h2;rw[dS,List.reverse_cons,jDH,jI2 fun v hv=>(cf.mp nd).1 (dN (List.mem_reverse.mp hv)).1,bJ,beq_self_eq_true];rfl
 | p::ps,w::us,i+1,x,u,nd,h1,h2=>by
  rw[dS,List.reverse_cons,jDH,jFO (i:=i) (cf.mp nd).2 (by simpa using h1) (by simpa using h2)];rfl
def cxN (P:Program)(w:World)(K:W.Frag)(mg:Ak)(Aq:Heap)(N:Am)(qual:Str)(scope:Scope)(f:Addr)(cd:Value)(cl:Aj)(A:Around)(Ap:List Env)(s:Shared)(H:Hp):Cx where
 prog:=P
 w:=w
 K:=K
 mg:=mg
 Aq:=Aq
 A:=A.deeper (envX qual scope s.heap.objs.size f cd cl)
 N:=N
 s₀:=s
 H₀:=H
 env:=envX qual scope s.heap.objs.size f cd cl
 Ap:=Ap
 stack:=envX qual scope s.heap.objs.size f cd cl::Ap
 ex:=[]
 calm:=true
 fn:=fun _=>false
 pn:=[]
 xe:=fun _ _=>False
structure ClOk (cl:Aj)(s:Shared)(H:Hp):Prop where
 inj:∀ x y c,cl.lookup x=some c->cl.lookup y=some c->x=y
 cell:∀ x c,cl.lookup x=some c->(∃ v,s.heap.IsCell c v)/\H c=none
def FvOk (fs:Am)(fv:List V)(cl:Aj)(s:Shared):Prop:=fv.length=fs.length/\∀ (i:Nat) (x:Str) (v:V),fs[i]?=some x->fv[i]?=some v->∃ c u,cl.lookup x=some c/\RelV v u/\s.heap.IsCell c (some u)
structure NScope (N ps fs:Am)(sc:Scope):Prop where
 kind:sc.kind= .function
 co:sc.isCoroutine=false
 gen:sc.isGenerator=false
 nd:N.Nodup
 pre:N.take (ps.length+fs.length)=ps++fs
 par:∀ x∈ps,sc.names.lookup x=some .local
 fre:∀ x∈fs,sc.names.lookup x=some .free
 all:∀ x,sc.names.lookup x=some .free->x∈fs
 nocell:∀ y∈sc.names,y.2≠ .cell
def jC8 (N:Am)(vs fv:List V):St:=yA N (vs++fv)
variable {scope:Scope}{cd:Value}{cl:Aj}{fv:List V}
section
variable {K:W.Frag}{fs:Am}{us:Al}{vs:List V}
theorem jFU {h1:Heap}{tk:Nat}(S:NScope N ps fs scope)(hd:A.handled=none)(e0:Env0 P w K mg Aq A Ap s H)(hl:us.length=ps.length)(r:Vals vs us)(C:ClOk cl s H)(Fv:FvOk fs fv cl s)
  (ns:h1.Ns s.heap.objs.size fun x=>(ps.zip us).reverse.lookup x) (hk:∀ b o,s.heap.get? b=some o->h1.get? b=some o):
  Inv (cxN P w K mg Aq N qual scope f cd cl A Ap s H) [] (jC8 N vs fv) H { s with heap:=h1,toks:=tk} :=by
 have hpl:ps.length+fs.length<=N.length:=by have:=bY List.length S.pre; rw[bI,aJ] at this; lia
 have noA:∀ b:Addr,b∉(cxN P w K mg Aq N qual scope f cd cl A Ap s H).ex:=fun b z=>absurd (show b∈([]:List Addr) from z) Ad;have vl:vs.length=ps.length:=r.length.trans hl;refine⟨⟨e0.mod,S.kind,rfl,rfl,aA _,C.inj,fun y hy=>?_,fun y c z=>(nomatch z),fun _=>hd,Around.frames_deeper e0.frames, .inr ⟨rfl,rfl⟩,fun b z=>absurd z (noA b),e0.bs,e0.bsz,fun b _ _=>noA b,fun b z=>absurd z (noA b),e0.funs,e0.frf⟩,
  rfl,e0.bare,Un.kept hk,⟨_,ns,fun i y v h1' h2 h3=>?_⟩,fun y c h=>?_,e0.hok.fresh (aA _),fun y c h=>(C.cell y c h).2,fun p hp=>absurd (show p∈([]:Ai) from hp) Ad,e0.hok.kept hk,?_⟩
 ·have hy:scope.names.lookup y=some .cell\/scope.names.lookup y=some .free:=hy;rcases hy with hy | hy
  ·exact absurd rfl (S.nocell _ (b9 hy))
  ·have m:=S.all y hy;obtain⟨i,hi⟩:=bq m;have hi2:i<fv.length:=by rw[Fv.1]; exact(ao.mp hi).1
   obtain⟨c,u,e,_⟩:=Fv.2 i y fv[i] hi (by simp [hi2]);exact⟨c,e⟩
 ·have h1':N[i]?=some y:=h1';have hlen:(vs++fv).length=ps.length+fs.length:=by rw[aJ,vl,Fv.1]
  have hi:i<(vs++fv).length:=by
   unfold jC8 yA at h2;by_cases hi:i<(vs++fv).length
   ·exact hi
   ·rw[bu (by simpa using hi)] at h2;rw[i7] at h2;split at h2 <;> cases h2
  have hv:(vs++fv)[i]?=some v:=by
   unfold jC8 yA at h2;rw[ce (by simpa using hi),aS] at h2;cases e:(vs++fv)[i]? with
   | none=>rw[e] at h2; cases h2
   | some a=>rw[e] at h2; cases h2; rfl
  have hy:(ps++fs)[i]?=some y:=by
   rw[<- S.pre,cC Aa];exact h1'
  by_cases hi1:i<ps.length
  ·rw[ce hi1] at hy;rw[ce Aa] at hv;obtain⟨u,hu,rv⟩:=r.get hv;have ndP:ps.Nodup:=by
    have:(ps++fs).Nodup:=by rw[<- S.pre]; exact S.nd.sublist (dL _ _)
    exact(gG.mp this).1
   exact⟨u,rv, .inl ⟨S.par y (aB hy),jFO ndP hy hu⟩⟩
  ·rw[bu Aa] at hy;rw[bu Aa,vl] at hv;obtain⟨c,u,e,rv,o,ho,hd⟩:=Fv.2 _ y v hy hv;exact⟨u,rv, .inr ⟨.inr (S.fre y (aB hy)),c,e,o,hk _ _ ho,hd⟩⟩
 ·obtain⟨⟨v,o,ho,hd⟩,_⟩:=C.cell y c h;exact⟨v,o,hk _ _ ho,hd⟩
 ·unfold jC8 yA;show _=N.length;rw[aJ,af,kf,aJ,vl,Fv.1];lia
end
structure FnN (P:Program)(w:World)(K:W.Frag)(mg:Ak)(Aq:Heap)(k:Nat)(x q:Str)(args:Arguments)(body:List Stmt)(scope:Scope)(ps fs:Am)(sp:List V->Sp):Prop where
 len:∀ fv vs H Q E,sp fv vs H Q E->vs.length=ps.length
 run:∀ (A:Around) (Ap:List Env) (s:Shared) (H:Hp) (a c:Addr) (cl:Aj) (us:Al) (vs fv:List V) (Q:VK) (E:XK),Room k A->Env0 P w K mg Aq A Ap s H->nfP x q args body scope cl a c s.heap->ncP q c s.heap->ClOk cl s H->FvOk fs fv cl s->Vals vs us->sp fv vs H Q E->
  codeAny (model P w) A (.call (.ref a) ⟨us,[]⟩) (CR CX0 Ap P w H s Q E) s
theorem jT9 {P:Program}{w:World}{K:W.Frag}{mg:Ak}{Aq:Heap}{k:Nat}{x q:Str}{args:Arguments}{body:List Stmt}{scope:Scope}{N ps fs:Am}{sp:List V->Sp}(S:NScope N ps fs scope)(len:∀ fv vs H Q E,sp fv vs H Q E->vs.length=ps.length)
  (hb:∀ cl doc pm c ctv (us:Al),us.length=ps.length->bindArgs (PySem.W.fnX x q args body scope cl .none .none doc pm none (.ref c) ctv) ⟨us,[]⟩=pure (ps.zip us))
  (hbody:∀ (A:Around) (Ap:List Env) (s:Shared) (H:Hp) (a c:Addr) (cl:Aj) (vs fv:List V) (Q:VK) (E:XK),Room k (A.deeper (envX q scope s.heap.objs.size a (.ref c) cl))->sp fv vs H Q E->
   ∃ t,PSs (cxN P w K mg Aq N q scope a (.ref c) cl A Ap s H) body t/\t { nx:=fun _ H'=>Q .non H',rt:=Q} (jC8 N vs fv) H):
  FnN P w K mg Aq (k+1) x q args body scope ps fs sp:=by
 refine⟨len,fun A Ap s H a c cl us vs fv Q E hr e0 hf hc C Fv r hsp=>?_⟩;have hl:us.length=ps.length:=r.length.symm.trans (len _ _ _ _ _ hsp);obtain⟨doc,pm,ctv,ho⟩:=hf;have lim:s.heap.NoLimit:=e0.mod.nolimit.keeps fun b o e=>(e0.bs b o e).1;refine codeAny_call_def (body:=body) (binds:=ps.zip us) hr.depth ho rfl lim hc rfl (.of_eq (hb cl doc pm c ctv us hl)) S.nocell (fun y hy=>S.par y.1 (dN hy).1) (fun h1 ns hk=>?_) S.co S.gen S.kind;obtain⟨t,ht,hq⟩:=hbody A Ap s H a c cl vs fv Q E (hr.deeper _) hsp;have I:Inv (cxN P w K mg Aq N q scope a (.ref c) cl A Ap s H) [] (jC8 N vs fv) H { s with heap:=h1,toks:=s.toks+(ps.zip us).length} :=jFU S hr.hd e0 hl r C Fv ns hk;refine ck (ht [] _ (jC8 N vs fv) H _ I hq) (fun fl s' hs=>?_) fun e s' hs=>False.elim hs;have fin:∀ {σ':St}{H':Hp}{v:V}{u:Value},Inv (cxN P w K mg Aq N q scope a (.ref c) cl A Ap s H) [] σ' H' s'->RelV v u->Q v H'->CE Ap P w H s Q u s':=
  fun {σ' H' v u} J rv q=>⟨v,H',J.os,J.bare,J.Aq,J.hok,rv,q⟩
 cases fl with
 | ret u=>
  obtain⟨v,σ',H',J,rv,q⟩:=hs;exact fin J rv q
 | next=>
  obtain⟨σ',H',J,q⟩:=hs;exact fin (v:=V.non) (u:=Value.none) J rfl q
 | brk=>
  obtain⟨_,_,_,q⟩:=hs;exact False.elim q
 | cont=>
  obtain⟨_,_,_,q⟩:=hs;exact False.elim q
def jE1 (σ:St)(is:List Nat)(fv:List V):Prop:=is.map (fun i=>(σ[i]?).getD none)=fv.map some
def tNest (σ0:Option St)(j:Nat)(is:List Nat)(x q:Str)(args:Arguments)(body:List Stmt)(scope:Scope)(cl:Aj)(sp:List V->Sp)(t:TA):TE:=fun σ H Q=>∃ a,σ[j]?=some (some (.ref a))/\t σ H fun vs H1=>∃ c fv,H1 a=some (.ext (nfP x q args body scope cl a c))/\H1 c=some (.ext (ncP q c))/\jE1 (σ0.getD σ) is fv/\sp fv vs H1 Q E0
section
variable {σ:St}{fs:Am}{is:List Nat}
def FsAt (X:Cx)(fs:Am)(is:List Nat):Prop:=is.length=fs.length/\∀ (k:Nat) (x:Str),fs[k]?=some x->∃ i,is[k]?=some i/\X.N[i]?=some x/\(X.env.scope.names.lookup x=some .cell\/X.env.scope.names.lookup x=some .free)
theorem Inv.clOk (I:Inv X lK σ H s)(hfree:∀ y∈scope.names,y.2= .free->X.env.scope.names.lookup y.1=some .cell\/X.env.scope.names.lookup y.1=some .free):ClOk (jO X.env.cells scope.names []) s H:=by
 have sub:∀ x c,(jO X.env.cells scope.names []).lookup x=some c->X.env.cells.lookup x=some c:=jAH scope.names [] (fun y hy hf=>I.ok.has y.1 (hfree y hy hf)) (fun x c e=>by cases e);exact⟨fun x y c h1 h2=>I.ok.inj x y c (sub x c h1) (sub y c h2),fun x c h=>⟨I.cell x c (sub x c h),I.freeC x c (sub x c h)⟩⟩
theorem Inv.fvOk (I:Inv X lK σ H s)(hfree:∀ y∈scope.names,y.2= .free->X.env.scope.names.lookup y.1=some .cell\/X.env.scope.names.lookup y.1=some .free)(hfs:∀ x∈fs,scope.names.lookup x=some .free)(ha:FsAt X fs is)(hs:jE1 σ is fv):FvOk fs fv (jO X.env.cells scope.names []) s:=by
 have hl:fv.length=fs.length:=by
  have:=bY List.length hs;rw[af,af] at this;rw[<- this,ha.1]
 refine⟨hl,fun k x v h1 h2=>?_⟩;obtain⟨i,hi,hN,hk⟩:=ha.2 k x h1;have e:(σ[i]?).getD none=some v:=by
  have:=bY (fun l=>l[k]?) hs;simp only [aS,hi,h2,map_some] at this;exact bw this
 have e2:σ[i]?=some (some v):=by
  cases q:σ[i]? with
  | none=>rw[q] at e; cases e
  | some z=>rw[q] at e; exact bY some e
 obtain⟨m,hn,hl⟩:=I.loc;obtain⟨u,r,l⟩:=hl i x v hN e2 (.inr hk);obtain⟨c,hc⟩:=jAS (cells:=X.env.cells) (x:=x) scope.names [] (.inl (jAQ (hfs x (aB h1))));have sub:=jAH (cells:=X.env.cells) scope.names [] (fun y hy hf=>I.ok.has y.1 (hfree y hy hf)) (fun x c e=>by cases e) x c hc;rcases l with ⟨lk,_⟩ | ⟨_,c',hc',z⟩
 ·have lk':X.env.scope.names.lookup x=some .local:=lk;rcases hk with z | z <;> rw[lk'] at z <;> cases z
 ·rw[sub] at hc';cases hc';exact⟨c,u,hc,r,z⟩
end
section
variable {k:Nat}{q:Str}{args:Arguments}{body:List Stmt}{fs:Am}{is:List Nat}{sp:List V->Sp}
theorem jKK {Y:Cx}{lK:Ai}{σ:St}{H:Hp}{s:Shared}{Q:VK}{cl:Aj}{a c:Addr}{us:Al}{vs fv:List V}(F:FnN Y.prog Y.w Y.K Y.mg Y.Aq k x q args body scope ps fs sp)(hr:Room k Y.A)(I:Inv Y lK σ H s)(h1:H a=some (.ext (nfP x q args body scope cl a c)))(h2:H c=some (.ext (ncP q c)))(C:ClOk cl s H)(Fv:FvOk fs fv cl s)(r:Vals vs us)(hs:sp fv vs H Q E0):
  wpAny (model Y.prog Y.w) Y.A (call (.ref a) us) (EP Y lK σ Q) Y.xe s:=by
 obtain⟨p1,_,_⟩:=(show ObjOk Y.prog Y.w H s.heap a (.ext _) from I.hok a _ h1);obtain⟨p2,_,_⟩:=(show ObjOk Y.prog Y.w H s.heap c (.ext _) from I.hok c _ h2);refine iF (dQ (F.run Y.A Y.stack s H a c cl us vs fv Q E0 hr I.env0 p1 p2 C Fv r hs) fun r s' hq=>?_);cases r with
 | error e=>exact hq.elim
 | ok fl=>
  cases fl with
  | ret u=>exact I.after hq
  | next=>exact False.elim hq
  | brk=>exact False.elim hq
  | cont=>exact False.elim hq
theorem jPO {Y:Cx}{lK:Ai}{σ:St}{H:Hp}{s:Shared}{cl:Aj}{a c:Addr}(I:Inv Y lK σ H s)(h1:H a=some (.ext (nfP x q args body scope cl a c))):PySem.W.FnAt a s.heap:=by
 obtain⟨⟨d,m,t,e⟩,_,_⟩:=(show ObjOk Y.prog Y.w H s.heap a (.ext _) from I.hok a _ h1);exact⟨_,_,_,_,e⟩
theorem jV5 (F:FnN X.prog X.w X.K X.mg X.Aq k x q args body scope ps fs sp)(hr:Room k X.A)(hN:X.N[j]?=some x)(hv:Vis1 X x)(hfree:∀ y∈scope.names,y.2= .free->X.env.scope.names.lookup y.1=some .cell\/X.env.scope.names.lookup y.1=some .free)(hfs:∀ x∈fs,scope.names.lookup x=some .free)(hat:FsAt X fs is)
  (ha:JA X (e::es) t) (he:starEach (e::es) X.env=(false,eval e X.env)::starEach es X.env) (hdb:(x==("__debug__" :Str))=false:=by decide) (hcd:(x==("__classdict__" :Str))=false:=by decide) (hpl:(backTo pos (starEach es X.env)).any (·.1)=false:=by rfl):
  JE X (.Call (.Name x p) (e::es) [] pos) (tNest none j is x q args body scope (jO X.env.cells scope.names []) sp t):=by
 refine⟨fun lK s σ H Q I h=>?_⟩;obtain⟨a,hj,h⟩:=h;refine cS (lN (jHU (pos:=p) hN hv.a hdb hcd lK s σ H (fun v H'=>v= .ref a/\H'=H) I ⟨_,hj,rfl,rfl⟩) fun v s1 ⟨v',H1,I1,r1,q1,q2⟩=>?_);subst q1 q2;cases (show v=Value.ref a from r1);have hX:=lN (ha.h pos lK s1 σ H1 _ I1 h) fun us s2 (z:AP X lK σ _ us s2)=>show PySem.W.FnAt a s2.heap/\wpAny (model X.prog X.w) X.A (call (.ref a) ([]++us)) (EP X lK σ Q) X.xe s2 from by
  obtain⟨vs,H2,I2,r,c,fv,h1,h2,h3,h4⟩:=z;exact⟨jPO I2 h1,jKK F hr I2 h1 h2 (I2.clOk hfree) (I2.fvOk hfree hfs hat h3) r h4⟩
 rw[he] at hX ⊢;exact im (by show ((false || (backTo pos (starEach es X.env)).any (·.1)) || false)=false; rw[hpl]; rfl) jw (ek hX)
theorem jRP {sc:Scope}{cl:Aj}{C:Addr}{Nc:Am}{fp:List Addr}{s0:Shared}{H0:Hp}{lK0:Ai}{σ0:St}(I0:Inv X lK0 σ0 H0 s0)(hfp:∀ b∈fp,FpOk X lK0 H0 b)
  (F:FnN X.prog X.w X.K X.mg X.Aq k x q args body scope ps fs sp) (hr:Room k X.A) (hN:Nc[j]?=some x) (hv:Vis1 (blk X sc cl C Nc fp s0 H0) x) (hfree:∀ y∈scope.names,y.2= .free->X.env.scope.names.lookup y.1=some .cell\/X.env.scope.names.lookup y.1=some .free) (hfs:∀ x∈fs,scope.names.lookup x=some .free) (hat:FsAt X fs is)
  (ha:JA (blk X sc cl C Nc fp s0 H0) (e::es) t) (he:starEach (e::es) (blk X sc cl C Nc fp s0 H0).env=(false,eval e (blk X sc cl C Nc fp s0 H0).env)::starEach es (blk X sc cl C Nc fp s0 H0).env) (hdb:(x==("__debug__" :Str))=false:=by decide) (hcd:(x==("__classdict__" :Str))=false:=by decide) (hpl:(backTo pos (starEach es (blk X sc cl C Nc fp s0 H0).env)).any (·.1)=false:=by rfl):
  JE (blk X sc cl C Nc fp s0 H0) (.Call (.Name x p) (e::es) [] pos) (tNest (some σ0) j is x q args body scope (jO X.env.cells scope.names []) sp t):=by
 have sub:∀ x c,(jO X.env.cells scope.names []).lookup x=some c->X.env.cells.lookup x=some c:=jAH scope.names [] (fun y hy hf=>I0.ok.has y.1 (hfree y hy hf)) (fun x c e=>by cases e);have nfp:∀ {x c},X.env.cells.lookup x=some c->c∉fp:=fun {x c} h z=>(hfp c z).2.2.2.2.1 x c h rfl;refine⟨fun lK s σ H Q I h=>?_⟩;obtain⟨a,hj,h⟩:=h;refine cS (lN (jHU (pos:=p) (show (blk X sc cl C Nc fp s0 H0).N[j]?=some x from hN) hv.a hdb hcd lK s σ H (fun v H'=>v= .ref a/\H'=H) I ⟨_,hj,rfl,rfl⟩) fun v s1 ⟨v',H1,I1,r1,q1,q2⟩=>?_);subst q1 q2;cases (show v=Value.ref a from r1);have hX:=lN (ha.h pos lK s1 σ H1 _ I1 h) fun us s2 (z:AP (blk X sc cl C Nc fp s0 H0) lK σ _ us s2)=>show PySem.W.FnAt a s2.heap/\wpAny (model X.prog X.w) X.A (call (.ref a) ([]++us)) (EP (blk X sc cl C Nc fp s0 H0) lK σ Q) (blk X sc cl C Nc fp s0 H0).xe s2 from by
  obtain⟨vs,H2,I2,r,c,fv,h1,h2,h3,h4⟩:=z;have un:Un (frs X.stack) fp H0 H2 s0.heap s2.heap:=I2.Aq;have cellK:∀ {y d v},X.env.cells.lookup y=some d->s0.heap.IsCell d v->s2.heap.IsCell d v:=fun {y d v} hd ⟨o,ho,hq⟩=>by
   obtain⟨sl,e⟩:=un.any ho (I0.freeC y d hd) (nfp hd);exact⟨_,e,hq⟩
  have C0:=I0.clOk hfree;obtain⟨f1,f2⟩:=I0.fvOk hfree hfs hat h3;refine⟨jPO I2 h1,jKK (Y:=blk X sc cl C Nc fp s0 H0) F hr I2 h1 h2 ⟨C0.inj,fun y d hd=>?_⟩ ⟨f1,fun i y v e1 e2=>?_⟩ r h4⟩
  ·obtain⟨⟨v,z⟩,n⟩:=C0.cell y d hd;obtain⟨o,ho,hq⟩:=id z;exact⟨⟨v,cellK (sub y d hd) z⟩,un.free d o ho n (nfp (sub y d hd))⟩
  ·obtain⟨d,u,g1,g2,g3⟩:=f2 i y v e1 e2;exact⟨d,u,g1,g2,cellK (sub y d g1) g3⟩
 rw[he] at hX ⊢;exact im (by show ((false || (backTo pos (starEach es (blk X sc cl C Nc fp s0 H0).env)).any (·.1)) || false)=false; rw[hpl]; rfl) jw (ek hX)
end
def jSM (m:List (Option Nat))(wi:TI)(g:TG)(tt:TT)(te:St->TE):TE:=fun σ H Q=>wi σ H (qQ m g tt (te σ) σ Q)
section
variable {te:St->TE}
theorem jR2 (hc:X.calm=true)(hi:PI X tg iter wi)(hkind:sc.kind= .function)(hcell:∀ y∈sc.names,y.2≠ .cell)(hnames:∀ y∈sc.names,y.2= .local->sc.names.lookup y.1=some .local)
  (hfree:∀ y∈sc.names,y.2= .free->X.env.scope.names.lookup y.1=some .cell\/X.env.scope.names.lookup y.1=some .free) (hm:jCC X sc Nc m)
  (hg:∀ cl C fp s H,PG (blk X sc cl C Nc fp s H) tg g) (ht:∀ cl C fp s H,PTs (blk X sc cl C Nc fp s H) ifs tt) (he:∀ cl C fp s H lK σ,Inv X lK σ H s->(∀ b∈fp,FpOk X lK H b)->PE (blk X sc cl C Nc fp s H) elt (te σ))
  (hs:∀ x,foldedSetIterable iter X.env x=pure x:=by intro _; rfl):PE X (.ListComp elt [⟨tg,iter,ifs,0⟩] sc pos) (jSM m wi g tt te):=by
 intro lK s σ H Q I h;rw[eval_ListComp];exact jH1 (tf:=te) (use:=none) hc hi hkind hcell hnames hfree hm hg ht he hs I h (fun D C H5 z1 r ⟨mm,hn⟩ fC sb q=>⟨mm,hn,fun h' s2=>⟨.ref D,H5,sb h' s2,rfl,q⟩⟩)
theorem jRS (hc:X.calm=true)(hi:JI X tg iter wi)(hkind:sc.kind= .function)(hcell:∀ y∈sc.names,y.2≠ .cell)(hnames:∀ y∈sc.names,y.2= .local->sc.names.lookup y.1=some .local)
  (hfree:∀ y∈sc.names,y.2= .free->X.env.scope.names.lookup y.1=some .cell\/X.env.scope.names.lookup y.1=some .free) (hm:jCC X sc Nc m)
  (hg:∀ cl C fp s H,JG (blk X sc cl C Nc fp s H) tg g) (ht:∀ cl C fp s H,JTs (blk X sc cl C Nc fp s H) ifs tt) (he:∀ cl C fp s H lK σ,Inv X lK σ H s->(∀ b∈fp,FpOk X lK H b)->JE (blk X sc cl C Nc fp s H) elt (te σ))
  (hs:FoOk iter):JE X (.ListComp elt [⟨tg,iter,ifs,0⟩] sc pos) (jSM m wi g tt te):=⟨jR2 hc hi.h hkind hcell hnames hfree hm (fun cl C fp s H=>(hg cl C fp s H).h) (fun cl C fp s H=>(ht cl C fp s H).h) (fun cl C fp s H lK σ I f=>(he cl C fp s H lK σ I f).h) (hs.h _)⟩
end
def jXV (Ts:List Addr)(H:Hp):Prop:=∀ b,H b=none\/(∃ o xs,H b=some (.frz o (.lst xs)))\/b∈Ts
theorem jMK {cts:List (Addr×Addr)}{P:Program}{w:World}{K:W.Frag}{mg mb:Ak}{CX:CXT}{k:Nat}{fa a:Addr}{fd:FuncData}{x:Str}{sp:Sp}{s₁:Shared}{vs:Al}{ns:Ag}
  (KX:K.In s₁.heap) (hns:s₁.heap.Ns mainGlobals mg) (hb:s₁.heap.Ns builtinsNs mb) (hbb:∀ x:Str,x≠ "__name__" ->mb x=bootBuiltins x) (hlim:s₁.heap.NoLimit) (hg:s₁.gens=#[])
  (ha:s₁.heap.get? a=some { cls:= .type "list",data:= .seq vs.toArray}) (hi:IntsAre vs ns) (hl:ns.length<=sizeLine) (hr:Room k callerA) (hT:∀ T∈cts.map (·.2),s₁.heap.get? T=some (tabObj #[])) (CH:∀ p∈cts,PySem.W.CodeHd s₁.heap p.1 p.2) (hKT:∀ T∈cts.map (·.2),K.lookup T=none)
  (F:∀ Aq:Heap,K.In Aq->Aq.Ns mainGlobals mg->FnOk P w K mg Aq CX k fa fd [x] sp) (hbind:∀ (s:Shared) (u:Value),BindsTo s fd ⟨[u],[]⟩ [(x,u)])
  (hsp:∀ H:Hp,(∀ T∈cts.map (·.2),H T=some (.tbl #[]))->SqL K H a (ns.map V.int)->sp [.ref a] H (fun v _=>v= .bl true) fun _ _ _=>False)
  (hCX:∀ H e s',CX [] H s₁ (fun _ _ _=>False) e s'->False):
  codeAny (model P w) callerA (.call (.ref fa) ⟨[.ref a],[]⟩) (fun r s'=>r= .ok (.ret (.bool true))/\OldK s₁.heap s'.heap/\s'.os=s₁.os/\AllBare s'.gens) s₁:=by
 have rv:=jHA hi;have lenV:=hi.length;have core:∀ H:Hp,jXV (cts.map (·.2)) H->(∀ T∈cts.map (·.2),H T=some (.tbl #[]))->SqL K H a (ns.map V.int)->HOk P w H s₁.heap->(∀ b,H b≠none->b=a\/b∈cts.map (·.2))->(H a≠none->K.lookup a=none)->
   codeAny (model P w) callerA (.call (.ref fa) ⟨[.ref a],[]⟩) (fun r s'=>r= .ok (.ret (.bool true))/\OldK s₁.heap s'.heap/\s'.os=s₁.os/\AllBare s'.gens) s₁:=by
  intro H hO hHT hS hok hA hK;have base_of:∀ {b:Addr}{o:Obj},s₁.heap.get? b=some o->H b=none->(hidT s₁.heap H).get? b=some o:=fun e n=>jRW e n;have noA:∀ {b:Addr}{o:Obj}{es:Array DictEntry}{ep:Nat},s₁.heap.get? b=some o->o.data= .dict es ep->H b=none:=fun {b o es ep} e d=>by
   cases q:H b with
   | none=>rfl
   | some u=>
    rcases hA b (by rw[q]; simp) with e' | e'
    ·subst e';rw[ha] at e; cases e;have d':Data.seq vs.toArray _=Data.dict es ep:=d;cases d'
    ·rw[hT b e'] at e; cases e;have d':Data.fields _=Data.dict es ep:=d;cases d'
  have nsK:∀ {b:Addr}{m:Ak},s₁.heap.Ns b m->(hidT s₁.heap H).Ns b m:=fun {b m} ⟨o,es,ep,e,d,r⟩=>⟨o,es,ep,base_of e (noA e d),d,r⟩;have hKb:K.In (hidT s₁.heap H):=fun b o e=>base_of (KX b o e) (by
   cases q:H b with
   | none=>rfl
   | some u=>
    rcases hA b (by rw[q]; simp) with e' | e'
    ·subst e';rw[hK (by rw[q]; simp)] at e; cases e
    ·rw[hKT b e'] at e; cases e)
  have hM:Mod K mg (hidT s₁.heap H):=⟨hKb,nsK hns,⟨mb,nsK hb,hbb⟩,let ⟨mc,h1,h2⟩:=hlim; ⟨mc,nsK h1,h2⟩⟩;have e0:Env0 P w K mg (hidT s₁.heap H) callerA [] s₁ H:=⟨rfl,hM,fun b o e=>jUW e,Nat.le_of_eq (jPH _ _),trivial,fun b hb=>absurd (show b∈([]:List Addr) from hb) Ad,hok, .of_eq hg⟩;refine dQ ((F _ hKb (nsK hns)).run callerA [] s₁ H ⟨[.ref a],[]⟩ [.ref a] [.ref a] _ _ hr e0 (hbind s₁ (.ref a)) (.cons rfl .nil) (hsp H hHT hS)) fun r s' h=>?_;cases r with
  | error e=>exact(hCX H e s' h).elim
  | ok fl=>
   cases fl with
   | next=>exact False.elim h
   | brk=>exact False.elim h
   | cont=>exact False.elim h
   | ret u=>
    obtain⟨v,H',os,bare,un,hok',r',q⟩:=h;have q':v= .bl true:=q;subst q';obtain rfl:u=Value.bool true:=r';have gr:∀ T∈cts.map (·.2),∃ more,s'.heap.get? T=some (tabObj (#[]++more)):=fun T hTm=>by
     obtain⟨more,z⟩:=un.tbls T _ (hHT T hTm);exact⟨more,hok' T _ z⟩
    have kp:∀ b o,b∉cts.map (·.2)->s₁.heap.get? b=some o->s'.heap.get? b=some o:=fun b o hbT e=>?_
    ·refine⟨rfl,⟨fun b o e=>?_,fun b o e=>?_⟩,os,bare⟩
     ·by_cases hb:b∈cts.map (·.2)
      ·obtain⟨p,hp,rfl⟩:=aQ.mp hb;have q:=hT _ hb;rw[q] at e;cases e;obtain⟨more,z⟩:=gr _ hb;exact .inr (.inl ⟨((CH p hp).tab q).isCodeTable,rfl,#[],more,rfl,z⟩)
      ·exact .inl (kp b o hb e)
     ·by_cases hb:b∈cts.map (·.2)
      ·obtain⟨more,z⟩:=gr _ hb;exact⟨_,z⟩
      ·exact⟨o,kp b o hb e⟩
    cases q:H b with
    | none=>exact un.keep b o e q (by intro z; exact absurd (show b∈([]:List Addr) from z) Ad) Ad
    | some u=>
     rcases hO b with z | ⟨ob,xs,z⟩ | z
     ·rw[q] at z; cases z
     ·have z2:=un.frzs b ob _ z;obtain⟨e1,_⟩:=hok b _ z;obtain⟨e2,_⟩:=hok' b _ z2;rw[e] at e1; cases e1;exact e2
     ·exact absurd z hbT
 have aT:a∉cts.map (·.2):=fun z=>by rw[hT a z] at ha; cases ha
 cases hk:K.lookup a with
 | some o=>
  have e:=KX a o hk;rw[ha] at e;cases e;refine core (fun b=>if b∈cts.map (·.2) then some (.tbl #[]) else none) (fun b=>?_) (fun T hm=>ay hm) (.inr ⟨_,vs.toArray,_,hk,rfl,rfl,rfl,by rw[ar,lenV]; exact hl,by simpa using rv⟩) (fun b u z=>?_) (fun b z=>?_) fun z=>absurd (aw aT) z
  ·by_cases hb:b∈cts.map (·.2)
   ·exact .inr (.inr hb)
   ·exact .inl (aw hb)
  ·by_cases hb:b∈cts.map (·.2)
   ·have z':=(ay hb).symm.trans z;cases z';exact hT b hb
   ·have z':=(aw hb).symm.trans z;cases z'
  ·by_cases hb:b∈cts.map (·.2)
   ·exact .inr hb
   ·exact absurd (aw hb) z
 | none=>
  refine core (fun b=>if b∈cts.map (·.2) then some (.tbl #[]) else if b=a then some (.frz { cls:= .type "list",data:= .seq vs.toArray} (.lst (ns.map V.int))) else none) (fun b=>?_) (fun T hm=>ay hm) (.inl (.inr ⟨{ cls:= .type "list",data:= .seq vs.toArray},by dsimp only; rw[aw aT,ay rfl]⟩)) (fun b u z=>?_) (fun b z=>?_) fun _=>hk
  ·by_cases hT':b∈cts.map (·.2)
   ·exact .inr (.inr hT')
   ·by_cases hb:b=a
    ·exact .inr (.inl ⟨_,_,by dsimp only; rw[aw hT',ay hb]⟩)
    ·exact .inl (by dsimp only; rw[aw hT',aw hb])
  ·dsimp only at z;by_cases hT':b∈cts.map (·.2)
   ·rw[ay hT'] at z;cases z;exact hT b hT'
   ·rw[aw hT'] at z;by_cases hb:b=a
    ·rw[ay hb] at z;cases z;subst hb;exact⟨ha,by rw[af]; exact hl,vs,_,rv,ha⟩
    ·rw[aw hb] at z;cases z
  ·replace z:(if b∈cts.map (·.2) then some (HO.tbl #[]) else if b=a then some (HO.frz { cls:= .type "list",data:= .seq vs.toArray} (.lst (ns.map V.int))) else none)≠none:=z;by_cases hT':b∈cts.map (·.2)
   ·exact .inr hT'
   ·by_cases hb:b=a
    ·exact .inl hb
    ·rw[aw hT',aw hb] at z;exact absurd rfl z
theorem walk_ofTs {cts:List (Addr×Addr)}{l:PySem.W.OpenLaw}{n k:Nat}{q:Program}{loose:Am}{XP:(Ak)->Heap->Prop}{YP:World->Heap->Prop}{d:DefRec}{K:Params->W.Frag}{CX:World->CXT}{sp:World->Sp}{x:Str}
  (hn:l.most=some n) (hn2:n<=sizeLine) (hdf:d.params.defaults=[]) (hr:Room k callerA)
  (hY:∀ (w:World) (h:Heap),YP w h->(K w.params).In h/\∀ T∈cts.map (·.2),h.get? T=some (tabObj #[])) (hcd:∀ w:World,∀ p∈cts,codeHdIn (K w.params) p.1 p.2=true) (hKT:∀ w:World,∀ T∈cts.map (·.2),(K w.params).lookup T=none)
  (F:∀ (w:World) (mg:Ak) (fa:Addr) (h:Heap),(K w.params).In h->h.Ns mainGlobals mg->mg d.name=some (.ref fa)->
   ∃ fd:FuncData,(∀ (s:Shared) (u:Value),BindsTo s fd ⟨[u],[]⟩ [(x,u)])/\
    ∀ Aq:Heap,(K w.params).In Aq->Aq.Ns mainGlobals mg->FnOk l.prog w (K w.params) mg Aq (CX w) k fa fd [x] (sp w))
  (hsp:∀ (w:World) (H:Hp) (a:Addr) (ns:Ag),ns.length<=n->(∀ T∈cts.map (·.2),H T=some (.tbl #[]))->SqL (K w.params) H a (ns.map V.int)->sp w [.ref a] H (fun v _=>v= .bl true) fun _ _ _=>False)
  (hCX:∀ (w:World) (H:Hp) (s:Shared) (e:Value) (s':Shared),CX w [] H s (fun _ _ _=>False) e s'->False):
  PySem.W.WalkO q loose XP YP l.row.toRowW d [] (fun f vs=>PySem.call f vs):=by
 refine Att.attach_call hn hdf fun w s₀ s₁ mg mb fa o pm cd doc a vs ns G Y ho hd _ hmg hobj hints hlen hg=>?_;obtain⟨KX,hT⟩:=hY w _ Y;obtain⟨fd,hb,hF⟩:=F w mg fa _ KX G.T.g hmg;exact jMK KX G.T.g G.T.b G.T.builtins G.T.nolimit hg hobj hints (bi hlen hn2) hr hT (fun p hp=>dO KX (hcd w p hp)) (hKT w) hF hb (fun H hO hS=>hsp w H a ns hlen hO hS) fun H e s'=>hCX w H s₁ e s'
open PySem.AutoSeq1 (wpAny_loadPart')
theorem jS1 {tp:Bool}{e it l:Addr}{i:Nat}{xs:An}{x old:Value}{Q:Ah}(ee:IsEnum s.heap e it i old)(g1:ItAt tp s.heap it l i)(o1:ObAt tp s.heap l xs)(hx:xs[i]?=some x)(ne:e≠it)
  (k:∀ h',IsEnumOut h' e it ((i:Int)+1) x s.heap.objs.size->ItAt tp h' it l (i+1)->h'.get? s.heap.objs.size=some { cls:= .type "tuple",data:= .seq #[.int i s.toks,x]} ->h'.objs.size=s.heap.objs.size+1->
   (∀ c o,c≠e->c≠it->s.heap.get? c=some o->h'.get? c=some o)->Q (.ref s.heap.objs.size) { s with heap:=h',toks:=s.toks+1}):
  wpAny (model prog w) A (Builtin.«enumerate.__next__» ⟨[.ref e],[]⟩) (fun fin s'=>∃ v,fin= .done (.ret v)/\Q v s') E s:=by
 obtain⟨hp,g,d,tk,os⟩:=s;show wpAny (model prog w) A (field (.ref e) 2 >>= _) _ _ _;refine ae (eD ee rfl (x:= .ref it) rfl (ae (next1 g1 o1 hx fun p1 r1 q1=>?_)));have q1:Heap.SameBut it hp p1:=q1;have e1:IsEnum p1 e it i old:=(q1.2 e ne).trans ee;show wpAny (model prog w) A (field (.ref e) 3 >>= _) _ _ ⟨p1,g,d,tk,os⟩;refine ae (eD e1 rfl (x:=rawInt i) rfl (?_:wpAny (model prog w) A (field (.ref e) 4 >>= _) _ _ ⟨p1,g,d,tk,os⟩));refine ae (eD e1 rfl (x:= .none) rfl (?_:wpAny (model prog w) A (mkInt i >>= _) _ _ ⟨p1,g,d,tk,os⟩));refine ae (wpAny_mkInt (?_:wpAny (model prog w) A (setField (.ref e) 3 (rawInt ((i:Int)+1)) >>= _) _ _ ⟨p1,g,d,tk+1,os⟩));refine ae (cV e1 Ad fun p2 e2 q2=>?_);have q2:Heap.SameBut e p1 p2:=q2;have e2:IsEnum p2 e it ((i:Int)+1) old:=e2;show wpAny (model prog w) A (setField (.ref e) 4 .none >>= _) _ _ ⟨p2,g,d,tk+1,os⟩;refine ae (cV e2 Ad fun p3 e3 q3=>?_);have q3:Heap.SameBut e p2 p3:=q3;have e3:IsEnum p3 e it ((i:Int)+1) old:=e3;show wpAny (model prog w) A (newTuple [.int i tk,x] >>= _) _ _ ⟨p3,g,d,tk+1,os⟩;refine ae (ku ?_);have e4:IsEnum (p3.push { cls:= .type "tuple",data:= .seq #[.int i tk,x]}) e it ((i:Int)+1) old:=ah _ e3;have sz:p3.objs.size=hp.objs.size:=by rw[q3.1,q2.1,q1.1]
 have lt:e<hp.objs.size:=aG ee;have t4:(p3.push { cls:= .type "tuple",data:= .seq #[.int i tk,x]}).get? hp.objs.size=some { cls:= .type "tuple",data:= .seq #[.int i tk,x]} :=by rw[<- sz]; exact aC _ rfl
 have z4:(p3.push { cls:= .type "tuple",data:= .seq #[.int i tk,x]}).objs.size=hp.objs.size+1:=by rw[dU,sz]
 have k4:∀ c o,c≠e->c≠it->hp.get? c=some o->(p3.push { cls:= .type "tuple",data:= .seq #[.int i tk,x]}).get? c=some o:=fun c o n1 n2 v=>ah _ (q3.extBut c o n1 (q2.extBut c o n1 (q1.extBut c o n2 v)));have r4:ItAt tp (p3.push { cls:= .type "tuple",data:= .seq #[.int i tk,x]}) it l (i+1):=((r1.but q2.extBut ne.symm).but q3.extBut ne.symm).at fun o v=>ah _ v;generalize p3.push { cls:= .type "tuple",data:= .seq #[.int i tk,x]} =p4 at e4 t4 z4 k4 r4 ⊢;show wpAny (model prog w) A (Builtin.SmallTypes.ownedTupleIsFree (.ref e) >>= _) _ _ ⟨p4,g,d,tk+1,os⟩;rw[sz];refine ae (by
  unfold Builtin.SmallTypes.ownedTupleIsFree;refine ae (eD e4 rfl (x:= .none) rfl (am ?_));simp only [g5];refine ae (di (ae (eD e4 rfl (x:=old) rfl (ae (cV e4 Ad fun p5 e5 q5=>?_)))));have q5:Heap.SameBut e p4 p5:=q5;have e5:IsEnum p5 e it ((i:Int)+1) x:=e5;refine ae (m:=Builtin.SmallTypes.ownedTupleHandOut (.ref e) (.ref hp.objs.size)) ?_;unfold Builtin.SmallTypes.ownedTupleHandOut;refine ae (cV e5 Ad fun p6 e6 q6=>?_);have q6:Heap.SameBut e p5 p6:=q6;have e6:IsEnumOut p6 e it ((i:Int)+1) x hp.objs.size:=e6;refine cV e6 Ad fun p7 e7 q7=>?_;have q7:Heap.SameBut e p6 p7:=q7;have e7:IsEnumOut p7 e it ((i:Int)+1) x hp.objs.size:=e7;have up:∀ c o,c≠e->p4.get? c=some o->p7.get? c=some o:=fun c o n v=>q7.extBut _ _ n (q6.extBut _ _ n (q5.extBut _ _ n v));exact ae (wpAny_letGo (am ⟨_,rfl,k p7 e7 (r4.at fun o v=>up _ o ne.symm v) (up _ _ (cR lt) t4) (by rw[q7.1,q6.1,q5.1,z4]) fun c o n1 n2 v=>up c o n1 (k4 c o n1 n2 v)⟩)))
theorem jM5 {tp:Bool}{e it l:Addr}{i:Nat}{xs:An}{x old:Value}{Q:Ao->Shared->Prop}(ee:IsEnum s.heap e it i old)(g1:ItAt tp s.heap it l i)(o1:ObAt tp s.heap l xs)(hx:xs[i]?=some x)(ne:e≠it)
  (k:∀ h',IsEnumOut h' e it ((i:Int)+1) x s.heap.objs.size->ItAt tp h' it l (i+1)->h'.get? s.heap.objs.size=some { cls:= .type "tuple",data:= .seq #[.int i s.toks,x]} ->h'.objs.size=s.heap.objs.size+1->
   (∀ c o,c≠e->c≠it->s.heap.get? c=some o->h'.get? c=some o)->Q (some (.ref s.heap.objs.size)) { s with heap:=h',toks:=s.toks+1}):
  wpAny (model prog w) A (pyNext (.ref e)) Q E s:=by
 have ty:s.TypeIs (.ref e) "enumerate" :=⟨_,ee,rfl⟩;unfold pyNext;exact ae (eG (cW (name:=Str.ofString "__next__") ty F.slot_enumerate_next (cD F.slot_enumerate_next ty F.entry_enumerate_next (jS1 ee g1 o1 hx ne fun h' b1 b2 b3 b4 b5=>am (k h' b1 b2 b3 b4 b5)) (F.args_enumerate_next_1 _))))
theorem jM6 {tp:Bool}{e it l:Addr}{i:Nat}{xs:An}{old:Value}{Q:Ao->Shared->Prop}(hh:A.handled=none)(ee:IsEnum s.heap e it i old)(g1:ItAt tp s.heap it l i)(o1:ObAt tp s.heap l xs)(hx:xs[i]?=none)
  (k:∀ h',(∀ c o,c≠e->c≠it->s.heap.get? c=some o->h'.get? c=some o)->Q none { s with heap:=h'}):wpAny (model prog w) A (pyNext (.ref e)) Q E s:=by
 have ty:s.TypeIs (.ref e) "enumerate" :=⟨_,ee,rfl⟩;unfold pyNext;refine ae (eG (cW (name:=Str.ofString "__next__") ty F.slot_enumerate_next (cD F.slot_enumerate_next ty F.entry_enumerate_next (?_:wpAny (model prog w) _ (field (.ref e) 2 >>= _) _ _ _) (F.args_enumerate_next_1 _))));refine ae (eD ee rfl (x:= .ref it) rfl (ae (next0 hh g1 o1 hx fun h' x kp ⟨u,eu,cu⟩=>?_)));exact ae (jf (T:= "StopIteration") (b:=true) ⟨u,eu,cu⟩ isSubtype_stop (am (k _ fun c o _ n v=>kp c o n v)))
set_option maxHeartbeats 2000000 in
theorem jOK (tp:Bool)(l:Addr)(xs:An)(u:Obj):
  Meets (Builtin.«enumerate.__new__» ⟨[.type "enumerate", .ref l],[]⟩) (fun _ R s=>s.heap.get? l=some u/\ObAt tp s.heap l xs/\
   R (.ok (.ret (.ref (s.heap.push (iterO tp l)).objs.size))) { s with heap:=(s.heap.push (iterO tp l)).push { cls:= .type "enumerate",data:= .fields #[.none, .bool false, .ref s.heap.objs.size,rawInt 0, .none, .none]}}):=
 .of_wp fun prog w A R s h=>by
  obtain⟨hp,g,d,tk,os⟩:=s;obtain⟨a0,a1,q⟩:=h;have sub:=sub_enumerate;have e1:ObAt tp (Shared.heap ⟨hp,g,d,tk,os⟩) l xs:=a1;obtain⟨c,dct,dt,sl⟩:=u;obtain⟨n,hc,hd⟩:∃ n,c=(if tp then .type "tuple" else .type "list")/\dt= .seq xs n:=by
   cases tp with
   | false=>obtain⟨o,e,hc,n,hd⟩:=a1; cases (a0.symm.trans e); exact⟨n,hc,hd⟩
   | true=>obtain⟨o,e,hc,n,hd⟩:=a1; cases (a0.symm.trans e); exact⟨n,hc,hd⟩
  subst hd;cases tp with
  | false=>
   subst hc
   wp_walk using cy a0
   refine wpAny_stack_any fun _=>am ?_;split
   ·rename_i c _ _ _ _ _;cases hcc:(c==Value.type "enumerate")
    all_goals (wp_walk using cy a0,jGB e1; exact⟨_,rfl,q⟩)
   ·wp_walk using cy a0,jGB e1
    exact⟨_,rfl,q⟩
  | true=>
   subst hc
   wp_walk using cy a0
   refine wpAny_stack_any fun _=>am ?_;split
   ·rename_i c _ _ _ _ _;cases hcc:(c==Value.type "enumerate")
    all_goals (wp_walk using cy a0,jGB e1; exact⟨_,rfl,q⟩)
   ·wp_walk using cy a0,jGB e1
    exact⟨_,rfl,q⟩
theorem jS7 {prog:Program}{w:World}{A:Around}{E:Ah}{s:Shared}{tp:Bool}{l:Addr}{xs:An}{Q:Ah}(a1:ObAt tp s.heap l xs)
  (k:∀ h',IsEnum h' (s.heap.objs.size+1) s.heap.objs.size 0 .none->ItAt tp h' s.heap.objs.size l 0->(∀ c o,s.heap.get? c=some o->h'.get? c=some o)->Q (.ref (s.heap.objs.size+1)) { s with heap:=h'}):
  wpAny (model prog w) A (call (.type "enumerate") [.ref l]) Q E s:=by
 obtain⟨u,eu⟩:∃ u,s.heap.get? l=some u:=by
  cases tp with
  | false=>obtain⟨o,e,_⟩:=a1; exact⟨o,e⟩
  | true=>obtain⟨o,e,_⟩:=a1; exact⟨o,e⟩
 refine callType_new F.called_enumerate Ac (F.typeCall_enumerate_1 _) (F.newCall_enumerate_1 _) (fun obj=>F.args_object_init_2 obj _) F.entry_enumerate_new (jOK tp l xs u) ⟨eu,a1,?_⟩;have z1:(s.heap.push (iterO tp l)).objs.size=s.heap.objs.size+1:=dU ..;have y2:IsEnum ((s.heap.push (iterO tp l)).push { cls:= .type "enumerate",data:= .fields #[.none, .bool false, .ref s.heap.objs.size,rawInt 0, .none, .none]}) (s.heap.push (iterO tp l)).objs.size s.heap.objs.size 0 .none:=aC _ rfl;have y1:((s.heap.push (iterO tp l)).push { cls:= .type "enumerate",data:= .fields #[.none, .bool false, .ref s.heap.objs.size,rawInt 0, .none, .none]}).get? s.heap.objs.size=some (iterO tp l):=ah _ (aC _ (jML _ _));show _/\_;rw[z1] at y2 ⊢;exact⟨⟨_,y2,rfl⟩,k _ y2 (.new tp y1) fun c o e=>ah _ (ah _ e)⟩
def Ite (tp:Bool)(K:W.Frag)(l:Addr):It:=
 ⟨fun i H=>∃ xs x,Sq tp K H l xs/\xs[i]?=some x,
  fun i H v H'=>∃ T x,H T=none/\v= .ref T/\H'=upd H T (.tup [.int (i:Int),x])/\∀ xs,Sq tp K H l xs->xs[i]?=some x,
  fun i H=>∃ xs,Sq tp K H l xs/\xs.length<=i⟩
theorem jN0 {P:Program}{w:World}{K:W.Frag}{elts:List Expr}{x1:Nat}{tps:Pos}(tp:Bool)(l e it:Addr)(ne:e≠it):
  Turn P w K (.Tuple elts x1 tps) (Ite tp K l) [e,it] e (fun i h=>(∃ old,IsEnum h e it ((i:Nat):Int) old)/\ItAt tp h it l i) where
 mem:=by simp
 obj:=fun i h st b hb=>by
  obtain⟨⟨old,he⟩,y1⟩:=st;simp only [aE,bE,dD] at hb;rcases hb with rfl | rfl
  ·exact⟨_,he,fun v q=>by cases q⟩
  ·exact y1.obj
 keep:=fun i h h' st k=>by
  obtain⟨⟨old,he⟩,h1⟩:=st;exact⟨⟨old,k e Ad _ he⟩,h1.at fun o z=>k it Ad o z⟩
 item:=by
  intro X hP hw hK hc i lK s σ H E I hf st hg;subst hP hw hK;obtain⟨xs,x,hq1,hx⟩:=hg;obtain⟨⟨old,he⟩,h1⟩:=st;obtain⟨its1,r1,p1,_⟩:=I.sq hq1;obtain⟨u,hu,ru⟩:=r1.get hx;refine jM5 he h1 p1 (x:=u) (by simpa using hu) ne fun h' a1 a2 a3 a4 a5=>?_;refine⟨_,rfl,wpAny_letOwnedTupleGo_enum (s:= { s with heap:=h',toks:=s.toks+1}) a1 fun h'' b1 sb=>?_⟩;have fresh:H s.heap.objs.size=none:=I.fresh;have ntr:∀ b o,H b=some o->b∉([e,it]:List Addr):=fun b o z hb=>by
   have:=(hf b hb).1;rw[z] at this; cases this
  have kp:∀ b o,b∉([e,it]:List Addr)->s.heap.get? b=some o->h''.get? b=some o:=fun b o hb z=>by
   simp only [aE,bE,dD,lA] at hb;exact(sb.2 b hb.1).trans (a5 b o hb.1 hb.2 z)
  have nz:s.heap.objs.size≠e:=cR (aG he);have hT2:h''.get? s.heap.objs.size=some { cls:= .type "tuple",data:= .seq #[.int i s.toks,u]} :=(sb.2 _ nz).trans a3;have I2:Inv X lK σ (upd H s.heap.objs.size (.tup [.int (i:Int),x])) { s with heap:=h'',toks:=s.toks+1} :=by
   refine I.step (g':=s.gens) (d':=s.drawn) (t':=s.toks+1) (ch:=[e,it]) (fun b hb=>?_) (fun b o _ _ hb z _=>kp b o hb z) (fun b o _ _ hb z _=>⟨o.slots,kp b o hb z⟩)
    (fun b o _ z n=>by rw[j9 (aW (aG z))]; exact n) (fun b o hb z=>⟨o,kp b o hb z⟩) (fun b ws z=>by rw[j9 (jA z fresh)]; exact z) (fun b o ws z=>by rw[j9 (jA z fresh)]; exact z)
    (fun b ps z=>⟨#[],by rw[j9 (jA z fresh),z]; simp⟩) (fun m hm=>?_) (fun b o z=>?_) I.bare
   ·obtain⟨f0,f1,f2,f3,f4,f5⟩:=hf b hb;exact⟨f3,f1,f4,f5⟩
   ·obtain⟨o,es,ep,ho,r⟩:=hm;exact⟨o,es,ep,kp _ o (fun hb=>(hf _ hb).2.1 rfl) ho,r⟩
   ·by_cases hb:b=s.heap.objs.size
    ·subst hb;rw[j5] at z;cases z;exact⟨by rw[eW]; show 2<=_; decide,[.int i s.toks,u], .cons ⟨_,rfl⟩ (.cons ru .nil),0,hT2⟩
    ·rw[j9 hb] at z;refine(I.hok b o z).stay (fun c w hc q=>kp c w ?_ q) (fun c q=>by rw[j9 (jA q fresh)]; exact q) (fun c ws q=>by rw[j9 (jA q fresh)]; exact q);rcases hc with rfl | hc
     ·exact ntr _ _ z
     ·exact ntr _ _ hc
  refine⟨.ref s.heap.objs.size,_,I2,rfl,⟨_,x,fresh,rfl,rfl,fun xs' q1=>by rw[I.sq_inj q1 hq1]; exact hx⟩,⟨⟨_,b1⟩,?_⟩,fun b hb=>?_⟩
  ·exact a2.at fun o z=>(sb.2 it ne.symm).trans z
  ·rw[j9 (fun q=>by
    obtain⟨o,eo⟩:∃ o,s.heap.get? b=some o:=by
     simp only [aE,bE,dD] at hb;rcases hb with rfl | rfl
     ·exact⟨_,he⟩
     ·obtain⟨o,z,_⟩:=h1.obj; exact⟨o,z⟩
    exact absurd (aG eo) (by rw[q]; exact db _))]
   exact(hf b hb).1
 done:=by
  intro X hP hw hK hc i lK s σ H E I hf st hg;subst hP hw hK;obtain⟨xs,hq1,hend⟩:=hg;obtain⟨⟨old,he⟩,h1⟩:=st;obtain⟨its1,r1,p1,_⟩:=I.sq hq1;have e1:=r1.length;refine jM6 (I.ok.hd hc) he h1 p1 (by simp; lia) fun h' kp=>⟨rfl,?_⟩;have kp2:∀ b o,b∉([e,it]:List Addr)->s.heap.get? b=some o->h'.get? b=some o:=fun b o hb z=>by
   simp only [aE,bE,dD,lA] at hb;exact kp b o hb.1 hb.2 z
  have ntr:∀ b o,H b=some o->b∉([e,it]:List Addr):=fun b o z hb=>by
   have:=(hf b hb).1;rw[z] at this; cases this
  refine I.step (g':=s.gens) (d':=s.drawn) (t':=s.toks) (ch:=[e,it]) (fun b hb=>?_) (fun b o _ _ hb z _=>kp2 b o hb z) (fun b o _ _ hb z _=>⟨o.slots,kp2 b o hb z⟩)
   (fun b o _ z n=>n) (fun b o hb z=>⟨o,kp2 b o hb z⟩) (fun b ws z=>z) (fun b o ws z=>z) (fun b ps z=>⟨#[],by rw[z]; simp⟩) (fun m hm=>?_) (fun b o z=>?_) I.bare
  ·obtain⟨f0,f1,f2,f3,f4,f5⟩:=hf b hb;exact⟨f3,f1,f4,f5⟩
  ·obtain⟨o,es,ep,ho,r⟩:=hm;exact⟨o,es,ep,kp2 _ o (fun hb=>(hf _ hb).2.1 rfl) ho,r⟩
  ·refine(I.hok b o z).stay (fun c w hc q=>kp2 c w ?_ q) (fun _ q=>q) fun _ _ q=>q;rcases hc with rfl | hc
   ·exact ntr _ _ z
   ·exact ntr _ _ hc
 self:=fun _ _ _ _ _ st h=>wpAny_pyIter_enum st.1.choose_spec h
def iEnum (K:W.Frag)(ta:TA):TI:=fun σ H R=>ta σ H fun vs H1=>∃ tp l,vs=[.ref l]/\(∃ xs,Sq tp K H1 l xs)/\R (Ite tp K l) H1
theorem jU8 {a:Expr}{ta:TA}{p pos:Pos}{elts:List Expr}{x1:Nat}{tp:Pos}(hg:Gl X "enumerate")(hm:X.mg "enumerate" =none)(ha:PA X [a] ta)(hv:bootBuiltins "enumerate" =some (.type "enumerate"):=by decide+kernel)
  (he:starEach [a] X.env=(false,eval a X.env)::starEach [] X.env:=by rfl) (hpl:(backTo pos (starEach [] X.env)).any (·.1)=false:=by rfl):
  PI X (.Tuple elts x1 tp) (.Call (.Name "enumerate" p) [a] [] pos) (iEnum X.K ta):=by
 intro lK s σ H R I h;refine Call_ (jEY I hg hm hv (dP (lN (ha pos lK s σ H _ I h) fun us s1 ⟨vs,H1,I1,r1,q1⟩=>?_) he hpl));obtain⟨t1,l1,rfl,⟨xs,hq1⟩,q⟩:=q1;obtain⟨u,rfl,ru⟩:=r1.one;cases ru;obtain⟨its1,_,p1,_⟩:=I1.sq hq1;refine jS7 p1 fun h' a1 a2 kp=>?_;have I2:Inv X lK σ H1 { s1 with heap:=h'} :=I1.kept (t':=s1.toks) kp;refine wpAny_pyIter_enum a1 ⟨s1.heap.objs.size+1,[s1.heap.objs.size+1,s1.heap.objs.size],_,Ite t1 X.K l1,H1,rfl,I2,jN0 t1 l1 _ _ (Nat.succ_ne_self _),⟨⟨_,a1⟩,a2⟩,fun b hb=>?_,q⟩;have hge:s1.heap.objs.size<=b:=by
  simp only [aE,bE,dD] at hb;rcases hb with rfl | rfl
  ·exact Nat.le_add_right _ 1
  ·exact aA _
 exact I1.fpOk hge (I1.hok.fresh hge)
theorem jJR {a:Expr}{t:TA}{p pos:Pos}{elts:List Expr}{x1:Nat}{tp:Pos}(hg:Gl1 X "enumerate")(hm:X.mg "enumerate" =none)(ha:JA X [a] t)(he:starEach [a] X.env=(false,eval a X.env)::starEach [] X.env)(hv:bootBuiltins "enumerate" =some (.type "enumerate"):=by decide+kernel)
  (hpl:(backTo pos (starEach [] X.env)).any (·.1)=false:=by rfl):JI X (.Tuple elts x1 tp) (.Call (.Name "enumerate" p) [a] [] pos) (iEnum X.K t):=⟨jU8 hg.a hm ha.h hv he hpl⟩
variable {H1:Hp}{Q:VK}
section
variable {K:W.Frag}{σ:St}
theorem jIK {tp:Bool}{l:Addr}{xs:List V}(hn:xs.length<sizeLine)(Pv:Addr->Nat->St->Hp->List V->Prop)(h0:∀ D,H1 D=none->Pv D 0 (blkσ m σ) (upd H1 D (.lst [])) [])
  (hD:∀ D i σ' H' zs,H1 D=none->Pv D i σ' H' zs->Sq tp K H' l xs/\H' D=some (.lst zs)/\zs.length<=i)
  (hs:∀ D i σ' H' zs x T,H1 D=none->xs[i]?=some x->H' T=none->Pv D i σ' H' zs->g (.ref T) σ' (upd H' T (.tup [.int (i:Int),x])) fun σ2 H2=>tt σ2 H2 fun b H3=>if b=true then te σ2 H3 fun v H4=>H4 D=some (.lst zs)/\Pv D (i+1) σ2 (upd H4 D (.lst (zs++[v]))) (zs++[v]) else Pv D (i+1) σ2 H3 zs)
  (hd:∀ D σ' H' zs,H1 D=none->Pv D xs.length σ' H' zs->Q (.ref D) H'):qQ m g tt te σ Q (Ite tp K l) H1:=by
 intro D hDn;refine⟨fun i k σ' H' zs=>k=xs.length - i/\i<=xs.length/\Pv D i σ' H' zs,⟨_,rfl,bo _,h0 D hDn⟩,?_⟩;rintro i k σ' H' zs ⟨rfl,hi,p⟩;obtain⟨s1,q1,q2⟩:=hD D i σ' H' zs hDn p;refine⟨q1,Aa,?_⟩;by_cases hlt:i<xs.length
 ·refine .inr ⟨⟨xs,xs[i],s1,by simp [hlt]⟩,Pv D (i+1),fun σ2 H2 zs z=>⟨xs.length - (i+1),Aa,rfl,hlt,z⟩,fun v H'' y=>?_⟩;obtain⟨T,x,e1,e2,e3,e4⟩:=y;subst e2 e3;exact hs D i σ' _ zs x T hDn (e4 xs s1) e1 p
 ·have e:i=xs.length:=Aa;subst e;exact .inl ⟨⟨xs,s1,aA _⟩,hd D σ' H' zs hDn p⟩
end
section
variable {κ:Type} [DecidableEq κ]
def valV (kvs:List (κ×V))(k:κ):Option V:=(kvs.find? fun kv=>decide (kv.1=k)).map (·.2)
def putK (kvs:List (κ×V))(k:κ)(v:V):List (κ×V):=
 if (kvs.any fun kv=>decide (kv.1=k))=true then kvs.map (fun kv=>if kv.1=k then (kv.1,v) else kv) else kvs++[(k,v)]
theorem jBP {p:κ×V}{r:List (κ×V)}{k:κ}(e:p.1=k):valV (p::r) k=some p.2:=by simp [valV,d9,e]
theorem jBQ {p:κ×V}{r:List (κ×V)}{k:κ}(e:¬ p.1=k):valV (p::r) k=valV r k:=by simp [valV,d9,e]
theorem jG6 (k:κ):∀ kvs:List (κ×V),(kvs.any fun kv=>decide (kv.1=k))=(valV kvs k).isSome
 | []=>rfl
 | p::r=>by
  rw[g6];by_cases e:p.1=k
  ·simp only [jBP e,ax e,Bool.true_or,Option.isSome_some]
  ·rw[jBQ e,aN e,i6]; exact jG6 k r
theorem jCG (kvs:List (κ×V))(k:κ)(v:V):(putK kvs k v).length<=kvs.length+1:=by
 unfold putK;split
 ·rw[af]; lia
 ·rw[aJ,aV,cz]; lia
theorem jKN {kvs:List (κ×V)}{k:κ}(v:V)(h:valV kvs k=none):putK kvs k v=kvs++[(k,v)]:=by
 unfold putK;rw[jG6,h];exact aw Ac
theorem RelO.isSome_eq {o:Option V}{u:Ao}(r:RelO o u):o.isSome=u.isSome:=by
 cases o with
 | none=>cases u with
  | none=>rfl
  | some _=>exact(show False from r).elim
 | some _=>cases u with
  | none=>exact(show False from r).elim
  | some _=>rfl
theorem KV.val {kvs:List (κ×V)}{vs:List (κ×Value)}(r:KV kvs vs)(k:κ):RelO (valV kvs k) (valueAt vs k):=by
 unfold KV at r
 induction r with
 | nil=>exact True.intro
 | @cons p q ps qs h t ih=>
  obtain⟨h1,h2⟩:=h;by_cases e:p.1=k
  ·have e':q.1=k:=h1.symm.trans e;have b:valueAt (q::qs) k=some q.2:=by simp [valueAt,d9,e']
   rw[jBP e,b]; exact h2
  ·have e':¬ q.1=k:=fun z=>e (h1.trans z);have b:valueAt (q::qs) k=valueAt qs k:=by simp [valueAt,d9,e']
   rw[jBQ e,b]; exact ih
theorem KV.any {kvs:List (κ×V)}{vs:List (κ×Value)}(r:KV kvs vs)(k:κ):(kvs.any fun kv=>decide (kv.1=k))=vs.any fun kv=>decide (kv.1=k):=by
 unfold KV at r
 induction r with
 | nil=>rfl
 | cons h t ih=>rw[g6,g6,ih,h.1]
theorem KV.repl {kvs:List (κ×V)}{vs:List (κ×Value)}(r:KV kvs vs)(k:κ){y:V}{u:Value}(ry:RelV y u):
  KV (kvs.map fun kv=>if kv.1=k then (kv.1,y) else kv) (vs.map fun kv=>if kv.1=k then (kv.1,u) else kv):=by
 unfold KV at r ⊢
 induction r with
 | nil=>exact .nil
 | @cons p q ps qs h t ih=>
  rw[bf,bf];refine .cons ?_ ih;obtain⟨h1,h2⟩:=h;by_cases e:p.1=k
  ·rw[ay e,ay (h1.symm.trans e)]; exact⟨h1,ry⟩
  ·rw[aw e,aw (fun z=>e (h1.trans z))]; exact⟨h1,h2⟩
theorem KV.put {kvs:List (κ×V)}{vs:List (κ×Value)}(r:KV kvs vs)(k:κ){y:V}{u:Value}(ry:RelV y u):KV (putK kvs k y) (stored vs k u):=by
 unfold putK stored;rw[r.any k];by_cases e:(vs.any fun kv=>decide (kv.1=k))=true
 ·rw[ay e,ay e]; exact r.repl k ry
 ·rw[aw e,aw e]; exact Paired.snoc r ⟨rfl,ry⟩
theorem KV.keys {kvs:List (κ×V)}{vs:List (κ×Value)}(r:KV kvs vs):kvs.map (·.1)=vs.map (·.1):=by
 unfold KV at r
 induction r with
 | nil=>rfl
 | cons h t ih=>rw[bf,bf,ih,h.1]
theorem KV.length {kvs:List (κ×V)}{vs:List (κ×Value)}(r:KV kvs vs):kvs.length=vs.length:=fZ r
end
theorem kV_is {P:Program}{w:World}{k:Key}{u:Value}(r:RelV (kV k) u):(kU P w).is k u=true:=by
 cases k with
 | inl i=>obtain⟨t,e⟩:=(show ∃ t,u=Value.int i t from r); subst e; exact jJK P w i t
 | inr x=>obtain⟨t,e⟩:=(show ∃ t,u=Value.str x t from r); subst e; exact jJJ P w x t
theorem jIA {P:Program}{w:World} :∀ {ks:List Key}{us:Al},Vals (ks.map kV) us->ItemsAre (kU P w) ks us
 | [],_,r=>by rw[iq] at r; cases r; exact .nil
 | k::ks,_,r=>by
  rw[bf] at r;cases r with
  | cons h t=>exact .cons (kV_is h) (jIA t)
abbrev KT (H:Hp):List (List Key×V)->List (List Key×Addr×Value)->Prop:=Paired fun p q=>p.1=q.1/\H q.2.1=some (.tup (p.1.map kV))/\RelV p.2 q.2.2
theorem KT.val {H:Hp}{kvs:List (List Key×V)}{xs:List (List Key×Addr×Value)}(r:KT H kvs xs)(k:List Key):RelO (valV kvs k) ((atKey xs k).map (·.2)):=by
 induction r with
 | nil=>exact True.intro
 | @cons p q ps qs h t ih=>
  obtain⟨h1,_,h2⟩:=h;by_cases e:p.1=k
  ·have e':q.1=k:=h1.symm.trans e;have b:atKey (q::qs) k=some q.2:=by simp [atKey,d9,e']
   rw[jBP e,b]; exact h2
  ·have e':¬ q.1=k:=fun z=>e (h1.trans z);have b:atKey (q::qs) k=atKey qs k:=by simp [atKey,d9,e']
   rw[jBQ e,b]; exact ih
theorem KT.repl {H:Hp}{kvs:List (List Key×V)}{xs:List (List Key×Addr×Value)}(r:KT H kvs xs)(k:List Key){y:V}{u:Value}(ry:RelV y u):
  KT H (kvs.map fun kv=>if kv.1=k then (kv.1,y) else kv) (xs.map (putAt k u)):=by
 induction r with
 | nil=>exact .nil
 | @cons p q ps qs h t ih=>
  rw[bf,bf];refine .cons ?_ ih;obtain⟨h1,h2,h3⟩:=h;unfold putAt;by_cases e:p.1=k
  ·rw[ay e,ay (h1.symm.trans e)]; exact⟨h1,h2,ry⟩
  ·rw[aw e,aw (fun z=>e (h1.trans z))]; exact⟨h1,h2,h3⟩
theorem KT.put {H:Hp}{kvs:List (List Key×V)}{xs:List (List Key×Addr×Value)}(r:KT H kvs xs)(k:List Key){b:Addr}{y:V}{u:Value}(hb:H b=some (.tup (k.map kV)))(ry:RelV y u):
  KT H (putK kvs k y) (storedH xs k b u):=by
 have e:(kvs.any fun kv=>decide (kv.1=k))=(atKey xs k).isSome:=by
  rw[jG6,(r.val k).isSome_eq,iU]
 unfold putK storedH;rw[e];by_cases q:(atKey xs k).isSome=true
 ·rw[ay q,ay q]; exact r.repl k ry
 ·rw[aw q,aw q]; exact Paired.snoc r ⟨rfl,hb,ry⟩
theorem KT.keeps {H H':Hp}{kvs:List (List Key×V)}{xs:List (List Key×Addr×Value)}(r:KT H kvs xs)(ht:∀ b ys,H b=some (.tup ys)->H' b=some (.tup ys)):KT H' kvs xs:=
 Paired.mapP r fun _ _ z=>⟨z.1,ht _ _ z.2.1,z.2.2⟩
theorem rd_of {u:HO}(ok:HOk P w H h)(e:Rd H a u):ObjOk P w H h a u:=e.ok ok
theorem dk_rd {kvs:List (Key×V)}(ok:HOk P w H h)(e:Rd H a (.dK kvs)):kvs.length<=sizeLine/\(a==sysModules)=false/\∃ vs,KV kvs vs/\h.DictOf (kU P w) a vs:=
 show ObjOk P w H h a (.dK kvs) from rd_of ok e
theorem dk_of {kvs:List (Key×V)}(ok:HOk P w H h)(e:H a=some (.dK kvs)):kvs.length<=sizeLine/\(a==sysModules)=false/\∃ vs,KV kvs vs/\h.DictOf (kU P w) a vs:=dk_rd ok (.inl e)
theorem jI6 {ks:List Key}(ok:HOk P w H h)(e:H a=some (.tup (ks.map kV))):(tupleKind (kU P w)).is h ks a:=by
 obtain⟨_,its,r,p⟩:=(show ObjOk P w H h a (.tup (ks.map kV)) from ok a _ e);obtain⟨o,h1,h2,n,h3⟩:=p.isTup;exact⟨o,its.toArray,n,h1,h2,h3,by simpa using jIA r⟩
theorem dt_rd {kvs:List (List Key×V)}(ok:HOk P w H h)(e:Rd H a (.dT kvs)):kvs.length<=sizeLine/\(a==sysModules)=false/\
  ∃ xs,KT H kvs xs/\h.DictOfH (tupleKind (kU P w)) a xs:=by
 obtain⟨z,y,xs,r,o,es,ep,h1,h2,h3,h4,h5⟩:=(show ObjOk P w H h a (.dT kvs) from rd_of ok e);refine⟨z,y,xs,r,o,es,ep,h1,h2,h3,h4,fun x hx=>?_,h5⟩;have all:∀ {l:List (List Key×V)}{m:List (List Key×Addr×Value)},KT H l m->∀ x∈m,(tupleKind (kU P w)).is h x.1 x.2.1:=by
  intro l m q
  induction q with
  | nil=>intro x hx; exact nomatch hx
  | @cons p q ps qs hq t ih=>
   intro x hx;rcases aE.mp hx with e | hx
   ·subst e;exact jI6 ok (by rw[<- hq.1]; exact hq.2.1)
   ·exact ih x hx
 exact all r x hx
theorem dt_of {kvs:List (List Key×V)}(ok:HOk P w H h)(e:H a=some (.dT kvs)):kvs.length<=sizeLine/\(a==sysModules)=false/\
  ∃ xs,KT H kvs xs/\h.DictOfH (tupleKind (kU P w)) a xs:=dt_rd ok (.inl e)
def DGet (H:Hp)(a:Addr)(y:V)(r:Option V):Prop:=
 (∃ kvs k,Rd H a (.dK kvs)/\y=kV k/\r=valV kvs k)\/∃ kvs k b,Rd H a (.dT kvs)/\y= .ref b/\H b=some (.tup (k.map kV))/\r=valV kvs k
def DPut (H:Hp)(a:Addr)(y v:V)(H':Hp):Prop:=
 (∃ kvs k,H a=some (.dK kvs)/\y=kV k/\kvs.length<sizeLine/\H'=upd H a (.dK (putK kvs k v)))\/
 ∃ kvs k b,H a=some (.dT kvs)/\y= .ref b/\H b=some (.tup (k.map kV))/\kvs.length<sizeLine/\H'=upd H a (.dT (putK kvs k v))
theorem DGet.k {H:Hp}{a:Addr}{kvs:List (Key×V)}{k:Key}(e:H a=some (.dK kvs)):DGet H a (kV k) (valV kvs k):= .inl ⟨kvs,k, .inl e,rfl,rfl⟩
theorem DPut.k {H:Hp}{a:Addr}{kvs:List (Key×V)}{k:Key}{v:V}(e:H a=some (.dK kvs))(hl:kvs.length<sizeLine):DPut H a (kV k) v (upd H a (.dK (putK kvs k v))):= .inl ⟨kvs,k,e,rfl,hl,rfl⟩
variable {y:V}{u r:Value}
section
variable {σ:St}{v:V}{o:Option V}
theorem Inv.big (I:Inv X lK σ H s):sysModules<s.heap.objs.size:=by
 have h:mainGlobals<s.heap.objs.size:=(I.mod.glob.keeps I.bk).lt;exact eY Ac h
theorem jPW {Q:Ah}(hu:A.units+1<cLine)(I:Inv X lK σ H s)(g:DGet H a y (some v))(ry:RelV y u)(h:∀ w' s',Inv X lK σ H s'->RelV v w'->Q w' s'):
  wpAny (model X.prog X.w) A (getItem (.ref a) u) Q E s:=by
 rcases g with ⟨kvs,k,e,ey,l⟩ | ⟨kvs,k,b,e,ey,eb,l⟩
 ·subst ey;obtain⟨z,hd,vs,rel,dd⟩:=dk_rd I.hok e;obtain⟨w',hw,rw'⟩:=RelO.some_of (v:=v) (o:=valueAt vs k) (by rw[l]; exact rel.val k);exact wpAny_getItem_of (kV_is ry) dd.mapOf hw (h w' _ (I.tok _) rw')
 ·subst ey;cases (show u=Value.ref b from ry);obtain⟨z,hd,xs,rel,dd⟩:=dt_rd I.hok e;obtain⟨w',hw,rw'⟩:=RelO.some_of (v:=v) (o:=(atKey xs k).map (·.2)) (by rw[l]; exact rel.val k);obtain⟨p,hp,hp2⟩:=Option.map_eq_some_iff.mp hw;refine wpAny_getItem_heap (gm hu) (jI6 I.hok eb) dd hp ?_;rw[hp2];exact h w' _ (I.tok _) rw'
theorem d_in {Q:Ah}(hu:A.units+1<cLine)(I:Inv X lK σ H s)(g:DGet H a y o)(ry:RelV y u)(h:∀ s',Inv X lK σ H s'->Q (.bool o.isSome) s'):
  wpAny (model X.prog X.w) A (compareOp .In u (.ref a)) Q E s:=by
 rcases g with ⟨kvs,k,e,ey,l⟩ | ⟨kvs,k,b,e,ey,eb,l⟩
 ·subst ey;obtain⟨z,hd,vs,rel,dd⟩:=dk_rd I.hok e;refine wpAny_in_of (kV_is ry) hd dd.mapOf ?_;rw[<- (rel.val k).isSome_eq,<- l];exact h _ (I.tok _)
 ·subst ey;cases (show u=Value.ref b from ry);obtain⟨z,hd,xs,rel,dd⟩:=dt_rd I.hok e;refine wpAny_in_heap (gm hu) (jI6 I.hok eb) hd dd ?_;have q:=(rel.val k).isSome_eq;rw[iU] at q;rw[<- q,<- l];exact h _ (I.tok _)
theorem jVI {Q:Ah}(hu:A.units+1<cLine)(I:Inv X lK σ H s)(g:DGet H a y o)(ry:RelV y u)(h:∀ s',Inv X lK σ H s'->Q (.bool (!o.isSome)) s'):
  wpAny (model X.prog X.w) A (compareOp .NotIn u (.ref a)) Q E s:=by
 rcases g with ⟨kvs,k,e,ey,l⟩ | ⟨kvs,k,b,e,ey,eb,l⟩
 ·subst ey;obtain⟨z,hd,vs,rel,dd⟩:=dk_rd I.hok e;refine wpAny_notIn_of (kV_is ry) hd dd.mapOf ?_;rw[<- (rel.val k).isSome_eq,<- l];exact h _ (I.tok _)
 ·subst ey;cases (show u=Value.ref b from ry);obtain⟨z,hd,xs,rel,dd⟩:=dt_rd I.hok e;refine wpAny_notIn_heap (gm hu) (jI6 I.hok eb) hd dd ?_;have q:=(rel.val k).isSome_eq;rw[iU] at q;rw[<- q,<- l];exact h _ (I.tok _)
theorem jK0 {h':Heap}{t':Nat}{ob:HO}(I:Inv X lK σ H s)(mu:Mut (H a))(hs:Heap.SameBut a s.heap h')(he:∃ q,h'.get? a=some q)(new:ObjOk X.prog X.w (upd H a ob) h' a ob):
  Inv X lK σ (upd H a ob) { s with heap:=h',toks:=t'} :=
 I.write (x:=a) (e:=a) mu (.inl rfl) (fun b q hb z=>(hs.2 b hb).trans z) he new
theorem jTC {P:Program}{w:World}{H':Hp}{h':Heap}{kvs:List (Key×V)}{vs:List (Key×Value)}(z:kvs.length<=sizeLine)(hd:(a==sysModules)=false)(rel:KV kvs vs)(dd:h'.DictOf (kU P w) a vs):
  ObjOk P w H' h' a (.dK kvs):=⟨z,hd,vs,rel,dd⟩
theorem jPV {H':Hp}{Q:Unit->Shared->Prop}(hu:A.units+1<cLine)(I:Inv X lK σ H s)(g:DPut H a y v H')(ry:RelV y u)(rv:RelV v r)(h:∀ s',Inv X lK σ H' s'->Q () s'):
  wpAny (model X.prog X.w) A (setItem (.ref a) u r) Q E s:=by
 rcases g with ⟨kvs,k,e,ey,l,eH⟩ | ⟨kvs,k,b,e,ey,eb,l,eH⟩
 ·subst ey eH;obtain⟨z,hd,vs,rel,dd⟩:=dk_of I.hok e;have hz:vs.length<=sizeLine:=by rw[<- rel.length]; exact z
  have hl:(putK kvs k v).length<=sizeLine:=by have:=jCG kvs k v; lia
  refine wpAny_setItem_pairs (hsz:=hz) (kV_is ry) dd fun h' dd' hs=>h _ ?_;have he:∃ q,h'.get? a=some q:=let ⟨q,_,_,hq,_⟩:=dd'; ⟨q,hq⟩;exact jK0 I (by rw[e]; exact True.intro) hs he (jTC hl hd (rel.put k rv) dd')
 ·subst ey eH;cases (show u=Value.ref b from ry);obtain⟨z,hd,xs,rel,dd⟩:=dt_of I.hok e;have hz:xs.length<=sizeLine:=by rw[<- fZ rel]; exact z
  have hl:(putK kvs k v).length<=sizeLine:=by have:=jCG kvs k v; lia
  refine wpAny_setItem_heap (hsz:=hz) (gm hu) (jI6 I.hok eb) dd fun h' dd' hs=>h _ ?_;obtain⟨q,es,ep,hq,h2,h3,h4,_,h5⟩:=dd';refine jK0 I (by rw[e]; exact True.intro) hs ⟨q,hq⟩ ⟨hl,hd,_,(rel.put k eb rv).keeps fun c ys ec=>?_,q,es,ep,hq,h2,h3,h4,h5⟩;rw[j9 (ne_of ec e (fun z=>nomatch z))];exact ec
end
variable {kvs:List (Key×V)}
section
variable {σ:St}{k:Key}
end
def NoSl (i:Expr):Prop:=∀ ov iv,subscripted i false ov iv=operate [ov,iv] (getItem ov iv)
theorem jTO {prog:Program}{w:World}{A:Around}{E:Ah}{s:Shared}{env:Env}{value slice:Expr}{pos:Pos}{T id:String}{Q:Ah}
  (hl:typeLookup (.type T) "__getitem__" =pure (some (.builtin id))) (hs:NoSl slice)
  (h:wpAny (model prog w) A (eval value env) (fun o s₁=>wpAny (model prog w) A (eval slice env) (fun i s₂=>s₂.TypeIs o T/\wpAny (model prog w) A (getItem o i) Q E s₂) E s₁) E s):
  wpAny (model prog w) A (eval (.Subscript value slice pos) env) Q E s:=by
 refine Subscript_ (ck h (fun o s₁ h₁=>ck h₁ (fun i s₂ h₂=>?_) fun _ _ x=>x) fun _ _ x=>x);obtain⟨hT,h₂⟩:=h₂;unfold subscriptTail;refine ae ?_;rw[getitemInPython_of_ne hT.not_modules];refine ae (wpAny_specialOf hT hl ?_);have fin:wpAny (model prog w) A (subscripted slice false o i) (fun r s₃=>wpAny (model prog w) A (letTemporaryGo value o r >>= fun _=>pure r) Q E s₃) E s₂:=by
  rw[hs o i];exact wpAny_operating (ck h₂ (fun r s₃ h₃=>ae (wpAny_letTemporaryGo (am h₃))) fun _ _ x=>x)
 first
  | exact am (ae fin)
  | exact ae (am (ae fin))
  | exact ae fin
theorem jJY {X:Cx}{lK:Ai}{σ:St}{H:Hp}{s:Shared}{a:Addr}{y:V}{o:Option V}(I:Inv X lK σ H s)(g:DGet H a y o):s.TypeIs (.ref a) "dict" :=by
 rcases g with ⟨kvs,k,e,_,_⟩ | ⟨kvs,k,b,e,_,_,_⟩
 ·obtain⟨_,_,vs,_,dd⟩:=dk_rd I.hok e;exact dd.typeIs
 ·obtain⟨_,_,xs,_,dd⟩:=dt_rd I.hok e;exact dd.typeIs
def tDGet (td ty:TE):TE:=fun σ H Q=>td σ H fun x H1=>ty σ H1 fun y H2=>∃ a v,x= .ref a/\DGet H2 a y (some v)/\Q v H2
def tDIn (ty td:TE):TE:=fun σ H Q=>ty σ H fun y H1=>td σ H1 fun x H2=>∃ a o,x= .ref a/\DGet H2 a y o/\Q (.bl o.isSome) H2
def jN6 (ty td:TE):TE:=fun σ H Q=>ty σ H fun y H1=>td σ H1 fun x H2=>∃ a o,x= .ref a/\DGet H2 a y o/\Q (.bl (!o.isSome)) H2
def sDPut (td ty tv:TE):TS:=fun D σ H=>tv σ H fun v H1=>td σ H1 fun x H2=>ty σ H2 fun y H3=>∃ a H4,x= .ref a/\DPut H3 a y v H4/\D.nx σ H4
variable {o value:Expr}{pos':Pos}{td tv:TE}
section
variable {i:Expr}{tpos:Pos}{ty:TE}
theorem jUC (hu:X.A.units+1<cLine)(ho:PE X o td)(hi:PE X i ty)(hs:NoSl i):PE X (.Subscript o i pos) (tDGet td ty):=by
 intro lK s σ H Q I h;refine jTO PySem.F.slot_dict_getitem.lookup hs (lN (ho lK s σ H _ I h) fun u s1 ⟨x,H1,I1,rx,q1⟩=>lN (hi lK s1 σ H1 _ I1 q1) fun iv s2 ⟨y,H2,I2,ry,a,v,ex,g,q2⟩=>?_);subst ex;obtain rfl:u=Value.ref a:=rx;exact⟨jJY I2 g,jPW hu I2 g ry fun w' s3 I3 rw'=>⟨v,H2,I3,rw',q2⟩⟩
theorem jWP (hu:X.A.units+1<cLine)(hi:PE X i ty)(ho:PE X o td):PC X .In i o (tDIn ty td):=by
 intro lK s σ H Q I h;refine lN (hi lK s σ H _ I h) fun iv s1 ⟨y,H1,I1,ry,q1⟩=>lN (ho lK s1 σ H1 _ I1 q1) fun u s2 ⟨x,H2,I2,rx,a,ov,ex,g,q2⟩=>?_;subst ex;obtain rfl:u=Value.ref a:=rx;exact d_in hu I2 g ry fun s3 I3=>⟨.bl ov.isSome,H2,I3,rfl,q2⟩
theorem jNQ (hu:X.A.units+1<cLine)(hi:PE X i ty)(ho:PE X o td):PC X .NotIn i o (jN6 ty td):=by
 intro lK s σ H Q I h;refine lN (hi lK s σ H _ I h) fun iv s1 ⟨y,H1,I1,ry,q1⟩=>lN (ho lK s1 σ H1 _ I1 q1) fun u s2 ⟨x,H2,I2,rx,a,ov,ex,g,q2⟩=>?_;subst ex;obtain rfl:u=Value.ref a:=rx;exact jVI hu I2 g ry fun s3 I3=>⟨.bl (!ov.isSome),H2,I3,rfl,q2⟩
theorem jU0 (hu:X.A.units+1<cLine)(ho:PE X o td)(hi:PE X i ty)(hv:PE X value tv)(hs:swapsWith value (some (.Subscript o i pos')) pos.line X.env=pure false):
  PS X (.Assign [.Subscript o i pos'] value pos) (sDPut td ty tv):=by
 intro lK s σ H D I h;refine wpAny_Assign_Subscript (lN (hv lK s σ H _ I h) fun r s1 ⟨v,H1,I1,rv,q1⟩=>lN (ho lK s1 σ H1 _ I1 q1) fun u s2 ⟨x,H2,I2,rx,q2⟩=>lN (hi lK s2 σ H2 _ I2 q2) fun iv s3 ⟨y,H3,I3,ry,a,H4,ex,g,q3⟩=>?_) hs;subst ex;obtain rfl:u=Value.ref a:=rx;exact jPV hu I3 g ry rv fun s4 I4=>⟨σ,H4,I4,q3⟩
end
theorem jS2 {P:Program}{w:World}{H:Hp}(h:Heap)(hb:sysModules<h.objs.size):ObjOk P w H (h.push { cls:= .type "dict",data:= .dict #[]}) h.objs.size (.dK []):=
 ⟨bo _,cm.mpr (eh (aW hb)),[], .nil,ju h⟩
def jN4:List (TE×TE)->St->Hp->(List (V×V)->Hp->Prop)->Prop
 | [],_,H,Q=>Q [] H
 | (tk,tv)::r,σ,H,Q=>tk σ H fun x H1=>tv σ H1 fun y H2=>jN4 r σ H2 fun ps H3=>Q ((x,y)::ps) H3
abbrev VV:List (V×V)->List (Value×Value)->Prop:=Paired fun p q=>RelV p.1 q.1/\RelV p.2 q.2
def PPs (X:Cx)(pos:Pos)(keys:List (Option Expr))(values:List Expr)(trs:List (TE×TE)):Prop:=
 ∀ (lK:Ai) (s:Shared) (σ:St) (H:Hp) (Q:List (V×V)->Hp->Prop),Inv X lK σ H s->jN4 trs σ H Q->
  wpAny (model X.prog X.w) X.A (evalPairs (pairTrees keys values X.env pos)) (fun vs s'=>∃ ps H',Inv X lK σ H' s'/\VV ps vs/\Q ps H') X.xe s
theorem jU1 {X:Cx}{pos:Pos} :PPs X pos [] [] []:=fun lK s σ H Q I h=>pairTrees_nil_walk ⟨[],H,I, .nil,h⟩
theorem jQT {X:Cx}{pos:Pos}{k v:Expr}{ks:List (Option Expr)}{vs:List Expr}{tk tv:TE}{trs:List (TE×TE)}(hk:PE X k tk)(hv:PE X v tv)(hr:PPs X pos ks vs trs):
  PPs X pos (some k::ks) (v::vs) ((tk,tv)::trs):=fun lK s σ H Q I h=>
 pairTrees_cons_walk (lN (hk lK s σ H _ I h) fun u s1 ⟨x,H1,I1,rx,q1⟩=>lN (hv lK s1 σ H1 _ I1 q1) fun w2 s2 ⟨y,H2,I2,ry,q2⟩=>
  lN (hr lK s2 σ H2 _ I2 q2) fun ws s3 ⟨ps,H3,I3,rel,q3⟩=>⟨(x,y)::ps,H3,I3, .cons ⟨rx,ry⟩ rel,q3⟩)
def jI0 (kvs more:List (Key×V)):List (Key×V):=more.foldl (fun acc kv=>putK acc kv.1 kv.2) kvs
theorem KV.merge:∀ {more:List (Key×V)}{rs:List (Key×Value)}{kvs:List (Key×V)}{vs:List (Key×Value)},KV more rs->KV kvs vs->KV (jI0 kvs more) (merged vs rs):=by
 intro more rs kvs vs r;unfold KV at r
 induction r generalizing kvs vs with
 | nil=>intro q; exact q
 | @cons p q ps qs h t ih=>
  intro r0;have e:KV (putK kvs p.1 p.2) (stored vs q.1 q.2):=by
   have:=r0.put p.1 h.2;rw[<- h.1]; exact this
  exact ih e
theorem jD2:∀ (more kvs:List (Key×V)),(jI0 kvs more).length<=kvs.length+more.length
 | [],kvs=>by show kvs.length<=kvs.length+0; lia
 | p::r,kvs=>by
  have h1:=jD2 r (putK kvs p.1 p.2);have h2:=jCG kvs p.1 p.2;show (jI0 (putK kvs p.1 p.2) r).length<=_;rw[aV]; lia
theorem jG0 {P:Program}{w:World} :∀ {kvs:List (Key×V)}{ws:List (Value×Value)},VV (kvs.map fun kv=>(kV kv.1,kv.2)) ws->∃ rs,Carries (kU P w) ws rs/\KV kvs rs
 | [],_,r=>by rw[iq] at r; cases r; exact⟨[],True.intro, .nil⟩
 | p::kvs,_,r=>by
  rw[bf] at r;cases r with
  | @cons a b as bs h t=>
   obtain⟨rs,c,q⟩:=jG0 (P:=P) (w:=w) t;obtain⟨b1,b2⟩:=b;exact⟨(p.1,b2)::rs,⟨kV_is h.1,rfl,c⟩, .cons ⟨rfl,h.2⟩ q⟩
def tDisp (trs:List (TE×TE)):TE:=fun σ H Q=>∀ p,H p=none->jN4 trs σ (upd H p (.dK [])) fun ps H2=>H2 p=some (.dK [])/\∃ kvs:List (Key×V),ps=kvs.map (fun kv=>(kV kv.1,kv.2))/\kvs.length<=15/\Q (.ref p) (upd H2 p (.dK (jI0 [] kvs)))
theorem jUB {X:Cx}{pos:Pos}{keys:List (Option Expr)}{values:List Expr}{trs:List (TE×TE)}(h:PPs X pos keys values trs)(hall:keys.all (·.isSome)=true)(hl:keys.length=values.length)(h0:keys≠ [])
  (h15:keys.length<=15):PE X (.Dict keys values pos) (tDisp trs):=by
 intro lK s σ H Q I q;have hn:=I.hok.fresh (aA s.heap.objs.size);have I1:=I.laid (a:=s.heap.objs.size) (o:= .dK []) (h':=s.heap.push { cls:= .type "dict",data:= .dict #[]}) (t':=s.toks) (fun _ _ q=>ah _ q) (aA _) (jS2 s.heap I.big);refine wpAny_Dict_walk (knd:=kU X.prog X.w) hall hl h0 h15 (lN (h lK _ σ _ _ I1 (q _ hn)) fun ws s2 ⟨ps,H2,I2,rel,e,kvs,ep,lk,q2⟩=>?_);subst ep;obtain⟨rs,c,rk⟩:=jG0 (P:=X.prog) (w:=X.w) rel;obtain⟨z,hd,vs0,r0,dd⟩:=dk_of I2.hok e;cases r0;refine⟨rs,c,dd,fun h' dd' hs=>⟨.ref s.heap.objs.size,_,?_,rfl,q2⟩⟩;have hz:(jI0 [] kvs).length<=sizeLine:=by
  have h1:=jD2 kvs [];rw[cz] at h1;rw[eW]; lia
 have he:∃ q,h'.get? s.heap.objs.size=some q:=let ⟨q,_,_,hq,_⟩:=dd'; ⟨q,hq⟩;exact jK0 I2 (by rw[e]; exact True.intro) hs he (jTC hz hd (rk.merge .nil) dd')
section
variable {σ:St}{d:V}{o:Option V}
end
variable {apos:Pos}{tx:TE}
section
variable {f:Expr}{ty:TE}
end
section
variable {σ:St}
end
section
variable {σ:St}
end
section
variable {κ:Type} [DecidableEq κ]
end
section
variable {d:Addr}{kvs:List (Key×Value)}
theorem jK4 {T:String}{r d:Addr}{n:Nat}{P:Nat->Value->Prop}{OK:Heap->Prop}{R:Al->Shared->Prop}(K:PySem.W.KdlSrc prog w T r d n P OK)(hh:A.handled=none)(hok:OK s.heap)(hn:n<=sizeLine)
  (h:∀ (h':Heap) (tk:Nat) (acc:An),(∀ b o,s.heap.get? b=some o->h'.get? b=some o)->s.heap.objs.size<h'.objs.size->ItemsOf P acc n->R acc.toList { s with heap:=h',toks:=tk}):
  wpAny (model prog w) A (collect (.ref r)) R E s:=by
 have hlt:=K.there _ hok;unfold collect;refine ae (iI (cA entry_proto_collect' ?_));rw[cx ir _];show wpAny _ A.in1 (newList [] >>= fun l=>again (.builtin "list.__iadd__" ⟨[l, .ref r],[]⟩)) _ _ s;refine ae (dh ?_);refine am ⟨fh eT _,cA entry_list_iadd' ?_⟩;rw[cx eT _];have hS:(s.heap.push { cls:= .type "list",data:= .seq ([]:Al).toArray}).get? s.heap.objs.size=some { cls:= .type "list",data:= .seq #[]} :=aC _ rfl;show wpAny _ A.in1 (Builtin.List.listExtendWith (.ref s.heap.objs.size) (.ref r) (.ref s.heap.objs.size)) _ _ _;refine ck (PySem.W.kdl_extend (A:=A) (s:= { s with heap:=s.heap.push { cls:= .type "list",data:= .seq ([]:Al).toArray}})
  (R:=fun (q:Result) (s':Shared)=>∃ (h':Heap) (tk:Nat) (acc:An) (c:Nat),q= .ok (.ret (.ref s.heap.objs.size))/\s'= { s with heap:=h',toks:=tk} /\
   (∀ b o,s.heap.get? b=some o->h'.get? b=some o)/\h'.get? s.heap.objs.size=some { cls:= .type "list",dict:=none,data:= .seq acc c,slots:=#[]} /\ItemsOf P acc n)
  K hh (K.keep _ _ hok fun b _ o e=>ah _ e) s.heap.objs.size (cR hlt.1) (cR hlt.2) (.ref s.heap.objs.size) 0 hS
  (fun h' tk acc c hk hS' hacc=>⟨h',tk,acc,c,rfl,rfl,fun b o e=>hk b o (aW (aG e)) (ah _ e),hS',hacc⟩) hn) (fun fin s' x=>?_) fun e s' x=>?_
 ·cases fin with
  | done f=>
   obtain⟨h',tk,acc,c,e,rfl,hk,hS',hacc⟩:=x;cases e;show wpAny _ A (load s.heap.objs.size >>= _) _ _ _;exact ae (gX hS' (am (h h' tk acc hk (aG hS') hacc)))
  | again c1=>
   refine⟨x.1,dQ x.2 fun q s2 y=>?_⟩;obtain⟨h',tk,acc,c,rfl,rfl,hk,hS',hacc⟩:=y;show wpAny _ A (load s.heap.objs.size >>= _) _ _ _;exact ae (gX hS' (am (h h' tk acc hk (aG hS') hacc)))
 ·obtain⟨_,_,_,_,e',_⟩:=x;cases e'
end
section
variable {i f:Expr}{ty:TE}
theorem jGT (hu:X.A.units+1<cLine)(ho:JE X o td)(hi:JE X i ty)(hs:jB5 i):JE X (.Subscript o i pos) (tDGet td ty):=⟨jUC hu ho.h hi.h hs⟩
theorem jJN (hu:X.A.units+1<cLine)(ho:JE X o td)(hi:JE X i ty)(hv:JE X value tv)(hs:SwOk value (some (.Subscript o i pos'))):JS X (.Assign [.Subscript o i pos'] value pos) (sDPut td ty tv):=⟨jU0 hu ho.h hi.h hv.h (hs.h _ _)⟩
end
theorem jHB:entryFor table "dict.update.loop" =some Builtin.«dict.update.loop»:=entryFor_of_fast (by kernel_rfl)
theorem jCO:plainId "dict.update.loop" =true:=by decide+kernel
theorem jI3:typeLookup (.type "list") "keys" =pure none:=am_miss_of_fast (by kernel_rfl)
theorem jEW:typeLookup (.type "list") "__getattr__" =pure none:=am_miss_of_fast (by kernel_rfl)
theorem jOJ (a:Addr)(name:Str)(u:Tok)(hmiss:typeLookup (.type "list") name=pure none)(hsz:name.length+100<=sizeLine)(hgd: [Str.ofString "__module__",Str.ofString "__name__",Str.ofString "__qualname__",Str.ofString "__doc__",Str.ofString "__annotations__"].contains name=false):Meets (Builtin.«object.__getattribute__» ⟨[.ref a, .str name u],[]⟩) (fun A R s=>(∃ its n,s.heap.get? a=some { cls:= .type "list",data:= .seq its n})/\raisesAttr (.ref a) name A R s):=
 Meets.of_wp fun prog w A R s hs=>by
  obtain⟨⟨its,n,ho⟩,hs⟩:=hs;obtain⟨hp,g,d,tk,os⟩:=s;have hT:(⟨hp,g,d,tk,os⟩:Shared).TypeIs (.ref a) "list" :=⟨_,ho,rfl⟩;unfold Builtin.«object.__getattribute__»
  repeat (any_goals (first | assumption | wp_step))
  rw[hgd,aw az]
  repeat (any_goals (first | assumption | wp_step))
  exact wpAny_raiseAttrError hs.1 hs.2 (attrMsg_fits Ab hsz)
theorem jOU {a:Addr}{name:Str}(hmiss:typeLookup (.type "list") name=pure none)(hsz:name.length+100<=sizeLine)(hgd: [Str.ofString "__module__",Str.ofString "__name__",Str.ofString "__qualname__",Str.ofString "__doc__",Str.ofString "__annotations__"].contains name=false){its:An}{n:Nat}{Q:Ao->Shared->Prop}(hA:A.handled=none)(ho:s.heap.get? a=some { cls:= .type "list",data:= .seq its n})
  (h:∀ h' tk,(∀ b u,s.heap.get? b=some u->h'.get? b=some u)->Q none { s with heap:=h',toks:=tk}):wpAny (model prog w) A (getAttr? (.ref a) name) Q E s:=by
 obtain⟨hp,g,d,tk,os⟩:=s;have hT:∀ tk',(⟨hp,g,d,tk',os⟩:Shared).TypeIs (.ref a) "list" :=fun _=>⟨_,ho,rfl⟩;have f1:=sub_AttributeError;have f3:=F.slot_list_getattribute.lookup;have f4:=F.slot_list_getattribute.bind (.ref a);have f5:=jEW;unfold getAttr? getAttrBy? getAttrBy
 repeat (any_goals (first | assumption | ((with_reducible show wpAny _ _ (call (Value.builtin "list.__getattribute__") _ _) _ _ _); refine fm F.slot_list_getattribute (hT _) F.entry_list_ga (F.args_list_getattribute_2 _ _) (jOJ a name _ hmiss hsz hgd) ⟨⟨its,n,ho⟩,hA,fun h' tk' e hx=>?_⟩) | wp_step))
 obtain⟨t',u',he⟩:=hx.there;show wpAny _ _ (getattributeRaised _ _ _ _ _ _ _) _ _ _;unfold getattributeRaised
 repeat (any_goals (first | assumption | wp_step))
 exact h _ _ fun b u q=>hx.keeps b u q
theorem jM7 {a:Addr}{k v:Value}{m:Nat}{Q:Al->Shared->Prop}(ho:s.heap.get? a=some { cls:= .type "tuple",data:= .seq #[k,v] m})(h:Q [k,v] s):wpAny (model prog w) A (Builtin.Dict.pairItems (.ref a)) Q E s:=by
 obtain⟨hp,g,d,tk,os⟩:=s;have hT:(⟨hp,g,d,tk,os⟩:Shared).TypeIs (.ref a) "tuple" :=⟨_,ho,rfl⟩;unfold Builtin.Dict.pairItems
 repeat (any_goals (first | assumption | wp_step))
section
variable {prog:Program}{w:World}{K:Type} [DecidableEq K]{knd:KeyKind prog w K}{A:Around}{R:Result->Shared->Prop}{I:Addr}{fp wr:List Addr}{n:Nat}{P:Nat->Value->Prop}{St:Nat->Shared->Prop}
def jLU (knd:KeyKind prog w K)(h:Heap)(a:Addr)(p:K×Value):Prop:=∃ key m,h.get? a=some { cls:= .type "tuple",data:= .seq #[key,p.2] m} /\knd.is p.1 key=true
theorem upl (W:WalksS prog w A.in1 I fp wr (fun a b=>b=a) n P St)(d:Addr)(hd:d∉fp)(more:List (K×Value))(hmn:more.length=n)(pa:Nat->Addr)(hpd:∀ i,i<n->pa i≠d/\pa i∉wr)(hP:∀ i v,P i v->v= .ref (pa i))(hn:n<=sizeLine):
  ∀ (k i:Nat) (z:Int) (s:Shared),n - i=k->i<=n->St i s->s.heap.DictOf knd d (merged [] (more.take i))->(∀ j p,more[j]?=some p->jLU knd s.heap (pa j) p)->
   (∀ s',Moved (d::wr) (fun a b=>b=a) s s'->s'.heap.DictOf knd d (merged [] more)->R (.ok (.ret .none)) s')->
   codeAny (model prog w) A (.builtin "dict.update.loop" ⟨[.ref d, .ref I,rawInt z, .none],[]⟩) R s:=by
 have hdw:d∉wr:=fun h=>hd (W.sub _ h);have sub1:∀ b∈wr,b∈d::wr:=fun b hb=>ag _ hb;intro k
 induction k with
 | zero=>
  intro i z s hk hi hst hS hp hR;obtain rfl:i=n:=by lia
  refine cA jHB ?_;rw[cx jCO _];show wpAny _ A.in1 (pyNext (.ref I) >>= _) _ _ s;refine ae (W.done s _ _ hst fun s' mv=>?_);show wpAny _ A.in1 (Builtin.Dict.addKeywords d [] >>= fun _=>ret Value.none) _ _ s';refine ae (am (am (hR s' (mv.mono sub1) ?_)));obtain⟨o,es,ep,ho,r⟩:=hS;rw[<- hmn,bz] at r;exact⟨o,es,ep,mv.heap d o hdw ho,r⟩
 | succ k ih=>
  intro i z s hk hi hst hS hp hR;have hlt:i<n:=Aa;refine cA jHB ?_;rw[cx jCO _];show wpAny _ A.in1 (pyNext (.ref I) >>= _) _ _ s;refine ae (W.item i s _ _ hlt hst fun v s' hPv hst' mv=>?_);obtain rfl:=hP i v hPv;have hS':s'.heap.DictOf knd d (merged [] (more.take i)):=by
   obtain⟨o,es,ep,ho,r⟩:=hS;exact⟨o,es,ep,mv.heap d o hdw ho,r⟩
  have hp':∀ j p,more[j]?=some p->jLU knd s'.heap (pa j) p:=fun j p hj=>by
   obtain⟨key,m,e,q⟩:=hp j p hj;have hjn:j<n:=by rw[<- hmn]; exact(ao.mp hj).1
   exact⟨key,m,mv.heap _ _ (hpd j hjn).2 e,q⟩
  obtain⟨p,hpi⟩:∃ p,more[i]?=some p:=⟨more[i],by simp [hmn,hlt]⟩;obtain⟨key,m,e1,hk1⟩:=hp' i p hpi;show wpAny _ A.in1 (holding [Value.ref (pa i)] _ >>= _) _ _ s';refine ae (bS (ae ?_));refine wpAny_tryCatch (jM7 e1 ?_);refine bS (wpAny_dictSet_pairs hk1 hS' (fun h' hd' sb=>?_) (by
   have:=merged_length_le (K:=K) [] (more.take i);have h2:=bB i more;have:(merged [] (more.take i)).length<=i:=by
    refine bi (merged_length_le (K:=K) [] (more.take i)) ?_;simp only [cz,Nat.zero_add];exact bB _ _
   lia))
  refine am ⟨fh jCO _,ih (i+1) (z+1) _ Aa hlt (W.frame _ s' _ _ hst' (dz _) fun b hb o e=>?_) ?_ (fun j p hj=>?_) fun s'' mv2 hS3=>?_⟩
  ·rw[sb.2 b (fun h:b=d=>hd (by rw[<- h]; exact hb))];exact e
  ·rw[merged_take_succ _ _ _ _ hpi];exact hd'
  ·obtain⟨key,m,e,q⟩:=hp' j p hj;have hjn:j<n:=by rw[<- hmn]; exact(ao.mp hj).1
   exact⟨key,m,by show h'.get? _=_; rw[sb.2 _ (hpd j hjn).1]; exact e,q⟩
  ·refine hR s'' (Moved.trans W.gtrans ((mv.mono sub1).then_heap (dz _) fun b o hb e=>?_) mv2) hS3;rw[sb.2 b (fun h:b=d=>hb (by rw[h]; exact ai))];exact e
end
section
variable {prog:Program}{w:World}{K:Type} [DecidableEq K]{knd:KeyKind prog w K}{A:Around}{E:Ah}{s:Shared}
theorem jFH {l:Addr}{its:Al}{nl:Nat}{more:List (K×Value)}{Q:Ah}(hA:A.handled=none)(hl:s.heap.get? l=some { cls:= .type "list",data:= .seq its.toArray nl})(hsz:its.length<=sizeLine)
  (pa:Nat->Addr) (hit:∀ i v,its[i]?=some v->v=Value.ref (pa i)) (hlen:more.length=its.length) (hp:∀ j p,more[j]?=some p->jLU knd s.heap (pa j) p)
  (h:∀ h' tk,h'.DictOf knd s.heap.objs.size (merged [] more)->(∀ b u,s.heap.get? b=some u->h'.get? b=some u)->Q (.ref s.heap.objs.size) { s with heap:=h',toks:=tk}):
  wpAny (model prog w) A (call (.type "dict") [.ref l]) Q E s:=by
 refine callType_codes (Q₁:=fun obj s₁=>obj= .ref s.heap.objs.size/\s₁= { s with heap:=s.heap.push { cls:= .type "dict",data:= .dict #[]}}) F.kt_called_dict (F.kt_typeCall_dict_1 _) F.entry_dict_init (kt_code_dict_new _ ⟨rfl,rfl⟩) ?_;rintro obj s₁ ⟨rfl,rfl⟩;have hnew:(s.heap.push { cls:= .type "dict",data:= .dict #[]}).DictOf knd s.heap.objs.size []:=ju s.heap;have hl1:(s.heap.push { cls:= .type "dict",data:= .dict #[]}).get? l=some { cls:= .type "list",data:= .seq its.toArray nl} :=ah _ hl;have hls:l<s.heap.objs.size:=aG hl;have hT:Shared.TypeIs { s with heap:=s.heap.push { cls:= .type "dict",data:= .dict #[]}} (.ref l) "list" :=⟨_,hl1,rfl⟩;refine⟨hnew.typeIs,F.args_dict_init_2 _ _,?_⟩;unfold Builtin.«dict.__init__»;refine ae ?_;unfold Builtin.Dict.selfAndRest;refine ae (wpAny_notOrdered_dict hnew.typeIs ?_);show wpAny _ _ (pure (s.heap.objs.size,[Value.ref l])) _ _ _;refine am ?_;show wpAny _ _ (Builtin.Dict.updateFrom "dict.__init__" s.heap.objs.size (.ref l) [] .none) _ _ _;unfold Builtin.Dict.updateFrom;refine ae (jn hT ?_);rw[ay Ac];refine ae (jOU jI3 Ab Ab (by simpa using hA) hl1 fun h2 tk2 k2=>?_);rw[ay (by rfl)];refine ae (di (ae ?_));have hl2:h2.IsList l its.toArray:=⟨_,k2 _ _ hl1,rfl,nl,rfl⟩;refine df hl2 ?_;have z2:s.heap.objs.size<h2.objs.size:=by
  have:=aG (k2 _ _ (aC s.heap (o:= { cls:= .type "dict",data:= .dict #[]}) rfl));exact this
 have hlI:l≠h2.objs.size:=aW (eY hls z2);have hdI:s.heap.objs.size≠h2.objs.size:=aW z2;have hdl:s.heap.objs.size≠l:=cR hls;have hplt:∀ i,i<its.length->pa i<s.heap.objs.size:=fun i hi=>by
  obtain⟨key,m,e,_⟩:=hp i more[i] (by simp [hlen,hi]);exact aG e
 have keep:∀ b u,s.heap.get? b=some u->(h2.push { cls:= .type "list_iterator",data:= .fields #[.ref l, .int 0 0]}).get? b=some u:=fun b u e=>ah _ (k2 _ _ (ah _ e));refine am ⟨fh jCO _,upl (knd:=knd) ((iJ (by simp [hA]) _ l hlI its.toArray).toS) s.heap.objs.size ?_ more (by simp [hlen]) pa (fun i hi=>?_) (fun i v q=>hit i v (by simpa using q)) (by simpa using hsz) (its.toArray.size - 0) 0 0 _ rfl (bo _) ⟨⟨_,aC _ rfl,rfl,rfl⟩,hl2.push _⟩ ?_ (fun j p hj=>?_) fun s' mv hD=>?_⟩
 ·simp only [aE,bE,dD,lA];exact⟨hdI,hdl⟩
 ·have:=hplt i (by simpa using hi);refine⟨aW this,?_⟩;simp only [aE,bE,dD];exact aW (eY this z2)
 ·obtain⟨o,es,ep,ho,r⟩:=hnew;exact⟨o,es,ep,ah _ (k2 _ _ ho),r⟩
 ·obtain⟨key,m,e,q⟩:=hp j p hj;exact⟨key,m,keep _ _ e,q⟩
 ·obtain⟨h',g',d',tk',os'⟩:=s';have e1:g'=s.gens:=mv.gens;have e2:d'=s.drawn:=mv.drawn;have e3:os'=s.os:=mv.os;subst e1; subst e2; subst e3;refine⟨rfl,h h' tk' hD fun b u e=>mv.heap b u ?_ (keep b u e)⟩;have hb:=aG e;simp only [aE,bE,dD,lA];exact⟨aW hb,aW (eY hb z2)⟩
end
theorem jOI {P:Program}{w:World}{h:Heap} :∀ (kvs:List (Key×V)) (pa:Nat->Addr),(∀ i k v,kvs[i]?=some (k,v)->∃ key u m,h.get? (pa i)=some { cls:= .type "tuple",data:= .seq #[key,u] m} /\RelV (kV k) key/\RelV v u)->
  ∃ more:List (Key×Value),KV kvs more/\∀ j p,more[j]?=some p->jLU (kU P w) h (pa j) p
 | [],_,_=>⟨[], .nil,fun j p e=>by simp at e⟩
 | (k,v)::r,pa,hk=>by
  obtain⟨more,k1,k2⟩:=jOI (P:=P) (w:=w) r (fun i=>pa (i+1)) fun i k v e=>hk (i+1) k v (by simpa using e);obtain⟨key,u,m,e,r1,r2⟩:=hk 0 k v rfl;refine⟨(k,u)::more, .cons ⟨rfl,r2⟩ k1,fun j p hj=>?_⟩;cases j with
  | zero=>
   simp at hj;subst hj;exact⟨key,m,e,kV_is r1⟩
  | succ j=>exact k2 j p (by simpa using hj)
theorem jMR (hc:X.calm=true):yR X (.type "dict") (fun xs H Q=>∃ (p:Addr) (vs:List V) (kvs:List (Key×V)),xs=[.ref p]/\H p=some (.lst vs)/\vs.length=kvs.length/\(∀ (i:Nat) (k:Key) (v:V),kvs[i]?=some (k,v)->∃ a:Addr,vs[i]?=some (V.ref a)/\H a=some (.tup [kV k,v]))/\(kvs.map (·.1)).Nodup/\∀ l:Addr,H l=none->Q (.ref l) (upd H l (.dK kvs))):=by
 intro lK s σ H xs us Q I r h;obtain⟨p,vs,kvs,rfl,hq,hl,hkv,hnd,q⟩:=h;obtain⟨u,rfl,rx⟩:=r.one;cases rx;obtain⟨hz,its,nl,r',e0⟩:=I.hok p _ hq;have hli:=r'.length;obtain⟨more,k1,k2⟩:=jOI (P:=X.prog) (w:=X.w) (h:=s.heap) kvs (fun i=>match vs[i]? with | some (.ref a)=>a | _=>0) fun i k v e=>by
  obtain⟨a,e1,e2⟩:=hkv i k v e;obtain⟨_,it2,r2,m,e3⟩:=I.hok a _ e2;have l2:=r2.length;obtain⟨k',rest,rfl⟩:∃ k' rest,it2=k'::rest:=by
   cases it2 with
   | nil=>simp at l2
   | cons a b=>exact⟨a,b,rfl⟩
  obtain⟨u',rest',rfl⟩:∃ u' rest',rest=u'::rest':=by
   cases rest with
   | nil=>simp at l2
   | cons a b=>exact⟨a,b,rfl⟩
  obtain rfl:rest'=[]:=by
   cases rest' with
   | nil=>rfl
   | cons a b=>simp at l2
  rw[e1];cases r2 with
  | cons a1 a2=>
   cases a2 with
   | cons b1 b2=>exact⟨k',u',m,e3,a1,b1⟩
 have lm:more.length=kvs.length:=(fZ k1).symm;refine jFH (knd:=kU X.prog X.w) (I.ok.hd hc) e0 Aa (fun i=>match vs[i]? with | some (.ref a)=>a | _=>0) (fun i v hv=>?_) Aa k2 fun h' tk hD kp=>?_
 ·have hi:i<its.length:=(ao.mp hv).1;have hik:i<kvs.length:=Aa;obtain⟨a,e1,e2⟩:=hkv i kvs[i].1 kvs[i].2 (by simp [hik]);obtain⟨u,e3,e4⟩:=r'.get e1;rw[hv] at e3;cases e3;simp only [e1];exact e4
 ·rw[merged_nil_of_nodup _ (by rw[<- KV.keys k1]; exact hnd)] at hD;have hsz:(s.heap.objs.size==sysModules)=false:=by
   have:=I.big;exact cm.mpr (cR this)
  exact⟨.ref s.heap.objs.size,_,I.laid (t':=tk) (o:= .dK kvs) kp (aA _) ⟨Aa,hsz,more,k1,hD⟩,rfl,q _ I.fresh⟩
theorem jG7 (l:Addr)(items:An)(n:Nat)(dd:Option Addr)(sl:Array (Ao))(x:Value)(e:Value->Bool)(j:Nat)(hj:j<items.size)(hit:e items[j]=true)(hno:∀ m (hm:m<items.size),m<j->e items[m]=false):
  Meets (Builtin.«tuple.index» ⟨[.ref l,x],[]⟩)
   (fun A R s=>s.heap.get? l=some { cls:= .type "tuple",dict:=dd,data:= .seq items n,slots:=sl} /\(∀ y,y∈items->SeqAt.EqAt A.in1 s y x (e y))/\R (.ok (.ret (.int j s.toks))) { s with toks:=s.toks+1}):=
 .of_wp fun prog w A R s h=>by
  obtain⟨hp,g,d,tk,os⟩:=s; obtain⟨hl,he,h⟩:=h;unfold Builtin.«tuple.index»;simp only [Std.Legacy.Range.forIn_eq_forIn_range']
  wp_walk using cy hl,wpAny_forIn_list _ (fun rest b s'=>b.1=none/\s'=⟨hp,g,d,tk,os⟩/\∃ i,i<=j/\rest=range' i (items.size - i)) _
  case turn=>
   rintro y rest b s' ⟨hb,rfl,i,hij,hr⟩;have hi:i<items.size:=Aa;rw[show items.size - i=(items.size - (i+1))+1 by lia,List.range'_succ] at hr;obtain⟨rfl,rfl⟩:=List.cons.inj hr;rw[show items[y]?=some items[y] by simp [hi]];refine ae (he _ (Array.getElem_mem hi) prog w _ _ ?_);by_cases hyj:y=j
   ·subst hyj;rw[hit]
    wp_walk
    exact⟨_,rfl,h⟩
   ·rw[hno y hi Aa]
    wp_walk
    exact⟨rfl,rfl,y+1,Aa,rfl⟩
  case fin=>
   rintro b s' ⟨hb,rfl,i,hij,hr⟩;have:=bY List.length hr;rw[List.length_range'] at this;have:(0:Nat)=items.size - i:=this;lia
  case h=>
   exact⟨rfl,rfl,0,bo _,by simp [Std.Legacy.Range.size]⟩
def jNH:V->List V->Hp->VK->Prop:=fun x vs H Q=>∃ (p:Addr) (ns:Ag) (i:Int) (k:Nat),x= .ref p/\vs=[.int i]/\H p=some (.tup (ns.map V.int))/\ns[k]?=some i/\(∀ m,m<k->ns[m]?≠some i)/\Q (.int (k:Int)) H
theorem jEP:MtM X "tuple.index" jNH:=by
 intro lK s σ H x vs v us Q I rx rv h;obtain⟨p,ns,i,k,rfl,rfl,hp,hk,hno,q⟩:=h;cases rx;obtain⟨u,rfl,ru⟩:=rv.one;obtain⟨_,its,r,n,e0⟩:=I.hok p _ hp;have hl:=r.length;rw[af] at hl;have hkl:k<its.length:=by rw[<- hl]; exact(ao.mp hk).1
 have at_:∀ m (hm:m<its.length),∃ (z:Int) (t:Tok),ns[m]?=some z/\its[m]= .int z t:=fun m hm=>by
  have hz:(ns.map V.int)[m]?=some (.int ns[m]):=by simp [show m<ns.length by lia]
  obtain⟨w,hw,t,rw'⟩:=r.get hz;refine⟨ns[m],t,by simp [show m<ns.length by lia],?_⟩;rw[aq hm] at hw;rw[bw hw];exact rw'
 refine fm F.slot_tuple_index ⟨_,e0,rfl⟩ F.entry_tuple_index (F.args_tuple_index_2 _ _) (jG7 p its.toArray n none #[] u (eqU (.int i)) k (by simpa using hkl) ?_ fun m hm hmk=>?_) ⟨e0,fun w hw=>jCZ ru rfl r ?_ w (by simpa using hw),?_⟩
 ·obtain⟨z,t,h1,h2⟩:=at_ k hkl;rw[hk] at h1;cases h1;show eqU (.int i) its[k]=true;rw[h2];show (i==i)=true;simp
 ·have hm':m<its.length:=by simpa using hm
  obtain⟨z,t,h1,h2⟩:=at_ m hm';show eqU (.int i) its[m]=false;rw[h2];show (z==i)=false;rw[cm];exact fun e=>hno m hmk (by rw[h1,e])
 ·rw[bK];intro x hx;obtain⟨z,_,rfl⟩:=aQ.mp hx;rfl
 ·exact⟨.int _,H,I.tok _,⟨s.toks,rfl⟩,q⟩
section
variable {K:W.Frag}
theorem gl_n (h:sc.names.lookup x=some .globalImplicit:=by decide+kernel):Gl1 (cxN P w K mg Aq N qual sc f cd cl A Ap s H) x:=⟨h⟩
theorem qA (h:sc.names.lookup x=some .local:=by decide+kernel):Vis1 (cxN P w K mg Aq N qual sc f cd cl A Ap s H) x:=⟨.inl h⟩
theorem jSD (h:sc.names.lookup x=some .free):Vis1 (cxN P w K mg Aq N qual sc f cd cl A Ap s H) x:=⟨.inr (.inr h)⟩
theorem loc_n (h:sc.names.lookup x=some .local:=by decide+kernel):Loc1 (cxN P w K mg Aq N qual sc f cd cl A Ap s H) x:=⟨.inl h, .inr h⟩
end
theorem jT5 {x:Str}{args:Arguments}{body:List Stmt}{scope:Scope}{pos:Pos}{c0 T:Addr}{j:Nat}(hN:X.N.Nodup)(hj:X.N[j]?=some x)(lx:Loc1 X x)(hcode:X.env.code= .ref c0)(CH:PySem.W.CodeHd X.Aq c0 T)(hbm:qR X.Aq X.mg)
  (hfree:∀ y∈scope.names,y.2= .free->X.env.scope.names.lookup y.1=some .cell\/X.env.scope.names.lookup y.1=some .free) (hdf:defaultsOf args X.env=([],[])) (han:annTrees args none X.env=[]):
  JS X (.FunctionDef x args body [] none [] scope none x pos) (tDef x (qualnameIn X.env x x) args body scope (jO X.env.cells scope.names []) T pos j):=⟨jWB hN hj lx.a hcode CH hbm hfree hdf han lx.b⟩
def iSeq (K:W.Frag)(te:TE):TI:=fun σ H R=>iList K te σ H R\/iTup K te σ H R
theorem jXE {tg a:Expr}{ta:TE}(hl:JE X a ta):JI X tg a (iSeq X.K ta):=⟨fun lK s σ H R I h=>by
 rcases h with h | h
 ·exact(yN hl).h lK s σ H R I h
 ·exact(qG hl).h lK s σ H R I h⟩
def AtS (tp:Bool)(H:Hp)(a:Addr)(xs:List V):Prop:=match tp with
 | false=>H a=some (.lst xs)
 | true=>H a=some (.tup xs)
theorem AtS.sq {tp:Bool}{K:W.Frag}{H:Hp}{a:Addr}{xs:List V}(h:AtS tp H a xs):Sq tp K H a xs:=by
 cases tp with
 | false=>exact SqL.of h
 | true=>exact SqT.of h
theorem AtS.or {tp:Bool}{K:W.Frag}{H:Hp}{a:Addr}{xs:List V}(h:AtS tp H a xs):SqL K H a xs\/SqT K H a xs:=by
 cases tp with
 | false=>exact .inl (SqL.of h)
 | true=>exact .inr (SqT.of h)
def AtS.ob (tp:Bool)(xs:List V):HO:=match tp with
 | false=> .lst xs
 | true=> .tup xs
theorem AtS.is {tp:Bool}{H:Hp}{a:Addr}{xs:List V} :AtS tp H a xs↔H a=some (AtS.ob tp xs):=by cases tp <;> exact Iff.rfl
theorem AtS.ext {tp:Bool}{H H':Hp}{a:Addr}{xs:List V}(h:AtS tp H a xs)(e:Ext H H'):AtS tp H' a xs:=AtS.is.mpr (e _ _ (AtS.is.mp h))
theorem jXG {i o:Expr}{ty td:TE}{pos:Pos}(hu:X.A.units+1<cLine)(hi:JE X i ty)(ho:JE X o td)(h1:behindInMarks .In o=false):JT X (.Compare i [.In] [o] pos) (tB (tDIn ty td)):=⟨jSS (jWP hu hi.h ho.h) h1⟩
section
variable {K:W.Frag}{σ:St}
theorem jIJ {a:Addr}{xs:List V}(hn:xs.length<sizeLine)(Pv:Addr->Nat->St->Hp->List V->Prop)(h0:∀ D,H1 D=none->Pv D 0 (blkσ m σ) (upd H1 D (.lst [])) [])
  (hD:∀ D i σ' H' zs,H1 D=none->Pv D i σ' H' zs->H' a=some (.lst xs)/\H' D=some (.lst zs)/\zs.length<=i)
  (hs:∀ D i σ' H' zs x,H1 D=none->xs[i]?=some x->Pv D i σ' H' zs->g x σ' H' fun σ2 H2=>tt σ2 H2 fun b H3=>if b=true then te σ2 H3 fun v H4=>H4 D=some (.lst zs)/\Pv D (i+1) σ2 (upd H4 D (.lst (zs++[v]))) (zs++[v]) else Pv D (i+1) σ2 H3 zs)
  (hd:∀ D σ' H' zs,H1 D=none->Pv D xs.length σ' H' zs->Q (.ref D) H'):qQ m g tt te σ Q (Itl K a) H1:=by
 intro D hDn;refine⟨fun i k σ' H' zs=>k=xs.length - i/\i<=xs.length/\Pv D i σ' H' zs,⟨_,rfl,bo _,h0 D hDn⟩,?_⟩;rintro i k σ' H' zs ⟨rfl,hi,p⟩;obtain⟨s1,q1,q2⟩:=hD D i σ' H' zs hDn p;refine⟨q1,Aa,?_⟩;by_cases hlt:i<xs.length
 ·refine .inr ⟨⟨xs,xs[i],SqL.of s1,by simp [hlt]⟩,Pv D (i+1),fun σ2 H2 zs z=>⟨xs.length - (i+1),Aa,rfl,hlt,z⟩,fun v H'' y=>?_⟩;obtain⟨e1,e2⟩:=y;subst e1;exact hs D i σ' _ zs v hDn (e2 xs (SqL.of s1)) p
 ·have e:i=xs.length:=Aa;subst e;exact .inl ⟨⟨xs,SqL.of s1,aA _⟩,hd D σ' H' zs hDn p⟩
theorem jS4 {tp:Bool}{ta:TE}{a:Addr}{xs:List V}(ha:AtS tp H1 a xs)(hta:∀ Q:VK,Q (.ref a) H1->ta σ H1 Q)(hn:xs.length<sizeLine)(Pv:Addr->Nat->St->Hp->List V->Prop)(h0:∀ D,H1 D=none->Pv D 0 (blkσ m σ) (upd H1 D (.lst [])) [])
  (hD:∀ D i σ' H' zs,H1 D=none->Pv D i σ' H' zs->AtS tp H' a xs/\H' D=some (.lst zs)/\zs.length<=i)
  (hs:∀ D i σ' H' zs x,H1 D=none->xs[i]?=some x->Pv D i σ' H' zs->g x σ' H' fun σ2 H2=>tt σ2 H2 fun b H3=>if b=true then te σ2 H3 fun v H4=>H4 D=some (.lst zs)/\Pv D (i+1) σ2 (upd H4 D (.lst (zs++[v]))) (zs++[v]) else Pv D (i+1) σ2 H3 zs)
  (hd:∀ D σ' H' zs,H1 D=none->Pv D xs.length σ' H' zs->Q (.ref D) H'):iSeq K ta σ H1 (qQ m g tt te σ Q):=by
 cases tp with
 | false=>exact .inl (hta _ ⟨a,rfl,⟨xs,SqL.of ha⟩,jIJ hn Pv h0 hD hs hd⟩)
 | true=>exact .inr (hta _ ⟨a,rfl,⟨xs,SqT.of ha⟩,jB3 hn Pv h0 hD hs hd⟩)
end
theorem ExtT.of {T:Addr}{H H':Hp}(e:Ext H H'):ExtT T H H':=fun b o h _=>e b o h
theorem ExtT.trans {T:Addr}{H H' H'':Hp}(a:ExtT T H H')(b:ExtT T H' H''):ExtT T H H'':=fun c o h n=>b c o (a c o h n) n
theorem TabOk.is {H:Hp}{T:Addr}{pos:Pos}{q:Str}(t:TabOk H T pos q):∃ ps,H T=some (.tbl ps):=by
 rcases t with h | ⟨c,h,_⟩
 ·exact⟨_,h⟩
 ·exact⟨_,h⟩
theorem TabOk.ne {H:Hp}{T:Addr}{pos:Pos}{q:Str}(t:TabOk H T pos q){b:Addr}{o:HO}(h:H b=some o)(ho:∀ ps,o≠ .tbl ps):b≠T:=fun e=>by
 obtain⟨ps,z⟩:=t.is;rw[e,z] at h;cases h;exact ho ps rfl
theorem TabOk.ext {H H':Hp}{T:Addr}{pos:Pos}{q:Str}(t:TabOk H T pos q)(e:Ext H H'):TabOk H' T pos q:=by
 rcases t with h | ⟨c,h,h2⟩
 ·exact .inl (e _ _ h)
 ·exact .inr ⟨c,e _ _ h,e _ _ h2⟩
theorem ExtT.at {T:Addr}{H H':Hp}(e:ExtT T H H'){pos:Pos}{q:Str}(t:TabOk H T pos q){b:Addr}{o:HO}(h:H b=some o)(ho:∀ ps,o≠ .tbl ps:=by intro _ z; cases z):H' b=some o:=e b o h (t.ne h ho)
theorem ExtT.seq {T:Addr}{H H':Hp}(e:ExtT T H H'){pos:Pos}{q:Str}(t:TabOk H T pos q){tp:Bool}{b:Addr}{xs:List V}(h:AtS tp H b xs):AtS tp H' b xs:=by
 cases tp with
 | false=>exact e.at t (show H b=some (.lst xs) from h)
 | true=>exact e.at t (show H b=some (.tup xs) from h)
structure FunC (K:W.Frag)(x qual:Str)(st:Stmt)(f:Addr)(fd:FuncData)(c0:Addr):Prop where
 ex:∃ (oc:Value) (od:Option Addr) (kV doc pm:Value) (an:Option Addr) (ct:Value) (osl:Array (Ao)),fd=PySem.W.fnOf x qual (y0 st) (jD st) (j7 st) .none kV doc pm an (.ref c0) ct/\K.lookup f=some ⟨oc,od, .func fd,osl⟩/\PySem.W.codeIn K (.ref c0) qual=true
theorem FunC.ok {P:Program}{w:World}{K:W.Frag}{mg:Ak}{Aq:Heap}{x qual:Str}{st:Stmt}{f c0:Addr}{fd:FuncData}{N ps:Am}{k:Nat}{sp:Sp}(F:FunC K x qual st f fd c0)(S:FnScope N ps (j7 st))(len:∀ vs H Q E,sp vs H Q E->vs.length=ps.length)
  (hbody:∀ (A:Around) (Ap:List Env) (s:Shared) (H:Hp) (vs:List V) (Q:VK) (E:XK),Room k (A.deeper (envOfC qual (j7 st) s.heap.objs.size f (.ref c0)))->sp vs H Q E->
   ∃ t,PSs (cxOf CX0 P w K mg Aq N qual (j7 st) f (.ref c0) A Ap s H E).nox (jD st) t/\t { nx:=fun _ H'=>Q .non H',rt:=Q} (yA N vs) H):FnOk P w K mg Aq CX0 (k+1) f fd ps sp:=by
 obtain⟨oc,od,kV,doc,pm,an,ct,osl,rfl,lk,hcd⟩:=F.ex;refine fn_of lk hcd S len fun A Ap s H vs Q E hr hsp=>?_;obtain⟨t,ht,hq⟩:=hbody A Ap s H vs Q E hr hsp;exact⟨t,ht.nox,hq⟩
variable {fp:List Addr}
section
theorem jRY {sc2:Scope}(h:(sc2.names.all fun y=>decide (y.2= .free->sc.names.lookup y.1=some .cell\/sc.names.lookup y.1=some .free))=true):
  ∀ y∈sc2.names,y.2= .free->(blk X sc cl C Nc fp s H).env.scope.names.lookup y.1=some .cell\/(blk X sc cl C Nc fp s H).env.scope.names.lookup y.1=some .free:=fun y hy hf=>by
 rcases aI (bK.mp h y hy) hf with q | q
 ·exact .inl (jAG Ac q)
 ·exact jC3 q
theorem jRN {tg a:Expr}{ta:TE}(hl:JE (blk X sc cl C Nc fp s H) a ta):JI (blk X sc cl C Nc fp s H) tg a (iTup X.K ta):=qG hl
variable {sc2:Scope}{cl2:Aj}{C2:Addr}{Nc2:Am}{fp2:List Addr}{s2:Shared}{H2:Hp}
theorem jF8:yR (blk X sc cl C Nc fp s H) (.type "tuple") (fun xs H Q=>∃ p ys,xs=[.ref p]/\((SqL X.K H p ys/\∀ l,H l=none->Q (.ref l) (upd H l (.tup ys)))\/(SqT X.K H p ys/\Q (.ref p) H))):=jV
end
theorem jL8 {X:Cx}{st:Stmt} :JS X st (fun _ _ _=>False):=⟨fun _ _ _ _ _ _ h=>h.elim⟩
section
variable {K:W.Frag}{σ:St}
abbrev TupsK (H H':Hp):Prop:=∀ b xs,H b=some (.tup xs)->H' b=some (.tup xs)
structure ZOk (Z:Hp->List V->Nat->Prop):Prop where
 z0:∀ H,Z H [] 0
 mono:∀ H H' zs j,TupsK H H'->Z H zs j->Z H' zs j
 len:∀ H zs j,Z H zs j->zs.length<=j
theorem jHC {H:Hp}{D:Addr}{zs:List V}(h:H D=some (.lst zs))(o:HO):TupsK H (upd H D o):=fun b xs hb=>by
 rw[j9 (fun e=>by rw[e,h] at hb; cases hb)];exact hb
def TurnZ (g:TG)(tt:TT)(te:TE)(σP:St->Prop)(Z:Hp->List V->Nat->Prop)(x:V)(j:Nat)(σ':St)(H':Hp)(zs:List V):Prop:=
 ∀ (R:St->V->Hp->Prop) (S:St->Hp->Prop),(∀ σ2 v H2,σP σ2->Ext H' H2->Z H2 (zs++[v]) (j+1)->R σ2 v H2)->(∀ σ2 H2,σP σ2->Ext H' H2->Z H2 zs (j+1)->S σ2 H2)->
  g x σ' H' fun σ2 H2=>tt σ2 H2 fun b H3=>if b=true then te σ2 H3 (R σ2) else S σ2 H3
theorem jPZ {tp:Bool}{a:Addr}{xs:List V}(σP:St->Prop)(Z:Hp->List V->Nat->Prop)(zo:ZOk Z)(ha:AtS tp H a xs)(hn:xs.length<sizeLine)(h0:σP (blkσ m σ))
  (step:∀ j x σ' H' zs,xs[j]?=some x->σP σ'->Ext H H'->Z H' zs j->TurnZ g tt te σP Z x j σ' H' zs)
  (hd:∀ D H' zs,H' D=some (.lst zs)->Ext H H'->H D=none->Z H' zs xs.length->Q (.ref D) H'):qQ m g tt te σ Q (match tp with | false=>Itl K a | true=>Itt K a) H:=by
 have turn:∀ D j σ' H' zs x,H D=none->xs[j]?=some x->(σP σ'/\Ext H H'/\H' D=some (.lst zs)/\H D=none/\Z H' zs j)->g x σ' H' fun σ2 H2=>tt σ2 H2 fun b H3=>if b=true then te σ2 H3 fun v H4=>H4 D=some (.lst zs)/\(σP σ2/\Ext H (upd H4 D (.lst (zs++[v])))/\(upd H4 D (.lst (zs++[v]))) D=some (.lst (zs++[v]))/\H D=none/\Z (upd H4 D (.lst (zs++[v]))) (zs++[v]) (j+1)) else (σP σ2/\Ext H H3/\H3 D=some (.lst zs)/\H D=none/\Z H3 zs (j+1)):=by
  rintro D j σ' H' zs x hD hx ⟨p,e,h2,hn,hz⟩;exact step j x σ' H' zs hx p e hz _ _ (fun σ2 v H2 p2 e2 z2=>⟨e2 _ _ h2,p2,(e.trans e2).updNew hn _,j5,hn,zo.mono _ _ _ _ (jHC (e2 _ _ h2) _) z2⟩) fun σ2 H2 p2 e2 z2=>⟨p2,e.trans e2,e2 _ _ h2,hn,z2⟩
 cases tp with
 | false=>exact jIJ (xs:=xs) hn (fun D j σ' H' zs=>σP σ'/\Ext H H'/\H' D=some (.lst zs)/\H D=none/\Z H' zs j) (fun D hD=>⟨h0,(Ext.refl _).new hD _,j5,hD,zo.z0 _⟩) (fun D j σ' H' zs hD ⟨_,e,h2,_,hz⟩=>⟨e _ _ ha,h2,zo.len _ _ _ hz⟩) turn fun D σ' H' zs hD ⟨_,e,h2,hn,hz⟩=>hd D H' zs h2 e hn hz
 | true=>exact jB3 (xs:=xs) hn (fun D j σ' H' zs=>σP σ'/\Ext H H'/\H' D=some (.lst zs)/\H D=none/\Z H' zs j) (fun D hD=>⟨h0,(Ext.refl _).new hD _,j5,hD,zo.z0 _⟩) (fun D j σ' H' zs hD ⟨_,e,h2,_,hz⟩=>⟨e _ _ ha,h2,zo.len _ _ _ hz⟩) turn fun D σ' H' zs hD ⟨_,e,h2,hn,hz⟩=>hd D H' zs h2 e hn hz
theorem jLM {a:Addr}{xs:List V}(σP:St->Prop)(Z:Hp->List V->Nat->Prop)(zo:ZOk Z)(ha:H a=some (.tup xs))(hn:xs.length<sizeLine)(h0:σP (blkσ m σ))
  (step:∀ j x σ' H' zs,xs[j]?=some x->σP σ'->Ext H H'->Z H' zs j->TurnZ g tt te σP Z x j σ' H' zs)
  (hd:∀ D H' zs,H' D=some (.lst zs)->Ext H H'->H D=none->Z H' zs xs.length->Q (.ref D) H'):qQ m g tt te σ Q (Itt K a) H:=jPZ (tp:=true) σP Z zo ha hn h0 step hd
theorem jAJ {a:Addr}{xs:List V}(σP:St->Prop)(Z:Hp->List V->Nat->Prop)(zo:ZOk Z)(ha:H a=some (.lst xs))(hn:xs.length<sizeLine)(h0:σP (blkσ m σ))
  (step:∀ j x σ' H' zs,xs[j]?=some x->σP σ'->Ext H H'->Z H' zs j->TurnZ g tt te σP Z x j σ' H' zs)
  (hd:∀ D H' zs,H' D=some (.lst zs)->Ext H H'->H D=none->Z H' zs xs.length->Q (.ref D) H'):qQ m g tt te σ Q (Itl K a) H:=jPZ (tp:=false) σP Z zo ha hn h0 step hd
theorem jE8 {n:Nat}(σP:St->Prop)(Z:Hp->List V->Nat->Prop)(zo:ZOk Z)(hn:n<sizeLine)(h0:σP (blkσ m σ))
  (step:∀ j σ' H' zs,j<n->σP σ'->Ext H H'->Z H' zs j->TurnZ g tt te σP Z (.int (0+j)) j σ' H' zs)
  (hd:∀ D H' zs,H' D=some (.lst zs)->Ext H H'->H D=none->Z H' zs n->Q (.ref D) H'):qQ m g tt te σ Q (Itr 0 n) H:=by
 refine jC6 (lo:=0) (n:=n) hn (fun D j σ' H' zs=>σP σ'/\Ext H H'/\H' D=some (.lst zs)/\H D=none/\Z H' zs j) (fun D hD=>⟨h0,(Ext.refl _).new hD _,j5,hD,zo.z0 _⟩) (fun D j σ' H' zs hD hj ⟨_,e,h2,_,hz⟩=>⟨h2,zo.len _ _ _ hz⟩) ?_ fun D σ' H' zs hD ⟨_,e,h2,hn,hz⟩=>hd D H' zs h2 e hn hz;rintro D j σ' H' zs hD hj ⟨p,e,h2,hn,hz⟩;exact step j σ' H' zs hj p e hz _ _ (fun σ2 v H2 p2 e2 z2=>⟨e2 _ _ h2,p2,(e.trans e2).updNew hn _,j5,hn,zo.mono _ _ _ _ (jHC (e2 _ _ h2) _) z2⟩) fun σ2 H2 p2 e2 z2=>⟨p2,e.trans e2,e2 _ _ h2,hn,z2⟩
end
def outZ {α:Type}(l:List α)(p:α->Bool)(f:α->V):Hp->List V->Nat->Prop:=fun _ zs j=>zs=((l.take j).filter p).map f
theorem outZ.ok {α:Type}(l:List α)(p:α->Bool)(f:α->V):ZOk (outZ l p f):=⟨fun _=>rfl,fun _ _ _ _ _ h=>h,fun _ zs j h=>by
 rw[show zs=_ from h,af];exact bi (bU _ _) (bB _ _)⟩
theorem outZ.yes {α:Type}{l:List α}{p:α->Bool}{f:α->V}{H H':Hp}{zs:List V}{j:Nat}{x:α}(h:outZ l p f H zs j)(hx:l[j]?=some x)(hp:p x=true):outZ l p f H' (zs++[f x]) (j+1):=by
 show _=_;rw[be,hx,bV,aU,<- show zs=_ from h];simp [hp]
theorem outZ.no {α:Type}{l:List α}{p:α->Bool}{f:α->V}{H H':Hp}{zs:List V}{j:Nat}{x:α}(h:outZ l p f H zs j)(hx:l[j]?=some x)(hp:p x=false):outZ l p f H' zs (j+1):=by
 show _=_;rw[be,hx,bV,aU,<- show zs=_ from h];simp [hp]
theorem outZ.all {α:Type}{l:List α}{p:α->Bool}{f:α->V}{H:Hp}{zs:List V}{n:Nat}(h:outZ l p f H zs n)(hn:l.length<=n):zs=(l.filter p).map f:=by
 rw[show zs=_ from h,bX hn]
def mapZ {α:Type}(l:List α)(f:α->V):Hp->List V->Nat->Prop:=fun _ zs j=>zs=(l.take j).map f
theorem mapZ.ok {α:Type}(l:List α)(f:α->V):ZOk (mapZ l f):=⟨fun _=>rfl,fun _ _ _ _ _ h=>h,fun _ zs j h=>by
 rw[show zs=_ from h,af];exact bB _ _⟩
theorem mapZ.yes {α:Type}{l:List α}{f:α->V}{H H':Hp}{zs:List V}{j:Nat}{x:α}(h:mapZ l f H zs j)(hx:l[j]?=some x):mapZ l f H' (zs++[f x]) (j+1):=by
 show _=_;rw[be,hx,aU,<- show zs=_ from h];rfl
theorem mapZ.all {α:Type}{l:List α}{f:α->V}{H:Hp}{zs:List V}{n:Nat}(h:mapZ l f H zs n)(hn:l.length<=n):zs=l.map f:=by
 rw[show zs=_ from h,bX hn]
theorem int_at {l:Ag}{j:Nat}{x:V}(h:(l.map V.int)[j]?=some x):∃ z:Int,l[j]?=some z/\x=V.int z:=by
 rw[aS] at h;cases hq:l[j]? with
 | none=>rw[hq] at h; cases h
 | some z=>rw[hq] at h; cases h; exact⟨z,rfl,rfl⟩
section
variable {st:Stmt}{sts:List Stmt}{t:TS}
end
end L2
namespace L2
open PySem
end L2
namespace L2
open PySem PySem.Spec PyProof.Rows
section
variable {m:List (Option Nat)}{g:TG}{tt:TT}{te:TE}{σ:St}{H1:Hp}{Q:VK}
end
open PySem.AutoSeq1 (wpAny_loadPart')
variable {w:World}{s:Shared}
section
variable {prog:Program}{A:Around}{E:Ah}
end
variable {X:Cx}
section
variable {sc:Scope}{cl:Aj}{C:Addr}{Nc:Am}{fp:List Addr}{H:Hp}
end
def rMinL (K:W.Frag):List V->Hp->VK->Prop:=fun xs H Q=>∃ (p:Addr) (ns:Ag),xs=[.ref p]/\(SqL K H p (ns.map V.int))/\0<ns.length/\∀ m,m∈ns->(∀ a∈ns,m<=a)->Q (.int m) H
theorem jQ2 (hc:X.calm=true):yR X (.builtin "min") (rMinL X.K):=by
 intro lK s σ H xs us Q I r h;obtain⟨p,ns,rfl,hq,hn,q⟩:=h;obtain⟨u,rfl,rx⟩:=r.one;cases rx;obtain⟨its,r',pl,hz⟩:=I.list hq;have hlen:=r'.length;rw[af] at hlen;have val:∀ (i:Nat) (v:Value),its[i]?=some v->∃ t,v=Value.int (ns.getD i 0) t:=fun i v hi=>by
  have hb:i<ns.length:=by
   rw[hlen];exact(ao.mp hi).1
  obtain⟨u,hu,ru⟩:=r'.get (i:=i) (x:= .int (ns[i])) (by simp [hb]);rw[hi] at hu;cases hu;obtain⟨t,rfl⟩:=ru;exact⟨t,by simp [List.getD,hb]⟩
 refine call_min_walk (df pl.isList ?_);have hne:p≠s.heap.objs.size:=by
  obtain⟨o,ho,_⟩:=pl.isList;exact aW (aG ho)
 refine⟨s.heap.objs.size,_,_,_,_,_,_,rfl,iJ (by simpa using I.ok.hd hc) _ p hne its.toArray,⟨⟨_,aC _ rfl,rfl,rfl⟩,pl.isList.push _⟩,(fun b hb=>?_),by rw[ar]; lia,CmpOf.ints_lt (fun i=>ns.getD i 0) (fun i v hP=>val i v (by simpa using hP)),fun v h' tk hP hk=>?_⟩
 ·show b<(s.heap.push _).objs.size;rw[dU];obtain⟨o,ho,_⟩:=pl.isList;have:=aG ho;rcases aE.mp hb with rfl | hb
  ·exact jd _
  ·rcases aE.mp hb with rfl | hb
   ·exact cN this
   ·cases hb
 ·obtain⟨h1,h2⟩:=argBest_lt (fun i=>ns.getD i 0) (its.toArray.size - 1);rw[ar] at h1 h2 hP;rw[List.getElem?_toArray] at hP;obtain⟨t,rfl⟩:=val _ v hP;refine⟨.int _,H,I.kept (t':=tk) fun b o e=>hk b o (by
   intro z;have z:b=s.heap.objs.size:=by simpa using z
   exact absurd (aG e) (by rw[z]; exact db _)) (ah _ e),⟨_,rfl⟩,q _ ?_ fun a ha=>?_⟩
  ·generalize argBest _ _=j at h1;have hj:j<ns.length:=Aa;rw[aj,aq hj];exact cn hj
  ·obtain⟨j,hj⟩:=List.mem_iff_getElem?.mp ha;have hjl:=(ao.mp hj).1;have:=h2 j Aa;have e:ns.getD j 0=a:=by rw[aj,hj]; rfl
   rw[e] at this;exact this
structure FnZ (P:Program)(w:World)(K:W.Frag)(mg:Ak)(Aq:Heap)(CX:CXT)(Z:Shared->Hp->Prop)(k:Nat)(f:Addr)(fd:FuncData)(ps:Am)(sp:Sp):Prop where
 len:∀ vs H Q E,sp vs H Q E->vs.length=ps.length
 run:∀ (A:Around) (Ap:List Env) (s:Shared) (H:Hp) (args:Args) (us:Al) (vs:List V) (Q:VK) (E:XK),Room k A->Env0 P w K mg Aq A Ap s H->BindsTo s fd args (ps.zip us)->Vals vs us->Z s H->sp vs H Q E->
  codeAny (model P w) A (.call (.ref f) args) (CR CX Ap P w H s Q E) s
theorem jT8 {Z:Shared->Hp->Prop}{CX:CXT}{P:Program}{w:World}{K:W.Frag}{mg:Ak}{Aq:Heap}{k:Nat}{f:Addr}{name qual:Str}{params:Arguments}{body:List Stmt}{scope:Scope}{dV kV doc pm lM ct oc:Value}{an od:Option Addr}
  {osl:Array (Ao)}{N ps:Am}{sp:Sp}(lk:K.lookup f=some ⟨oc,od, .func (PySem.W.fnOf name qual params body scope dV kV doc pm an lM ct),osl⟩) (hcd:PySem.W.codeIn K lM qual=true) (S:FnScope N ps scope)
  (len:∀ vs H Q E,sp vs H Q E->vs.length=ps.length)
  (hbody:∀ (A:Around) (Ap:List Env) (s:Shared) (H:Hp) (vs:List V) (Q:VK) (E:XK),Room k (A.deeper (envOfC qual scope s.heap.objs.size f lM))->Z s H->sp vs H Q E->
   ∃ t,PSs (cxOf CX P w K mg Aq N qual scope f lM A Ap s H E) body t/\t { nx:=fun _ H'=>Q .non H',rt:=Q} (yA N vs) H):
  FnZ P w K mg Aq CX Z (k+1) f (PySem.W.fnOf name qual params body scope dV kV doc pm an lM ct) ps sp:=by
 refine⟨len,fun A Ap s H args us vs Q E hr e0 hb r hz hsp=>?_⟩;have hl:=len _ _ _ _ hsp;have KX:K.In s.heap:=e0.mod.kin.keeps fun b o e=>(e0.bs b o e).1;have lim:s.heap.NoLimit:=e0.mod.nolimit.keeps fun b o e=>(e0.bs b o e).1;have hkind:∀ y∈ps.zip us,scope.names.lookup y.1=some .local\/(scope.names.lookup y.1=some .cell/\((cellsFrom (s.heap.objs.size+1) scope.names []).lookup y.1).isSome=true):=fun ⟨n,v⟩ hy=>by
  rcases S.par n (dN hy).1 with q | q
  ·exact .inl q
  ·exact .inr ⟨q,gx _ _ _ (.inl q)⟩
 refine codeAny_call_function hr.depth (KX _ _ lk) rfl S.co S.gen rfl (ly KX hcd) (hb _ _ _ _ ?_);refine iG S.kind hkind fun env he s1 x=>?_;subst he;refine⟨lim.keeps x.toInCall.keep,codeAny_func ?_⟩;obtain⟨t,ht,hq⟩:=hbody A Ap s H vs Q E (hr.deeper _) hz hsp;have I:Inv (cxOf CX P w K mg Aq N qual scope f lM A Ap s H E) [] (yA N vs) H s1:=jIB S hr.hd e0 hl r x;refine ck (ht [] s1 (yA N vs) H _ I hq) (fun fl s' hs=>?_) fun e s' hs=>hs;have fin:∀ {σ':St}{H':Hp}{v:V}{u:Value},Inv (cxOf CX P w K mg Aq N qual scope f lM A Ap s H E) [] σ' H' s'->RelV v u->Q v H'->CE Ap P w H s Q u s':=
  fun {σ' H' v u} J rv q=>⟨v,H',J.os,J.bare,J.Aq,J.hok,rv,q⟩
 cases fl with
 | ret u=>
  obtain⟨v,σ',H',J,rv,q⟩:=hs;exact fin J rv q
 | next=>
  obtain⟨σ',H',J,q⟩:=hs;exact fin (v:=V.non) (u:=Value.none) J rfl q
 | brk=>
  obtain⟨_,_,_,q⟩:=hs;exact False.elim q
 | cont=>
  obtain⟨_,_,_,q⟩:=hs;exact False.elim q
def ZSt (Z:Shared->Hp->Prop):Prop:=∀ (fs:List Addr) (s s':Shared) (H H':Hp),Un fs [] H H' s.heap s'.heap->Z s H->Z s' H'
abbrev ZT:Shared->Hp->Prop:=fun _ _=>True
theorem ZT.st:ZSt ZT:=fun _ _ _ _ _ _ _=>trivial
theorem FnZ.ok {P:Program}{w:World}{K:W.Frag}{mg:Ak}{Aq:Heap}{CX:CXT}{k:Nat}{f:Addr}{fd:FuncData}{ps:Am}{sp:Sp}(F:FnZ P w K mg Aq CX ZT k f fd ps sp):FnOk P w K mg Aq CX k f fd ps sp:=
 ⟨F.len,fun A Ap s H args us vs Q E hr he hb hv hs=>F.run A Ap s H args us vs Q E hr he hb hv trivial hs⟩
section
variable {P:Program}{K:W.Frag}{mg:Ak}{Aq:Heap}
theorem Fun.okZ {Z:Shared->Hp->Prop}{x qual:Str}{st:Stmt}{f:Addr}{fd:FuncData}{N ps:Am}{k:Nat}{sp:Sp}(F:Fun K x qual st f fd)(S:FnScope N ps (j7 st))(len:∀ vs H Q E,sp vs H Q E->vs.length=ps.length)
  (hbody:∀ (lM:Value) (A:Around) (Ap:List Env) (s:Shared) (H:Hp) (vs:List V) (Q:VK) (E:XK),Room k (A.deeper (envOfC qual (j7 st) s.heap.objs.size f lM))->Z s H->sp vs H Q E->
   ∃ t,PSs (cxOf CX0 P w K mg Aq N qual (j7 st) f lM A Ap s H E).nox (jD st) t/\t { nx:=fun _ H'=>Q .non H',rt:=Q} (yA N vs) H):FnZ P w K mg Aq CX0 Z (k+1) f fd ps sp:=by
 obtain⟨_,_,_,_,_,_,lM,_,_,rfl,lk,hcd⟩:=F.ex;refine jT8 lk hcd S len fun A Ap s H vs Q E hr hz hsp=>?_;obtain⟨t,h,q⟩:=hbody lM A Ap s H vs Q E hr hz hsp;exact⟨t,h.nox,q⟩
end
structure Callee (P:Program)(w:World)(K:W.Frag)(mg:Ak)(Aq:Heap)(Z:Shared->Hp->Prop)(zh:Hp->Prop)(k:Nat)(a:Addr)(sp:Sp):Prop where
 fn:∀ (A:Around) (Ap:List Env) (s:Shared) (H:Hp),Env0 P w K mg Aq A Ap s H->zh H->PySem.W.FnAt a s.heap
 run:∀ (A:Around) (Ap:List Env) (s:Shared) (H:Hp) (us:Al) (vs:List V) (Q:VK) (E:XK),Room k A->Env0 P w K mg Aq A Ap s H->Z s H->zh H->Vals vs us->sp vs H Q E->codeAny (model P w) A (.call (.ref a) ⟨us,[]⟩) (CR CX0 Ap P w H s Q E) s
def jW0 (a:Addr)(zh:Hp->Prop)(sp:Sp)(j:Nat)(t:TA):TE:=fun σ H Q=>σ[j]?=some (some (.ref a))/\t σ H fun vs H1=>zh H1/\sp vs H1 Q E0
section
variable {Z:Shared->Hp->Prop}{zh:Hp->Prop}{k:Nat}{a:Addr}{sp:Sp}{x:Str}{p pos:Pos}{e:Expr}{es:List Expr}{t:TA}{j:Nat}
theorem jLC (F:Callee X.prog X.w X.K X.mg X.Aq Z zh k a sp)(hr:Room k X.A)(st:ZSt Z)(hz:Z X.s₀ X.H₀)(hex:X.ex=[])(hN:X.N[j]?=some x)(hv:Vis1 X x)
  (ha:JA X (e::es) t) (he:starEach (e::es) X.env=(false,eval e X.env)::starEach es X.env) (hdb:(x==("__debug__" :Str))=false:=by decide) (hcd:(x==("__classdict__" :Str))=false:=by decide) (hpl:(backTo pos (starEach es X.env)).any (·.1)=false:=by rfl):
  JE X (.Call (.Name x p) (e::es) [] pos) (jW0 a zh sp j t):=by
 refine⟨fun lK s σ H Q I h=>?_⟩;obtain⟨hj,h⟩:=h;refine cS (lN (jHU (pos:=p) hN hv.a hdb hcd lK s σ H (fun v H'=>v= .ref a/\H'=H) I ⟨_,hj,rfl,rfl⟩) fun v s1 ⟨v',H1,I1,r1,q1,q2⟩=>?_);subst q1 q2;cases (show v=Value.ref a from r1);have hX:=lN (ha.h pos lK s1 σ H1 _ I1 h) fun us s2 (z:AP X lK σ _ us s2)=>show PySem.W.FnAt a s2.heap/\wpAny (model X.prog X.w) X.A (call (.ref a) ([]++us)) (EP X lK σ Q) X.xe s2 from by
  obtain⟨vs,H2,I2,r,h1,h2⟩:=z;have un:=I2.Aq;rw[hex] at un;refine⟨F.fn _ _ _ _ I2.env0 h1,iF (dQ (F.run X.A X.stack s2 H2 us vs Q E0 hr I2.env0 (st _ _ _ _ _ un hz) h1 r h2) fun r s' hq=>?_)⟩;cases r with
  | error e=>exact hq.elim
  | ok fl=>
   cases fl with
   | ret u=>exact I2.after hq
   | next=>exact False.elim hq
   | brk=>exact False.elim hq
   | cont=>exact False.elim hq
 rw[he] at hX ⊢;exact im (by show ((false || (backTo pos (starEach es X.env)).any (·.1)) || false)=false; rw[hpl]; rfl) jw (ek hX)
end
def nlP (q:Str)(args:Arguments)(body:Expr)(scope:Scope)(cl:Aj)(a c:Addr):Heap->Prop:=fun h=>∃ pm ctv,h.get? a=some (kla_obj "<lambda>" q args body scope cl pm c ctv)
theorem nlP.stay {q:Str}{args:Arguments}{body:Expr}{scope:Scope}{cl:Aj}{a c:Addr}(h1 h2:Heap)(p:nlP q args body scope cl a c h1)(k:∀ o,h1.get? a=some o->h2.get? a=some o):nlP q args body scope cl a c h2:=by
 obtain⟨m,t,e⟩:=p;exact⟨m,t,k _ e⟩
def tLam (q:Str)(args:Arguments)(body:Expr)(scope:Scope)(cl:Aj)(T:Addr)(pos:Pos):TE:=fun _ H Q=>TabOk H T pos q/\∀ a c H',H' a=some (.ext (nlP q args body scope cl a c))->H' c=some (.ext (ncP q c))->H' T=some (.tbl (onePs pos c))->ExtT T H H'->H a=none->Q (.ref a) H'
theorem jP4 {X:Cx}{args:Arguments}{body:Expr}{scope:Scope}{pos:Pos}{c0 T:Addr}(hcode:X.env.code= .ref c0)(CH:PySem.W.CodeHd X.Aq c0 T)(hbm:qR X.Aq X.mg)
  (hfree:∀ y∈scope.names,y.2= .free->X.env.scope.names.lookup y.1=some .cell\/X.env.scope.names.lookup y.1=some .free) (hdf:defaultsOf args X.env=([],[])):
  JE X (.Lambda args body scope pos) (tLam (X.env.qual++ "<lambda>") args body scope (jO X.env.cells scope.names []) T pos):=by
 refine⟨fun lK s σ H Q I h=>?_⟩;obtain⟨tab,h⟩:=h;refine PySem.W.kla_eval hdf ?_;have hcl:closureFor scope X.env=pure (jO X.env.cells scope.names []):=jK6 fun y hy hz=>I.ok.has y.1 (hfree y hy hz);have hg:s.heap.Ns mainGlobals X.mg:=I.mod.glob.keeps I.bk;have C:=CH.keeps I.bk;have gT:∀ {ps:An},H T=some (.tbl ps)->mainGlobals≠T:=fun hT z=>by
  obtain⟨o,es,ep,e,_⟩:=I.mod.glob;have:=(I.bs _ _ e).2;rw[z,hT] at this;cases this
 have bT:∀ {ps:An},H T=some (.tbl ps)->s.heap.BuiltinsAt X.mg T:=fun hT=>by
  obtain⟨bm,o,h1,h2,h3,h4,h5,h6,h7⟩:=hbm;refine⟨bm,o,h1,h2,h3,fun z=>?_,(I.bs _ _ h4).1,h5,h6,h7⟩;have:=(I.bs _ _ h4).2;rw[z,hT] at this;cases this
 rcases tab with hT | ⟨c,hT,hc⟩
 ·refine PySem.W.kla_makeFunction hcl I.ok.glob hg hcode C (I.hok T _ hT) trivial rfl (gT hT) (bT hT) fun c ctv h' tk k1 k2 k3 k4 k5=>?_;obtain⟨oc,hoc⟩:=ncP.is (q:=X.env.qual++ "<lambda>") k4;have I1:Inv X lK σ (upd (upd H T (.tbl (#[]++onePs pos c))) c (.ext (ncP (X.env.qual++ "<lambda>") c))) { s with heap:=h',toks:=tk} :=I.grown hT k1 k5 k2 k4 ⟨oc,hoc⟩ ncP.stay;have I2:=I1.laidX (t':=tk) (a:=h'.objs.size) (φ:=nlP (X.env.qual++ "<lambda>") args body scope (jO X.env.cells scope.names []) h'.objs.size c) (h':=h'.push (kla_obj "<lambda>" (X.env.qual++ "<lambda>") args body scope (jO X.env.cells scope.names []) ((X.mg "__name__").getD .none) c ctv)) (fun b u q=>ah _ q) (aA _) ⟨_,ctv,aC _ rfl⟩ ⟨_,aC _ rfl⟩ nlP.stay;have hcn:H c=none:=I.hok.fresh k2;have han:H h'.objs.size=none:=I.hok.fresh (bi k2 (de k3));have ca:c≠h'.objs.size:=aW k3;have Tc:T≠c:=fun z=>by rw[z,hcn] at hT; cases hT
  have Ta:T≠h'.objs.size:=fun z=>by rw[z,han] at hT; cases hT
  refine⟨.ref _,_,I2,rfl,h _ c _ j5 (by rw[j9 ca,j5]) (by rw[j9 Ta,j9 Tc,j5,lB]) (fun b o e n=>?_) han⟩;rw[j9 (jA e han),j9 (jA e hcn),j9 n];exact e
 ·refine PySem.W.kla_makeFunctionHit (cv:= .ref c) hcl I.ok.glob hg hcode C (I.hok T _ hT) (by exact trivial) (by simp [codeAmong,rawInt]) (bT hT) fun ctv h' tk k1 k2=>?_;have I2:=I.laidX (t':=tk) (a:=h'.objs.size) (φ:=nlP (X.env.qual++ "<lambda>") args body scope (jO X.env.cells scope.names []) h'.objs.size c) (h':=h'.push (kla_obj "<lambda>" (X.env.qual++ "<lambda>") args body scope (jO X.env.cells scope.names []) ((X.mg "__name__").getD .none) c ctv)) (fun b u q=>ah _ (k1 b u q)) k2 ⟨_,ctv,aC _ rfl⟩ ⟨_,aC _ rfl⟩ nlP.stay;have han:H h'.objs.size=none:=I.hok.fresh k2;refine⟨.ref _,_,I2,rfl,h _ c _ j5 (by rw[j9 (jA hc han)]; exact hc) (by rw[j9 (jA hT han)]; exact hT) (fun b o e n=>?_) han⟩;rw[j9 (jA e han)];exact e
theorem jPN {P:Program}{w:World}{K:W.Frag}{mg:Ak}{Aq:Heap}{k:Nat}{q:Str}{args:Arguments}{body:Expr}{scope:Scope}{N ps fs:Am}{sp:Sp}{cl:Aj}{fv:List V}{a c:Addr}(S:NScope N ps fs scope)(len:∀ vs H Q E,sp vs H Q E->vs.length=ps.length)
  (hb:∀ pm ctv (us:Al),us.length=ps.length->bindArgs (PySem.W.kla_fn "<lambda>" q args body scope cl pm (.ref c) ctv) ⟨us,[]⟩=pure (ps.zip us))
  (hbody:∀ (A:Around) (Ap:List Env) (s:Shared) (H:Hp) (vs:List V) (Q:VK) (E:XK),Room k (A.deeper (envX q scope s.heap.objs.size a (.ref c) cl))->sp vs H Q E->
   ∃ t,PE (cxN P w K mg Aq N q scope a (.ref c) cl A Ap s H) body t/\t (jC8 N vs fv) H Q):
  Callee P w K mg Aq (fun s H=>ClOk cl s H/\FvOk fs fv cl s) (fun H=>H a=some (.ext (nlP q args body scope cl a c))/\H c=some (.ext (ncP q c))) (k+1) a sp:=by
 refine⟨fun A Ap s H e z=>?_,fun A Ap s H us vs Q E hr e0 hz zh r hsp=>?_⟩
 ·obtain⟨⟨m,t,g⟩,_,_⟩:=(show ObjOk P w H s.heap a (.ext _) from e.hok a _ z.1);exact⟨_,_,_,_,g⟩
 obtain⟨C,Fv⟩:=hz;obtain⟨⟨pm,ctv,ho⟩,_,_⟩:=(show ObjOk P w H s.heap a (.ext _) from e0.hok a _ zh.1);obtain⟨hc,_,_⟩:=(show ObjOk P w H s.heap c (.ext _) from e0.hok c _ zh.2);have hl:us.length=ps.length:=r.length.symm.trans (len _ _ _ _ hsp);have lim:s.heap.NoLimit:=e0.mod.nolimit.keeps fun b o e=>(e0.bs b o e).1;refine PySem.W.kla_callFunE hr.depth ho rfl S.co S.gen rfl hc ?_;rw[hb pm ctv us hl];refine am (wpAny_newFunctionEnv S.nocell (fun y hy=>S.par y.1 (dN hy).1) (fun h₁ hns hsb=>⟨lim.fresh _ hsb,?_⟩) S.kind);show codeAny _ _ (.expr body (envX q scope s.heap.objs.size a (.ref c) cl)) _ _;have hk:∀ b o,s.heap.get? b=some o->h₁.get? b=some o:=fun b o e=>hsb.extBut b o (aW (aG e)) (ah _ e);obtain⟨t,ht,hq⟩:=hbody A Ap s H vs Q E (hr.deeper _) hsp;have I:Inv (cxN P w K mg Aq N q scope a (.ref c) cl A Ap s H) [] (jC8 N vs fv) H { s with heap:=h₁,toks:=s.toks+(ps.zip us).length} :=jFU S hr.hd e0 hl r C Fv hns hk;refine PySem.W.kla_codeExpr (ck (ht [] _ (jC8 N vs fv) H _ I hq) (fun u s' hs=>?_) fun e s' hs=>False.elim hs);obtain⟨v,H',J,rv,q⟩:=hs;exact⟨v,H',J.os,J.bare,J.Aq,J.hok,rv,q⟩
end L2
namespace TM
open PySem PyProof.Rows
class Od where
 kd:SortKind
 ky:Keyed->Int
 is:Keyed->Prop
abbrev key [Od]:Keyed->Int:=Od.ky
abbrev IsI [Od]:Keyed->Prop:=Od.is
class LtOk (prog:Program) (w:World) (A:Around) (s:Shared) [Od]:Prop where
 lt:∀ {E:Ah}{st:SortSt}{x y:Keyed}{Q:Option Bool->SortSt->Prop},kindOf st=Od.kd->IsI x->IsI y->Q (some (decide (key x<key y))) st->wpS (model prog w) A E s (lt' x y) Q st
variable [Od]
abbrev AllI (l:List Keyed):Prop:=∀ p∈l,IsI p
abbrev LE (x y:Keyed):Prop:=key x<=key y
def jCJ:Bool->Keyed->Array Keyed->Nat->Nat->Nat->StateT SortSt Sem (Option Nat):=sortPriv% PySem.Builtin.gallop
def gallopB: { g:Bool->Keyed->Array Keyed->Nat->Nat->Nat->StateT SortSt Sem (Option Nat) // jCJ=g} :=⟨fun _ _ _ _ _ _=>bind _ _,rfl⟩
theorem elP:(sortPriv% PySem.Builtin.elem)=elem':=rfl
theorem ltP:(sortPriv% PySem.Builtin.lt)=lt':=rfl
theorem ltAtP:(sortPriv% PySem.Builtin.ltAt)=ltAt':=rfl
theorem jJW:(sortPriv% PySem.Builtin.gallop)=jCJ:=rfl
section
variable {prog:Program}{w:World}{A:Around}{E:Ah}{s:Shared}
theorem jH7 [LtOk prog w A s]{st:SortSt}{x y:Keyed}{Q:Option Bool->SortSt->Prop}(hk:kindOf st=Od.kd)(hx:IsI x)(hy:IsI y)(h:Q (some (decide (key x<key y))) st):wpS (model prog w) A E s (lt' x y) Q st:=LtOk.lt hk hx hy h
theorem jX {st:SortSt}{arr:Array Keyed}{i:Nat}{p:Keyed}{Q:Keyed->SortSt->Prop}(hi:arr[i]?=some p)(h:Q p st):wpS (model prog w) A E s (elem' arr i) Q st:=by
 rw[elem'_eq,hi];exact aO h
end
section
variable {prog:Program}{w:World}{A:Around}{E:Ah}{s:Shared} [LtOk prog w A s]
theorem jBO {left:Bool}{ky:Keyed}{arr:Array Keyed}{Aq n hint:Nat}{st:SortSt}{Q:Option Nat->SortSt->Prop}(hk:kindOf st=Od.kd)(hky:IsI ky)(hI:∀ i,i<n->∃ p,arr[Aq+i]?=some p/\IsI p)(hh:hint<n)(B:Nat->Bool)
  (hB:∀ i p,i<n->arr[Aq+i]?=some p->B i=(if left=true then decide (key p<key ky) else !decide (key ky<key p))) (mono:∀ i j,i<=j->j<n->B j=true->B i=true)
  (h:∀ k,k<=n->(∀ i,i<k->B i=true)->(∀ i,k<=i->i<n->B i=false)->Q (some k) st):wpS (model prog w) A E s (jCJ left ky arr Aq n hint) Q st:=by
 rw[gallopB.2]
 delta gallopB
 dsimp only;simp only [elP,ltP];have bey:∀ i (R:Option Bool->SortSt->Prop),i<n->R (some (B i)) st->wpS (model prog w) A E s (do
   let x <- elem' arr (Aq+i)
   if left=true then lt' x ky else do
    let r <- lt' ky x
    pure (r.map (!·))) R st:=fun i R hi hR=>by
  obtain⟨p,hp,ip⟩:=hI i hi;refine aL (jX hp ?_);have e:=hB i p hi hp;cases left with
  | true=>
   rw[ay rfl] at e ⊢;rw[e] at hR;exact jH7 hk ip hky hR
  | false=>
   rw[aw az] at e ⊢;rw[e] at hR;exact aL (jH7 hk hky ip (aO hR))
 have down:∀ i j,i<=j->j<n->B i=false->B j=false:=fun i j hij hj hi=>by
  cases hb:B j with
  | false=>rfl
  | true=>rw[mono i j hij hj hb] at hi; cases hi
 refine aL (bey hint _ hh ?_);dsimp only;cases hb:B hint with
 | true=>
  rw[ay rfl];refine aL (dH (cg (I:=fun x c st'=>st'=st/\∃ l o,c=(none,l,o)/\l<o/\x+1<=o/\hint+l<n/\B (hint+l)=true)
   (Q:=fun c st'=>st'=st/\∃ l o,c=(none,l,o)/\l<o/\hint+l<n/\B (hint+l)=true/\(n - hint<=o\/(hint+o<n/\B (hint+o)=false))) ?step ?fin ⟨rfl,0,1,rfl,Aa,Aa,Aa,by rw[lI]; exact hb⟩) ?post)
  case post=>
   rintro c st' ⟨rfl,l,o,rfl,a1,a2,a3,a4⟩;dsimp only;have p3:∀ i,i<hint+l+1->B i=true:=fun i hi=>mono i (hint+l) Aa a2 a3;have p4:∀ i,hint+min o (n - hint)<=i->i<n->B i=false:=fun i h1 h2=>by
    rcases a4 with a4 | ⟨a4,a5⟩
    ·lia
    ·exact down (hint+o) i Aa h2 a5
   refine aL (dH (cg (I:=fun x c st''=>st''=st'/\∃ lo hi,c=(none,lo,hi)/\lo<=hi/\hi<=n/\hi - lo<=n - x/\(∀ i,i<lo->B i=true)/\(∀ i,hi<=i->i<n->B i=false))
    (Q:=fun c st''=>st''=st'/\∃ k,c=(none,k,k)/\k<=n/\(∀ i,i<k->B i=true)/\(∀ i,k<=i->i<n->B i=false)) ?step2 ?fin2 ⟨rfl,hint+l+1,hint+min o (n - hint),rfl,Aa,Aa,Aa,p3,p4⟩) ?post2)
   case post2=>
    rintro c st'' ⟨rfl,k,rfl,k1,k2,k3⟩;exact aO (h k k1 k2 k3)
   case fin2=>
    rintro c st'' ⟨rfl,lo,hi,rfl,a1,a2,a3,a4,a5⟩;have:lo=hi:=by lia
    subst this;exact⟨rfl,lo,rfl,a2,a4,a5⟩
   case step2=>
    rintro x c st'' _ hx ⟨rfl,lo,hi,rfl,a1,a2,a3,a4,a5⟩;dsimp only;by_cases hge:lo ≥ hi
    ·rw[ay hge];have:lo=hi:=by lia
     subst this;exact aO ⟨rfl,lo,rfl,a2,a4,a5⟩
    ·rw[aw hge];refine aL (bey _ _ Aa ?_);dsimp only;cases hb:B (lo+(hi - lo) / 2) with
     | true=>
      rw[ay rfl];exact aO ⟨rfl,lo+(hi - lo) / 2+1,hi,rfl,Aa,a2,Aa,fun i hi'=>mono i _ Aa Aa hb,a5⟩
     | false=>
      rw[aw az];exact aO ⟨rfl,lo,lo+(hi - lo) / 2,rfl,Aa,Aa,Aa,a4,fun i h1 h2=>down _ i h1 h2 hb⟩
  case fin=>
   rintro c st' ⟨rfl,l,o,rfl,a1,a2,a3,a4⟩;exact⟨rfl,l,o,rfl,a1,a3,a4, .inl Aa⟩
  case step=>
   rintro x c st' _ hx ⟨rfl,l,o,rfl,a1,a2,a3,a4⟩;dsimp only;by_cases hge:o ≥ n - hint
   ·rw[ay hge];exact aO ⟨rfl,l,o,rfl,a1,a3,a4, .inl hge⟩
   ·rw[aw hge];refine aL (bey _ _ Aa ?_);dsimp only;cases hb2:B (hint+o) with
    | true=>
     rw[aw Ac];exact aO ⟨rfl,o,2*o+1,rfl,Aa,Aa,Aa,hb2⟩
    | false=>
     rw[ay Ac];exact aO ⟨rfl,l,o,rfl,a1,a3,a4, .inr ⟨Aa,hb2⟩⟩
 | false=>
  rw[aw az];refine aL (dH (cg (I:=fun x c st'=>st'=st/\∃ l o,c=(none,l,o)/\l<o/\x+1<=o/\l<=hint/\B (hint - l)=false)
   (Q:=fun c st'=>st'=st/\∃ l o,c=(none,l,o)/\l<o/\l<=hint/\B (hint - l)=false/\(hint+1<=o\/(o<=hint/\B (hint - o)=true))) ?step ?fin ⟨rfl,0,1,rfl,Aa,Aa,Aa,by rw[Nat.sub_zero]; exact hb⟩) ?post)
  case post=>
   rintro c st' ⟨rfl,l,o,rfl,a1,a2,a3,a4⟩;dsimp only;have p3:∀ i,i<hint+1 - min o (hint+1)->B i=true:=fun i hi=>by
    rcases a4 with a4 | ⟨a4,a5⟩
    ·lia
    ·exact mono i (hint - o) Aa Aa a5
   have p4:∀ i,hint - l<=i->i<n->B i=false:=fun i h1 h2=>down (hint - l) i Aa h2 a3;refine aL (dH (cg (I:=fun x c st''=>st''=st'/\∃ lo hi,c=(none,lo,hi)/\lo<=hi/\hi<=n/\hi - lo<=n - x/\(∀ i,i<lo->B i=true)/\(∀ i,hi<=i->i<n->B i=false))
    (Q:=fun c st''=>st''=st'/\∃ k,c=(none,k,k)/\k<=n/\(∀ i,i<k->B i=true)/\(∀ i,k<=i->i<n->B i=false)) ?step2 ?fin2 ⟨rfl,hint+1 - min o (hint+1),hint - l,rfl,Aa,Aa,Aa,p3,p4⟩) ?post2)
   case post2=>
    rintro c st'' ⟨rfl,k,rfl,k1,k2,k3⟩;exact aO (h k k1 k2 k3)
   case fin2=>
    rintro c st'' ⟨rfl,lo,hi,rfl,a1,a2,a3,a4,a5⟩;have:lo=hi:=by lia
    subst this;exact⟨rfl,lo,rfl,a2,a4,a5⟩
   case step2=>
    rintro x c st'' _ hx ⟨rfl,lo,hi,rfl,a1,a2,a3,a4,a5⟩;dsimp only;by_cases hge:lo ≥ hi
    ·rw[ay hge];have:lo=hi:=by lia
     subst this;exact aO ⟨rfl,lo,rfl,a2,a4,a5⟩
    ·rw[aw hge];refine aL (bey _ _ Aa ?_);dsimp only;cases hb:B (lo+(hi - lo) / 2) with
     | true=>
      rw[ay rfl];exact aO ⟨rfl,lo+(hi - lo) / 2+1,hi,rfl,Aa,a2,Aa,fun i hi'=>mono i _ Aa Aa hb,a5⟩
     | false=>
      rw[aw az];exact aO ⟨rfl,lo,lo+(hi - lo) / 2,rfl,Aa,Aa,Aa,a4,fun i h1 h2=>down _ i h1 h2 hb⟩
  case fin=>
   rintro c st' ⟨rfl,l,o,rfl,a1,a2,a3,a4⟩;exact⟨rfl,l,o,rfl,a1,a3,a4, .inl Aa⟩
  case step=>
   rintro x c st' _ hx ⟨rfl,l,o,rfl,a1,a2,a3,a4⟩;dsimp only;by_cases hge:o ≥ hint+1
   ·rw[ay hge];exact aO ⟨rfl,l,o,rfl,a1,a3,a4, .inl hge⟩
   ·rw[aw hge];refine aL (bey _ _ Aa ?_);dsimp only;cases hb2:B (hint - o) with
    | true=>
     rw[ay rfl];exact aO ⟨rfl,l,o,rfl,a1,a3,a4, .inr ⟨Aa,hb2⟩⟩
    | false=>
     rw[aw az];exact aO ⟨rfl,o,2*o+1,rfl,Aa,Aa,Aa,hb2⟩
end
abbrev jHL (st:SortSt)(g:Nat):SortSt:=SortSt.mk' (kindOf st) (arrOf st) (pendingOf st) g (failedOf st)
def jCU:Nat->StateT SortSt Sem Unit:=sortPriv% PySem.Builtin.setMinGallop
theorem jNE:(sortPriv% PySem.Builtin.setMinGallop)=jCU:=rfl
theorem jA2 (g:Nat):jCU g=modify fun s=>jHL s g:=rfl
def jGJ:Array Keyed->Array Keyed->StateT SortSt Sem (Array Keyed):=sortPriv% PySem.Builtin.mergeLo
def mergeLoB: { g:Array Keyed->Array Keyed->StateT SortSt Sem (Array Keyed) // jGJ=g} :=⟨fun _ _=>bind _ _,rfl⟩
theorem jRF:(sortPriv% PySem.Builtin.mergeLo)=jGJ:=rfl
def jGK:Array Keyed->Array Keyed->StateT SortSt Sem (Array Keyed):=sortPriv% PySem.Builtin.mergeHi
def mergeHiB: { g:Array Keyed->Array Keyed->StateT SortSt Sem (Array Keyed) // jGK=g} :=⟨fun _ _=>bind _ _,rfl⟩
theorem jRG:(sortPriv% PySem.Builtin.mergeHi)=jGK:=rfl
abbrev Srt (l:List Keyed):Prop:=l.Pairwise LE
structure ML (a b out:List Keyed)(ia ib:Nat):Prop where
 perm:(out++(a.drop ia++b.drop ib)).Perm (a++b)
 srt:Srt out
 le:∀ x∈out,∀ y∈a.drop ia++b.drop ib,LE x y
theorem Srt.drop {l:List Keyed}(h:Srt l)(i:Nat):Srt (l.drop i):=h.sublist (iR _ _)
theorem Srt.take {l:List Keyed}(h:Srt l)(i:Nat):Srt (l.take i):=h.sublist (dL _ _)
theorem qB {l m:List Keyed}(h1:Srt l)(h2:Srt m)(h:∀ x∈l,∀ y∈m,LE x y):Srt (l++m):=cw.mpr ⟨h1,h2,h⟩
theorem ML.takeA {a b out:List Keyed}{ia ib:Nat}(h:ML a b out ia ib)(sa:Srt a)(k:Nat)(hc:∀ x∈(a.drop ia).take k,∀ y∈b.drop ib,LE x y):ML a b (out++(a.drop ia).take k) (ia+k) ib:=by
 have e:a.drop (ia+k)=(a.drop ia).drop k:=by rw[iK]
 refine⟨?_,qB h.srt ((sa.drop ia).take k) fun x hx y hy=>h.le x hx y (aZ _ (bQ hy)),fun x hx y hy=>?_⟩
 ·refine List.Perm.trans ?_ h.perm;rw[e];refine jx ?_;rw[aY,<- aY ((a.drop ia).take k),bG]
 ·rcases aP.mp hx with q | q
  ·refine h.le x q y ?_;rcases aP.mp hy with z | z
   ·rw[e] at z;exact aZ _ (cI z)
   ·exact aF _ z
  ·rcases aP.mp hy with z | z
   ·rw[e] at z;have s:=sa.drop ia;rw[<- bG k (a.drop ia)] at s;exact(cw.mp s).2.2 x q y z
   ·exact hc x q y z
theorem ML.takeB {a b out:List Keyed}{ia ib:Nat}(h:ML a b out ia ib)(sb:Srt b)(k:Nat)(hc:∀ x∈(b.drop ib).take k,∀ y∈a.drop ia,LE x y):ML a b (out++(b.drop ib).take k) ia (ib+k):=by
 have e:b.drop (ib+k)=(b.drop ib).drop k:=by rw[iK]
 refine⟨?_,qB h.srt ((sb.drop ib).take k) fun x hx y hy=>h.le x hx y (aF _ (bQ hy)),fun x hx y hy=>?_⟩
 ·refine List.Perm.trans ?_ h.perm;rw[e,aY];refine cP out ?_;refine dY.trans ?_;rw[aY];refine cP _ ?_;refine dY.trans ?_;rw[bG]
 ·rcases aP.mp hx with q | q
  ·refine h.le x q y ?_;rcases aP.mp hy with z | z
   ·exact aZ _ z
   ·rw[e] at z;exact aF _ (cI z)
  ·rcases aP.mp hy with z | z
   ·exact hc x q y z
   ·rw[e] at z;have s:=sb.drop ib;rw[<- bG k (b.drop ib)] at s;exact(cw.mp s).2.2 x q y z
theorem ML.outA {a b out:List Keyed}{ia ib:Nat}(h:ML a b out ia ib)(sa:Srt a)(hb:b.length<=ib):(out++a.drop ia++b.drop ib).Perm (a++b)/\Srt (out++a.drop ia++b.drop ib):=by
 refine⟨by rw[aY]; exact h.perm,?_⟩;rw[jo hb,bg];exact qB h.srt (sa.drop ia) fun x hx y hy=>h.le x hx y (aZ _ hy)
theorem ML.outB {a b out:List Keyed}{ia ib:Nat}(h:ML a b out ia ib)(sb:Srt b)(ha:a.length<=ia):(out++a.drop ia++b.drop ib).Perm (a++b)/\Srt (out++a.drop ia++b.drop ib):=by
 refine⟨by rw[aY]; exact h.perm,?_⟩;rw[jo ha,bg];exact qB h.srt (sb.drop ib) fun x hx y hy=>h.le x hx y (aF _ hy)
theorem ML.last {a b out:List Keyed}{ia ib:Nat}(h:ML a b out ia ib)(sa:Srt a)(sb:Srt b)(ha:∀ x∈b,∀ y∈a.drop ia,LE x y):(out++b.drop ib++a.drop ia).Perm (a++b)/\Srt (out++b.drop ib++a.drop ia):=by
 refine⟨?_,?_⟩
 ·rw[aY];exact(cP out dY).trans h.perm
 ·refine qB (qB h.srt (sb.drop ib) fun x hx y hy=>h.le x hx y (aF _ hy)) (sa.drop ia) fun x hx y hy=>?_;rcases aP.mp hx with q | q
  ·exact h.le x q y (aZ _ hy)
  ·exact ha x (cI q) y hy
theorem jAF {l:List Keyed}{i:Nat}{p:Keyed}(h:l[i]?=some p):(l.drop i).take 1=[p]:=by
 obtain⟨hi,e⟩:=ao.mp h;rw[<- List.getElem_cons_drop (h:=hi),e];rfl
theorem jFK {l:List Keyed}(h:Srt l){i j:Nat}{x y:Keyed}(hx:l[i]?=some x)(hy:l[j]?=some y)(hij:i<=j):LE x y:=by
 obtain⟨h1,rfl⟩:=ao.mp hx;obtain⟨h2,rfl⟩:=ao.mp hy;by_cases e:i=j
 ·subst e; exact cY _
 ·exact bL.mp h i j h1 h2 Aa
theorem jE6 {l:List Keyed}{i:Nat}{y:Keyed}(h:y∈l.drop i):∃ j,i<=j/\l[j]?=some y:=by
 obtain⟨k,hk⟩:=bq h;rw[iM] at hk;exact⟨i+k,Aa,hk⟩
theorem jA4 {l:List Keyed}{i k:Nat}{y:Keyed}(h:y∈(l.drop i).take k):∃ j,i<=j/\j<i+k/\l[j]?=some y:=by
 obtain⟨n,hn⟩:=bq h;have hlt:n<k:=by
  have:=(ao.mp hn).1;rw[bI] at this;lia
 rw[cC hlt,iM] at hn;exact⟨i+n,Aa,Aa,hn⟩
theorem jDL {a:Array Keyed}{i:Nat} :(a.extract i a.size).toList=a.toList.drop i:=by
 rw[fo,dZ];exact bX (by rw[gY,aM]; exact aA _)
theorem ext_k {a:Array Keyed}{i k:Nat} :(a.extract i (i+k)).toList=(a.toList.drop i).take k:=by
 rw[fo,dZ,cZ]
structure Two (a b:Array Keyed):Prop where
 ia:AllI a.toList
 ib:AllI b.toList
 sa:Srt a.toList
 sb:Srt b.toList
 na:0<a.size
 nb:0<b.size
 last:∀ x∈b.toList,∀ y,a.toList[a.size - 1]?=some y->key x<key y
 first:∀ y∈a.toList,∀ p,b.toList[0]?=some p->key p<key y
def yU (a b r:Array Keyed):Prop:=r.toList.Perm (a.toList++b.toList)/\Srt r.toList
structure SG (st st':SortSt):Prop where
 k:kindOf st'=kindOf st
 a:arrOf st'=arrOf st
 p:pendingOf st'=pendingOf st
 f:failedOf st'=failedOf st
theorem SG.refl (st:SortSt):SG st st:=⟨rfl,rfl,rfl,rfl⟩
theorem SG.gal {st st':SortSt}(h:SG st st')(g:Nat):SG st (jHL st' g):=⟨h.k,h.a,h.p,h.f⟩
abbrev MA (a b out:Array Keyed)(ia ib:Nat):Prop:=ML a.toList b.toList out.toList ia ib
variable {a b:Array Keyed}{i j:Nat}
section
variable {out:Array Keyed}{k:Nat}
theorem at_list {p:Keyed} :a[i]?=some p↔a.toList[i]?=some p:=by rw[bN]
theorem qO (h:i<a.size):∃ p,a[i]?=some p/\a.toList[i]?=some p:=⟨a[i],by simp [h],by simp [h]⟩
theorem MA.doneA (T:Two a b)(h:MA a b out i j)(hj:b.size<=j):yU a b (out++a.extract i a.size++b.extract j b.size):=by
 unfold yU;rw[bC,bC,jDL,jDL];exact ML.outA h T.sa (by rw[aM]; exact hj)
theorem MA.doneB (T:Two a b)(h:MA a b out i j)(hi:a.size<=i):yU a b (out++a.extract i a.size++b.extract j b.size):=by
 unfold yU;rw[bC,bC,jDL,jDL];exact ML.outB h T.sb (by rw[aM]; exact hi)
theorem MA.doneL (T:Two a b)(h:MA a b out i j)(hi:i+1=a.size):yU a b (out++b.extract j b.size++a.extract i a.size):=by
 unfold yU;rw[bC,bC,jDL,jDL];refine ML.last h T.sa T.sb fun x hx y hy=>?_;obtain⟨n,h1,h2⟩:=jE6 hy;have:n=a.size - 1:=by
  have:=(ao.mp h2).1;rw[aM] at this;lia
 subst this;exact cG (T.last x hx y h2)
theorem MA.pushB (T:Two a b)(h:MA a b out i j){p q:Keyed}(hp:b[j]?=some p)(hc:∀ y∈a.toList.drop i,LE p y):MA a b (out.push p) i (j+1):=by
 have:=ML.takeB h T.sb 1 (by
  rw[jAF (at_list.mp hp)];intro x hx;rw[aK.mp hx];exact hc)
 rw[jAF (at_list.mp hp)] at this;unfold MA;rw[ev];exact this
theorem MA.pushA (T:Two a b)(h:MA a b out i j){p q:Keyed}(hp:a[i]?=some p)(hc:∀ y∈b.toList.drop j,LE p y):MA a b (out.push p) (i+1) j:=by
 have:=ML.takeA h T.sa 1 (by
  rw[jAF (at_list.mp hp)];intro x hx;rw[aK.mp hx];exact hc)
 rw[jAF (at_list.mp hp)] at this;unfold MA;rw[ev];exact this
theorem MA.appA (T:Two a b)(h:MA a b out i j)(k:Nat)(hc:∀ n x,i<=n->n<i+k->a.toList[n]?=some x->∀ y∈b.toList.drop j,LE x y):MA a b (out++a.extract i (i+k)) (i+k) j:=by
 unfold MA;rw[bC,ext_k];exact ML.takeA h T.sa k fun x hx y hy=>by
  obtain⟨n,h1,h2,h3⟩:=jA4 hx;exact hc n x h1 h2 h3 y hy
theorem MA.appB (T:Two a b)(h:MA a b out i j)(k:Nat)(hc:∀ n x,j<=n->n<j+k->b.toList[n]?=some x->∀ y∈a.toList.drop i,LE x y):MA a b (out++b.extract j (j+k)) i (j+k):=by
 unfold MA;rw[bC,ext_k];exact ML.takeB h T.sb k fun x hx y hy=>by
  obtain⟨n,h1,h2,h3⟩:=jA4 hx;exact hc n x h1 h2 h3 y hy
theorem Two.atA (T:Two a b)(h:i<a.size):∃ p,a[i]?=some p/\IsI p:=by
 obtain⟨p,h1,h2⟩:=qO h;exact⟨p,h1,T.ia p (aB h2)⟩
theorem Two.atB (T:Two a b)(h:i<b.size):∃ p,b[i]?=some p/\IsI p:=by
 obtain⟨p,h1,h2⟩:=qO h;exact⟨p,h1,T.ib p (aB h2)⟩
theorem jGR (s:Srt a.toList){p q:Keyed}(hp:a[i]?=some p)(h:LE q p):∀ y∈a.toList.drop i,LE q y:=fun y hy=>by
 obtain⟨n,h1,h2⟩:=jE6 hy;exact dr h (jFK s (at_list.mp hp) h2 h1)
end
section
variable {prog:Program}{w:World}{A:Around}{E:Ah}{s:Shared} [LtOk prog w A s]
theorem jVC {st:SortSt}{a:Array Keyed}{i:Nat}{p:Keyed}{Q:Option Nat->SortSt->Prop}(hk:kindOf st=Od.kd)(hp:IsI p)(ha:AllI a.toList)(sa:Srt a.toList)(hi:i<a.size)
  (h:∀ k,i+k<=a.size->(∀ n x,i<=n->n<i+k->a.toList[n]?=some x->LE x p)->(∀ n x,i+k<=n->a.toList[n]?=some x->key p<key x)->Q (some k) st):
  wpS (model prog w) A E s (jCJ false p a i (a.size - i) 0) Q st:=by
 refine jBO hk hp (fun n hn=>?_) Aa (fun n=>match a[i+n]? with | some x=>!decide (key p<key x) | none=>false) (fun n x hn hx=>?_) (fun n m hnm hm hb=>?_) fun k hk1 hk2 hk3=>h k Aa (fun n x h1 h2 h3=>?_) fun n x h1 h2=>?_
 ·obtain⟨q,q1,q2⟩:=qO (a:=a) (i:=i+n) Aa;exact⟨q,q1,ha q (aB q2)⟩
 ·rw[hx,aw az]
 ·obtain⟨x,x1,x2⟩:=qO (a:=a) (i:=i+n) Aa;obtain⟨y,y1,y2⟩:=qO (a:=a) (i:=i+m) Aa;rw[y1] at hb;rw[x1];have:=jFK sa x2 y2 Aa;have hb:¬ key p<key y:=by simpa using hb
  show (!decide (key p<key x))=true;rw[cH,eU];have:key x<=key y:=this;lia
 ·have:=hk2 (n - i) Aa;rw[show i+(n - i)=n by lia,at_list.mpr h3] at this;have this:¬ key p<key x:=by simpa using this
  show key x<=key p;lia
 ·have hn:=(ao.mp h2).1;rw[aM] at hn;have:=hk3 (n - i) Aa Aa;rw[show i+(n - i)=n by lia,at_list.mpr h2] at this;simpa using this
theorem jVD {st:SortSt}{a:Array Keyed}{i:Nat}{p:Keyed}{Q:Option Nat->SortSt->Prop}(hk:kindOf st=Od.kd)(hp:IsI p)(ha:AllI a.toList)(sa:Srt a.toList)(hi:i<a.size)
  (h:∀ k,i+k<=a.size->(∀ n x,i<=n->n<i+k->a.toList[n]?=some x->key x<key p)->(∀ n x,i+k<=n->a.toList[n]?=some x->LE p x)->Q (some k) st):
  wpS (model prog w) A E s (jCJ true p a i (a.size - i) 0) Q st:=by
 refine jBO hk hp (fun n hn=>?_) Aa (fun n=>match a[i+n]? with | some x=>decide (key x<key p) | none=>false) (fun n x hn hx=>?_) (fun n m hnm hm hb=>?_) fun k hk1 hk2 hk3=>h k Aa (fun n x h1 h2 h3=>?_) fun n x h1 h2=>?_
 ·obtain⟨q,q1,q2⟩:=qO (a:=a) (i:=i+n) Aa;exact⟨q,q1,ha q (aB q2)⟩
 ·rw[hx,ay rfl]
 ·obtain⟨x,x1,x2⟩:=qO (a:=a) (i:=i+n) Aa;obtain⟨y,y1,y2⟩:=qO (a:=a) (i:=i+m) Aa;rw[y1] at hb;rw[x1];have:=jFK sa x2 y2 Aa;have hb:key y<key p:=aI hb;show decide (key x<key p)=true;rw[br];have:key x<=key y:=this;lia
 ·have:=hk2 (n - i) Aa;rw[show i+(n - i)=n by lia,at_list.mpr h3] at this;exact aI this
 ·have hn:=(ao.mp h2).1;rw[aM] at hn;have:=hk3 (n - i) Aa Aa;rw[show i+(n - i)=n by lia,at_list.mpr h2] at this;have this:¬ key x<key p:=gq this;show key p<=key x;lia
end
section
variable {prog:Program}{w:World}{A:Around}{E:Ah}{s:Shared} [LtOk prog w A s]
theorem bp {a b:Nat}(h:a=b):(a==b)=true:=g4.mpr h
theorem bn {a b:Nat}(h:¬ a=b):¬ (a==b)=true:=fun z=>h (g4.mp z)
structure LoI (a b:Array Keyed)(st:SortSt)(out:Array Keyed)(ia ib:Nat)(st':SortSt):Prop where
 m:MA a b out ia ib
 i:ia+1<a.size
 j:ib<b.size
 s:SG st st'
theorem jIZ {a b:Array Keyed}{st:SortSt}{Q:Array Keyed->SortSt->Prop}(hk:kindOf st=Od.kd)(T:Two a b)(h:∀ r st',yU a b r->SG st st'->Q r st'):wpS (model prog w) A E s (jGJ a b) Q st:=by
 rw[mergeLoB.2]
 delta mergeLoB
 dsimp only;simp only [elP,ltP,jJW,jNE];have na:=T.na;have nb:=T.nb;refine aL (hG (di ⟨rfl,?_⟩));obtain⟨p0,hp0,ip0⟩:=T.atB nb;refine aL (jX hp0 ?_);have M0:MA a b #[p0] 0 1:=by
  have z:MA a b #[] 0 0:=⟨by show (([]:List Keyed)++(a.toList.drop 0++b.toList.drop 0)).Perm _; rw[List.nil_append,kx,kx],List.Pairwise.nil,fun x hx=>by cases hx⟩;have:=MA.pushB (q:=p0) T z hp0 fun y hy=>cG (T.first y (cI hy) p0 (at_list.mp hp0));exact this
 by_cases e1:1=b.size
 ·rw[ay (bp e1)];exact aO (h _ _ (MA.doneA T M0 Aa) (SG.refl _))
 rw[aw (bn e1)];by_cases e2:0+1=a.size
 ·rw[ay (bp e2)];exact aO (h _ _ (MA.doneL T M0 e2) (SG.refl _))
 rw[aw (bn e2)];refine aL (gH ?_);refine aL (dH (cg (I:=fun x c st'=>∃ out ia ib mg,c=(none,out,ia,ib,mg)/\LoI a b st out ia ib st'/\x+1<=ia+ib)
  (Q:=fun c st'=>∃ r,c.1=some r/\yU a b r/\SG st st') ?step ?fin ⟨_,0,1,_,rfl,⟨M0,Aa,Aa,SG.refl _⟩,Aa⟩) ?post)
 case post=>
  rintro ⟨r0,c⟩ st' ⟨r,hr,d,g⟩;have hr:r0=some r:=hr;subst hr;exact aO (h r st' d g)
 case fin=>
  rintro c st' ⟨out,ia,ib,mg,rfl,I0,hx⟩;have:=I0.i;have:=I0.j;lia
 case step=>
  rintro x c st1 _ hx ⟨out,ia,ib,mg,rfl,I0,hxx⟩;dsimp only;refine aL (dH (cg (I:=fun y c st'=>∃ out' ia' ib' ac bc,c=(none,out',ia',ib',ac,bc)/\LoI a b st out' ia' ib' st'/\ia+ib<=ia'+ib'/\(y=0\/ia+ib<ia'+ib'))
   (Q:=fun c st'=>(∃ r,c.1=some r/\yU a b r/\SG st st')\/∃ out' ia' ib' ac bc,c=(none,out',ia',ib',ac,bc)/\LoI a b st out' ia' ib' st'/\ia+ib<ia'+ib') ?step1 ?fin1 ⟨_,_,_,_,_,rfl,I0,Aa, .inl rfl⟩) ?post1)
  case fin1=>
   rintro c st' ⟨out',ia',ib',ac,bc,rfl,I1,h1,h2⟩;exact .inr ⟨_,_,_,_,_,rfl,I1,Aa⟩
  case step1=>
   rintro y c st2 _ hy ⟨out',ia',ib',ac,bc,rfl,I1,h1,h2⟩;dsimp only;obtain⟨pb,hpb,ipb⟩:=T.atB I1.j;obtain⟨pa,hpa,ipa⟩:=T.atA (i:=ia') (by have:=I1.i; lia);have ii:=I1.i;have jj:=I1.j;refine aL (jX hpb (aL (jX hpa (aL (jH7 (I1.s.k.trans hk) ipb ipa ?_)))));dsimp only;by_cases hlt:key pb<key pa
   ·rw[ax hlt,ay rfl];refine aL (jX hpb ?_);have M2:=MA.pushB (q:=pb) T I1.m hpb (jGR T.sa hpa (cG hlt));by_cases f1:ib'+1=b.size
    ·rw[ay (bp f1)];exact aO (.inl ⟨_,rfl,MA.doneA T M2 Aa,I1.s⟩)
    rw[aw (bn f1)];split
    ·exact aO (.inr ⟨_,_,_,_,_,rfl,⟨M2,ii,Aa,I1.s⟩,Aa⟩)
    ·exact aO ⟨_,_,_,_,_,rfl,⟨M2,ii,Aa,I1.s⟩,Aa, .inr Aa⟩
   ·rw[aN hlt,aw az];refine aL (jX hpa ?_);have M2:=MA.pushA (q:=pa) T I1.m hpa (jGR T.sb hpb (by show key pa<=key pb; lia));by_cases f1:ia'+1+1=a.size
    ·rw[ay (bp f1)];exact aO (.inl ⟨_,rfl,MA.doneL T M2 f1,I1.s⟩)
    rw[aw (bn f1)];split
    ·exact aO (.inr ⟨_,_,_,_,_,rfl,⟨M2,Aa,jj,I1.s⟩,Aa⟩)
    ·exact aO ⟨_,_,_,_,_,rfl,⟨M2,Aa,jj,I1.s⟩,Aa, .inr Aa⟩
  case post1=>
   rintro c st2 (⟨r,hr,d,g⟩ | ⟨out1,ia1,ib1,ac,bc,rfl,I1,h1⟩)
   ·obtain⟨r0,c⟩:=c;have hr:r0=some r:=hr;subst hr;exact aO ⟨r,rfl,d,g⟩
   dsimp only;refine aL (hG (di ⟨rfl,?_⟩));refine aL (dH (cg (I:=fun y c st'=>∃ out' ia' ib' mg' ac bc,c=(none,out',ia',ib',mg',ac,bc)/\LoI a b st out' ia' ib' st'/\ia+ib<ia'+ib')
    (Q:=fun c st'=>(∃ r,c.1=some r/\yU a b r/\SG st st')\/∃ out' ia' ib' mg' ac bc,c=(none,out',ia',ib',mg',ac,bc)/\LoI a b st out' ia' ib' st'/\ia+ib<ia'+ib') ?step2 ?fin2 ⟨_,_,_,_,_,_,rfl,I1,h1⟩) ?post2)
   case fin2=>
    rintro c st' ⟨out',ia',ib',mg',ac,bc,rfl,I2,h2⟩;exact .inr ⟨_,_,_,_,_,_,rfl,I2,h2⟩
   case post2=>
    rintro c st3 (⟨r,hr,d,g⟩ | ⟨out2,ia2,ib2,mg2,ac,bc,rfl,I2,h2⟩)
    ·obtain⟨r0,c⟩:=c;have hr:r0=some r:=hr;subst hr;exact aO ⟨r,rfl,d,g⟩
    dsimp only;rw[jA2];exact aL (eZ (aO ⟨_,_,_,_,rfl,⟨I2.m,I2.i,I2.j,I2.s.gal _⟩,Aa⟩))
   case step2=>
    clear I0 I1;rintro y c st2 _ hy ⟨out,ia,ib,mg',ac,bc,rfl,I0,h2⟩;dsimp only;obtain⟨pb,hpb,ipb⟩:=T.atB I0.j;by_cases hg:mg'>1
    case' pos=>
     rw[ay hg];generalize hgg:mg' - 1=gg
    case' neg=>
     rw[aw hg];generalize hgg:mg'=gg
    all_goals
     rw[jA2];refine aL (eZ ?_);have G1:=I0.s.gal gg;refine aL (jX hpb ?_);refine aL (jVC (G1.k.trans hk) ipb T.ia T.sa (by have:=I0.i; lia) fun k1 g1 g2 g3=>?_);dsimp only;have M1:=MA.appA T I0.m k1 (fun n x h1 h2 h3=>jGR T.sb hpb (g2 n x h1 h2 h3));have hgt:∀ y∈a.toList.drop (ia+k1),LE pb y:=fun y hy=>by
      obtain⟨n,h1,h2⟩:=jE6 hy;exact cG (g3 n y h1 h2)
     have jb:=I0.j;by_cases e0:k1>0
     case' pos=>
      rw[ay e0];by_cases f1:ia+k1+1=a.size
      ·rw[ay (bp f1)];exact aO (.inl ⟨_,rfl,MA.doneL T M1 f1,G1⟩)
      rw[aw (bn f1)];by_cases f2:ia+k1=a.size
      ·rw[ay (bp f2)];exact aO (.inl ⟨_,rfl,MA.doneB T M1 Aa,G1⟩)
      rw[aw (bn f2)];obtain⟨pa,hpa,ipa⟩:=T.atA (i:=ia+k1) Aa;have hz:ia+k1<a.size:=Aa;generalize hiz:ia+k1=iz at*
     case' neg=>
      rw[aw e0];have e0':k1=0:=Aa;subst e0';have M1:=I0.m;obtain⟨pa,hpa,ipa⟩:=T.atA (i:=ia) (by have:=I0.i; lia);have hz:ia<a.size:=by have:=I0.i; lia
      rw[lI] at hgt;have hia:=I0.i;generalize hiz:ia=iz at*
     all_goals
      refine aL (jX hpb ?_);have M2:=MA.pushB (q:=pb) T M1 hpb hgt;by_cases e1:ib+1=b.size
      ·rw[ay (bp e1)];exact aO (.inl ⟨_,rfl,MA.doneA T M2 Aa,G1⟩)
      rw[aw (bn e1)];refine aL (jX hpa ?_);refine aL (jVD (G1.k.trans hk) ipa T.ib T.sb Aa fun k2 l1 l2 l3=>?_);dsimp only;have M3:=MA.appB T M2 k2 (fun n x h1 h2 h3=>jGR T.sa hpa (cG (l2 n x h1 h2 h3)));have fin3:∀ y∈b.toList.drop (ib+1+k2),LE pa y:=fun y hy=>by
       obtain⟨n,h1,h2⟩:=jE6 hy;exact l3 n y h1 h2
      by_cases e2:k2>0
      ·rw[ay e2];by_cases e3:ib+1+k2=b.size
       ·rw[ay (bp e3)];exact aO (.inl ⟨_,rfl,MA.doneA T M3 Aa,G1⟩)
       rw[aw (bn e3)];refine aL (jX hpa ?_);have M4:=MA.pushA (q:=pa) T M3 hpa fin3;by_cases e4:iz+1+1=a.size
       ·rw[ay (bp e4)];exact aO (.inl ⟨_,rfl,MA.doneL T M4 e4,G1⟩)
       rw[aw (bn e4)];split
       ·exact aO (.inr ⟨_,_,_,_,_,_,rfl,⟨M4,Aa,Aa,G1⟩,Aa⟩)
       ·exact aO ⟨_,_,_,_,_,_,rfl,⟨M4,Aa,Aa,G1⟩,Aa⟩
      ·rw[aw e2];have e0:k2=0:=Aa;subst e0;refine aL (jX hpa ?_);have M4:=MA.pushA (q:=pa) T M2 hpa fin3;by_cases e4:iz+1+1=a.size
       ·rw[ay (bp e4)];exact aO (.inl ⟨_,rfl,MA.doneL T M4 e4,G1⟩)
       rw[aw (bn e4)];split
       ·exact aO (.inr ⟨_,_,_,_,_,_,rfl,⟨M4,Aa,Aa,G1⟩,Aa⟩)
       ·exact aO ⟨_,_,_,_,_,_,rfl,⟨M4,Aa,Aa,G1⟩,Aa⟩
end
structure MHL (tot xa xb o:List Keyed):Prop where
 perm:(xa++xb++o).Perm tot
 srt:Srt o
 le:∀ x∈o,∀ y∈xa++xb,LE y x
theorem MHL.takeA {tot u v xb o:List Keyed}(h:MHL tot (u++v) xb o)(s:Srt (u++v))(hc:∀ x∈v,∀ y∈xb,LE y x):MHL tot u xb (v++o):=by
 have sp:=cw.mp s;refine⟨?_,qB sp.2.1 h.srt fun x hx y hy=>h.le y hy x (aZ _ (aF _ hx)),fun x hx y hy=>?_⟩
 ·refine List.Perm.trans ?_ h.perm;rw[aY,aY,aY];refine cP u ?_;rw[<- aY,<- aY];exact gI o dY
 ·rcases aP.mp hx with q | q
  ·rcases aP.mp hy with z | z
   ·exact sp.2.2 y z x q
   ·exact hc x q y z
  ·refine h.le x q y ?_;rcases aP.mp hy with z | z
   ·exact aZ _ (aZ _ z)
   ·exact aF _ z
theorem MHL.takeB {tot u v xa o:List Keyed}(h:MHL tot xa (u++v) o)(s:Srt (u++v))(hc:∀ x∈v,∀ y∈xa,LE y x):MHL tot xa u (v++o):=by
 have sp:=cw.mp s;refine⟨?_,qB sp.2.1 h.srt fun x hx y hy=>h.le y hy x (aF _ (aF _ hx)),fun x hx y hy=>?_⟩
 ·refine List.Perm.trans (jx ?_) h.perm;simp only [aY]
 ·rcases aP.mp hx with q | q
  ·rcases aP.mp hy with z | z
   ·exact hc x q y z
   ·exact sp.2.2 y z x q
  ·refine h.le x q y ?_;rcases aP.mp hy with z | z
   ·exact aZ _ z
   ·exact aF _ (aZ _ z)
theorem MHL.out {tot xa xb o:List Keyed}(h:MHL tot xa xb o)(s:Srt (xa++xb)):(xa++xb++o).Perm tot/\Srt (xa++xb++o):=
 ⟨h.perm,qB s h.srt fun x hx y hy=>h.le y hy x hx⟩
theorem MHL.outF {tot xa xb o:List Keyed}(h:MHL tot xa xb o)(s:Srt (xb++xa)):(xb++xa++o).Perm tot/\Srt (xb++xa++o):=
 ⟨(gI o dY).trans h.perm,qB s h.srt fun x hx y hy=>h.le y hy x (by
  rcases aP.mp hx with z | z
  ·exact aF _ z
  ·exact aZ _ z)⟩
theorem jKC {l:List Keyed}{n:Nat}{p:Keyed}(hn:0<n)(h:l[n - 1]?=some p):l.take n=l.take (n - 1)++[p]:=by
 obtain⟨m,rfl⟩:∃ m,n=m+1:=⟨n - 1,Aa⟩;rw[Nat.add_sub_cancel] at h ⊢;rw[List.take_succ,h];rfl
theorem jKB {l:List Keyed}{k n:Nat}(hk:k<=n):l.take n=l.take k++(l.drop k).take (n - k):=by
 obtain⟨m,rfl⟩:∃ m,n=k+m:=⟨n - k,Aa⟩;rw[cZ,List.take_add]
theorem jAO {a:Array Keyed}{k n:Nat} :(a.extract k n).toList=(a.toList.drop k).take (n - k):=by
 rw[fo,dZ]
theorem jC4 {a:Array Keyed}{n:Nat} :(a.extract 0 n).toList=a.toList.take n:=by
 rw[jAO,kx,Nat.sub_zero]
abbrev MH (a b out:Array Keyed)(na nb:Nat):Prop:=MHL (a.toList++b.toList) (a.toList.take na) (b.toList.take nb) out.toList.reverse
theorem jE5 {l:List Keyed}{n:Nat}{y:Keyed}(h:y∈l.take n):∃ j,j<n/\l[j]?=some y:=by
 obtain⟨k,hk⟩:=bq h;have hlt:k<n:=by
  have:=(ao.mp hk).1;rw[bI] at this;lia
 rw[cC hlt] at hk;exact⟨k,hlt,hk⟩
section
variable {out:Array Keyed}{k:Nat}
theorem jE2 (s:Srt a.toList){p q:Keyed}(hp:a[i - 1]?=some p)(h:LE p q):∀ y∈a.toList.take i,LE y q:=fun y hy=>by
 obtain⟨n,h1,h2⟩:=jE5 hy;exact dr (jFK s h2 (at_list.mp hp) Aa) h
theorem MH.pushA (T:Two a b)(h:MH a b out i j){p:Keyed}(hi:0<i)(hp:a[i - 1]?=some p)(hc:∀ y∈b.toList.take j,LE y p):MH a b (out.push p) (i - 1) j:=by
 have e:=jKC hi (at_list.mp hp);have s:=T.sa.take i;unfold MH at h ⊢;rw[e] at h s;rw[ev,fU];exact h.takeA s fun x hx=>by rw[aK.mp hx]; exact hc
theorem MH.pushB (T:Two a b)(h:MH a b out i j){p:Keyed}(hj:0<j)(hp:b[j - 1]?=some p)(hc:∀ y∈a.toList.take i,LE y p):MH a b (out.push p) i (j - 1):=by
 have e:=jKC hj (at_list.mp hp);have s:=T.sb.take j;unfold MH at h ⊢;rw[e] at h s;rw[ev,fU];exact h.takeB s fun x hx=>by rw[aK.mp hx]; exact hc
theorem MH.appA (T:Two a b)(h:MH a b out i j)(hk:k<=i)(hc:∀ n x,k<=n->n<i->a.toList[n]?=some x->∀ y∈b.toList.take j,LE y x):MH a b (out++(a.extract k i).reverse) k j:=by
 have e:=jKB (l:=a.toList) hk;have s:=T.sa.take i;unfold MH at h ⊢;rw[e] at h s;rw[bC,dI,fU,kz,jAO];exact h.takeA s fun x hx y hy=>by
  obtain⟨n,h1,h2,h3⟩:=jA4 hx;exact hc n x h1 Aa h3 y hy
theorem MH.appB (T:Two a b)(h:MH a b out i j)(hk:k<=j)(hc:∀ n x,k<=n->n<j->b.toList[n]?=some x->∀ y∈a.toList.take i,LE y x):MH a b (out++(b.extract k j).reverse) i k:=by
 have e:=jKB (l:=b.toList) hk;have s:=T.sb.take j;unfold MH at h ⊢;rw[e] at h s;rw[bC,dI,fU,kz,jAO];exact h.takeB s fun x hx y hy=>by
  obtain⟨n,h1,h2,h3⟩:=jA4 hx;exact hc n x h1 Aa h3 y hy
theorem MH.doneA (T:Two a b)(h:MH a b out 0 j):yU a b (a.extract 0 0++b.extract 0 j++out.reverse):=by
 unfold yU;rw[bC,bC,jC4,jC4,dI];exact h.out (by rw[iN]; exact T.sb.take j)
theorem MH.doneB (T:Two a b)(h:MH a b out i 0):yU a b (a.extract 0 i++b.extract 0 0++out.reverse):=by
 unfold yU;rw[bC,bC,jC4,jC4,dI];exact h.out (by rw[iN,bg]; exact T.sa.take i)
theorem MH.doneF (T:Two a b)(h:MH a b out i 1):yU a b (b.extract 0 1++a.extract 0 i++out.reverse):=by
 unfold yU;rw[bC,bC,jC4,jC4,dI];refine h.outF (qB (T.sb.take 1) (T.sa.take i) fun x hx y hy=>?_);obtain⟨n,h1,h2⟩:=jE5 hx;have:n=0:=by lia
 subst this;exact cG (T.first y (bQ hy) x h2)
end
section
variable {prog:Program}{w:World}{A:Around}{E:Ah}{s:Shared} [LtOk prog w A s]
theorem jLE {st:SortSt}{a:Array Keyed}{i len hint:Nat}{p:Keyed}{Q:Option Nat->SortSt->Prop}(hk:kindOf st=Od.kd)(hp:IsI p)(ha:AllI a.toList)
  (sa:∀ n m x y,i<=n->n<=m->m<i+len->a[n]?=some x->a[m]?=some y->LE x y) (hh:hint<len) (hl:i+len<=a.size)
  (h:∀ k,k<=len->(∀ n x,i<=n->n<i+k->a[n]?=some x->LE x p)->(∀ n x,i+k<=n->n<i+len->a[n]?=some x->key p<key x)->Q (some k) st):
  wpS (model prog w) A E s (jCJ false p a i len hint) Q st:=by
 refine jBO hk hp (fun n hn=>?_) hh (fun n=>match a[i+n]? with | some x=>!decide (key p<key x) | none=>false) (fun n x hn hx=>?_) (fun n m hnm hm hb=>?_) fun k hk1 hk2 hk3=>h k Aa (fun n x h1 h2 h3=>?_) fun n x h1 h2 h3=>?_
 ·obtain⟨q,q1,q2⟩:=qO (a:=a) (i:=i+n) Aa;exact⟨q,q1,ha q (aB q2)⟩
 ·rw[hx,aw az]
 ·obtain⟨x,x1,x2⟩:=qO (a:=a) (i:=i+n) Aa;obtain⟨y,y1,y2⟩:=qO (a:=a) (i:=i+m) Aa;rw[y1] at hb;rw[x1];have:=sa (i+n) (i+m) x y Aa Aa Aa x1 y1;have hb:¬ key p<key y:=by simpa using hb
  show (!decide (key p<key x))=true;rw[cH,eU];have:key x<=key y:=this;lia
 ·have:=hk2 (n - i) Aa;rw[show i+(n - i)=n by lia,h3] at this;have this:¬ key p<key x:=by simpa using this
  show key x<=key p;lia
 ·have:=hk3 (n - i) Aa Aa;rw[show i+(n - i)=n by lia,h3] at this;simpa using this
theorem jLF {st:SortSt}{a:Array Keyed}{i len hint:Nat}{p:Keyed}{Q:Option Nat->SortSt->Prop}(hk:kindOf st=Od.kd)(hp:IsI p)(ha:AllI a.toList)
  (sa:∀ n m x y,i<=n->n<=m->m<i+len->a[n]?=some x->a[m]?=some y->LE x y) (hh:hint<len) (hl:i+len<=a.size)
  (h:∀ k,k<=len->(∀ n x,i<=n->n<i+k->a[n]?=some x->key x<key p)->(∀ n x,i+k<=n->n<i+len->a[n]?=some x->LE p x)->Q (some k) st):
  wpS (model prog w) A E s (jCJ true p a i len hint) Q st:=by
 refine jBO hk hp (fun n hn=>?_) hh (fun n=>match a[i+n]? with | some x=>decide (key x<key p) | none=>false) (fun n x hn hx=>?_) (fun n m hnm hm hb=>?_) fun k hk1 hk2 hk3=>h k Aa (fun n x h1 h2 h3=>?_) fun n x h1 h2 h3=>?_
 ·obtain⟨q,q1,q2⟩:=qO (a:=a) (i:=i+n) Aa;exact⟨q,q1,ha q (aB q2)⟩
 ·rw[hx,ay rfl]
 ·obtain⟨x,x1,x2⟩:=qO (a:=a) (i:=i+n) Aa;obtain⟨y,y1,y2⟩:=qO (a:=a) (i:=i+m) Aa;rw[y1] at hb;rw[x1];have:=sa (i+n) (i+m) x y Aa Aa Aa x1 y1;have hb:key y<key p:=aI hb;show decide (key x<key p)=true;rw[br];have:key x<=key y:=this;lia
 ·have:=hk2 (n - i) Aa;rw[show i+(n - i)=n by lia,h3] at this;exact aI this
 ·have:=hk3 (n - i) Aa Aa;rw[show i+(n - i)=n by lia,h3] at this;have this:¬ key x<key p:=gq this;show key p<=key x;lia
end
section
variable {prog:Program}{w:World}{A:Around}{E:Ah}{s:Shared} [LtOk prog w A s]
structure HiI (a b:Array Keyed)(st:SortSt)(out:Array Keyed)(na nb:Nat)(st':SortSt):Prop where
 m:MH a b out na nb
 i:0<na
 ia:na<=a.size
 j:1<nb
 jb:nb<=b.size
 s:SG st st'
theorem whole {a:Array Keyed}(s:Srt a.toList){len:Nat} :∀ n m x y,0<=n->n<=m->m<0+len->a[n]?=some x->a[m]?=some y->LE x y:=fun n m x y _ h _ hx hy=>jFK s (at_list.mp hx) (at_list.mp hy) h
theorem jJ0 {a b:Array Keyed}{st:SortSt}{Q:Array Keyed->SortSt->Prop}(hk:kindOf st=Od.kd)(T:Two a b)(h:∀ r st',yU a b r->SG st st'->Q r st'):wpS (model prog w) A E s (jGK a b) Q st:=by
 rw[mergeHiB.2]
 delta mergeHiB
 dsimp only;simp only [elP,ltP,jJW,jNE];have na:=T.na;have nb:=T.nb;refine aL (hG (di ⟨rfl,?_⟩));obtain⟨p0,hp0,ip0⟩:=T.atA (i:=a.size - 1) Aa;refine aL (jX hp0 ?_);have M0:MH a b #[p0] (a.size - 1) b.size:=by
  have z:MH a b #[] a.size b.size:=⟨by
   rw[show a.toList.take a.size=a.toList from bX Ad,show b.toList.take b.size=b.toList from bX Ad];show ((a.toList++b.toList)++([]:List Keyed)).Perm _;rw[bg],List.Pairwise.nil,fun x hx=>by cases hx⟩
  have:=MH.pushA T z Aa hp0 fun y hy=>cG (T.last y (bQ hy) p0 (at_list.mp hp0));exact this
 by_cases e1:a.size - 1=0
 ·rw[ay (bp e1)];rw[e1] at M0 ⊢;exact aO (h _ _ (MH.doneA T M0) (SG.refl _))
 rw[aw (bn e1)];by_cases e2:b.size=1
 ·rw[ay (bp e2)];rw[e2] at M0 ⊢;exact aO (h _ _ (MH.doneF T M0) (SG.refl _))
 rw[aw (bn e2)];refine aL (gH ?_);refine aL (dH (cg (I:=fun x c st'=>∃ out na nb mg,c=(none,na,nb,out,mg)/\HiI a b st out na nb st'/\x+1<=a.size - na+(b.size - nb))
  (Q:=fun c st'=>∃ r,c.1=some r/\yU a b r/\SG st st') ?step ?fin ⟨_,_,_,_,rfl,⟨M0,Aa,Aa,Aa,Aa,SG.refl _⟩,Aa⟩) ?post)
 case post=>
  rintro ⟨r0,c⟩ st' ⟨r,hr,d,g⟩;have hr:r0=some r:=hr;subst hr;exact aO (h r st' d g)
 case fin=>
  rintro c st' ⟨out,na,nb,mg,rfl,I0,hx⟩;have:=I0.i;have:=I0.j;lia
 case step=>
  rintro x c st1 _ hx ⟨out,na,nb,mg,rfl,I0,hxx⟩;dsimp only;refine aL (dH (cg (I:=fun y c st'=>∃ out' na' nb' ac bc,c=(none,na',nb',out',ac,bc)/\HiI a b st out' na' nb' st'/\na'+nb'<=na+nb/\(y=0\/na'+nb'<na+nb))
   (Q:=fun c st'=>(∃ r,c.1=some r/\yU a b r/\SG st st')\/∃ out' na' nb' ac bc,c=(none,na',nb',out',ac,bc)/\HiI a b st out' na' nb' st'/\na'+nb'<na+nb) ?step1 ?fin1 ⟨_,_,_,_,_,rfl,I0,Aa, .inl rfl⟩) ?post1)
  case fin1=>
   rintro c st' ⟨out',na',nb',ac,bc,rfl,I1,h1,h2⟩;exact .inr ⟨_,_,_,_,_,rfl,I1,Aa⟩
  case step1=>
   rintro y c st2 _ hy ⟨out',na',nb',ac,bc,rfl,I1,h1,h2⟩;dsimp only;have i0:=I1.i;have i1:=I1.ia;have j0:=I1.j;have j1:=I1.jb;obtain⟨pb,hpb,ipb⟩:=T.atB (i:=nb' - 1) Aa;obtain⟨pa,hpa,ipa⟩:=T.atA (i:=na' - 1) Aa;refine aL (jX hpb (aL (jX hpa (aL (jH7 (I1.s.k.trans hk) ipb ipa ?_)))));dsimp only;by_cases hlt:key pb<key pa
   ·rw[ax hlt,ay rfl];refine aL (jX hpa ?_);have M2:=MH.pushA T I1.m i0 hpa (jE2 T.sb hpb (cG hlt));by_cases f1:na' - 1=0
    ·rw[ay (bp f1)];rw[f1] at M2 ⊢;exact aO (.inl ⟨_,rfl,MH.doneA T M2,I1.s⟩)
    rw[aw (bn f1)];split
    ·exact aO (.inr ⟨_,_,_,_,_,rfl,⟨M2,Aa,Aa,j0,j1,I1.s⟩,Aa⟩)
    ·exact aO ⟨_,_,_,_,_,rfl,⟨M2,Aa,Aa,j0,j1,I1.s⟩,Aa, .inr Aa⟩
   ·rw[aN hlt,aw az];refine aL (jX hpb ?_);have M2:=MH.pushB T I1.m Aa hpb (jE2 T.sa hpa (by show key pa<=key pb; lia));by_cases f1:nb' - 1=1
    ·rw[ay (bp f1)];rw[f1] at M2 ⊢;exact aO (.inl ⟨_,rfl,MH.doneF T M2,I1.s⟩)
    rw[aw (bn f1)];split
    ·exact aO (.inr ⟨_,_,_,_,_,rfl,⟨M2,i0,i1,Aa,Aa,I1.s⟩,Aa⟩)
    ·exact aO ⟨_,_,_,_,_,rfl,⟨M2,i0,i1,Aa,Aa,I1.s⟩,Aa, .inr Aa⟩
  case post1=>
   rintro c st2 (⟨r,hr,d,g⟩ | ⟨out1,na1,nb1,ac,bc,rfl,I1,h1⟩)
   ·obtain⟨r0,c⟩:=c;have hr:r0=some r:=hr;subst hr;exact aO ⟨r,rfl,d,g⟩
   dsimp only;refine aL (hG (di ⟨rfl,?_⟩));refine aL (dH (cg (I:=fun y c st'=>∃ out' na' nb' mg' ac bc,c=(none,na',nb',out',mg',ac,bc)/\HiI a b st out' na' nb' st'/\na'+nb'<na+nb)
    (Q:=fun c st'=>(∃ r,c.1=some r/\yU a b r/\SG st st')\/∃ out' na' nb' mg' ac bc,c=(none,na',nb',out',mg',ac,bc)/\HiI a b st out' na' nb' st'/\na'+nb'<na+nb) ?step2 ?fin2 ⟨_,_,_,_,_,_,rfl,I1,h1⟩) ?post2)
   case fin2=>
    rintro c st' ⟨out',na',nb',mg',ac,bc,rfl,I2,h2⟩;exact .inr ⟨_,_,_,_,_,_,rfl,I2,h2⟩
   case post2=>
    have q1:=I0.ia;have q2:=I0.jb;rintro c st3 (⟨r,hr,d,g⟩ | ⟨out2,na2,nb2,mg2,ac,bc,rfl,I2,h2⟩)
    ·obtain⟨r0,c⟩:=c;have hr:r0=some r:=hr;subst hr;exact aO ⟨r,rfl,d,g⟩
    dsimp only;rw[jA2];have q3:=I2.ia;have q4:=I2.jb;exact aL (eZ (aO ⟨_,_,_,_,rfl,⟨I2.m,I2.i,I2.ia,I2.j,I2.jb,I2.s.gal _⟩,Aa⟩))
   case step2=>
    clear I0 I1;rename_i na00 nb00;generalize hbd:na+nb=bd;clear hxx h1;rintro y c st2 _ hy ⟨out,na,nb,mg',ac,bc,rfl,I0,h2⟩;dsimp only;obtain⟨pb,hpb,ipb⟩:=T.atB (i:=nb - 1) (by have:=I0.j; have:=I0.jb; lia);by_cases hg:mg'>1
    case' pos=>
     rw[ay hg];generalize hgg:mg' - 1=gg
    case' neg=>
     rw[aw hg];generalize hgg:mg'=gg
    all_goals
     rw[jA2];refine aL (eZ ?_);have G1:=I0.s.gal gg;have na0:=I0.i;have na1:=I0.ia;have nb0:=I0.j;have nb1:=I0.jb;refine aL (jX hpb ?_);refine aL (jLE (G1.k.trans hk) ipb T.ia (whole T.sa) Aa Aa fun k1 g1 g2 g3=>?_);dsimp only;have M1:=MH.appA T I0.m g1 (fun n x h1 h2 h3=>jE2 T.sb hpb (cG (g3 n x Aa Aa (at_list.mpr h3))));have hle:∀ y∈a.toList.take k1,LE y pb:=fun y hy=>by
      obtain⟨n,h1,h2⟩:=jE5 hy;exact g2 n y Aa Aa (at_list.mpr h2)
     by_cases e0:na - k1>0
     case' pos=>
      rw[ay e0];by_cases f1:k1=0
      ·rw[ay (bp f1)];rw[f1] at M1 ⊢;exact aO (.inl ⟨_,rfl,MH.doneA T M1,G1⟩)
      rw[aw (bn f1)];obtain⟨pa,hpa,ipa⟩:=T.atA (i:=k1 - 1) Aa;have hz:0<k1:=Aa;generalize hiz:k1=iz at*
     case' neg=>
      rw[aw e0];have e0':k1=na:=Aa;subst e0';have M1:=I0.m;obtain⟨pa,hpa,ipa⟩:=T.atA (i:=k1 - 1) Aa;have hz:0<k1:=Aa;generalize hiz:k1=iz at*
     all_goals
      refine aL (jX hpb ?_);have M2:=MH.pushB T M1 Aa hpb hle;by_cases e1:nb - 1=1
      ·rw[ay (bp e1)];rw[e1] at M2 ⊢;exact aO (.inl ⟨_,rfl,MH.doneF T M2,G1⟩)
      rw[aw (bn e1)];refine aL (jX hpa ?_);refine aL (jLF (G1.k.trans hk) ipa T.ib (whole T.sb) Aa Aa fun k2 l1 l2 l3=>?_);dsimp only;have M3:=MH.appB T M2 l1 (fun n x h1 h2 h3=>jE2 T.sa hpa (l3 n x Aa Aa (at_list.mpr h3)));have fin3:∀ y∈b.toList.take k2,LE y pa:=fun y hy=>by
       obtain⟨n,h1,h2⟩:=jE5 hy;exact cG (l2 n y Aa Aa (at_list.mpr h2))
      by_cases e2:nb - 1 - k2>0
      ·rw[ay e2];by_cases e3:k2=1
       ·rw[ay (bp e3)];rw[e3] at M3 ⊢;exact aO (.inl ⟨_,rfl,MH.doneF T M3,G1⟩)
       rw[aw (bn e3)];by_cases e5:k2=0
       ·rw[ay (bp e5)];rw[e5] at M3 ⊢;exact aO (.inl ⟨_,rfl,MH.doneB T M3,G1⟩)
       rw[aw (bn e5)];refine aL (jX hpa ?_);have M4:=MH.pushA T M3 hz hpa fin3;by_cases e4:iz - 1=0
       ·rw[ay (bp e4)];rw[e4] at M4 ⊢;exact aO (.inl ⟨_,rfl,MH.doneA T M4,G1⟩)
       rw[aw (bn e4)];split
       ·exact aO (.inr ⟨_,_,_,_,_,_,rfl,⟨M4,Aa,Aa,Aa,Aa,G1⟩,Aa⟩)
       ·exact aO ⟨_,_,_,_,_,_,rfl,⟨M4,Aa,Aa,Aa,Aa,G1⟩,Aa⟩
      ·rw[aw e2];have e0:k2=nb - 1:=Aa;subst e0;refine aL (jX hpa ?_);have M4:=MH.pushA T M2 hz hpa fin3;by_cases e4:iz - 1=0
       ·rw[ay (bp e4)];rw[e4] at M4 ⊢;exact aO (.inl ⟨_,rfl,MH.doneA T M4,G1⟩)
       rw[aw (bn e4)];split
       ·exact aO (.inr ⟨_,_,_,_,_,_,rfl,⟨M4,Aa,Aa,Aa,Aa,G1⟩,Aa⟩)
       ·exact aO ⟨_,_,_,_,_,_,rfl,⟨M4,Aa,Aa,Aa,Aa,G1⟩,Aa⟩
end
def KI (xs:Array Keyed)(i:Nat):Int:=match xs[i]? with
 | some p=>key p
 | none=>0
def STo (xs:Array Keyed)(k:Nat):Prop:=∀ i j,i<=j->j<k->KI xs i<=KI xs j
structure SB (a₀:Array Keyed)(st:SortSt):Prop where
 perm:(arrOf st).Perm a₀
 kind:kindOf st=Od.kd
 failed:failedOf st=none
 pend:pendingOf st=#[]
theorem SB.size {a₀:Array Keyed}{st:SortSt}(h:SB a₀ st):(arrOf st).size=a₀.size:=h.perm.size_eq
theorem jC7 {xs ys:Array Keyed}{i j:Nat}(h:xs[i]?=ys[j]?):KI xs i=KI ys j:=by unfold KI; rw[h]
theorem jQG {xs:Array Keyed}{src d:Nat}(hs:src<xs.size)(hd:d<=src)(k:Nat):
  KI (bubble xs src d) k=if k=src - d then KI xs src else if src - d<k/\k<=src then KI xs (k - 1) else KI xs k:=by
 have e:=getElem?_bubble hs d hd k;by_cases h1:k=src - d
 ·rw[ay h1] at e ⊢; exact jC7 e
 ·rw[aw h1] at e ⊢;by_cases h2:src - d<k/\k<=src
  ·rw[ay h2] at e ⊢; exact jC7 e
  ·rw[aw h2] at e ⊢; exact jC7 e
theorem jDA {xs:Array Keyed}{i j:Nat}(hj:j<=xs.size)(k:Nat):
  KI (mirror xs i j ((j - i) / 2)) k=if i<=k/\k<j then KI xs (i+j - 1 - k) else KI xs k:=by
 have e:=getElem?_mirror_all (i:=i) hj k;by_cases h1:i<=k/\k<j
 ·rw[ay h1] at e;rw[ay h1];exact jC7 e
 ·rw[aw h1] at e;rw[aw h1];exact jC7 e
theorem jA1 {xs:Array Keyed}{i j:Nat}(hj:j<=xs.size)(heq:∀ k,i<=k->k<j->KI xs k=KI xs (j - 1))(k:Nat):
  KI (mirror xs i j ((j - i) / 2)) k=KI xs k:=by
 rw[jDA hj];split
 ·rename_i h;rw[heq _ Aa Aa,heq k h.1 h.2]
 ·rfl
def Up (xs:Array Keyed)(lo n:Nat):Prop:=∀ i j,lo<=i->i<=j->j<lo+n->KI xs i<=KI xs j
def Dn (xs:Array Keyed)(lo n:Nat):Prop:=∀ i j,lo<=i->i<=j->j<lo+n->KI xs j<=KI xs i
structure BB (a₀:Array Keyed)(p:Array (Nat×Nat×Nat))(F:Nat->Int)(lo:Nat)(st:SortSt):Prop where
 perm:(arrOf st).Perm a₀
 kind:kindOf st=Od.kd
 failed:failedOf st=none
 pend:pendingOf st=p
 low:∀ k,k<lo->KI (arrOf st) k=F k
theorem jT2 {a₀ xs:Array Keyed}(hp:xs.Perm a₀)(h0:AllI a₀.toList){i:Nat}(hi:i<a₀.size):∃ q,xs[i]?=some q/\IsI q/\key q=KI xs i:=by
 have hi':i<xs.size:=by rw[hp.size_eq]; exact hi
 have hm:xs[i]∈a₀.toList:=(cq.mp hp).mem_iff.mp Ad;have e:xs[i]?=some xs[i]:=iy _ i hi';exact⟨xs[i],e,h0 _ hm,by unfold KI; rw[e]⟩
section
variable {prog:Program}{w:World}{A:Around}{E:Ah}{s:Shared} [LtOk prog w A s]{a₀:Array Keyed}{p:Array (Nat×Nat×Nat)}{F:Nat->Int}{lo:Nat}
theorem BB.sz {st:SortSt}(h:BB a₀ p F lo st):(arrOf st).size=a₀.size:=h.perm.size_eq
theorem BB.arr {st:SortSt}(h:BB a₀ p F lo st){xs:Array Keyed}(hp:xs.Perm (arrOf st))(hl:∀ k,k<lo->KI xs k=KI (arrOf st) k):BB a₀ p F lo (setArr st xs):=
 ⟨hp.trans h.perm,h.kind,h.failed,h.pend,fun k hk=>(hl k hk).trans (h.low k hk)⟩
theorem jDB {st:SortSt}{i j:Nat}{Q:Option Bool->SortSt->Prop}(hB:BB a₀ p F lo st)(h0:AllI a₀.toList)(hi:i<a₀.size)(hj:j<a₀.size)
  (h:Q (some (decide (KI (arrOf st) i<KI (arrOf st) j))) st):wpS (model prog w) A E s (ltAt' i j) Q st:=by
 obtain⟨x,e1,i1,k1⟩:=jT2 hB.perm h0 hi;obtain⟨y,e2,i2,k2⟩:=jT2 hB.perm h0 hj;rw[ltAt'_eq];refine aL (gH ?_);show wpS _ _ _ _ (do let x <- elem' (arrOf st) i; let y <- elem' (arrOf st) j; lt' x y) Q st;rw[elem'_eq,elem'_eq,e1,e2];refine aL (aO (aL (aO (jH7 hB.kind i1 i2 ?_))));rw[k1,k2];exact h
theorem Up.one {xs:Array Keyed} :Up xs lo 1:=fun i j h1 h2 h3=>by
 have:i=j:=by lia
 rw[this];exact cY _
theorem Dn.one {xs:Array Keyed} :Dn xs lo 1:=fun i j h1 h2 h3=>by
 have:i=j:=by lia
 rw[this];exact cY _
theorem Up.more {xs:Array Keyed}{n:Nat}(h:Up xs lo n)(hn:0<n)(hc:KI xs (lo+n - 1)<=KI xs (lo+n)):Up xs lo (n+1):=fun i j h1 h2 h3=>by
 by_cases e:j<lo+n
 ·exact h i j h1 h2 e
 ·have ej:j=lo+n:=Aa;subst ej;by_cases ei:i=lo+n
  ·rw[ei];exact cY _
  ·exact dr (h i (lo+n - 1) h1 Aa Aa) hc
theorem Dn.more {xs:Array Keyed}{n:Nat}(h:Dn xs lo n)(hn:0<n)(hc:KI xs (lo+n)<=KI xs (lo+n - 1)):Dn xs lo (n+1):=fun i j h1 h2 h3=>by
 by_cases e:j<lo+n
 ·exact h i j h1 h2 e
 ·have ej:j=lo+n:=Aa;subst ej;by_cases ei:i=lo+n
  ·rw[ei];exact cY _
  ·exact dr hc (h i (lo+n - 1) h1 Aa Aa)
theorem Dn.congr {xs ys:Array Keyed}{n:Nat}(h:Dn xs lo n)(e:∀ k,KI ys k=KI xs k):Dn ys lo n:=fun i j h1 h2 h3=>by
 rw[e i,e j];exact h i j h1 h2 h3
theorem jG3 {st:SortSt}{nrem:Nat}{Q:Option Nat->SortSt->Prop}(h0:AllI a₀.toList)(hn:lo+nrem<=a₀.size)(hn1:1<=nrem)(hB:BB a₀ p F lo st)
  (h:∀ m st',BB a₀ p F lo st'->1<=m->m<=nrem->Up (arrOf st') lo m->Q (some m) st'):wpS (model prog w) A E s (countRun' lo nrem) Q st:=by
 rw[countRun'_eq];dsimp only;refine aL (dH (cg (I:=fun x c st'=>st'=st/\c=(none,x)/\Up (arrOf st) lo x)
  (Q:=fun c st'=>st'=st/\∃ n,c=(none,n)/\1<=n/\n<=nrem/\Up (arrOf st) lo n/\(n=nrem\/KI (arrOf st) (lo+n)<KI (arrOf st) (lo+n - 1))) ?step ?fin ⟨rfl,rfl,Up.one⟩) ?post)
 case fin=>
  rintro c st' ⟨rfl,rfl,hu⟩;rw[show max 1 nrem=nrem by lia] at hu ⊢;exact⟨rfl,nrem,rfl,hn1,aA _,hu, .inl rfl⟩
 case step=>
  rintro x c st' h1 h2 ⟨rfl,rfl,hu⟩;dsimp only;refine aL (jDB hB h0 Aa Aa ?_);dsimp only;by_cases hl:KI (arrOf st') (lo+x)<KI (arrOf st') (lo+x - 1)
  ·rw[ax hl,ay rfl];exact aO ⟨rfl,x,rfl,Aa,Aa,hu, .inr hl⟩
  ·rw[aN hl,aw az];exact aO ⟨rfl,rfl,hu.more Aa Aa⟩
 case post=>
  rintro c st' ⟨rfl,n,rfl,n1,n2,hu,hor⟩;dsimp only;by_cases hnn:n=nrem
  ·rw[ay (bp hnn)];exact aO (h n st' hB n1 n2 hu)
  rw[aw (bn hnn)];have hlt:=hor.resolve_left hnn;have hz:lo+n<=(arrOf st').size:=by rw[hB.sz]; lia
  by_cases hgt:n>1
  case' pos=>
   rw[ay hgt];refine aL (jDB hB h0 Aa Aa ?_);dsimp only;by_cases hr:KI (arrOf st') lo<KI (arrOf st') (lo+n - 1)
   ·rw[ax hr,ay rfl];exact aO (h n st' hB n1 n2 hu)
   rw[aN hr,aw az];have hall:∀ k,lo<=k->k<lo+n->KI (arrOf st') k=KI (arrOf st') (lo+n - 1):=fun k h1 h2=>by
    have a1:=hu lo k Aa h1 h2;have a2:=hu k (lo+n - 1) h1 Aa Aa;lia
   refine aL (wpS_reverse ?_);have hB1:=hB.arr (xs:=mirror (arrOf st') lo (lo+n) ((lo+n - lo) / 2)) (mirror_perm _ _ _ _) fun k _=>jA1 hz hall k;have hs0:Dn (arrOf st') lo n:=fun i j h1 h2 h3=>by
    rw[hall i h1 Aa,hall j Aa h3];exact cY _
   have hs1:Dn (arrOf (setArr st' (mirror (arrOf st') lo (lo+n) ((lo+n - lo) / 2)))) lo (n+1):=(hs0.more Aa (cG hlt)).congr (jA1 hz hall);generalize setArr st' (mirror (arrOf st') lo (lo+n) ((lo+n - lo) / 2))=st1 at*
  case' neg=>
   rw[aw hgt];have en:n=1:=Aa;have hB1:=hB;have hs1:Dn (arrOf st') lo (n+1):=by
    rw[en] at hlt ⊢;exact Dn.one.more Aa (cG hlt)
  all_goals
   refine aL (hG (di ⟨rfl,?_⟩));refine aL (dH (cg (I:=fun x c st'=>∃ q,c=(none,x,q)/\BB a₀ p F lo st'/\Dn (arrOf st') lo x/\q+1<=x/\∀ i,lo+x - (q+1)<=i->i<lo+x->KI (arrOf st') i=KI (arrOf st') (lo+x - 1))
    (Q:=fun c st'=>∃ m q,c=(none,m,q)/\1<=m/\m<=nrem/\BB a₀ p F lo st'/\Dn (arrOf st') lo m/\q+1<=m/\∀ i,lo+m - (q+1)<=i->i<lo+m->KI (arrOf st') i=KI (arrOf st') (lo+m - 1)) ?dstep ?dfin ⟨0,rfl,hB1,hs1,Aa,fun i h1 h2=>by congr 1; lia⟩) ?dpost)
   case dfin=>
    rintro c st' ⟨q,rfl,hb,hd,hq,he⟩;rw[show max (n+1) nrem=nrem by lia] at hd hq he ⊢;exact⟨nrem,q,rfl,Aa,Aa,hb,hd,hq,he⟩
   case dstep=>
    rintro x c st' h1 h2 ⟨q,rfl,hb,hd,hq,he⟩;dsimp only;have hz:lo+x<=(arrOf st').size:=by rw[hb.sz]; lia
    refine aL (jDB hb h0 Aa Aa ?_);dsimp only;by_cases hl:KI (arrOf st') (lo+x)<KI (arrOf st') (lo+x - 1)
    ·rw[ax hl,ay rfl];have d1:=hd.more Aa (cG hl);by_cases hq0:q>0
     ·rw[ay hq0];refine aL (wpS_reverse (aO ⟨0,rfl,hb.arr (mirror_perm _ _ _ _) fun k _=>jA1 hz he k,d1.congr (jA1 hz he),Aa,fun i h1 h2=>by congr 1; lia⟩))
     ·rw[aw hq0];exact aO ⟨0,rfl,hb,d1,Aa,fun i h1 h2=>by congr 1; lia⟩
    ·rw[aN hl,aw az];refine aL (jDB hb h0 Aa Aa ?_);dsimp only;by_cases hg:KI (arrOf st') (lo+x - 1)<KI (arrOf st') (lo+x)
     ·rw[ax hg,ay rfl];exact aO ⟨x,q,rfl,Aa,Aa,hb,hd,hq,he⟩
     ·rw[aN hg,aw az];have ex:KI (arrOf st') (lo+x)=KI (arrOf st') (lo+x - 1):=Aa;refine aO ⟨q+1,rfl,hb,hd.more Aa Aa,Aa,fun i h1 h2=>?_⟩;rw[show lo+(x+1) - 1=lo+x by lia];by_cases hix:i=lo+x
      ·rw[hix]
      ·rw[ex];exact he i Aa Aa
   case dpost=>
    rintro c st2 ⟨m,q,rfl,m1,m2,hB2,hs2,hq,he⟩;dsimp only;have hz2:lo+m<=(arrOf st2).size:=by rw[hB2.sz]; lia
    by_cases hq0:q>0
    case' pos=>
     rw[ay hq0];refine aL (wpS_reverse ?_);have hB3:=hB2.arr (xs:=mirror (arrOf st2) (lo+m - (q+1)) (lo+m) ((lo+m - (lo+m - (q+1))) / 2)) (mirror_perm _ _ _ _) fun k _=>jA1 hz2 he k;have hs3:Dn (arrOf (setArr st2 (mirror (arrOf st2) (lo+m - (q+1)) (lo+m) ((lo+m - (lo+m - (q+1))) / 2)))) lo m:=hs2.congr (jA1 hz2 he);generalize setArr st2 (mirror (arrOf st2) (lo+m - (q+1)) (lo+m) ((lo+m - (lo+m - (q+1))) / 2))=st3 at*
    case' neg=>
     rw[aw hq0];have hB3:=hB2;have hs3:=hs2;generalize st2=st3 at*
    all_goals
     have hz3:lo+m<=(arrOf st3).size:=by rw[hB3.sz]; lia
     refine aL (wpS_reverse ?_);have hB4:=hB3.arr (xs:=mirror (arrOf st3) lo (lo+m) ((lo+m - lo) / 2)) (mirror_perm _ _ _ _) fun k hk=>by
      rw[jDA hz3,aw Aa]
     have hU:Up (mirror (arrOf st3) lo (lo+m) ((lo+m - lo) / 2)) lo m:=fun i j h1 h2 h3=>by
      rw[jDA hz3,jDA hz3,ay ⟨h1,Aa⟩,ay ⟨Aa,h3⟩];exact hs3 _ _ Aa Aa Aa
     generalize mirror (arrOf st3) lo (lo+m) ((lo+m - lo) / 2)=xs4 at*;refine aL (dH (cg (I:=fun x c st'=>st'=setArr st3 xs4/\c=(none,x)/\Up xs4 lo x)
      (Q:=fun c st'=>st'=setArr st3 xs4/\∃ n,c=(none,n)/\1<=n/\n<=nrem/\Up xs4 lo n) ?tstep ?tfin ⟨rfl,rfl,hU⟩) ?tpost)
     case tfin=>
      rintro c st' ⟨rfl,rfl,hu⟩;rw[show max m nrem=nrem by lia] at hu ⊢;exact⟨rfl,nrem,rfl,Aa,Aa,hu⟩
     case tstep=>
      rintro x c st' h1 h2 ⟨rfl,rfl,hu⟩;dsimp only;refine aL (jDB hB4 h0 Aa Aa ?_);dsimp only;by_cases hl:KI xs4 (lo+x)<KI xs4 (lo+x - 1)
      ·rw[ax hl,ay rfl];exact aO ⟨rfl,x,rfl,Aa,Aa,hu⟩
      ·rw[aN hl,aw az];exact aO ⟨rfl,rfl,hu.more Aa Aa⟩
     case tpost=>
      rintro c st' ⟨rfl,n,rfl,n1,n2,hu⟩;exact aO (h n _ hB4 n1 n2 hu)
theorem jEC {st:SortSt}{n ok:Nat}{Q:Bool->SortSt->Prop}(h0:AllI a₀.toList)(hn:lo+n<=a₀.size)(hok:ok<=n)(hB:BB a₀ p F lo st)(hs:Up (arrOf st) lo ok)
  (h:∀ st',BB a₀ p F lo st'->Up (arrOf st') lo n->Q true st'):wpS (model prog w) A E s (binarySort' lo n ok) Q st:=by
 rw[binarySort'_eq];dsimp only;refine aL (dH (cg (I:=fun k c st'=>c=(none,())/\BB a₀ p F lo st'/\Up (arrOf st') lo (min k n))
  (Q:=fun c st'=>c=(none,())/\BB a₀ p F lo st'/\Up (arrOf st') lo n) ?step ?fin ⟨rfl,hB,?init⟩) ?post)
 case post=>
  rintro c st' ⟨rfl,hb,hu⟩;exact aO (h st' hb hu)
 case init=>
  by_cases e:ok=0
  ·intro i j h1 h2 h3;have:i=j:=by lia
   rw[this];exact cY _
  ·exact fun i j h1 h2 h3=>hs i j h1 h2 Aa
 case fin=>
  rintro c st' ⟨hc,hb,hu⟩;rw[show min (max (max ok 1) n) n=n by lia] at hu;exact⟨hc,hb,hu⟩
 case step=>
  rintro k c st1 hk1 hk2 ⟨rfl,hb,hu⟩;rw[show min k n=k by lia] at hu;refine aL (dH (cg (I:=fun x c st'=>st'=st1/\∃ l r,c=(none,l,r)/\l<=r/\r<=k/\r - l<=k - x/\
    (∀ i,i<l->KI (arrOf st1) (lo+i)<=KI (arrOf st1) (lo+k))/\∀ i,r<=i->i<k->KI (arrOf st1) (lo+k)<KI (arrOf st1) (lo+i))
   (Q:=fun c st'=>st'=st1/\∃ l r,c=(none,l,r)/\l<=k/\
    (∀ i,i<l->KI (arrOf st1) (lo+i)<=KI (arrOf st1) (lo+k))/\∀ i,l<=i->i<k->KI (arrOf st1) (lo+k)<KI (arrOf st1) (lo+i)) ?step1 ?fin1 ⟨rfl,0,k,rfl,Aa,Aa,Aa,fun i hi=>by lia,fun i h1 h2=>by lia⟩) ?post1)
  case fin1=>
   rintro c st' ⟨rfl,l,r,rfl,b1,b2,b3,b4,b5⟩;have:l=r:=by lia
   subst this;exact⟨rfl,l,l,rfl,b2,b4,b5⟩
  case step1=>
   rintro x c st' _ hx ⟨rfl,l,r,rfl,b1,b2,b3,b4,b5⟩;dsimp only;by_cases hge:l ≥ r
   ·rw[ay hge];have:l=r:=by lia
    subst this;exact aO ⟨rfl,l,l,rfl,b2,b4,b5⟩
   rw[aw hge];refine aL (jDB hb h0 Aa Aa ?_);dsimp only;by_cases hl:KI (arrOf st') (lo+k)<KI (arrOf st') (lo+(l+r) / 2)
   ·rw[ax hl,ay rfl];exact aO ⟨rfl,l,(l+r) / 2,rfl,Aa,Aa,Aa,b4,fun i h1 h2=>Int.lt_of_lt_of_le hl (hu _ _ Aa Aa Aa)⟩
   ·rw[aN hl,aw az];exact aO ⟨rfl,(l+r) / 2+1,r,rfl,Aa,Aa,Aa,fun i h1=>dr (hu (lo+i) (lo+(l+r) / 2) Aa Aa Aa) (Int.not_lt.mp hl),b5⟩
  case post1=>
   rintro c st' ⟨rfl,l,r,rfl,hlk,b4,b5⟩;dsimp only;rw[moveDown'_eq];have hks:lo+k<(arrOf st').size:=by rw[hb.sz]; lia
   have kb:∀ x,KI (bubble (arrOf st') (lo+k) (lo+k - (lo+l))) x=if x=lo+l then KI (arrOf st') (lo+k) else if lo+l<x/\x<=lo+k then KI (arrOf st') (x - 1) else KI (arrOf st') x:=fun x=>by
    have:=jQG hks (d:=lo+k - (lo+l)) Aa x;rw[show lo+k - (lo+k - (lo+l))=lo+l by lia] at this;exact this
   refine aL (eZ (aO ⟨rfl,hb.arr (bubble_perm _ _ _) fun x hx=>?_,?_⟩))
   ·rw[kb,aw Aa,aw Aa]
   rw[show min (k+1) n=k+1 by lia];intro i j h1 h2 h3;show KI (bubble _ _ _) i<=KI (bubble _ _ _) j;rw[kb,kb];have lo1:∀ i,lo<=i->i<lo+l->KI (arrOf st') i<=KI (arrOf st') (lo+k):=fun i h1 h2=>by
    have:=b4 (i - lo) Aa;rw[show lo+(i - lo)=i by lia] at this;exact this
   have hi1:∀ i,lo+l<=i->i<lo+k->KI (arrOf st') (lo+k)<=KI (arrOf st') i:=fun i h1 h2=>by
    have:=b5 (i - lo) Aa Aa;rw[show lo+(i - lo)=i by lia] at this;exact cG this
   repeat' split
   all_goals first
    | (exfalso; lia)
    | exact cY _
    | exact lo1 _ Aa Aa
    | exact hi1 _ Aa Aa
    | exact hu _ _ Aa Aa Aa
end
def mergeAtB: { g:Nat->StateT SortSt Sem Bool // mergeAt'=g} :=⟨fun _=>bind _ _,rfl⟩
theorem KI_key {xs:Array Keyed}{i:Nat}{p:Keyed}(h:xs[i]?=some p):KI xs i=key p:=by
 unfold KI;rw[h]
theorem jKM (s1:Nat):∀ (l:List Keyed) (j0:Nat) (a:Array Keyed) (P M S:List Keyed),P.length=s1+j0->M.length=l.length->a.toList=P++(M++S)->
  ((l.zipIdx j0).foldl (fun (a:Array Keyed) (x:Keyed×Nat)=>a.setIfInBounds (s1+x.2) x.1) a).toList=P++(l++S)
 | [],j0,a,P,M,S,h1,h2,h3=>by
  rw[cO h2] at h3;exact h3
 | q::l,j0,a,P,[],S,h1,h2,h3=>by cases h2
 | q::l,j0,a,P,m::M,S,h1,h2,h3=>by
  rw[List.zipIdx_cons,List.foldl_cons];have:=jKM s1 l (j0+1) (a.setIfInBounds (s1+j0) q) (P++[q]) M S (by rw[aJ,h1]; rfl) (Nat.succ.inj h2) (by
   rw[iP,h3,<- h1,kh _ _ (aA _),gJ,aY];rfl)
  rw[this,aY];rfl
theorem jV0 {P m1 m2 S:List Keyed}(e:m1.length=m2.length){k:Nat}(h:k<P.length\/P.length+m1.length<=k):(P++(m1++S))[k]?=(P++(m2++S))[k]?:=by
 rcases h with h | h
 ·rw[ce h,ce h]
 ·rw[bu Aa,bu Aa,bu Aa,bu Aa,e]
theorem jX3 {P m S:List Keyed}{k:Nat}(h1:P.length<=k)(h2:k<P.length+m.length):(P++(m++S))[k]?=m[k - P.length]?:=by
 rw[bu h1,ce Aa]
theorem jLJ {xs:Array Keyed}{i j t:Nat}(h:t<j - i):(xs.extract i j).toList[t]?=xs[i+t]?:=by
 rw[jAO,cC h,iM,bN]
theorem jDK {xs:Array Keyed}{i j:Nat}{p:Keyed}(h:p∈(xs.extract i j).toList):∃ t,i<=t/\t<j/\xs[t]?=some p:=by
 rw[jAO] at h;obtain⟨t,h1,h2,h3⟩:=jA4 h;exact⟨t,h1,Aa,at_list.mpr h3⟩
theorem jF5 {xs:Array Keyed}{i j:Nat}(h:j<=xs.size):(xs.extract i j).size=j - i:=by
 rw[Array.size_extract];lia
theorem jPR {xs:Array Keyed}{i j:Nat}(h:∀ n m x y,i<=n->n<=m->m<j->xs[n]?=some x->xs[m]?=some y->LE x y):Srt (xs.extract i j).toList:=by
 refine bL.mpr fun a b ha hb hab=>?_;have hl:(xs.extract i j).toList.length<=j - i:=by rw[jAO,bI]; lia
 have e1:=jLJ (xs:=xs) (i:=i) (j:=j) (t:=a) Aa;have e2:=jLJ (xs:=xs) (i:=i) (j:=j) (t:=b) Aa;rw[aq ha] at e1;rw[aq hb] at e2;exact h (i+a) (i+b) _ _ Aa Aa Aa e1.symm e2.symm
theorem KI_at {xs ys:Array Keyed}{i j:Nat}(h:xs.toList[i]?=ys.toList[j]?):KI xs i=KI ys j:=jC7 (by rw[<- bN,<- bN]; exact h)
theorem jMB {xs r R:Array Keyed}{sa na sb nb k1 k2:Nat}(hsb:sb=sa+na)(hk1:k1<na)(hk2:0<k2)(hk2':k2<=nb)(hz:sb+nb<=xs.size)
  (u1:Up xs sa na) (u2:Up xs sb nb) (g2:∀ t,sa<=t->t<sa+k1->KI xs t<=KI xs sb) (l3:∀ t,sb+k2<=t->t<sb+nb->KI xs (sb - 1)<=KI xs t)
  (D:yU (xs.extract (sa+k1) sb) (xs.extract sb (sb+k2)) r)
  (hR:R.toList=xs.toList.take (sa+k1)++(r.toList++xs.toList.drop (sb+k2))):
  R.Perm xs/\(∀ k,k<sa\/sa+(na+nb)<=k->KI R k=KI xs k)/\Up R sa (na+nb):=by
 have lr:r.toList.length=sb+k2 - (sa+k1):=by
  rw[D.1.length_eq,aJ,aM,aM,jF5 Aa,jF5 Aa];lia
 have lP:(xs.toList.take (sa+k1)).length=sa+k1:=by rw[bI,aM]; lia
 have hX:xs.toList=xs.toList.take (sa+k1)++(((xs.extract (sa+k1) sb).toList++(xs.extract sb (sb+k2)).toList)++xs.toList.drop (sb+k2)):=by
  have a1:=bG (sa+k1) xs.toList;have a2:=bG (sb - (sa+k1)) (xs.toList.drop (sa+k1));have a3:=bG k2 (xs.toList.drop sb);rw[iK] at a2 a3;rw[show sa+k1+(sb - (sa+k1))=sb by lia] at a2;rw[jAO,jAO,cZ,aY,a3,a2,a1]
 have lm:((xs.extract (sa+k1) sb).toList++(xs.extract sb (sb+k2)).toList).length=r.toList.length:=D.1.length_eq.symm;have out:∀ k,k<sa+k1\/sb+k2<=k->KI R k=KI xs k:=fun k hk=>KI_at (by
  have:=jV0 (P:=xs.toList.take (sa+k1)) (S:=xs.toList.drop (sb+k2)) lm.symm (k:=k) (by rw[lP,lr]; lia);exact(bY (·[k]?) hR).trans (this.trans (bY (·[k]?) hX).symm))
 have inn:∀ k,sa+k1<=k->k<sb+k2->R.toList[k]?=r.toList[k - (sa+k1)]?:=fun k h1 h2=>by
  rw[hR,jX3 (by rw[lP]; exact h1) (by rw[lP,lr]; lia),lP]
 have mem:∀ k,sa+k1<=k->k<sb+k2->∃ t,sa+k1<=t/\t<sb+k2/\KI R k=KI xs t:=fun k h1 h2=>by
  have hk:k - (sa+k1)<r.toList.length:=Aa;have e:=inn k h1 h2;rw[aq hk] at e;have hm:=D.1.mem_iff.mp (cn hk);rcases aP.mp hm with q | q
  ·obtain⟨t,t1,t2,t3⟩:=jDK q;exact⟨t,t1,Aa,(KI_key (at_list.mpr e)).trans (KI_key t3).symm⟩
  ·obtain⟨t,t1,t2,t3⟩:=jDK q;exact⟨t,Aa,t2,(KI_key (at_list.mpr e)).trans (KI_key t3).symm⟩
 have srt:∀ i j,sa+k1<=i->i<=j->j<sb+k2->KI R i<=KI R j:=fun i j h1 h2 h3=>by
  have hi:i - (sa+k1)<r.toList.length:=Aa;have hj:j - (sa+k1)<r.toList.length:=Aa;have e1:=inn i h1 Aa;have e2:=inn j Aa h3;rw[aq hi] at e1;rw[aq hj] at e2;rw[KI_key (at_list.mpr e1),KI_key (at_list.mpr e2)];exact jFK D.2 (aq hi) (aq hj) Aa
 have low:∀ t u,sa<=t->t<sa+k1->t<=u->u<sb+nb->KI xs t<=KI xs u:=fun t u h1 h2 h3 h4=>by
  by_cases e:u<sb
  ·exact u1 t u h1 h3 Aa
  ·exact dr (g2 t h1 h2) (u2 sb u (aA _) Aa h4)
 have high:∀ t u,sa<=t->t<=u->sb+k2<=u->u<sb+nb->KI xs t<=KI xs u:=fun t u h1 h2 h3 h4=>by
  by_cases e:t<sb
  ·exact dr (u1 t (sb - 1) h1 Aa Aa) (l3 u h3 h4)
  ·exact u2 t u Aa h2 h4
 refine⟨?_,fun k hk=>out k Aa,fun i j h1 h2 h3=>?_⟩
 ·refine cq.mpr ?_;rw[hR];refine List.Perm.trans ?_ (jx hX.symm);exact cP _ (gI _ D.1)
 ·have h3:j<sb+nb:=Aa;by_cases i1:i<sa+k1
  ·rw[out i (.inl i1)];by_cases j1:j<sa+k1
   ·rw[out j (.inl j1)];exact low i j h1 i1 h2 h3
   by_cases j2:j<sb+k2
   ·obtain⟨t,t1,t2,t3⟩:=mem j Aa j2;rw[t3];exact low i t h1 i1 Aa Aa
   ·rw[out j (.inr Aa)];exact low i j h1 i1 h2 h3
  by_cases i2:i<sb+k2
  ·by_cases j2:j<sb+k2
   ·exact srt i j Aa h2 j2
   ·obtain⟨t,t1,t2,t3⟩:=mem i Aa i2;rw[t3,out j (.inr Aa)];exact high t j Aa Aa Aa h3
  ·rw[out i (.inr Aa),out j (.inr Aa)];exact high i j h1 h2 Aa h3
section
variable {prog:Program}{w:World}{A:Around}{E:Ah}{s:Shared} [LtOk prog w A s]
theorem jTG {st st':SortSt}{Q:PUnit->SortSt->Prop}(h:Q ⟨⟩ st'):wpS (model prog w) A E s (set st':StateT SortSt Sem PUnit) Q st:=eZ (f:=fun _=>st') h
theorem jMV {α:Type}{a b:α}{Q:α->SortSt->Prop}{st:SortSt}(e:a=b)(h:Q b st):wpS (model prog w) A E s (pure a:StateT SortSt Sem α) Q st:=aO (e ▸ h)
structure Merged (st st':SortSt)(i sa na sb nb pw:Nat):Prop where
 perm:(arrOf st').Perm (arrOf st)
 kind:kindOf st'=Od.kd
 failed:failedOf st'=none
 pend:pendingOf st'=((pendingOf st).setIfInBounds i (sa,na+nb,pw)).eraseIdxIfInBounds (i+1)
 out:∀ k,k<sa\/sa+(na+nb)<=k->KI (arrOf st') k=KI (arrOf st) k
 up:Up (arrOf st') sa (na+nb)
theorem jJ1 {st:SortSt}{i sa na pw sb nb w2:Nat}{Q:Bool->SortSt->Prop}(hk:kindOf st=Od.kd)(hf:failedOf st=none)(hI:AllI (arrOf st).toList)
  (h1:(pendingOf st)[i]?=some (sa,na,pw)) (h2:(pendingOf st)[i+1]?=some (sb,nb,w2)) (hsb:sb=sa+na) (hna:0<na) (hnb:0<nb) (hz:sb+nb<=(arrOf st).size)
  (u1:Up (arrOf st) sa na) (u2:Up (arrOf st) sb nb) (h:∀ st',Merged st st' i sa na sb nb pw->Q true st'):wpS (model prog w) A E s (mergeAt' i) Q st:=by
 rw[mergeAtB.2]
 delta mergeAtB
 dsimp only;simp only [elP,ltP,ltAtP,jJW,jRF,jRG];refine aL (gH ?_);rw[h1,h2];dsimp only;refine aL (jTG ?_);generalize hpp:((pendingOf st).setIfInBounds i (sa,na+nb,pw)).eraseIdxIfInBounds (i+1)=pp;show wpS _ _ _ _ _ _ (SortSt.mk' (kindOf st) (arrOf st) pp (gallopOf st) (failedOf st));generalize hst1:SortSt.mk' (kindOf st) (arrOf st) pp (gallopOf st) (failedOf st)=st1;have G1:kindOf st1=kindOf st/\arrOf st1=arrOf st/\pendingOf st1=pp/\failedOf st1=failedOf st:=by rw[<- hst1]; exact⟨rfl,rfl,rfl,rfl⟩
 have at_:∀ t,t<(arrOf st).size->∃ q,(arrOf st)[t]?=some q/\IsI q:=fun t ht=>by
  obtain⟨q,q1,q2⟩:=qO ht;exact⟨q,q1,hI q (aB q2)⟩
 have m1:∀ n m x y,sa<=n->n<=m->m<sa+na->(arrOf st)[n]?=some x->(arrOf st)[m]?=some y->LE x y:=fun n m x y a1 a2 a3 hx hy=>by
  have:=u1 n m a1 a2 a3;rw[KI_key hx,KI_key hy] at this;exact this
 have m2:∀ n m x y,sb<=n->n<=m->m<sb+nb->(arrOf st)[n]?=some x->(arrOf st)[m]?=some y->LE x y:=fun n m x y a1 a2 a3 hx hy=>by
  have:=u2 n m a1 a2 a3;rw[KI_key hx,KI_key hy] at this;exact this
 obtain⟨pb,hpb,ipb⟩:=at_ sb Aa;refine aL (jX hpb ?_);refine aL (jLE (G1.1.trans hk) ipb hI m1 hna (show sa+na<=(arrOf st).size by lia) fun k1 g1 g2 g3=>?_);dsimp only;have g2:∀ t,sa<=t->t<sa+k1->KI (arrOf st) t<=KI (arrOf st) sb:=fun t t1 t2=>by
  obtain⟨q,hq,_⟩:=at_ t Aa;rw[KI_key hq,KI_key hpb];exact g2 t q t1 t2 hq
 by_cases e1:na - k1=0
 ·rw[ay (bp e1)];refine aO (h _ ⟨?_,G1.1.trans hk,G1.2.2.2.trans hf,G1.2.2.1.trans hpp.symm,fun k _=>?_,?_⟩)
  ·rw[G1.2.1]
  ·rw[G1.2.1]
  ·rw[G1.2.1];intro i j i1 i2 i3;by_cases a:i<sb
   ·by_cases b:j<sb
    ·exact u1 i j i1 i2 Aa
    ·exact dr (g2 i i1 Aa) (u2 sb j (aA _) Aa Aa)
   ·exact u2 i j Aa i2 Aa
 rw[aw (bn e1)];obtain⟨pa,hpa,ipa⟩:=at_ (sa+k1+(na - k1) - 1) Aa;refine aL (jX hpa ?_);refine aL (jLF (G1.1.trans hk) ipa hI m2 Aa (show sb+nb<=(arrOf st).size by lia) fun k2 l1 l2 l3=>?_);dsimp only;have epa:sa+k1+(na - k1) - 1=sb - 1:=Aa;rw[epa] at hpa;have l3':∀ t,sb+k2<=t->t<sb+nb->KI (arrOf st) (sb - 1)<=KI (arrOf st) t:=fun t t1 t2=>by
  obtain⟨q,hq,_⟩:=at_ t Aa;rw[KI_key hq,KI_key hpa];exact l3 t q t1 t2 hq
 by_cases e2:k2=0
 ·rw[ay (bp e2)];refine aO (h _ ⟨?_,G1.1.trans hk,G1.2.2.2.trans hf,G1.2.2.1.trans hpp.symm,fun k _=>?_,?_⟩)
  ·rw[G1.2.1]
  ·rw[G1.2.1]
  ·rw[G1.2.1];intro i j i1 i2 i3;by_cases a:i<sb
   ·by_cases b:j<sb
    ·exact u1 i j i1 i2 Aa
    ·exact dr (u1 i (sb - 1) i1 Aa Aa) (l3' j Aa Aa)
   ·exact u2 i j Aa i2 Aa
 rw[aw (bn e2)];have T:Two ((arrOf st).extract (sa+k1) sb) ((arrOf st).extract sb (sb+k2)):=by
  refine⟨fun q hq=>?_,fun q hq=>?_,jPR fun n m x y a1 a2 a3=>m1 n m x y Aa a2 Aa,jPR fun n m x y a1 a2 a3=>m2 n m x y Aa a2 Aa,?_,?_,fun x hx y hy=>?_,fun y hy q hq=>?_⟩
  ·obtain⟨t,_,_,t3⟩:=jDK hq;exact hI q (aB (at_list.mp t3))
  ·obtain⟨t,_,_,t3⟩:=jDK hq;exact hI q (aB (at_list.mp t3))
  ·rw[jF5 Aa]; lia
  ·rw[jF5 Aa]; lia
  ·obtain⟨t,t1,t2,t3⟩:=jDK hx;rw[jF5 Aa,jLJ Aa,show sa+k1+(sb - (sa+k1) - 1)=sb - 1 by lia,hpa] at hy;cases hy;exact l2 t x t1 t2 t3
  ·obtain⟨t,t1,t2,t3⟩:=jDK hy;rw[jLJ Aa,lI,hpb] at hq;cases hq;exact g3 t y t1 Aa t3
 by_cases e3:na - k1<=k2
 case' pos=>
  rw[ay e3];refine aL (jIZ (G1.1.trans hk) T fun r st2 D G0=>?_);have G:SG (SortSt.mk' (kindOf st) (arrOf st) pp (gallopOf st) (failedOf st)) st2:=by rw[hst1]; exact G0
  subst hpp
 case' neg=>
  rw[aw e3];refine aL (jJ0 (G1.1.trans hk) T fun r st2 D G0=>?_);have G:SG (SortSt.mk' (kindOf st) (arrOf st) pp (gallopOf st) (failedOf st)) st2:=by rw[hst1]; exact G0
  subst hpp
 all_goals
  refine aL (eZ (aL (gH ?_)));have ea:arrOf st2=arrOf st:=G.a;have W:=jMB (R:=((r.toList.zipIdx 0).foldl (fun (a:Array Keyed) (x:Keyed×Nat)=>a.setIfInBounds (sa+k1+x.2) x.1) (arrOf st))) hsb Aa Aa l1 hz u1 u2 g2 l3' D (jKM (sa+k1) r.toList 0 (arrOf st) ((arrOf st).toList.take (sa+k1)) (((arrOf st).extract (sa+k1) sb).toList++((arrOf st).extract sb (sb+k2)).toList) ((arrOf st).toList.drop (sb+k2)) (by rw[bI,aM]; lia) D.1.length_eq.symm (by
   have a1:=bG (sa+k1) (arrOf st).toList;have a2:=bG (sb - (sa+k1)) ((arrOf st).toList.drop (sa+k1));have a3:=bG k2 ((arrOf st).toList.drop sb);rw[iK] at a2 a3;rw[show sa+k1+(sb - (sa+k1))=sb by lia] at a2;rw[jAO,jAO,cZ,aY,a3,a2,a1]))
  rw[<- ea] at W;refine jMV (by show (failedOf st2).isNone=true; rw[G.f]; show (failedOf st).isNone=true; rw[hf]; rfl) (h _ ⟨?_,G.k.trans hk,G.f.trans hf,G.p,?_,?_⟩)
  ·rw[<- ea];exact W.1
  ·rw[<- ea];exact W.2.1
  ·exact W.2.2
end
def Runs (xs:Array Keyed):List (Nat×Nat×Nat)->Nat->Nat->Prop
 | [],a,b=>a=b
 | (s,n,_)::t,a,b=>s=a/\0<n/\Up xs s n/\Runs xs t (a+n) b
section
variable {xs ys:Array Keyed}
theorem Runs.le:∀ {l:List (Nat×Nat×Nat)}{a b:Nat},Runs xs l a b->a+l.length<=b
 | [],a,b,h=>by have:a=b:=h; rw[cz]; lia
 | (s,n,_)::t,a,b,⟨_,h2,_,h4⟩=>by
  have:=Runs.le h4;rw[aV];lia
theorem Runs.app:∀ {l m:List (Nat×Nat×Nat)}{a b:Nat},Runs xs (l++m) a b->∃ c,Runs xs l a c/\Runs xs m c b
 | [],m,a,b,h=>⟨a,rfl,h⟩
 | (s,n,_)::t,m,a,b,⟨h1,h2,h3,h4⟩=>by
  obtain⟨c,c1,c2⟩:=Runs.app h4;exact⟨c,⟨h1,h2,h3,c1⟩,c2⟩
theorem Runs.put:∀ {l m:List (Nat×Nat×Nat)}{a b c:Nat},Runs xs l a c->Runs xs m c b->Runs xs (l++m) a b
 | [],m,a,b,c,h,g=>by have:a=c:=h; subst this; exact g
 | (s,n,_)::t,m,a,b,c,⟨h1,h2,h3,h4⟩,g=>⟨h1,h2,h3,Runs.put h4 g⟩
theorem Up.same {lo n:Nat}(h:Up xs lo n)(e:∀ k,lo<=k->k<lo+n->KI ys k=KI xs k):Up ys lo n:=fun i j h1 h2 h3=>by
 rw[e i h1 Aa,e j Aa h3];exact h i j h1 h2 h3
theorem Runs.same:∀ {l:List (Nat×Nat×Nat)}{a b:Nat},Runs xs l a b->(∀ k,a<=k->k<b->KI ys k=KI xs k)->Runs ys l a b
 | [],a,b,h,_=>h
 | (s,n,_)::t,a,b,⟨h1,h2,h3,h4⟩,e=>by
  have:=Runs.le h4;exact⟨h1,h2,h3.same fun k k1 k2=>e k Aa Aa,Runs.same h4 fun k k1 k2=>e k Aa k2⟩
theorem Runs.mod {f:Nat×Nat×Nat->Nat×Nat×Nat}(hf:∀ x,(f x).1=x.1/\(f x).2.1=x.2.1):∀ {l:List (Nat×Nat×Nat)}{i a b:Nat},Runs xs l a b->Runs xs (l.modify i f) a b
 | [],i,a,b,h=>by rw[List.modify_nil]; exact h
 | (s,n,w)::t,0,a,b,⟨h1,h2,h3,h4⟩=>by
  rw[List.modify_zero_cons];obtain⟨e1,e2⟩:=hf (s,n,w);generalize f (s,n,w)=v at e1 e2 ⊢;obtain⟨s',n',w'⟩:=v;have e1:s'=s:=e1;have e2:n'=n:=e2;subst e1 e2;exact⟨h1,h2,h3,h4⟩
 | (s,n,w)::t,i+1,a,b,⟨h1,h2,h3,h4⟩=>by
  rw[List.modify_succ_cons];exact⟨h1,h2,h3,Runs.mod hf h4⟩
end
structure RI (a₀:Array Keyed)(lo:Nat)(st:SortSt):Prop where
 perm:(arrOf st).Perm a₀
 kind:kindOf st=Od.kd
 failed:failedOf st=none
 runs:Runs (arrOf st) (pendingOf st).toList 0 lo
theorem jHE:∀ (l:List (Nat×Nat×Nat)) (i:Nat),i+1<l.length->∃ u x y t,l=u++x::y::t/\u.length=i
 | [],i,h=>absurd h (fe _)
 | [x],i,h=>by rw[gS] at h; lia
 | x::y::t,0,h=>⟨[],x,y,t,rfl,rfl⟩
 | x::y::t,i+1,h=>by
  obtain⟨u,x',y',t',e,hu⟩:=jHE (y::t) i (by rw[aV] at h; lia);exact⟨x::u,x',y',t',by rw[e]; rfl,by rw[aV,hu]⟩
theorem jVQ {a₀ xs:Array Keyed}(h0:AllI a₀.toList)(hp:xs.Perm a₀):AllI xs.toList:=fun p hp'=>h0 p ((cq.mp hp).mem_iff.mp hp')
section
variable {prog:Program}{w:World}{A:Around}{E:Ah}{s:Shared} [LtOk prog w A s]{a₀:Array Keyed}
theorem jEB {st:SortSt}{i lo:Nat}{Q:Bool->SortSt->Prop}(h0:AllI a₀.toList)(R:RI a₀ lo st)(hlo:lo<=a₀.size)(hi:i+1<(pendingOf st).size)
  (h:∀ st',RI a₀ lo st'->(pendingOf st').size+1=(pendingOf st).size->(∀ k,lo<=k->KI (arrOf st') k=KI (arrOf st) k)->Q true st'):wpS (model prog w) A E s (mergeAt' i) Q st:=by
 obtain⟨u,⟨sa,na,pw⟩,⟨sb,nb,w2⟩,t,e,hu⟩:=jHE (pendingOf st).toList i (by rw[aM]; exact hi);have rr:=R.runs;rw[e] at rr;obtain⟨c,r1,a1,a2,a3,a4,a5,a6,a7⟩:=Runs.app rr;have r2:=Runs.le a7;have r3:=Runs.le r1;subst a1;have e1:(pendingOf st)[i]?=some (sa,na,pw):=by
  rw[<- bN,e,bu Aa,hu,gJ];rfl
 have e2:(pendingOf st)[i+1]?=some (sb,nb,w2):=by
  rw[<- bN,e,bu Aa,hu,cZ];rfl
 have z:=R.perm.size_eq;refine jJ1 R.kind R.failed (jVQ h0 R.perm) e1 e2 a4 a2 a5 Aa a3 a6 fun st' M=>?_;have ep:(pendingOf st').toList=u++(sa,na+nb,pw)::t:=by
  rw[M.pend,Array.toList_eraseIdxIfInBounds,iP,e,kh _ _ Aa,hu,gJ,List.set_cons_zero,List.eraseIdx_append_of_length_le Aa,hu,cZ];rfl
 refine h st' ⟨M.perm.trans R.perm,M.kind,M.failed,?_⟩ ?_ fun k hk=>M.out k Aa
 ·rw[ep];refine Runs.put (Runs.same r1 fun k k1 k2=>M.out k Aa) ⟨rfl,Aa,M.up,?_⟩;have:=Runs.same (ys:=arrOf st') a7 fun k k1 k2=>M.out k Aa;rw[Nat.add_assoc] at this;exact this
 ·have q1:=bY List.length ep;have q2:=bY List.length e;rw[aM,aJ,aV] at q1;rw[aM,aJ,aV,aV] at q2;lia
theorem RI.of {st:SortSt}{F:Nat->Int}{lo:Nat}{p:Array (Nat×Nat×Nat)}{xs:Array Keyed}(h:BB a₀ p F lo st)(hr:Runs xs p.toList 0 lo)(hF:∀ k,F k=KI xs k):RI a₀ lo st:=
 ⟨h.perm,h.kind,h.failed,by rw[h.pend]; exact hr.same fun k _ hk=>(h.low k hk).trans (hF k)⟩
theorem wpS_sortRunsAny {st:SortSt}{Q:Unit->SortSt->Prop}(h0:AllI a₀.toList)(hB:SB a₀ st)(h1:1<=a₀.size)
  (h:∀ st',(arrOf st').Perm a₀->failedOf st'=none->STo (arrOf st') a₀.size->Q () st'):wpS (model prog w) A E s sortRuns' Q st:=by
 rw[sortRuns'_eq];refine aL (gH ?_)
 try dsimp only
 have hz:=hB.size;rw[hz];generalize minRun' a₀.size a₀.size 0=mr;refine aL (dH (cg (I:=fun x c st'=>∃ lo,c=(none,lo)/\x<=lo/\lo<=a₀.size/\RI a₀ lo st')
  (Q:=fun c st'=>c=(none,a₀.size)/\RI a₀ a₀.size st') ?step ?fin ⟨0,rfl,aA _,bo _,hB.perm,hB.kind,hB.failed,by rw[hB.pend]; rfl⟩) ?post)
 case fin=>
  rintro c st' ⟨lo,rfl,l1,l2,R⟩;have:lo=a₀.size:=by lia
  subst this;exact⟨rfl,R⟩
 case step=>
  rintro x c st1 _ hx ⟨lo,rfl,l1,l2,R1⟩
  try dsimp only
  by_cases hl:lo ≥ a₀.size
  ·rw[ay hl];have:lo=a₀.size:=by lia
   subst this;exact aO ⟨rfl,R1⟩
  rw[aw hl];refine aL (jG3 (F:=fun k=>KI (arrOf st1) k) (p:=pendingOf st1) h0 Aa Aa ⟨R1.perm,R1.kind,R1.failed,rfl,fun _ _=>rfl⟩ fun m st2 B2 m1 m2 U2=>?_)
  try dsimp only
  by_cases hm:m<mr
  case' pos=>
   rw[ay hm];refine aL (hG (di ⟨rfl,?_⟩));refine aL (jEC h0 Aa Aa B2 U2 fun st4 B4 U4=>?_);have R4:=RI.of B4 R1.runs fun _=>rfl;have n0:0<min (a₀.size - lo) mr:=Aa;have n9:min (a₀.size - lo) mr<=a₀.size - lo:=Aa;generalize min (a₀.size - lo) mr=n at*
  case' neg=>
   rw[aw hm];have R4:=RI.of B2 R1.runs fun _=>rfl;have U4:=U2;generalize st2=st4 at*;generalize m=n at*
  all_goals
   refine aL (gH ?_);have last:∀ st5:SortSt,RI a₀ lo st5->Up (arrOf st5) lo n->∃ lo',(none,lo+n)=((none:Option PUnit),lo')/\x+1<=lo'/\lo'<=a₀.size/\RI a₀ lo' (setPending st5 ((pendingOf st5).push (lo,n,0))):=fun st5 R5 U5=>
    ⟨lo+n,rfl,Aa,Aa,R5.perm,R5.kind,R5.failed,by
     show Runs (arrOf st5) ((pendingOf st5).push (lo,n,0)).toList 0 (lo+n);rw[ev];exact R5.runs.put ⟨rfl,Aa,U5,rfl⟩⟩
   cases hb:(pendingOf st4).back? with
   | none=>
    try dsimp only
    exact aL (eZ (aO (last st4 R4 U4)))
   | some v=>
    obtain⟨s1,n1,w1⟩:=v
    try dsimp only
    refine aL (dH (cg (I:=fun _ c st'=>c=(none,())/\RI a₀ lo st'/\Up (arrOf st') lo n) (Q:=fun c st'=>c=(none,())/\RI a₀ lo st'/\Up (arrOf st') lo n) ?mstep (fun _ _ z=>z) ⟨rfl,R4,U4⟩) ?mpost)
    case mstep=>
     rintro y c st5 _ _ ⟨rfl,R5,U5⟩
     try dsimp only
     refine aL (gH ?_);by_cases hs:(pendingOf st5).size>1
     ·rw[ay hs];obtain⟨v,hv⟩:∃ v,(pendingOf st5)[(pendingOf st5).size - 2]?=some v:=⟨_,Array.getElem?_eq_getElem Aa⟩;rw[hv];obtain⟨v1,v2,older⟩:=v
      try dsimp only
      by_cases ho:older<=power' a₀.size (2*s1+n1) (2*s1+n1+n1+n) a₀.size
      ·rw[ay ho];exact aO ⟨rfl,R5,U5⟩
      rw[aw ho];refine aL (jEB h0 R5 Aa Aa fun st6 R6 _ E6=>?_);exact aO ⟨rfl,R6,U5.same fun k k1 _=>E6 k k1⟩
     ·rw[aw hs];exact aO ⟨rfl,R5,U5⟩
    case mpost=>
     rintro c st5 ⟨rfl,R5,U5⟩
     try dsimp only
     refine aL (eZ (aL (eZ (aO (last (setPending st5 ((pendingOf st5).modify ((pendingOf st5).size - 1) fun x=>(x.1,x.2.1,power' a₀.size (2*s1+n1) (2*s1+n1+n1+n) a₀.size))) ⟨R5.perm,R5.kind,R5.failed,?_⟩ U5)))));show Runs (arrOf st5) (Array.modify _ _ _).toList 0 lo;rw[Array.toList_modify];exact Runs.mod (f:=fun x=>(x.1,x.2.1,power' a₀.size (2*s1+n1) (2*s1+n1+n1+n) a₀.size)) (fun _=>⟨rfl,rfl⟩) R5.runs
 case post=>
  rintro c st1 ⟨rfl,R1⟩
  try dsimp only
  refine aL (dH (cg (I:=fun x c st'=>c=(none,())/\RI a₀ a₀.size st'/\1<=(pendingOf st').size/\(pendingOf st').size+x<=a₀.size)
   (Q:=fun c st'=>c=(none,())/\RI a₀ a₀.size st'/\(pendingOf st').size=1) ?step2 ?fin2 ⟨rfl,R1,?a1,?a2⟩) ?post2)
  case a1=>
   have:=R1.runs;cases hp:(pendingOf st1).toList with
   | nil=>
    rw[hp] at this;have:0=a₀.size:=this;lia
   | cons v t=>
    have:=bY List.length hp;rw[aM,aV] at this;lia
  case a2=>
   have:=R1.runs.le;rw[aM] at this;lia
  case fin2=>
   rintro c st2 ⟨_,_,h2,h3⟩;lia
  case post2=>
   rintro c st2 ⟨rfl,R2,h2⟩
   try dsimp only
   refine aO (h st2 R2.perm R2.failed ?_);have rr:=R2.runs;cases hp:(pendingOf st2).toList with
   | nil=>
    rw[<- aM,hp] at h2;cases h2
   | cons v t=>
    have:=bY List.length hp;rw[aM,h2,aV] at this;have:t=[]:=cO Aa;subst this;rw[hp] at rr;obtain⟨v1,v2,v3⟩:=v;obtain⟨q1,q2,q3,q4⟩:=rr;have q4:0+v2=a₀.size:=q4;subst q1;exact fun i j hij hj=>q3 i j (bo _) hij Aa
  case step2=>
   rintro x c st2 _ hx ⟨rfl,R2,h2,h3⟩
   try dsimp only
   refine aL (gH ?_);by_cases hs:(pendingOf st2).size<=1
   ·rw[ay hs];exact aO ⟨rfl,R2,Aa⟩
   rw[aw hs];refine aL (jEB h0 R2 (aA _) ?_ fun st3 R3 e3 _=>?_)
   ·have ite_le:∀ (c:Prop) [Decidable c] (a b:Nat),(if c then a else b)<=max a b:=fun c _ a b=>by
     by_cases z:c
     ·rw[ay z]; lia
     ·rw[aw z]; lia
    refine lz (Nat.add_le_add_right (ite_le _ _ _) 1) ?_;lia
   ·exact aO ⟨rfl,R3,Aa,Aa⟩
end
end TM
namespace TM
open PySem PySem.Spec PyProof.Rows
section
variable {prog:Program}{w:World}{A:Around}{E:Ah}{s:Shared}
abbrev turned (b:Bool)(xs:An):An:=if b then xs.reverse else xs
theorem jJ4 {b:Bool}{xs:An} :(turned b xs).size=xs.size:=by
 cases b
 ·rfl
 ·exact Array.size_reverse
theorem jDD (b:Bool)(vs:Al):(if b=true then (vs.toArray.zip vs.toArray).reverse else vs.toArray.zip vs.toArray).Perm (pairsOf vs):=by
 cases b with
 | false=>exact jy _
 | true=>exact cq.mpr (by show ((vs.toArray.zip vs.toArray).reverse).toList.Perm _; rw[dI]; exact List.reverse_perm _)
def AskOk [Od](prog:Program)(w:World)(A:Around)(s:Shared)(a:Addr)(vs:Al):Prop:=
 ∀ h6:Heap,(∀ c o,s.heap.get? c=some o->c≠a->h6.get? c=some o)->
  (∀ (Q:SortKind->Shared->Prop) (E:Ah),Q Od.kd { s with heap:=h6} ->wpAny (model prog w) A (keyKind' vs.toArray) Q E { s with heap:=h6})/\LtOk prog w A { s with heap:=h6}
theorem jKI [Od]{a:Addr}{vs:Al}{n:Nat}{b:Bool}{P:Fin->Shared->Prop}(ho:s.heap.get? a=some (seqObj "list" vs.toArray n))(hz:vs.length<=sizeLine)(hI:AllI (pairsOf vs).toList)(hk:2<=vs.length->AskOk prog w A s a vs)
  (h:∀ xs:Array Keyed,xs.Perm (pairsOf vs)->STo xs (pairsOf vs).size->P (.done (.ret .none)) { s with heap:=sortedHeap s.heap a vs (turned b (xs.map (·.2)))}):
  wpAny (model prog w) A (Builtin.«list.sort» ⟨[.ref a],[(Str.ofString "reverse", .bool b)]⟩) P E s:=by
 rw[list_sort_rev];have ha:=aG ho;have hz':vs.toArray.size<=sizeLine:=by rw[ar]; exact hz
 refine ae (gF ho rfl (ae (eJ ho rfl ?_ hz' (bo _))));obtain⟨e1,ho1⟩:∃ e1,(s.heap.update a (Obj.mapSeq fun _=>#[])).get? a=some (seqObj "list" #[] e1):=⟨_,gh ho _⟩;refine ae (iV ho1 rfl (ae (ku ?_ hz)));refine ae (eI (bS ?_));generalize hh6:((s.heap.update a (Obj.mapSeq fun _=>#[])).push (seqObj "tuple" vs.toArray 0)).push (seqObj "list" #[] 0)=h6;have ho6:h6.get? a=some (seqObj "list" #[] e1):=by
  rw[<- hh6];exact ah _ (ah _ ho1)
 have k6:∀ c o,s.heap.get? c=some o->c≠a->h6.get? c=some o:=fun c o q ne=>by
  rw[<- hh6];exact ah _ (ah _ ((bA _ _ (eh ne)).trans q))
 have sh:∀ out,sortedHeap s.heap a vs out=h6.update a (Obj.mapSeq fun _=>out):=fun out=>by rw[<- hh6]; rfl
 have go:∀ X:Sem Fin,wpAny (model prog w) A X P E { s with heap:=h6} ->wpAny (model prog w) A (if b=true then (do let _ <- rule "list.sort.reverse"; X) else X) P E { s with heap:=h6} :=fun X hX=>by
  cases b with
  | false=>exact hX
  | true=>exact ae (di hX)
 have hend:∀ st':SortSt,(arrOf st').Perm (pairsOf vs)->STo (arrOf st') (pairsOf vs).size->P (.done (.ret .none)) { s with heap:=h6.update a (Obj.mapSeq fun _=>turned b ((arrOf st').map (·.2)))} :=fun st' p1 p2=>by
  rw[<- sh];exact h _ p1 p2
 have hfit:∀ st':SortSt,(arrOf st').Perm (pairsOf vs)->(turned b ((arrOf st').map (·.2))).size<=sizeLine+1:=fun st' p1=>by
  rw[jJ4,size_map,p1.size_eq,pairsOf_size];lia
 dsimp only;refine go _ ?_;by_cases few:vs.toArray.size<2
 ·rw[ay few,ay few];refine ae (am ?_);rw[StateT.run_pure];refine ae (am ?_);dsimp only;refine ae (iV ho6 rfl (ae (eJ ho6 rfl ?_ (bo _) (hfit (SortSt.mk' general' _ #[] 7 none) (jDD b vs)))));rw[iW,aw az];refine am (hend (SortSt.mk' general' _ #[] 7 none) (jDD b vs) fun i j hij hj=>?_);have:i=j:=by
   rw[pairsOf_size] at hj;rw[ar] at few;lia
  rw[this];exact cY _
 ·rw[aw few,aw few];rw[ar] at few;obtain⟨kk,ll⟩:=hk Aa h6 k6;refine ae (kk _ _ (ae (ck (wpS_sortRunsAny (a₀:=pairsOf vs) (st:=SortSt.mk' Od.kd _ #[] 7 none)
   (Q:=fun _ st'=>(arrOf st').Perm (pairsOf vs)/\failedOf st'=none/\STo (arrOf st') (pairsOf vs).size)
   hI ⟨jDD b _,rfl,rfl,rfl⟩ (by rw[pairsOf_size]; lia) fun st' a1 a2 a3=>⟨a1,a2,a3⟩) ?_ fun _ _ e=>e)))
  rintro ⟨⟨⟩,st'⟩ s' ⟨rfl,p1,p2,p3⟩;dsimp only;refine ae (iV ho6 rfl (ae (eJ ho6 rfl ?_ (bo _) (hfit st' p1))));rw[p2];dsimp only;rw[iW,aw az];exact am (hend st' p1 p3)
theorem jNN (a:Addr):Builtin.«list.sort» ⟨[.ref a],[]⟩=Builtin.«list.sort» ⟨[.ref a],[(Str.ofString "reverse", .bool false)]⟩:=by
 rw[list_sort_plain,list_sort_rev];rfl
abbrev odI:Od:=⟨oneType',fun p=>numOf p.1,fun p=>∃ n t,p.1=Value.int n t⟩
theorem ltI: @LtOk prog w A s odI:= @LtOk.mk prog w A s odI fun {E st x y Q} hk hx hy h=>by
 obtain⟨a,t,ha⟩:=hx;obtain⟨b,u,hb⟩:=hy;have e1: @key odI x=a:=by show numOf x.1=a; rw[ha]; rfl
 have e2: @key odI y=b:=by show numOf y.1=b; rw[hb]; rfl
 rw[e1,e2] at h;rw[lt'_eq];refine aL (gH ?_);rw[show kindOf st=oneType' from hk,keyLt'_oneType,ha,hb];exact aL (hG (eG (oneLt_int ⟨rfl,aO h⟩)))
theorem stoI {xs:Array Keyed}{k:Nat}(h: @STo odI xs k):SortedTo xs k:=h
theorem askI {a:Addr}{vs:Al}{ns:Ag}(hI:IntsAre vs ns)(h2:2<=vs.length): @AskOk odI prog w A s a vs:=fun h6 _=>⟨fun Q E h=>by
 obtain⟨u,v,r,rfl⟩:∃ u v r,vs=u::v::r:=by
  match vs,h2 with
  | [_],few=>exact absurd few (show ¬ 2<=1 by decide)
  | u::v::r,_=>exact⟨u,v,r,rfl⟩
 rw[keyKind_ints hI];exact am h,ltI⟩
theorem sort_rev_any {a:Addr}{vs:Al}{ns:Ag}{n:Nat}{b:Bool}{P:Fin->Shared->Prop}(ho:s.heap.get? a=some (seqObj "list" vs.toArray n))(hI:IntsAre vs ns)(hz:vs.length<=sizeLine)
  (h:∀ (out:An) (ns':Ag),IntsAre out.toList ns'->ns'.Perm ns->Ordered b ns'->P (.done (.ret .none)) { s with heap:=sortedHeap s.heap a vs out}):
  wpAny (model prog w) A (Builtin.«list.sort» ⟨[.ref a],[(Str.ofString "reverse", .bool b)]⟩) P E s:=
 @jKI prog w A E s odI a vs n b P ho hz hI.intKeys (fun h2=>askI hI h2) fun xs p1 p2=>by
  obtain⟨ns',q1,q2,q3⟩:=sorted_out_rev hI p1 (stoI p2) b;exact h _ ns' q1 q2 q3
end
end TM
namespace L2
open PySem PySem.Spec PyProof.Rows
section
variable {prog:Program}{w:World}{A:Around}{E:Ah}{s:Shared}{d:Addr}{kvs:List (Key×Value)}
theorem jFV:∀ {vs:Al}{ks:Ag},vs.length=ks.length->(∀ (j:Nat) (v:Value),vs[j]?=some v->∃ i t,ks[j]?=some i/\v=Value.int i t)->IntsAre vs ks
 | [],[],_,_=> .nil
 | [],_::_,h,_=>by cases h
 | _::_,[],h,_=>by cases h
 | v::vs,a::r,h,hat=>by
  obtain⟨i,t,e1,rfl⟩:=hat 0 v rfl;cases e1;exact .cons _ t (jFV (Nat.succ.inj h) fun j v e=>hat (j+1) v e)
theorem jHH {Q:Ah}{ks:Ag}{b:Bool}(hh:A.handled=none)(lo:(d==sysModules)=false)(D:s.heap.DictOf (kU prog w) d kvs)(hk:kvs.map (·.1)=ks.map Sum.inl)(hz:ks.length<=sizeLine)
  (h:∀ (hf:Heap) (tk:Nat) (l:Addr) (vs:Al) (ns:Ag) (e:Nat),s.heap.objs.size<=l->(∀ b u,s.heap.get? b=some u->hf.get? b=some u)->
   hf.get? l=some { cls:= .type "list",data:= .seq vs.toArray e} ->IntsAre vs ns->ns.Perm ks->Ordered b ns->Q (.ref l) { s with heap:=hf,toks:=tk}):
  wpAny (model prog w) A (call (.builtin "sorted") [.ref d] [(Str.ofString "reverse", .bool b)]) Q E s:=by
 obtain⟨ep,hat⟩:=D.dictAt;have hlen:kvs.length=ks.length:=by
  have:=bY List.length hk
  rwa [af,af] at this
 refine call_function_entry_kw iS iu iw (args_sorted_rev _ _) ?_;unfold Builtin.«sorted»;refine ae (m:=checkCount "sorted" 1 1 _) (am ?_);refine ae (jK4 (A:=A.in1) (PySem.W.kdl_dict (knd:=kU prog w) (kvs:=kvs) (ep:=ep) lo) hh hat Aa fun h1 tk acc hk1 hlt1 hacc=>?_);have hal:acc.toList.length=ks.length:=by rw[aM,hacc.1,hlen]
 have hI:IntsAre acc.toList ks:=jFV hal fun j v e=>by
  obtain⟨k,x,hx,hv⟩:=hacc.2 j v (by rw[<- bN]; exact e);have e2:(kvs.map (·.1))[j]?=some k:=by rw[aS,hx]; rfl
  rw[hk,aS] at e2;cases hq:ks[j]? with
  | none=>rw[hq] at e2; cases e2
  | some i=>
   rw[hq] at e2;cases e2;rcases jA0 (show keyIs (Sum.inl i) v=true from hv) with ⟨i',t,q1,q2⟩ | ⟨x,t,q1,q2⟩
   ·cases q1;exact⟨i,t,rfl,q2⟩
   ·cases q1
 refine ae (eI ?_ Aa);have hL:(h1.push (seqObj "list" acc.toList.toArray 0)).get? h1.objs.size=some (seqObj "list" acc.toList.toArray 0):=aC _ rfl;show wpAny _ _ _ _ _ { s with heap:=h1.push (seqObj "list" acc.toList.toArray 0),toks:=tk};refine ae (bS (wpAny_call_entry_kw gE ⟨_,hL,rfl⟩ gf (TM.sort_rev_any hL hI Aa fun out ns' a1 a2 a3=>⟨_,rfl,?_⟩) (args_list_sort_rev _ _)));obtain⟨e,he⟩:=sortedHeap_at (out:=out) hL;have kept:∀ b u,s.heap.get? b=some u->(sortedHeap (h1.push (seqObj "list" acc.toList.toArray 0)) h1.objs.size acc.toList out).get? b=some u:=fun b u q=>by
  have q1:=hk1 b u q;have hb:b<h1.objs.size:=aG q1;rw[sortedHeap_old (aW hb) (by rw[gZ]; exact cN hb)];exact ah _ q1
 generalize sortedHeap (h1.push (seqObj "list" acc.toList.toArray 0)) h1.objs.size acc.toList out=hf at he kept ⊢;exact am ⟨_,rfl,h hf tk h1.objs.size out.toList ns' e (de hlt1) kept (by rw[cX]; exact he) a1 a2 a3⟩
end
def jQH (X:Cx)(f:Value)(ks:Am)(r:List V->List V->Hp->VK->Prop):Prop:=
 ∀ (lK:Ai) (s:Shared) (σ:St) (H:Hp) (xs zs:List V) (us ws:Al) (Q:VK),Inv X lK σ H s->Vals xs us->Vals zs ws->r xs zs H Q->
  wpAny (model X.prog X.w) X.A (call f us (ks.zip ws)) (EP X lK σ Q) X.xe s
def tCBK (r:List V->List V->Hp->VK->Prop)(t tk:TA):TE:=fun σ H Q=>t σ H fun vs H1=>tk σ H1 fun zs H2=>r vs zs H2 Q
structure JK (X:Cx)(kws:List Keyword)(t:TA):Prop where
 h:PK X kws t
variable {X:Cx}
section
variable {x:Str}{p pos kpos:Pos}{e:Expr}{es:List Expr}{kws:List Keyword}{t tk:TA}{te:TE}{nm:Option Str}{ks:Am}{id:String}{r:List V->List V->Hp->VK->Prop}
theorem jT6:JK X [] tNil:=⟨jWD⟩
theorem jP0 (ha:JE X e te)(hr:JK X kws t):JK X (⟨nm,e,kpos⟩::kws) (tCons te t):=⟨jU4 ha.h hr.h⟩
theorem jI9 (hc:jQH X (.builtin id) ks r)(hg:Gl1 X x)(hm:X.mg x=none)(hv:bootBuiltins x=some (.builtin id))(ha:JA X (e::es) t)(hkw:JK X kws tk)(he:starEach (e::es) X.env=(false,eval e X.env)::starEach es X.env)
  (hn:x≠ "__name__" :=by decide) (hdb:(x==("__debug__" :Str))=false:=by decide) (hall:(backToKw pos (keywordEach kws X.env)).all (·.1.isSome)=true:=by rfl) (hks:(backToKw pos (keywordEach kws X.env)).filterMap (·.1)=ks:=by rfl)
  (hpl:(backTo pos (starEach es X.env)).any (·.1)=false:=by rfl) (hkn:(backToKw pos (keywordEach kws X.env)).any (·.1.isNone)=false:=by rfl):JE X (.Call (.Name x p) (e::es) kws pos) (tCBK r t tk):=by
 refine⟨fun lK s σ H Q I h=>?_⟩;refine cS (jEY I hg.a hm hv ?_ hn hdb);refine callWith_kw (lN (ha.h pos lK s σ H _ I h) fun us s1 ⟨vs,H1,I1,r1,q1⟩=>lN (hkw.h pos lK s1 σ H1 _ I1 q1) fun ws s2 ⟨zs,H2,I2,rz,q2⟩=>?_) (by rw[he]; rfl) (by rw[he]; exact hpl) hall hkn;rw[hks];exact hc lK s2 σ H2 vs zs us ws Q I2 r1 rz q2
theorem jH3 (hc:X.calm=true):jQH X (.builtin "sorted") [Str.ofString "reverse"] (fun xs zs H Q=>∃ (p:Addr) (kvs:List (Key×V)) (ks:Ag) (b:Bool),xs=[.ref p]/\zs=[.bl b]/\H p=some (.dK kvs)/\kvs.map (·.1)=ks.map Sum.inl/\ks.length<=sizeLine/\
  ∀ (l:Addr) (ns:Ag),H l=none->Ordered b ns->ns.Perm ks->Q (.ref l) (upd H l (.lst (ns.map V.int)))):=by
 intro lK s σ H xs zs us ws Q I r rz h;obtain⟨p,kvs,ks,b,rfl,rfl,hp,hk,hn,q⟩:=h;obtain⟨u,rfl,rx⟩:=r.one;obtain⟨v,rfl,ry⟩:=rz.one;cases rx;cases ry;obtain⟨z,lo,vs,rel,dd⟩:=dk_of I.hok hp;refine jHH (I.ok.hd hc) lo dd (by rw[<- rel.keys]; exact hk) hn fun hf tk l vs ns e hl kp he hi pm srt=>?_;have hz:(ns.map V.int).length<=sizeLine:=by rw[af,pm.length_eq]; exact hn
 have I2:Inv X lK σ (upd H l (.lst (ns.map V.int))) { s with heap:=hf,toks:=tk} :=I.laid (t':=tk) kp hl ⟨hz,vs,e,jA9 hi,he⟩;exact⟨.ref l,_,I2,rfl,q l ns (I.hok.fresh hl) srt pm⟩
end
theorem jP9 {o:Expr}{to:TE}{name:Str}{apos cpos:Pos}{T id:String}{r:V->List V->Hp->VK->Prop}(pa:PlainAttrs T)(slot:Slot T name id)(hty:typeOf (.builtin id)=pure (.type "method_descriptor"))(hm:MtR X id r)(ho:JE X o to)
  (hbase:attributeBase o name X.env (eval o X.env)=eval o X.env:=by rfl) (hline:(apos.endLine==cpos.line)=true:=by rfl):JE X (.Call (.Attribute o name apos) [] [] cpos) (tBM0 X.K T r to):=⟨jWM pa slot hty hm ho.h hbase hline⟩
def rBits:V->List V->Hp->VK->Prop:=fun x vs H Q=>∃ i,x= .int i/\vs=[]/\Q (.int (Builtin.Int.intBits i)) H
theorem jOH:MtR X "int.bit_length" rBits:=by
 intro lK s σ H x vs v us Q I rx rv h;obtain⟨i,rfl,rfl,q⟩:=h;obtain⟨t,rfl⟩:=rx;have hus:=rv.zero;subst hus;exact call_int_bit_length ⟨.int _,H,I.tok _,⟨_,rfl⟩,q⟩
theorem jP6 {i o:Expr}{ty td:TE}{pos:Pos}(hu:X.A.units+1<cLine)(hi:JE X i ty)(ho:JE X o td)(h1:behindInMarks .NotIn o=false):JT X (.Compare i [.NotIn] [o] pos) (tB (jN6 ty td)):=⟨jSS (jNQ hu hi.h ho.h) h1⟩
def jVX (i:Int)(b:Bool):TE:=fun _ H Q=>∀ p H',H' p=some (.dK [(.inl i, .bl b)])->Ext H H'->H p=none->Q (.ref p) H'
theorem jRQ {i:Int}{b:Bool}{k1 k2:Nat}{p1 p2 pos:Pos} :JE X (.Dict [some (.Constant (.int i) k1 p1)] [.Constant (.bool b) k2 p2] pos) (jVX i b):=
 ⟨fun lK s σ H Q I h=>jUB (jQT je_int.h je_bl.h jU1) rfl rfl (by intro z; cases z) (by show 1<=15; decide) lK s σ H Q I fun p hp=>⟨j5,[(.inl i, .bl b)],rfl,by show 1<=15; decide,h p _ j5 (((Ext.refl H).new hp _).updNew hp _) hp⟩⟩
theorem jRZ {K:W.Frag}{tp:Bool}{l:Addr}{xs:List V}{g:TG}{tb:TS}{D:Ends}{σ:St}{H:Hp}(Pv:Nat->St->Hp->Prop)(h0:Pv 0 σ H)(hl:∀ i σ H,Pv i σ H->Sq tp K H l xs)
  (hs:∀ i x T σ H,xs[i]?=some x->H T=none->Pv i σ H->g (.ref T) σ (upd H T (.tup [.int (i:Int),x])) fun σ2 H2=>tb { D with nx:=Pv (i+1),ct:=Pv (i+1),bk:=D.nx} σ2 H2) (hd:∀ σ H,Pv xs.length σ H->D.nx σ H):
  ∃ W:Nat->Nat->St->Hp->Prop,(∃ m,W 0 m σ H)/\∀ i m σ H,W i m σ H->
   ((Ite tp K l).stop i H/\D.nx σ H)\/((Ite tp K l).go i H/\∃ N:St->Hp->Prop,(∀ σ' H',N σ' H'->∃ m',m'<m/\W (i+1) m' σ' H')/\∀ x H',(Ite tp K l).yld i H x H'->g x σ H' fun σ2 H2=>tb { D with nx:=N,ct:=N,bk:=D.nx} σ2 H2):=by
 refine⟨fun i m σ H=>m=xs.length - i/\i<=xs.length/\Pv i σ H,⟨_,rfl,bo _,h0⟩,?_⟩;rintro i m σ H ⟨rfl,hi,p⟩;have s1:=hl i σ H p;by_cases hlt:i<xs.length
 ·refine .inr ⟨⟨xs,xs[i],s1,by simp [hlt]⟩,Pv (i+1),fun σ' H' p'=>⟨xs.length - (i+1),Aa,rfl,hlt,p'⟩,fun v H'' y=>?_⟩;obtain⟨T,x,e1,e2,e3,e4⟩:=y;subst e2 e3;exact hs i x T σ _ (e4 xs s1) e1 p
 ·have e:i=xs.length:=Aa;subst e;exact .inl ⟨⟨xs,s1,aA _⟩,hd σ H p⟩
def All2 {α β:Type}(R:α->β->Prop):List α->List β->Prop
 | [],[]=>True
 | a::as,b::bs=>R a b/\All2 R as bs
 | _,_=>False
section
variable {α β:Type}{R S:α->β->Prop}
theorem All2.len:∀ {as:List α}{bs:List β},All2 R as bs->as.length=bs.length
 | [],[],_=>rfl
 | _::_,_::_,h=>bY (· +1) (All2.len h.2)
theorem All2.imp (f:∀ a b,R a b->S a b):∀ {as:List α}{bs:List β},All2 R as bs->All2 S as bs
 | [],[],_=>trivial
 | _::_,_::_,h=>⟨f _ _ h.1,All2.imp f h.2⟩
theorem All2.snoc {a:α}{b:β} :∀ {as:List α}{bs:List β},All2 R as bs->R a b->All2 R (as++[a]) (bs++[b])
 | [],[],_,h=>⟨h,trivial⟩
 | _::_,_::_,h,k=>⟨h.1,All2.snoc h.2 k⟩
theorem All2.get:∀ {as:List α}{bs:List β}{i:Nat}{b:β},All2 R as bs->bs[i]?=some b->∃ a,as[i]?=some a/\R a b
 | [],[],i,b,_,h=>by simp at h
 | a::_,_::_,0,b,h,e=>by
  simp at e;subst e;exact⟨a,rfl,h.1⟩
 | _::_,_::_,i+1,b,h,e=>by
  obtain⟨a,h1,h2⟩:=All2.get h.2 (i:=i) (b:=b) (by simpa using e);exact⟨a,by simpa using h1,h2⟩
theorem All2.get':∀ {as:List α}{bs:List β}{i:Nat}{a:α},All2 R as bs->as[i]?=some a->∃ b,bs[i]?=some b/\R a b
 | [],[],i,b,_,h=>by simp at h
 | a::_,b::_,0,x,h,e=>by
  simp at e;subst e;exact⟨b,rfl,h.1⟩
 | _::_,_::_,i+1,x,h,e=>by
  obtain⟨b,h1,h2⟩:=All2.get' h.2 (i:=i) (a:=x) (by simpa using e);exact⟨b,by simpa using h1,h2⟩
theorem All2.append:∀ {as as':List α}{bs bs':List β},All2 R as bs->All2 R as' bs'->All2 R (as++as') (bs++bs')
 | [],_,[],_,_,h=>h
 | _::_,_,_::_,_,h,k=>⟨h.1,All2.append h.2 k⟩
theorem All2.of_get {as:List α}{bs:List β}(hl:as.length=bs.length)(h:∀ (i:Nat) a b,as[i]?=some a->bs[i]?=some b->R a b):All2 R as bs:=by
 induction as generalizing bs with
 | nil=>cases bs with
  | nil=>trivial
  | cons b bs=>cases hl
 | cons a as ih=>cases bs with
  | nil=>cases hl
  | cons b bs=>exact⟨h 0 a b rfl rfl,ih (by simpa using hl) fun i a b h1 h2=>h (i+1) a b (by simpa using h1) (by simpa using h2)⟩
end
def lowN (m:Nat):Nat:=if m % 2=1 then lowN (m / 2)+1 else 0
theorem jEU {m:Nat}(h:m % 2=0):lowN m=0:=by
 unfold lowN;rw[aw Aa]
theorem jGN {m:Nat}(h:m % 2=1):lowN m=lowN (m / 2)+1:=by
 rw[lowN,ay h]
theorem jVP (a b:Nat):a&&&b=2*((a / 2)&&&(b / 2))+(a % 2)*(b % 2):=by
 have h1:(a&&&b) / 2=(a / 2)&&&(b / 2):=Nat.and_div_two;have h2:(a&&&b) % 2=(a % 2)*(b % 2):=by
  have t:=eg a b 0;rw[fz,fz,fz] at t;have t':((a&&&b) % 2=1)↔(a % 2=1/\b % 2=1):=by
   rw[<- hV.trans (and_congr br br),<- t,br]
  rcases dv a with ha | ha <;> rcases dv b with hb | hb <;> rw[ha,hb] at t' ⊢ <;> lia
 lia
theorem jV1 (m:Nat):(m+1) - ((m+1)&&&m)=2 ^ lowN m:=by
 induction m using strongRecOn with
 | _ m ih=>
  rw[jVP];rcases dv m with h | h
  ·rw[jEU h,show (m+1) / 2=m / 2 by lia,Nat.and_self,h];lia
  ·have:=ih (m / 2) Aa;rw[jGN h,Nat.pow_succ,show (m+1) / 2=m / 2+1 by lia,show (m+1) % 2=0 by lia];lia
theorem jRH (m:Nat):Builtin.Int.intBits (Builtin.bitAnd (Builtin.bitNot (m:Int)) ((m:Int)+1))=lowN m+1:=by
 have e:Builtin.bitAnd (Builtin.bitNot (m:Int)) ((m:Int)+1)=((2 ^ lowN m:Nat):Int):=by
  unfold Builtin.bitAnd;have h1:¬ (0<=Builtin.bitNot (m:Int)):=by unfold Builtin.bitNot; lia
  have h2:(0:Int)<=(m:Int)+1:=Aa;have h3:(Builtin.bitNot (Builtin.bitNot (m:Int))).toNat=m:=by unfold Builtin.bitNot; lia
  rw[aN h1,ax h2];show ((m:Int)+1) - ((((m:Int)+1).toNat&&&(Builtin.bitNot (Builtin.bitNot (m:Int))).toNat:Nat):Int)=_;rw[h3,show ((m:Int)+1).toNat=m+1 by lia,<- jV1 m];have:(m+1)&&&m<=m+1:=Nat.and_le_left;lia
 rw[e];unfold Builtin.Int.intBits;have hp:0<2 ^ lowN m:=dA _;have h0:((((2 ^ lowN m:Nat):Int))==0)=false:=by
  rw[cm];lia
 rw[h0];simp [Nat.log2_two_pow]
theorem jET (m:Nat):m.testBit (lowN m)=false:=by
 induction m using strongRecOn with
 | _ m ih=>
  rcases dv m with h | h
  ·rw[jEU h,fz,h];rfl
  ·rw[jGN h,Nat.testBit_succ];exact ih _ Aa
theorem jGM (m:Nat):∀ j,j<lowN m->m.testBit j=true:=by
 induction m using strongRecOn with
 | _ m ih=>
  intro j hj;rcases dv m with h | h
  ·rw[jEU h] at hj;lia
  ·rw[jGN h] at hj;cases j with
   | zero=>rw[fz,h]; rfl
   | succ j=>
    rw[Nat.testBit_succ];exact ih _ Aa j Aa
theorem jT0 {m t:Nat}(h1:m.testBit t=false)(h2:∀ j,j<t->m.testBit j=true):lowN m=t:=by
 rcases gA (lowN m) t with h | h | h
 ·have:=h2 _ h;rw[jET] at this;cases this
 ·exact h
 ·have:=jGM m t h;rw[h1] at this;cases this
theorem jPJ {m w:Nat}(h:m<2 ^ w)(a:∀ j,j<w->m.testBit j=true):m=2 ^ w - 1:=by
 apply eE;intro i;rw[da];by_cases hi:i<w
 ·rw[a i hi,ax hi]
 ·rw[aN hi];exact gL (aX h (ci Ac Aa))
theorem jD0 {m w:Nat}(h:m<2 ^ w)(hn:m≠2 ^ w - 1):lowN m<w:=by
 refine bM fun z=>hn (jPJ h fun j hj=>jGM m j Aa)
abbrev Ch:=List (List (Int×Nat))
def fullN (ch:Ch):Nat:=2 ^ ch.length - 1
def chAt (ch:Ch)(m:Nat):List (Int×Nat):=(ch.getD (lowN m) []).filter fun c=>c.2&&&m==0
structure ChOk (ch:Ch):Prop where
 w:ch.length<=16
 len:∀ (t:Nat) (cs:List (Int×Nat)),ch[t]?=some cs->cs.length<=33
 it:∀ (t:Nat) (cs:List (Int×Nat)),ch[t]?=some cs->∀ c∈cs,c.2.testBit t=true/\c.2<2 ^ ch.length/\ -1<=c.1/\c.1<32
theorem ChOk.mem {ch:Ch}{m:Nat}{c:Int×Nat}(o:ChOk ch)(h:m<2 ^ ch.length)(hn:m≠fullN ch)(hc:c∈chAt ch m):c.2.testBit (lowN m)=true/\c.2<2 ^ ch.length/\c.2&&&m=0/\ -1<=c.1/\c.1<32:=by
 obtain⟨h1,h2⟩:=ba.mp hc;have hl:=jD0 h hn;rw[aj,aq hl] at h1;obtain⟨a,b,c1,c2⟩:=o.it _ _ (aq hl) c h1;exact⟨a,b,by simpa using h2,c1,c2⟩
theorem ChOk.up {ch:Ch}{m:Nat}{c:Int×Nat}(o:ChOk ch)(h:m<2 ^ ch.length)(hn:m≠fullN ch)(hc:c∈chAt ch m):m<m|||c.2/\m|||c.2<2 ^ ch.length:=by
 obtain⟨a,b,z,_⟩:=o.mem h hn hc;refine⟨?_,iX h b⟩;refine Nat.lt_of_le_of_ne Nat.left_le_or fun e=>?_;have t:m.testBit (lowN m)=(m|||c.2).testBit (lowN m):=bY (fun z=>z.testBit (lowN m)) e;rw[b7,a,fw,jET] at t;cases t
def gvN {α:Type}(ch:Ch)(e:α)(J:List (Int×α)->α):Nat->Nat->α
 | 0,_=>e
 | n+1,m=>if m=fullN ch then e else J ((chAt ch m).map fun c=>(c.1,gvN ch e J n (m|||c.2)))
def gv {α:Type}(ch:Ch)(e:α)(J:List (Int×α)->α)(m:Nat):α:=gvN ch e J (fullN ch - m) m
theorem jVA {α:Type}{ch:Ch}{e:α}{J:List (Int×α)->α}(o:ChOk ch):∀ (k n m:Nat),fullN ch - m<=k->fullN ch - m<=n->m<2 ^ ch.length->gvN ch e J n m=gvN ch e J k m:=by
 intro k
 induction k with
 | zero=>
  intro n m h1 h2 h3;have:m=fullN ch:=by
   unfold fullN at h1 ⊢;lia
  subst this;cases n with
  | zero=>rfl
  | succ n=>show gvN ch e J (n+1) (fullN ch)=e; rw[gvN,ay rfl]
 | succ k ih=>
  intro n m h1 h2 h3;by_cases hm:m=fullN ch
  ·subst hm;cases n with
   | zero=>show e=gvN ch e J (k+1) (fullN ch); rw[gvN,ay rfl]
   | succ n=>
    have q:∀ i,gvN ch e J (i+1) (fullN ch)=e:=fun i=>by rw[gvN,ay rfl]
    rw[q,q]
  ·have hlt:m<fullN ch:=by
    unfold fullN at hm ⊢;lia
   cases n with
   | zero=>lia
   | succ n=>
    rw[gvN,aw hm,gvN,aw hm];congr 1;refine cM fun c hc=>?_;obtain⟨u1,u2⟩:=o.up h3 hm hc;rw[ih n (m|||c.2) Aa Aa u2]
theorem jV9 {α:Type}{ch:Ch}{e:α}{J:List (Int×α)->α} :gv ch e J (fullN ch)=e:=by
 unfold gv;rw[gJ,gvN]
theorem jV8 {α:Type}{ch:Ch}{e:α}{J:List (Int×α)->α}{m:Nat}(o:ChOk ch)(h:m<2 ^ ch.length)(hn:m≠fullN ch):gv ch e J m=J ((chAt ch m).map fun c=>(c.1,gv ch e J (m|||c.2))):=by
 have hlt:m<fullN ch:=by
  unfold fullN at hn ⊢;lia
 have:gv ch e J m=gvN ch e J ((fullN ch - m - 1)+1) m:=by
  unfold gv;rw[show fullN ch - m - 1+1=fullN ch - m by lia]
 rw[this,gvN,aw hn];congr 1;refine cM fun c hc=>?_;obtain⟨u1,u2⟩:=o.up h hn hc;unfold gv;rw[jVA o (fullN ch - (m|||c.2)) _ _ (aA _) Aa u2]
end L2
namespace L2
open PySem
variable {X:Cx}
section
variable {tg iter elt:Expr}{ifs:List Expr}{sc:Scope}{pos:Pos}{wi:TI}{g:TG}{tt:TT}{te:TE}{m:List (Option Nat)}{Nc:Am}
end
end L2
namespace L2
open PySem PySem.Spec PyProof.Rows
def ZC (cl:Aj)(fs:Am)(fv:List V):Shared->Hp->Prop:=fun s H=>ClOk cl s H/\FvOk fs fv cl s
theorem ZC.st (cl:Aj)(fs:Am)(fv:List V):ZSt (ZC cl fs fv):=by
 rintro fr s s' H H' u ⟨C,F1,F2⟩;have kc:∀ {x c v},cl.lookup x=some c->s.heap.IsCell c v->s'.heap.IsCell c v:=fun {x c v} hc ⟨o,ho,hd⟩=>by
  obtain⟨sl,e⟩:=u.any ho (C.cell x c hc).2 Ad;exact⟨_,e,hd⟩
 refine⟨⟨C.inj,fun x c hc=>?_⟩,F1,fun i x v h1 h2=>?_⟩
 ·obtain⟨⟨v,o,ho,hd⟩,n⟩:=C.cell x c hc;exact⟨⟨v,kc hc ⟨o,ho,hd⟩⟩,u.free c o ho n Ad⟩
 ·obtain⟨c,w,a1,a2,a3⟩:=F2 i x v h1 h2;exact⟨c,w,a1,a2,kc a1 a3⟩
theorem Callee.ofN {P:Program}{w:World}{K:W.Frag}{mg:Ak}{Aq:Heap}{k:Nat}{x q:Str}{args:Arguments}{body:List Stmt}{scope:Scope}{ps fs:Am}{sp:List V->Sp}{cl:Aj}{fv:List V}{a c:Addr}(F:FnN P w K mg Aq k x q args body scope ps fs sp):
  Callee P w K mg Aq (ZC cl fs fv) (fun H=>H a=some (.ext (nfP x q args body scope cl a c))/\H c=some (.ext (ncP q c))) k a (sp fv):=by
 refine⟨fun A Ap s H e z=>?_,fun A Ap s H us vs Q E hr e0 hz zh r hsp=>?_⟩
 ·obtain⟨⟨d,m,t,g⟩,_,_⟩:=(show ObjOk P w H s.heap a (.ext _) from e.hok a _ z.1);exact⟨_,_,_,_,g⟩
 ·obtain⟨p1,_,_⟩:=(show ObjOk P w H s.heap a (.ext _) from e0.hok a _ zh.1);obtain⟨p2,_,_⟩:=(show ObjOk P w H s.heap c (.ext _) from e0.hok c _ zh.2);exact F.run A Ap s H a c cl us vs fv Q E hr e0 p1 p2 hz.1 hz.2 r hsp
def jVZ {ι:Type}(G:ι->St->Prop)(sp:ι->Sp)(t:TA):TE:=fun σ H Q=>t σ H fun vs H1=>∃ i,G i σ/\sp i vs H1 Q E0
theorem jLB {ι:Type}{X:Cx}{Z:ι->Shared->Hp->Prop}{G:ι->St->Prop}{k:Nat}{f:Addr}{fd:FuncData}{ps:Am}{sp:ι->Sp}{x:Str}{p pos:Pos}{e:Expr}{es:List Expr}{t:TA}(F:∀ i,FnZ X.prog X.w X.K X.mg X.Aq CX0 (Z i) k f fd ps (sp i))(hr:Room k X.A)(hg:Gl1 X x)(hm:X.mg x=some (.ref f))(hk:keepIn X.K (.ref f)=true)(hb:Binds X.K fd ps [])
  (hZ:∀ i lK s σ H,Inv X lK σ H s->G i σ->Z i s H) (ha:JA X (e::es) t) (he:starEach (e::es) X.env=(false,eval e X.env)::starEach es X.env) (hdb:(x==("__debug__" :Str))=false:=by decide) (hpl:(backTo pos (starEach es X.env)).any (·.1)=false:=by rfl):
  JE X (.Call (.Name x p) (e::es) [] pos) (jVZ G sp t):=by
 refine⟨fun lK s σ H Q I h=>?_⟩;refine cS (jJM I hg.a hm ?_ hdb);refine lw (h₀:=X.Aq) I.ok.mod.kin hk (lN (ha.h pos lK s σ H _ I h) fun us s1 ⟨vs,H1,I1,r,i,gi,q⟩=>⟨I1.kIn,?_⟩) he hpl;have hl:(us++[]).length=ps.length:=by rw[bg,<- r.length]; exact(F i).len _ _ _ _ q
 have b:=hb s1 us I1.kIn hl;rw[bg] at b;refine iF (dQ ((F i).run X.A X.stack s1 H1 ⟨us,[]⟩ us vs Q E0 hr I1.env0 b r (hZ i _ _ _ _ I1 gi) q) fun r s' hq=>?_);cases r with
 | error e=>exact hq.elim
 | ok fl=>
  cases fl with
  | ret u=>exact I1.after hq
  | next=>exact False.elim hq
  | brk=>exact False.elim hq
  | cont=>exact False.elim hq
theorem jRO {P:Program}{w:World}{K:W.Frag}{mg:Ak}{Aq:Heap}{N:Am}{qual:Str}{sc:Scope}{f:Addr}{cd:Value}{cl:Aj}{A:Around}{Ap:List Env}{s:Shared}{H:Hp}{x y:Str}{p1 p2 pos:Pos}{k i j:Nat}(hN:N.Nodup)(hi:N[i]?=some x)(hj:N[j]?=some y)(hx:sc.names.lookup x=some .local)(hy:sc.names.lookup y=some .local):
  JG (cxN P w K mg Aq N qual sc f cd cl A Ap s H) (.Tuple [.Name x p1, .Name y p2] k pos) (gTup K 2 (gCons (kL i) (gCons (kL j) gNil))):=
 jP2 (X:=cxN P w K mg Aq N qual sc f cd cl A Ap s H) rfl (jC1 (jJ hN hi (loc_n hx)) (jC1 (jJ hN hj (loc_n hy)) jJS jDO) jDO)
end L2
namespace TM
open PySem PySem.Spec PyProof.Rows PySem.W
open HT (lexLt lexLt_cons)
open L2 (All2)
theorem lex_irr:∀ x:Ag,lexLt x x=false
 | []=>rfl
 | a::x=>by rw[lexLt_cons,ay rfl]; exact lex_irr x
theorem lex_tr:∀ {x y z:Ag},lexLt x y=true->lexLt y z=true->lexLt x z=true
 | [],[],_,h,_=>by cases h
 | [],_::_,[],_,h=>by cases h
 | [],_::_,_::_,_,_=>rfl
 | _::_,[],_,h,_=>by cases h
 | _::_,_::_,[],_,h=>by cases h
 | a::x,b::y,c::z,h,k=>by
  rw[lexLt_cons] at h k ⊢;by_cases e1:a=b
  ·rw[ay e1] at h;by_cases e2:b=c
   ·rw[ay e2] at k;rw[ay (e1.trans e2)];exact lex_tr h k
   ·rw[aw e2] at k;rw[aw (e1 ▸ e2),e1];exact k
  ·rw[aw e1] at h;have h:=aI h;by_cases e2:b=c
   ·rw[aw (e2 ▸ e1),<- e2];exact ax h
   ·rw[aw e2] at k;have k:=aI k;rw[aw Aa];exact ax Aa
theorem lex_tot:∀ {x y:Ag},lexLt x y=false->lexLt y x=false->x=y
 | [],[],_,_=>rfl
 | [],_::_,h,_=>by cases h
 | _::_,[],_,h=>by cases h
 | a::x,b::y,h,k=>by
  rw[lexLt_cons] at h k;by_cases e:a=b
  ·rw[ay e] at h;rw[ay e.symm] at k;rw[e,lex_tot h k]
  ·rw[aw e] at h;rw[aw (fun z=>e z.symm)] at k;have:=gq h;have:=gq k;lia
def rk (ws:Af)(x:Ag):Int:=((ws.countP fun z=>lexLt z x:Nat):Int)
theorem jH0 {p q:Ag->Bool}(h:∀ z,p z=true->q z=true):∀ ws:Af,ws.countP p<=ws.countP q
 | []=>aA _
 | a::ws=>by
  have:=jH0 h ws;rw[cF,cF];have:=h a;cases hp:p a <;> cases hq:q a <;> simp_all <;> lia
theorem jLL {p q:Ag->Bool}(h:∀ z,p z=true->q z=true){x:Ag}(hp:p x=false)(hq:q x=true):∀ {ws:Af},x∈ws->ws.countP p<ws.countP q
 | a::ws,hx=>by
  rw[cF,cF];rcases aE.mp hx with e | hx
  ·have:=jH0 h ws;rw[<- e,hp,hq];simp;lia
  ·have:=jLL h hp hq hx;have:=h a;cases hpa:p a <;> cases hqa:q a <;> simp_all <;> lia
theorem rk_lt {ws:Af}{x y:Ag}(hx:x∈ws):decide (rk ws x<rk ws y)=lexLt x y:=by
 unfold rk;cases h:lexLt x y with
 | true=>
  have:=jLL (p:=fun z=>lexLt z x) (q:=fun z=>lexLt z y) (fun z hz=>lex_tr hz h) (lex_irr x) h hx;exact ax Aa
 | false=>
  refine aN ?_;by_cases k:lexLt y x=true
  ·have:=jH0 (p:=fun z=>lexLt z y) (q:=fun z=>lexLt z x) (fun z hz=>lex_tr hz k) ws;lia
  ·have:=lex_tot h (cj.mpr k);rw[this];lia
variable {prog:Program}{w:World}{A:Around}{E:Ah}{s:Shared}
section
variable {kd:SortKind}{f:Value->Ag}
abbrev odL (kd:SortKind)(f:Value->Ag)(ks:Al):Od:=⟨kd,fun p=>rk (ks.map f) (f p.1),fun p=>p.1∈ks⟩
theorem ltL {ks:Al}(hlt:∀ u∈ks,∀ v∈ks,∀ (Q:Bool->Shared->Prop) (E:Ah),Q (lexLt (f u) (f v)) s->wpAny (model prog w) A (keyLt' kd u v) Q E s): @LtOk prog w A s (odL kd f ks):= @LtOk.mk prog w A s (odL kd f ks) fun {E st x y Q} hk hx hy h=>by
 have e:decide (@key (odL kd f ks) x< @key (odL kd f ks) y)=lexLt (f x.1) (f y.1):=rk_lt (bO hx);rw[e] at h;rw[lt'_eq];refine aL (gH ?_);rw[show kindOf st=kd from hk];exact aL (hG (eG (hlt x.1 hx y.1 hy _ _ ⟨rfl,aO h⟩)))
theorem jHV {vs:Al}{p:Keyed}(h:p∈(pairsOf vs).toList):p.1=p.2/\p.1∈vs:=by
 rw[pairsOf_toList] at h;exact mem_zip_self h
theorem allL {vs:Al} : @AllI (odL kd f vs) (pairsOf vs).toList:=fun p hp=>(jHV hp).2
theorem sto_out {vs:Al}{xs:Array Keyed}(p:xs.Perm (pairsOf vs))(h: @STo (odL kd f vs) xs (pairsOf vs).size):(xs.map (·.2)).toList.Perm vs/\(xs.map (·.2)).toList.Pairwise fun u v=>lexLt (f v) (f u)=false:=by
 have pl:=cq.mp p;have me:∀ q∈xs.toList,q.1=q.2/\q.1∈vs:=fun q hq=>jHV (pl.mem_iff.mp hq);have sz:xs.size=(pairsOf vs).size:=p.size_eq;rw[Array.toList_map];constructor
 ·have:=pl.map Prod.snd;rw[pairsOf_toList,List.map_snd_zip (aA _)] at this;exact this
 ·rw[bh,bL];intro i j hi hj hij;rw[aM] at hi hj;have k:=h i j (de hij) Aa;have ei:xs[i]?=some xs[i]:=iy _ i hi;have ej:xs[j]?=some xs[j]:=iy _ j hj;have m1:=me xs[i] Ad;have m2:=me xs[j] Ad;rw[@KI_key (odL kd f vs) _ _ _ ei,@KI_key (odL kd f vs) _ _ _ ej] at k;have e:decide (@key (odL kd f vs) xs[j]< @key (odL kd f vs) xs[i])=lexLt (f xs[j].1) (f xs[i].1):=rk_lt (bO m2.2);rw[eF,eF,<- m1.1,<- m2.1,<- e];exact aN Aa
end
def TupI (h:Heap)(v:Value)(l:Ag):Prop:=∃ a n its,v= .ref a/\h.get? a=some { cls:= .type "tuple",data:= .seq its n} /\IntsAre its.toList l
def decV (h:Heap):Value->Ag
 | .ref a=>match h.get? a with
  | some o=>match o.data with
   | .seq xs _=>xs.toList.map numOf
   | _=> []
  | none=> []
 | _=> []
theorem TupI.dec {h:Heap}{v:Value}{l:Ag}(t:TupI h v l):decV h v=l:=by
 obtain⟨a,n,its,rfl,ho,hi⟩:=t;dsimp only [decV];rw[ho];exact hi.nums
theorem jNV {b:Bool}{x y:Int}{t u:Tok}{Q:Bool->Shared->Prop}(h:Q (decide (x<y)) s):wpAny (model prog w) A (oneLt' b (.int x t) (.int y u)) Q E s:=by
 cases b with
 | true=>exact oneLt_int h
 | false=>exact kat_one _ _ (HT.rcLt_int A s x t y u prog w E _ h)
theorem jT3 {b fin:Bool}{Q:Bool->Shared->Prop} :∀ {us:Al}{x:Ag}{vs:Al}{y:Ag}(i:Nat),IntsAre us x->IntsAre vs y->fin=decide (us.length<vs.length)->Q (lexLt x y) s->KatLex prog w A b fin Q (us.zip vs) i s
 | _,_,_,_,i, .nil, .nil,hf,h=>by rw[hf]; exact h
 | _,_,_,_,i, .nil, .cons _ _ _,hf,h=>by rw[hf]; exact h
 | _,_,_,_,i, .cons _ _ _, .nil,hf,h=>by rw[hf]; exact h
 | _,_,_,_,i, .cons (ns:=ns) a t h1, .cons (ns:=ms) c u h2,hf,h=>by
  rw[dS];refine kat_cons (eX a t c u prog w _ _ ?_);rw[lexLt_cons] at h;by_cases e:a=c
  ·rw[ay e] at h;rw[show (a==c)=true by simp [e]];refine kat_yes (jT3 (i+1) h1 h2 ?_ h);rw[hf,aV,aV];exact jg.mpr Aa
  ·rw[aw e] at h;rw[show (a==c)=false by simp [e]];exact kat_no (jNV h)
theorem jOL {b:Bool}{u v:Value}{x y:Ag}{Q:Bool->Shared->Prop}(hu:TupI s.heap u x)(hv:TupI s.heap v y)(h:Q (lexLt x y) s):wpAny (model prog w) A (keyLt' (tuples' b) u v) Q E s:=by
 obtain⟨a,n,its,rfl,ho,hi⟩:=hu;obtain⟨a2,n2,its2,rfl,ho2,hi2⟩:=hv;exact kat_lt ho rfl ho2 rfl (jT3 0 hi hi2 rfl h)
theorem jMN (x y:Value):keyLt' general' x y=oneLt' false x y:=rfl
theorem jMF {u v:Value}{x y:Ag}{Q:Bool->Shared->Prop}(hu:TupI s.heap u x)(hv:TupI s.heap v y)(room:A.units<cLine)(h:Q (lexLt x y) s):wpAny (model prog w) A (keyLt' general' u v) Q E s:=by
 obtain⟨a,n,its,rfl,ho,hi⟩:=hu;obtain⟨a2,n2,its2,rfl,ho2,hi2⟩:=hv;rw[jMN];exact kat_one _ _ (HT.lt_tupInts (items:=its) (items2:=its2) ⟨_,ho,rfl,n,rfl⟩ ⟨_,ho2,rfl,n2,rfl⟩ hi hi2 room h)
theorem jME {u v:Value}{x y:Ag}{Q:Bool->Shared->Prop}(hu:TupI s.heap u x)(hv:TupI s.heap v y)(room:A.units<cLine)(h:Q (lexLt x y) s):wpAny (model prog w) A (keyLt' oneType' u v) Q E s:=by
 obtain⟨a,n,its,rfl,ho,hi⟩:=hu;obtain⟨a2,n2,its2,rfl,ho2,hi2⟩:=hv;rw[keyLt'_oneType,oneLt'_eq];simp only [g5];refine ae (wpAny_cRoomFor room ?_);have hT:s.TypeIs (.ref a) "tuple" :=⟨_,ho,rfl⟩;refine ae (wpAny_callSpecialIfBound?_slot hT gR (fm gR hT jm (i8 _ _) (HT.tuple_lt_ints a a2 its its2 n n2 _ _ _ _ x y hi hi2) ⟨ho,ho2,?_⟩));exact dJ h
def FsOf:List (Ao)->Af->Prop:=All2 fun o l=>(o=none/\l=[])\/∃ n t r,o=some (Value.int n t)/\l=n::r
theorem jTA:∀ {vs:Al}{ws:Af},All2 (TupI s.heap) vs ws->∃ fs,FsOf fs ws/\∀ (Q:List (Ao)->Shared->Prop) (E:Ah),Q fs s->wpAny (model prog w) A (vs.mapM firstOfTuple') Q E s
 | [],[],_=>⟨[],trivial,fun Q E h=>by rw[List.mapM_nil]; exact am h⟩
 | v::vs,l::ws,⟨⟨a,n,its,e,ho,hi⟩,r⟩=>by
  obtain⟨fs,h1,h2⟩:=jTA r;refine⟨its[0]?::fs,⟨?_,h1⟩,fun Q E h=>?_⟩
  ·obtain⟨li⟩:=its;cases hi with
   | nil=>exact .inl ⟨rfl,rfl⟩
   | cons c t _=>exact .inr ⟨c,t,_,rfl,rfl⟩
  ·rw[List.mapM_cons,e];refine ae ?_;rw[kas_first_eq];refine ae (Looks.here (show Looks (model prog w) s.heap (typeOf (.ref a)) (.type "tuple") from(Looks.ld ho).andThen .now) ?_);rw[aw (by first | decide | simp)];refine ae (gF ho rfl (am ?_));exact ae (h2 _ _ (am h))
theorem jPK:∀ {fs:List (Ao)}{ws:Af},FsOf fs ws->fs.all (·.isSome)=ws.all fun x=>!x.isEmpty
 | [],[],_=>rfl
 | o::fs,l::ws,⟨h,r⟩=>by
  rw[fg,fg,jPK r];rcases h with ⟨rfl,rfl⟩ | ⟨n,t,r,rfl,rfl⟩ <;> rfl
theorem jJX:∀ {fs:List (Ao)}{ws:Af},FsOf fs ws->∀ v∈fs.filterMap id,∃ n t,v=Value.int n t
 | [],[],_,v,h=>by cases h
 | o::fs,l::ws,⟨h,r⟩,v,hv=>by
  rcases h with ⟨rfl,rfl⟩ | ⟨n,t,r',rfl,rfl⟩
  ·exact jJX r v (by simpa using hv)
  ·rw[eQ] at hv;rcases aE.mp hv with e | hv
   ·exact⟨n,t,e⟩
   ·exact jJX r v hv
def kdOf (ws:Af):SortKind:=if (ws.all fun x=>!x.isEmpty)=true then tuples' true else if (ws.headD []).isEmpty=true then oneType' else general'
theorem jKU {T:Value}{vs:Al}(ne:vs≠ [])(hT:∀ v∈vs,Looks (model prog w) s.heap (typeOf v) T)(hT2:(T==T)=true){Q:Ao->Shared->Prop}(h:Q (some T) s):wpAny (model prog w) A (oneTypeOnly' vs.toArray) Q E s:=by
 obtain⟨v,r,rfl⟩:=dW ne;rw[oneTypeOnly'_eq,List.mapM_toArray,map_eq_pure_bind];refine ae (ae (kas_mapM (r:=T) _ (fun v hv Q' hq=>(hT v hv).here hq) (am ?_)));have hall2:((List.map (fun _=>T) (v::r)).toArray.all fun x=>x==T)=true:=by
  simp only [List.all_toArray,ix,bK];intro _ _;exact hT2
 have h0:(List.map (fun _=>T) (v::r)).toArray[0]?=some T:=Ad;rw[h0];simp only [hall2,g5];exact am h
theorem jQN {v:Value}{l:Ag}(h:TupI s.heap v l):Looks (model prog w) s.heap (typeOf v) (.type "tuple"):=by
 obtain⟨a,n,its,rfl,ho,_⟩:=h;exact(Looks.ld ho).andThen .now
theorem jV3 {vs:Al}{ws:Af}{Q:SortKind->Shared->Prop}(t:All2 (TupI s.heap) vs ws)(h2:vs≠ [])(h:Q (kdOf ws) s):wpAny (model prog w) A (keyKind' vs.toArray) Q E s:=by
 obtain⟨fs,f1,f2⟩:=jTA (prog:=prog) (w:=w) (A:=A) t;rw[kat_kind_eq,List.mapM_toArray,map_eq_pure_bind];refine ae (ae (f2 _ _ (am ?_)));have e:=jPK f1;have ha:(fs.toArray.all fun x=>x.isSome)=fs.all (·.isSome):=Ad;unfold kdOf at h;rw[ha,e];cases hc:(ws.all fun x=>!x.isEmpty) with
 | true=>
  rw[hc,ay rfl] at h;rw[ay rfl];refine ae (di ?_);have hf:(fs.toArray.filterMap id)=(fs.filterMap id).toArray:=Ad;rw[hf];have ne:fs.filterMap id≠ []:=by
   intro z;obtain⟨v,vs',rfl⟩:=dW h2;cases ws with
   | nil=>exact t.elim
   | cons l ws=>
    cases fs with
    | nil=>exact f1.elim
    | cons o fs=>
     rcases f1.1 with ⟨_,q⟩ | ⟨n,t',r,q,_⟩
     ·rw[q] at hc; simp at hc
     ·rw[q,eQ] at z; cases z
  refine ae (jKU (T:= .type "int") ne (fun v hv=>?_) rfl (am ?_))
  ·obtain⟨n,t',e⟩:=jJX f1 v hv;rw[e];exact .now
  ·exact h
 | false=>
  rw[hc,aw az] at h;rw[aw az];obtain⟨v,vs',rfl⟩:=dW h2;cases ws with
  | nil=>exact t.elim
  | cons l ws=>
   cases fs with
   | nil=>exact f1.elim
   | cons o fs=>
    have h0:(o::fs).toArray[0]?=some o:=Ad;rw[h0];rcases f1.1 with ⟨q,q2⟩ | ⟨n,t',r,q,q2⟩
    ·rw[q2] at h;rw[q,aw Ad];refine ae (jKU (T:= .type "tuple") h2 (fun u hu=>?_) rfl (am h));obtain⟨i,hi⟩:=bq hu;obtain⟨l',_,hl⟩:=t.get' hi;exact jQN hl
    ·rw[q2] at h;rw[q,ay Ad];exact am h
theorem lt_kd {ws:Af}{u v:Value}{x y:Ag}{Q:Bool->Shared->Prop}(hu:TupI s.heap u x)(hv:TupI s.heap v y)(room:A.units<cLine)(h:Q (lexLt x y) s):wpAny (model prog w) A (keyLt' (kdOf ws) u v) Q E s:=by
 unfold kdOf;split
 ·exact jOL hu hv h
 ·split
  ·exact jME hu hv room h
  ·exact jMF hu hv room h
theorem askT {f:Value->Ag}{a:Addr}{vs:Al}{ws:Af}(t:All2 (TupI s.heap) vs ws)(hf:∀ v l,v∈vs->TupI s.heap v l->f v=l)(na:∀ v∈vs,v≠ .ref a)(room:A.units<cLine)(h2:2<=vs.length): @AskOk (odL (kdOf ws) f vs) prog w A s a vs:=fun h6 k6=>by
 have keep:∀ v l,v∈vs->TupI s.heap v l->TupI h6 v l:=fun v l hv ⟨c,n,its,e,ho,hi⟩=>⟨c,n,its,e,k6 _ _ ho fun z=>na v hv (by rw[e,z]),hi⟩;have t6:All2 (TupI h6) vs ws:=by
  have go:∀ {us:Al}{ls:Af},(∀ v∈us,v∈vs)->All2 (TupI s.heap) us ls->All2 (TupI h6) us ls:=by
   intro us
   induction us with
   | nil=>intro ls _ h; cases ls with
    | nil=>trivial
    | cons _ _=>exact h.elim
   | cons u us ih=>intro ls hm h; cases ls with
    | nil=>exact h.elim
    | cons l ls=>exact⟨keep u l (hm u (ai ..)) h.1,ih (fun v hv=>hm v (ag _ hv)) h.2⟩
  exact go (fun v hv=>hv) t
 have ne:vs≠ []:=fun z=>by rw[z] at h2; exact absurd h2 Ac
 refine⟨fun Q E h=>jV3 (s:= { s with heap:=h6}) t6 ne h,ltL fun u hu v hv Q E h=>?_⟩;obtain⟨i,hi⟩:=bq hu;obtain⟨j,hj⟩:=bq hv;obtain⟨x,_,hx⟩:=t.get' hi;obtain⟨y,_,hy⟩:=t.get' hj;rw[hf u x hu hx,hf v y hv hy] at h;exact lt_kd (s:= { s with heap:=h6}) (keep _ _ hu hx) (keep _ _ hv hy) room h
theorem sorted_gen [Od]{l:Addr}{vs:Al}{Q:Ah}(hl:s.heap.IsList l vs.toArray)(hz:vs.length<=sizeLine)(hI:AllI (pairsOf vs).toList)
  (hk:2<=vs.length->∀ (h5:Heap) (a:Addr),(∀ c o,s.heap.get? c=some o->h5.get? c=some o)->s.heap.objs.size<=a->AskOk prog w A.in1.in1 { s with heap:=h5} a vs)
  (h:∀ xs:Array Keyed,xs.Perm (pairsOf vs)->STo xs (pairsOf vs).size->Q (.ref (s.heap.objs.size+1)) { s with heap:=sortedAll s.heap vs (xs.map (·.2))}):
  wpAny (model prog w) A (call (.builtin "sorted") [.ref l]) Q E s:=by
 refine fJ iS iu iw (args_sorted1 _) ?_;unfold Builtin.«sorted»;refine ae (m:=checkCount "sorted" 1 1 _) (am ?_);refine ae (collect_list hl ?_ hz);refine ae (eI ?_ hz);have hsz:((s.heap.push (seqObj "list" #[] 0)).update s.heap.objs.size (Obj.mapSeq (· ++vs.toArray))).objs.size=s.heap.objs.size+1:=by
  rw[g0,gZ]
 have hoL:(((s.heap.push (seqObj "list" #[] 0)).update s.heap.objs.size (Obj.mapSeq (· ++vs.toArray))).push (seqObj "list" vs.toArray 0)).get? (s.heap.objs.size+1)=some (seqObj "list" vs.toArray 0):=by
  rw[<- hsz]; exact aC _ rfl
 have k5:∀ c o,s.heap.get? c=some o->(((s.heap.push (seqObj "list" #[] 0)).update s.heap.objs.size (Obj.mapSeq (· ++vs.toArray))).push (seqObj "list" vs.toArray 0)).get? c=some o:=fun c o q=>by
  refine ah _ ?_;rw[bA _ _ (cR (aG q))];exact ah _ q
 show wpAny _ _ _ _ _ { s with heap:=((s.heap.push (seqObj "list" #[] 0)).update s.heap.objs.size (Obj.mapSeq (· ++vs.toArray))).push (seqObj "list" vs.toArray 0)};rw[hsz];refine ae (bS (cD gE ⟨_,hoL,rfl⟩ gf (by
  rw[jNN];exact jKI hoL hz hI (fun h2=>hk h2 _ _ k5 (dz _)) fun xs p1 p2=>⟨_,rfl,am ⟨_,rfl,h xs p1 p2⟩⟩) (args_list_sort _)))
end TM
namespace L2
open PySem PySem.Spec PyProof.Rows
variable {X:Cx}
def TsOf (H:Hp)(us:List V)(ws:Af):Prop:=All2 (fun v x=>∃ a,v=V.ref a/\H a=some (.tup (x.map V.int))) us ws
theorem TsOf.tups {lK:Ai}{σ:St}{H:Hp}{s:Shared}(I:Inv X lK σ H s):∀ {us:List V}{its:Al}{ws:Af},Vals us its->TsOf H us ws->All2 (TM.TupI s.heap) its ws
 | [],_,[], .nil,_=>trivial
 | _::_,_,_::_, .cons r rs,⟨⟨a,e,h⟩,t⟩=>by
  subst e;cases r;obtain⟨_,its,r2,n,ho⟩:=(show ObjOk X.prog X.w H s.heap a (.tup _) from I.hok a _ h);exact⟨⟨a,n,its.toArray,rfl,ho,jFX r2⟩,TsOf.tups I rs t⟩
def refV:Value->V
 | .ref a=> .ref a
 | _=> .non
theorem jKA {h:Heap} :∀ {its:Al}{ws:Af},All2 (TM.TupI h) its ws->its.map (TM.decV h)=ws
 | [],[],_=>rfl
 | _::_,_::_,⟨t,r⟩=>by rw[bf,t.dec,jKA r]
theorem ts_at {H:Hp}{us:List V}{its:Al}{ws:Af}{h:Heap}(r:Vals us its)(t:TsOf H us ws)(d:All2 (TM.TupI h) its ws){v:Value}(hv:v∈its):∃ a,v= .ref a/\H a=some (.tup ((TM.decV h v).map V.int)):=by
 induction r generalizing ws with
 | nil=>cases hv
 | cons q rs ih=>
  cases ws with
  | nil=>exact t.elim
  | cons l ws=>
   obtain⟨⟨a,e,ha⟩,t⟩:=t;rcases aE.mp hv with z | hv
   ·subst e;cases q;rw[z,d.1.dec];exact⟨a,rfl,ha⟩
   ·exact ih t d.2 hv
theorem jVW {H:Hp}{h:Heap}{out:Al} :(∀ v∈out,∃ a,v= .ref a/\H a=some (.tup ((TM.decV h v).map V.int)))->Vals (out.map refV) out/\TsOf H (out.map refV) (out.map (TM.decV h)):=by
 induction out with
 | nil=>exact fun _=>⟨.nil,trivial⟩
 | cons v out ih=>
  intro k;obtain⟨a,rfl,ha⟩:=k v (ai ..);obtain⟨i1,i2⟩:=ih fun u hu=>k u (ag _ hu);exact⟨.cons rfl i1,⟨a,rfl,ha⟩,i2⟩
theorem jD8 (hu:X.A.units+101<cLine):yR X (.builtin "sorted") (fun xs H Q=>∃ (p:Addr) (us:List V) (ws:Af),xs=[.ref p]/\SqL X.K H p us/\TsOf H us ws/\
  ∀ (l:Addr) (us':List V) (ws':Af),H l=none->TsOf H us' ws'->ws'.Perm ws->ws'.Pairwise (fun x y=>HT.lexLt y x=false)->Q (.ref l) (upd H l (.lst us'))):=by
 intro lK s σ H xs us Q I r h;obtain⟨p,us,ws,rfl,hp,ht,q⟩:=h;obtain⟨u,rfl,rx⟩:=r.one;cases rx;obtain⟨its,r',pl,hz⟩:=I.list hp;have hlen:=r'.length;have d:=TsOf.tups I r' ht;have hat:=fun v (hv:v∈its)=>ts_at r' ht d hv;refine @TM.sorted_gen _ _ _ _ _ (TM.odL (TM.kdOf ws) (TM.decV s.heap) its) _ _ _ pl.isList Aa TM.allL (fun h2 h5 a k5 ha=>?_) fun out p1 p2=>?_
 ·have keep:∀ {vs:Al}{ls:Af},All2 (TM.TupI s.heap) vs ls->All2 (TM.TupI h5) vs ls:=fun h=>All2.imp (fun v l ⟨c,n,its,e,ho,hi⟩=>⟨c,n,its,e,k5 _ _ ho,hi⟩) h;refine TM.askT (s:= { s with heap:=h5}) (keep d) (fun v l hv t=>?_) (fun v hv e=>?_) (by rw[dE,dE]; lia) h2
  ·obtain⟨i,hi⟩:=bq hv;obtain⟨l',hl',t'⟩:=d.get' hi;obtain⟨l2,hl2,t2⟩:=(keep d).get' hi;rw[hl'] at hl2;cases hl2;rw[t'.dec,<- t2.dec];exact t.dec
  ·obtain⟨c,e2,hc⟩:=hat v hv;obtain⟨_,its2,_,n,ho⟩:=(show ObjOk X.prog X.w H s.heap c (.tup _) from I.hok c _ hc);rw[e2] at e;cases e;exact absurd (aG ho) (Nat.not_lt.mpr ha)
 ·obtain⟨o1,o2⟩:=TM.sto_out p1 p2;obtain⟨v1,v2⟩:=jVW (H:=H) (h:=s.heap) (out:=(out.map (·.2)).toList) fun v hv=>hat v (o1.mem_iff.mp hv);obtain⟨e,he⟩:=sortedAll_at s.heap its (out.map (·.2));have hz2:((out.map (·.2)).toList.map refV).length<=sizeLine:=by
   rw[af,o1.length_eq];lia
  have I2:Inv X lK σ (upd H (s.heap.objs.size+1) (.lst ((out.map (·.2)).toList.map refV))) { s with heap:=sortedAll s.heap its (out.map (·.2))} :=I.laid (t':=s.toks) (fun b o e=>sortedAll_old e) (dz _) ⟨hz2,(out.map (·.2)).toList,e,v1,by rw[cX]; exact he⟩;refine⟨.ref _,_,I2,rfl,q _ _ ((out.map (·.2)).toList.map (TM.decV s.heap)) (I.hok.fresh (dz _)) v2 ?_ ?_⟩
  ·rw[<- jKA d];exact o1.map _
  ·exact bh.mpr o2
theorem jGO:∀ {x y:Af},x.Perm y->x.Pairwise (fun a b=>HT.lexLt b a=false)->y.Pairwise (fun a b=>HT.lexLt b a=false)->x=y
 | [],y,p,_,_=>(List.nil_perm.mp p).symm
 | a::x,[],p,_,_=>absurd (List.perm_nil.mp p) Ad
 | a::x,b::y,p,h,k=>by
  obtain⟨h1,h2⟩:=cU.mp h;obtain⟨k1,k2⟩:=cU.mp k;have e:a=b:=by
   refine TM.lex_tot ?_ ?_
   ·rcases aE.mp (p.mem_iff.mp (ai ..)) with z | z
    ·rw[z]; exact TM.lex_irr b
    ·exact k1 a z
   ·rcases aE.mp (p.mem_iff.mpr (ai ..)) with z | z
    ·rw[z]; exact TM.lex_irr a
    ·exact h1 b z
  subst e;rw[jGO (List.perm_cons a |>.mp p) h2 k2]
structure KeyS where
 TK:Heap->Value->Ag->Prop
 KR:Hp->V->Ag->Prop
 kd:Af->SortKind
 dc:Heap->Value->Ag
structure KeyOk (S:KeyS):Prop where
 of:∀ {P:Program}{w:World}{H:Hp}{h:Heap}{v:V}{u:Value}{l:Ag},HOk P w H h->RelV v u->S.KR H v l->S.TK h u l
 mono:∀ {H H':Hp}{v:V}{l:Ag},TupsK H H'->S.KR H v l->S.KR H' v l
 dec:∀ {h:Heap}{u:Value}{l:Ag},S.TK h u l->S.dc h u=l
 kind:∀ {prog:Program}{w:World}{A:Around}{E:Ah}{s:Shared}{vs:Al}{ws:Af}{Q:SortKind->Shared->Prop},All2 (S.TK s.heap) vs ws->vs≠ []->Q (S.kd ws) s->wpAny (model prog w) A (keyKind' vs.toArray) Q E s
 lt:∀ {prog:Program}{w:World}{A:Around}{E:Ah}{s:Shared}{ws:Af}{u v:Value}{x y:Ag}{Q:Bool->Shared->Prop},S.TK s.heap u x->S.TK s.heap v y->A.units+2<cLine->Q (HT.lexLt x y) s->wpAny (model prog w) A (keyLt' (S.kd ws) u v) Q E s
variable {S:KeyS}
section
variable {prog:Program}{w:World}{A:Around}{E:Ah}{s:Shared}
abbrev odK (S:KeyS)(ws:Af)(h:Heap)(ks:Al):TM.Od:=⟨S.kd ws,fun p=>TM.rk (ks.map (S.dc h)) (S.dc h p.1),fun p=>p.1∈ks⟩
theorem ltK (ok:KeyOk S){ks:Al}{ws:Af}(t:All2 (S.TK s.heap) ks ws)(room:A.units+2<cLine): @TM.LtOk prog w A s (odK S ws s.heap ks):= @TM.LtOk.mk prog w A s (odK S ws s.heap ks) fun {E st x y Q} hk hx hy h=>by
 have e:decide (@TM.key (odK S ws s.heap ks) x< @TM.key (odK S ws s.heap ks) y)=HT.lexLt (S.dc s.heap x.1) (S.dc s.heap y.1):=TM.rk_lt (bO hx);rw[e] at h;rw[lt'_eq];refine aL (gH ?_);rw[show kindOf st=S.kd ws from hk];obtain⟨i,hi⟩:=bq hx;obtain⟨j,hj⟩:=bq hy;obtain⟨l1,_,t1⟩:=t.get' hi;obtain⟨l2,_,t2⟩:=t.get' hj;rw[ok.dec t1,ok.dec t2] at h;exact aL (hG (eG (ok.lt t1 t2 room ⟨rfl,aO h⟩)))
theorem jOT (ok:KeyOk S){D kS:Addr}{its ks:Al}{ws:Af}{e1 e:Nat}{P:PySem.Fin->Shared->Prop}(hl:ks.length=its.length)(hz:its.length<=sizeLine)(t:All2 (S.TK s.heap) ks ws)(room:A.units+2<cLine)
  (hD:s.heap.get? D=some (seqObj "list" #[] e1)) (hK:s.heap.get? kS=some (seqObj "list" ks.toArray e)) (ne:D≠kS)
  (h:∀ ps:List (Value×Value),ps.Perm (ks.zip its)->ps.Pairwise (fun p q=>HT.lexLt (S.dc s.heap q.1) (S.dc s.heap p.1)=false)->
   P (.done (.ret .none)) { s with heap:=(s.heap.update kS (Obj.mapSeq fun _=>#[])).update D (Obj.mapSeq fun _=>(ps.map Prod.snd).toArray)}):
  wpAny (model prog w) A (ksk_end D false its.toArray e1 (.ref kS) ks.toArray) P E s:=by
 have hpz:(ks.toArray.zip its.toArray).toList=ks.zip its:=Ad;have hpn:(ks.toArray.zip its.toArray).size=its.length:=by rw[<- aM,hpz,jz]; lia
 have hD2:(s.heap.update kS (Obj.mapSeq fun _=>(#[]:An))).get? D=some (seqObj "list" #[] e1):=(bA _ _ (eh ne)).trans hD;have tail:∀ st:SortSt,failedOf st=none->(arrOf st).Perm (ks.toArray.zip its.toArray)->(arrOf st).toList.Pairwise (fun p q=>HT.lexLt (S.dc s.heap q.1) (S.dc s.heap p.1)=false)->wpAny (model prog w) A (ksk_tail D false e1 (.ref kS) st) P E s:=fun st hf hp hs=>by
  unfold ksk_tail;dsimp only;refine ae (eJ hK rfl ?_ (by rw[ar]; lia) (bo _));refine ae (wpAny_letGo ?_);refine ae (iV hD2 rfl ?_);refine ae (eJ hD2 rfl ?_ (bo _) ?_)
  ·rw[hf];simp only [iW,iQ,ja];refine am ?_;have:=h (arrOf st).toList (by rw[<- hpz]; exact cq.mp hp) hs;have e:∀ xs:Array Keyed,(xs.toList.map Prod.snd).toArray=xs.map (·.2):=fun xs=>by rw[<- Array.toList_map,cX]
   rw[e] at this;exact this
  ·simp only [iQ,ja];rw[size_map,hp.size_eq,hpn];lia
 unfold ksk_end;dsimp only;simp only [iQ,ja];by_cases few:its.toArray.size<2
 ·rw[ay few,ay few];refine ae (am ?_);rw[StateT.run_pure];refine ae (am ?_);dsimp only;refine tail (SortSt.mk' general' _ #[] 7 none) rfl (jy _) ?_;show (ks.toArray.zip its.toArray).toList.Pairwise _;rw[hpz];rw[ar] at few;have:(ks.zip its).length<=1:=by rw[jz]; lia
  match hq:ks.zip its,this with
  | [],_=>exact .nil
  | [_],_=>exact eV _ _
 ·rw[aw few,aw few];rw[ar] at few;have nek:ks≠ []:=fun z=>by rw[z] at hl; simp at hl; lia
  have allk: @TM.AllI (odK S ws s.heap ks) (ks.toArray.zip its.toArray).toList:=fun p hp=>by
   rw[hpz] at hp;exact(dN hp).1
  letI iO:TM.Od:=odK S ws s.heap ks
  haveI iL:TM.LtOk prog w A s:=ltK ok t room
  refine ae (ok.kind t nek (ae (ck (TM.wpS_sortRunsAny (a₀:=ks.toArray.zip its.toArray) (st:=SortSt.mk' (S.kd ws) _ #[] 7 none)
   (Q:=fun _ st'=>(arrOf st').Perm (ks.toArray.zip its.toArray)/\failedOf st'=none/\TM.STo (arrOf st') (ks.toArray.zip its.toArray).size)
   allk ⟨jy _,rfl,rfl,rfl⟩ (by rw[hpn]; lia) fun st' a1 a2 a3=>⟨a1,a2,a3⟩) ?_ fun _ _ e=>e)))
  rintro ⟨⟨⟩,st'⟩ s' ⟨rfl,p1,p2,p3⟩;dsimp only at p1 p2 p3 ⊢;refine tail st' p2 p1 ?_;have pl:=cq.mp p1;rw[bL];intro i j hi hj hij;rw[aM] at hi hj;have sz:=p1.size_eq;have k:=p3 i j (de hij) Aa;have ei:(arrOf st')[i]?=some (arrOf st')[i]:=iy _ i hi;have ej:(arrOf st')[j]?=some (arrOf st')[j]:=iy _ j hj;have m2:(arrOf st')[j].1∈ks:=allk _ (pl.mem_iff.mp Ad);rw[@TM.KI_key (odK S ws s'.heap ks) _ _ _ ei,@TM.KI_key (odK S ws s'.heap ks) _ _ _ ej] at k;have e:decide (@TM.key (odK S ws s'.heap ks) (arrOf st')[j]< @TM.key (odK S ws s'.heap ks) (arrOf st')[i])=HT.lexLt (S.dc s'.heap (arrOf st')[j].1) (S.dc s'.heap (arrOf st')[i].1):=TM.rk_lt (bO m2);rw[eF,eF,<- e];exact aN (Int.not_lt.mpr k)
end
theorem Un.out {fs:List Addr}{H H':Hp}{h h1 h2:Heap}(u:Un fs [] H H' h h1)(k:∀ b,b<h.objs.size->h2.get? b=h1.get? b):Un fs [] H H' h h2 where
 keep b o e n f x:=(k b (aG e)).trans (u.keep b o e n f x)
 slot b o e n f x:=by obtain⟨sl,q⟩:=u.slot b o e n f x; exact⟨sl,(k b (aG e)).trans q⟩
 free:=u.free
 there b o e x:=by obtain⟨o',q⟩:=u.there b o e x; exact⟨o',(k b (aG e)).trans q⟩
 tups:=u.tups
 frzs:=u.frzs
 tbls:=u.tbls
theorem Un.track {P:Program}{w:World}{fs:List Addr}{H H':Hp}{h h1:Heap}{D:Addr}{o:HO}(ok:HOk P w H h)(u:Un fs [] H H' h h1)(hD:h.objs.size<=D):Un fs [] H (upd H' D o) h h1 where
 keep:=u.keep
 slot:=u.slot
 free b ob e n x:=by rw[j9 (aW (aX (aG e) hD))]; exact u.free b ob e n x
 there:=u.there
 tups b xs e:=by rw[j9 (aW (aX (ok.lt e) hD))]; exact u.tups b xs e
 frzs b ob q e:=by rw[j9 (aW (aX (ok.lt e) hD))]; exact u.frzs b ob q e
 tbls b ps e:=by rw[j9 (aW (aX (ok.lt e) hD))]; exact u.tbls b ps e
theorem HOk.adopt {P:Program}{w:World}{H:Hp}{h:Heap}{D:Addr}{o:HO}(ok:HOk P w H h)(hn:H D=none)(new:ObjOk P w (upd H D o) h D o):HOk P w (upd H D o) h:=fun b u e=>by
 by_cases hb:b=D
 ·subst hb; rw[j5] at e; cases e; exact new
 ·rw[j9 hb] at e;exact(ok b u e).stay (fun c v _ q=>q) (fun c q=>by rw[j9 (jA q hn)]; exact q) fun c xs q=>by rw[j9 (jA q hn)]; exact q
theorem Inv.repin {lK:Ai}{σ:St}{H:Hp}{s:Shared}{D kS:Addr}{oD oK oK':Obj}{f:Obj->Obj}(I:Inv X (lK++[(D,oD),(kS,oK)]) σ H s)(fk:FpOk X lK H kS)(ne:D≠kS)(e:(s.heap.update kS f).get? kS=some oK')(hc:∀ v,oK'.data≠ .cell v):
  Inv X (lK++[(D,oD),(kS,oK')]) σ H { s with heap:=s.heap.update kS f} :=by
 obtain⟨f0,f1,f2,f3,f4,f5⟩:=fk;have I1:Inv X (lK++[(D,oD)]) σ H s:=I.pins_of fun p hp=>I.pin p (aF _ (by
  rcases aP.mp hp with z | z
  ·exact aZ _ z
  ·exact aF _ (by rw[aK] at z; rw[z]; exact ai ..)))
 have I2:Inv X (lK++[(D,oD)]) σ H { s with heap:=s.heap.update kS f,toks:=s.toks} :=I1.turned (it:=kS) (fun b o hb q=>(bA _ _ (eh hb)).trans q) f0 f1 f3 f4 fun p hp=>by
  rcases aP.mp hp with z | z
  ·exact f5 p (aZ _ z)
  ·rcases aP.mp z with z | z
   ·exact f5 p (aF _ z)
   ·rw[aK] at z;rw[z];exact ne
 refine I2.pins_of fun p hp=>?_;rcases aP.mp hp with z | z
 ·exact I2.pin p (aF _ (aZ _ z))
 ·rcases aE.mp z with z | z
  ·exact I2.pin p (aF _ (aF _ (by rw[z]; exact ai ..)))
  ·rw[aK] at z;rw[z];exact⟨e,f0,f1,f2,hc⟩
theorem jL7 (ok:KeyOk S){k:Nat}{q:Addr}{zh:Hp->Prop}{sp:Sp}(F:Callee X.prog X.w X.K X.mg X.Aq ZT zh k q sp)(zo:∀ H H',Ext H H'->zh H->zh H')(hr:Room k X.A.in1.in1){lK:Ai}{σ:St}{H:Hp}{s:Shared}{D kS:Addr}{oD:Obj}{us:List V}{KF:V->Ag}{E:Ah}
  (hkey:∀ v∈us,∀ (H1:Hp) (Q1:VK),Ext H H1->(∀ r H2,S.KR H2 r (KF v)->Ext H1 H2->Q1 r H2)->sp [v] H1 Q1 E0) (fk:FpOk X lK H kS) (ne:D≠kS) (hkS:s.heap.objs.size<=kS)
  {body:Value->PUnit->Sem (ForInStep PUnit)}(hb:∀ x (sj:Shared) (C:ForInStep PUnit->Shared->Prop),wpAny (model X.prog X.w) X.A.in1.in1 (call (.ref q) [x]) (fun kv s''=>∃ ks e,s''.heap.get? kS=some (seqObj "list" ks e)/\ks.size<sizeLine/\C (.yield ⟨⟩) { s'' with heap:=s''.heap.update kS (Obj.mapSeq (·.push kv))}) (fun _ _=>False) sj->wpAny (model X.prog X.w) X.A.in1.in1 (body x ⟨⟩) C E sj):
  ∀ (r:Al) (rv:List V) (ks:Al) (kvs dn:List V) (e:Nat) (sj:Shared) (Hj:Hp),Vals rv r->(∀ v∈rv,v∈us)->ks.length+r.length<=sizeLine->
   Inv X (lK++[(D,oD),(kS,seqObj "list" ks.toArray e)]) σ Hj sj->Un (frs X.stack) [] H Hj s.heap sj.heap->Ext H Hj->zh Hj->Vals kvs ks->All2 (fun kv v=>S.KR Hj kv (KF v)) kvs dn->
   wpAny (model X.prog X.w) X.A.in1.in1 (forIn r PUnit.unit body) (fun _ s'=>∃ ks' kvs' e' H',Inv X (lK++[(D,oD),(kS,seqObj "list" ks'.toArray e')]) σ H' s'/\Un (frs X.stack) [] H H' s.heap s'.heap/\Ext H H'/\Vals kvs' ks'/\All2 (fun kv v=>S.KR H' kv (KF v)) kvs' (dn++rv)) E sj
 | [],rv,ks,kvs,dn,e,sj,Hj,hv,hm,hz,I,u,ex,z,hk,al=>by
  rw[List.forIn_nil];cases hv;exact am ⟨ks,kvs,e,Hj,I,u,ex,hk,by rw[bg]; exact al⟩
 | x::r,rv,ks,kvs,dn,e,sj,Hj,hv,hm,hz,I,u,ex,z,hk,al=>by
  cases hv with
  | @cons v _ rv' _ rx rs=>
  rw[aV] at hz;rw[List.forIn_cons];refine ae (hb x sj _ ?_);have sp1:=hkey v (hm v (ai ..)) Hj (fun r H2=>S.KR H2 r (KF v)/\Ext Hj H2) ex fun r H2 h1 h2=>⟨h1,h2⟩;refine iF (dQ (F.run X.A.in1.in1 X.stack sj Hj [x] [v] _ E0 hr I.env0.in1.in1 trivial z (.cons rx .nil) sp1) fun fr s' hq=>?_);cases fr with
  | error e=>exact hq.elim
  | ok fl=>
   cases fl with
   | ret kv=>
    obtain⟨v',H2,os,bare,un,hok,rel,kr,e2⟩:=hq;have I2:=Inv.call' I os un hok bare fun b z=>absurd z Ad;obtain⟨gk,nk,_,_,_⟩:=I2.pin (kS,seqObj "list" ks.toArray e) (aF _ (aF _ (ag _ (ai ..))));have ea:ks.toArray.push kv=(ks++[kv]).toArray:=Ad;obtain⟨c2,hc2⟩:∃ c2,(s'.heap.update kS (Obj.mapSeq (·.push kv))).get? kS=some (seqObj "list" (ks++[kv]).toArray c2):=⟨_,by rw[<- ea]; exact gh gk (·.push kv)⟩;have I3:=I2.repin (oK':=seqObj "list" (ks++[kv]).toArray c2) ⟨nk,fk.2⟩ ne hc2 (by intro v q; cases q);refine⟨_,e,gk,by rw[ar]; lia,?_⟩;show wpAny (model X.prog X.w) X.A.in1.in1 (forIn r PUnit.unit body) _ E _;have u3:=(u.trans un).out (h2:=s'.heap.update kS (Obj.mapSeq (·.push kv))) fun b hb=>bA _ _ (cR (aX hb hkS));have:=jL7 ok F zo hr hkey fk ne hkS hb r rv' (ks++[kv]) (kvs++[v']) (dn++[v]) c2 _ H2 rs (fun w hw=>hm w (ag _ hw)) (by rw[aJ,gS]; lia) I3 u3 (ex.trans e2) (zo _ _ e2 z) (hk.append (.cons rel .nil)) (All2.snoc (All2.imp (fun a b q=>ok.mono (fun c xs h=>e2 c _ h) q) al) kr);rw[aY] at this;exact this
   | next=>exact False.elim hq
   | brk=>exact False.elim hq
   | cont=>exact False.elim hq
theorem jT1 (ok:KeyOk S){P:Program}{w:World}{H:Hp}{h:Heap}(hk:HOk P w H h){KF:V->Ag} :∀ {kvs:List V}{ks:Al}{us:List V},Vals kvs ks->All2 (fun kv v=>S.KR H kv (KF v)) kvs us->All2 (S.TK h) ks (us.map KF)
 | [],_,[], .nil,_=>trivial
 | _::_,_,_::_, .cons r rs,⟨t,ts⟩=>⟨ok.of hk r t,jT1 ok hk rs ts⟩
theorem jHQ:∀ {us:List V}{its:Al},Vals us its->(∀ v∈us,∃ a,v=V.ref a)->its.map refV=us
 | [],_, .nil,_=>rfl
 | v::us,_, .cons r rs,h=>by
  obtain⟨a,e⟩:=h v (ai ..);subst e;cases r;rw[bf,jHQ rs fun w hw=>h w (ag _ hw)];rfl
theorem jHP:∀ {its:Al},(∀ u∈its,∃ a,u=Value.ref a)->Vals (its.map refV) its
 | [],_=> .nil
 | u::its,h=>by
  obtain⟨a,e⟩:=h u (ai ..);subst e;exact .cons rfl (jHP fun w hw=>h w (ag _ hw))
theorem jH9:∀ {us:List V}{its:Al},Vals us its->(∀ v∈us,∃ a,v=V.ref a)->∀ u∈its,∃ a,u=Value.ref a
 | [],_, .nil,_,u,hu=>by cases hu
 | v::us,_, .cons r rs,h,u,hu=>by
  obtain⟨a,e⟩:=h v (ai ..);subst e;cases r;rcases aE.mp hu with z | z
  ·exact⟨a,z⟩
  ·exact jH9 rs (fun w hw=>h w (ag _ hw)) u z
theorem jMS {ks its:Al}{f:Value->Ag}{g:Value->Ag} :∀ {ks its:Al}{us:List V}{KF:V->Ag},ks.map f=us.map KF->its.map refV=us->∀ p∈ks.zip its,f p.1=KF (refV p.2)
 | [],_,_,_,_,_,p,hp=>by cases hp
 | _::_,[],_,_,_,_,p,hp=>by cases hp
 | k::ks,u::its,us,KF,e1,e2,p,hp=>by
  subst e2;rw[bf,bf,bf] at e1;injection e1 with q1 q2;rw[dS] at hp;rcases aE.mp hp with z | z
  ·rw[z]; exact q1
  ·exact jMS (ks:=ks) (its:=its) (f:=f) (g:=g) q2 rfl p z
theorem jSH (ok:KeyOk S){h:Heap} :∀ {ks:Al}{ws:Af},All2 (S.TK h) ks ws->ks.map (S.dc h)=ws
 | [],[],_=>rfl
 | _::_,_::_,⟨t,r⟩=>by rw[bf,ok.dec t,jSH ok r]
theorem jIM (ok:KeyOk S){k:Nat}{sp:Sp}{zh:Addr->Addr->Hp->Prop}(F:∀ q c,Callee X.prog X.w X.K X.mg X.Aq ZT (zh q c) k q sp)(zo:∀ q c H H',Ext H H'->zh q c H->zh q c H')(hr:Room (k+2) X.A):
  jQH X (.builtin "sorted") [Str.ofString "key"] (fun xs zs H Q=>∃ (p:Addr) (us:List V) (q c:Addr) (KF:V->Ag),xs=[.ref p]/\zs=[.ref q]/\SqL X.K H p us/\zh q c H/\(∀ v∈us,∃ a,v=V.ref a)/\
   (∀ v∈us,∀ (H1:Hp) (Q1:VK),Ext H H1->(∀ r H2,S.KR H2 r (KF v)->Ext H1 H2->Q1 r H2)->sp [v] H1 Q1 E0)/\
   ∀ (l:Addr) (us':List V) (H':Hp),H l=none->us'.Perm us->us'.Pairwise (fun u v=>HT.lexLt (KF v) (KF u)=false)->Ext H H'->H' l=some (.lst us')->Q (.ref l) H'):=by
 intro lK s σ H xs zs us0 ws0 Q I r1 r2 h;obtain⟨p,us,q,c,KF,rfl,rfl,hp,hz,hrf,hkey,fin⟩:=h;obtain⟨u,rfl,rx⟩:=r1.one;cases rx;obtain⟨u2,rfl,ry⟩:=r2.one;cases ry;obtain⟨its,rv,pl,hlen⟩:=I.list hp;have rl:=rv.length;show wpAny (model X.prog X.w) X.A (call (.builtin "sorted") [.ref p] [(Str.ofString "key", .ref q)]) (EP X lK σ Q) X.xe s;refine call_function_entry_kw iS iu iw (ksk_s1 _ _) ?_;unfold Builtin.«sorted»;refine ae (m:=checkCount "sorted" 1 1 _) (am ?_);refine ae (collect_list pl.isList ?_ Aa);refine ae (eI ?_ Aa);have hsz:((s.heap.push (seqObj "list" #[] 0)).update s.heap.objs.size (Obj.mapSeq (· ++its.toArray))).objs.size=s.heap.objs.size+1:=by
  rw[g0,gZ]
 have hoL:(((s.heap.push (seqObj "list" #[] 0)).update s.heap.objs.size (Obj.mapSeq (· ++its.toArray))).push (seqObj "list" its.toArray 0)).get? (s.heap.objs.size+1)=some (seqObj "list" its.toArray 0):=by
  rw[<- hsz]; exact aC _ rfl
 have k5:∀ b o,s.heap.get? b=some o->(((s.heap.push (seqObj "list" #[] 0)).update s.heap.objs.size (Obj.mapSeq (· ++its.toArray))).push (seqObj "list" its.toArray 0)).get? b=some o:=fun b o q=>by
  refine ah _ ?_;rw[bA _ _ (cR (aG q))];exact ah _ q
 have z5:(((s.heap.push (seqObj "list" #[] 0)).update s.heap.objs.size (Obj.mapSeq (· ++its.toArray))).push (seqObj "list" its.toArray 0)).objs.size=s.heap.objs.size+2:=by rw[gZ,hsz]
 show wpAny _ _ _ _ _ { s with heap:=((s.heap.push (seqObj "list" #[] 0)).update s.heap.objs.size (Obj.mapSeq (· ++its.toArray))).push (seqObj "list" its.toArray 0)};rw[hsz];generalize ((s.heap.push (seqObj "list" #[] 0)).update s.heap.objs.size (Obj.mapSeq (· ++its.toArray))).push (seqObj "list" its.toArray 0)=h5 at hoL k5 z5;have hD:s.heap.objs.size<=s.heap.objs.size+1:=dz _;have hDk:s.heap.objs.size+1≠h5.objs.size+1:=Aa;have hkS:s.heap.objs.size<=h5.objs.size+1:=Aa;generalize s.heap.objs.size+1=D at hoL hD hDk;refine ae (bS (wpAny_call_entry_kw gE ⟨_,hoL,rfl⟩ gf ?body (ksk_l1 _ _)))
 case body=>
  show wpAny (model X.prog X.w) X.A.in1.in1 (Builtin.«list.sort» ⟨[.ref D],[(Str.ofString "key", .ref q)]⟩) _ _ _;rw[ksk_t1];unfold ksk_tree;refine ae (gF hoL rfl ?_);refine ae (eJ hoL rfl ?_ (by rw[ar]; lia) (bo _));obtain⟨e1,ho1⟩:∃ e1,(h5.update D (Obj.mapSeq fun _=>(#[]:An))).get? D=some (seqObj "list" #[] e1):=⟨_,gh hoL fun _=>#[]⟩;refine ae (iV ho1 rfl ?_);refine ae (ku ?_ (by show its.length<=_; lia));refine ae (eI ?_ (bo _));refine bS ?_;have hkz:((h5.update D (Obj.mapSeq fun _=>(#[]:An))).push (seqObj "tuple" its.toArray 0)).objs.size=h5.objs.size+1:=by rw[gZ,g0]
  have hoK:(((h5.update D (Obj.mapSeq fun _=>(#[]:An))).push (seqObj "tuple" its.toArray 0)).push (seqObj "list" #[] 0)).get? (h5.objs.size+1)=some (seqObj "list" #[] 0):=by
   rw[<- hkz]; exact aC _ rfl
  have hoD:(((h5.update D (Obj.mapSeq fun _=>(#[]:An))).push (seqObj "tuple" its.toArray 0)).push (seqObj "list" #[] 0)).get? D=some (seqObj "list" #[] e1):=ah _ (ah _ ho1);have k6:∀ b o,s.heap.get? b=some o->(((h5.update D (Obj.mapSeq fun _=>(#[]:An))).push (seqObj "tuple" its.toArray 0)).push (seqObj "list" #[] 0)).get? b=some o:=fun b o z=>by
   refine ah _ (ah _ ?_);rw[bA _ _ (cR (aX (aG z) hD))];exact k5 b o z
  show wpAny _ _ (ksk_rest D (.ref q) false its.toArray e1 (.ref ((h5.update D (Obj.mapSeq fun _=>(#[]:An))).push (seqObj "tuple" its.toArray 0)).objs.size)) _ _ { s with heap:=((h5.update D (Obj.mapSeq fun _=>(#[]:An))).push (seqObj "tuple" its.toArray 0)).push (seqObj "list" #[] 0)};rw[hkz];generalize ((h5.update D (Obj.mapSeq fun _=>(#[]:An))).push (seqObj "tuple" its.toArray 0)).push (seqObj "list" #[] 0)=h6 at hoK hoD k6;generalize h5.objs.size+1=kS at hoK hkS hDk;have fD:FpOk X lK H D:=I.fpOk hD (I.hok.fresh hD);have fK:FpOk X lK H kS:=I.fpOk hkS (I.hok.fresh hkS);have I6:Inv X lK σ H { s with heap:=h6,toks:=s.toks} :=I.kept k6;have I7:Inv X (lK++[(D,seqObj "list" #[] e1),(kS,seqObj "list" ([]:Al).toArray 0)]) σ H { s with heap:=h6} :=I6.pins_of fun x hx=>by
   rcases aP.mp hx with z | z
   ·exact I6.pin x (aF _ z)
   ·rcases aE.mp z with z | z
    ·rw[z]; exact⟨hoD,fD.1,fD.2.1,fD.2.2.1,by intro v q; cases q⟩
    ·rw[aK] at z;rw[z]; exact⟨hoK,fK.1,fK.2.1,fK.2.2.1,by intro v q; cases q⟩
  have u7:Un (frs X.stack) [] H H s.heap h6:=Un.kept k6;unfold ksk_rest;refine ae (di ?_);rw[<- Array.forIn_toList];simp only [List.toList_toArray];refine ae (ck (jL7 ok (F q c) (zo q c) hr.in1.in1 hkey fK hDk hkS (fun x sj C hx=>?_) its us [] [] [] 0 { s with heap:=h6} H rv (fun v hv=>hv) (by rw[cz]; lia) I7 u7 (Ext.refl _) hz .nil trivial) (fun _ s' hd=>?_) fun _ _ x=>x)
  ·refine ae (eG (ck hx (fun kv s'' hk=>?_) fun _ _ hF=>hF.elim));obtain⟨ks,e,gk,sz,hc⟩:=hk;dsimp only;refine ae (eJ gk rfl ?_ (de sz) (bi (Nat.le_of_eq (Array.size_push ..)) Aa));exact am hc
  ·obtain⟨ks,kvs,e,HN,IN,uN,eN,vk,al⟩:=hd;rw[List.nil_append] at al;obtain⟨gD,nD,_,_,_⟩:=IN.pin (D,seqObj "list" #[] e1) (aF _ (aF _ (ai ..)));obtain⟨gK,nK,_,_,_⟩:=IN.pin (kS,seqObj "list" ks.toArray e) (aF _ (aF _ (ag _ (ai ..))));refine ae (gF gK rfl ?_);have tk:=jT1 ok IN.hok vk al;have kl:ks.length=its.length:=by rw[<- vk.length,al.len]; exact rl
   have un:=hr.un;refine jOT ok kl Aa tk (by rw[dE,dE]; lia) gD gK hDk fun ps pm pw=>⟨_,rfl,am ⟨_,rfl,?_⟩⟩;have bk:=jHQ rv hrf;have dk:∀ x∈ks.zip its,S.dc s'.heap x.1=KF (refV x.2):=jMS (g:=fun _=> []) (ks:=[]) (its:=[]) (jSH ok tk) bk;have pi:(ps.map Prod.snd).Perm its:=by
    have:=pm.map Prod.snd;rw[List.map_snd_zip Aa] at this;exact this
   have rf:∀ u∈ps.map Prod.snd,∃ a,u=Value.ref a:=fun u hu=>jH9 rv hrf u (pi.mem_iff.mp hu);have p1:((ps.map Prod.snd).map refV).Perm us:=by rw[<- bk]; exact pi.map _
   have p2:((ps.map Prod.snd).map refV).Pairwise fun u v=>HT.lexLt (KF v) (KF u)=false:=by
    rw[bh,bh];exact(gW.mp pw).imp fun {a b} h=>by
     rw[<- dk a (pm.mem_iff.mp h.1),<- dk b (pm.mem_iff.mp h.2.1)];exact h.2.2
   obtain⟨e9,he9⟩:∃ e9,((s'.heap.update kS (Obj.mapSeq fun _=>(#[]:An))).update D (Obj.mapSeq fun _=>(ps.map Prod.snd).toArray)).get? D=some (seqObj "list" (ps.map Prod.snd).toArray e9):=⟨_,gh ((bA _ _ (eh hDk)).trans gD) fun _=>(ps.map Prod.snd).toArray⟩;have oth:∀ b,b≠D->b≠kS->((s'.heap.update kS (Obj.mapSeq fun _=>(#[]:An))).update D (Obj.mapSeq fun _=>(ps.map Prod.snd).toArray)).get? b=s'.heap.get? b:=fun b n1 n2=>(bA _ _ (eh n1)).trans (bA _ _ (eh n2));generalize (s'.heap.update kS (Obj.mapSeq fun _=>(#[]:An))).update D (Obj.mapSeq fun _=>(ps.map Prod.snd).toArray)=hf at he9 oth;have nt:∀ b o,HN b=some o->b≠D/\b≠kS:=fun b o z=>⟨fun y=>(by rw[y,nD] at z; cases z),fun y=>(by rw[y,nK] at z; cases z)⟩;have ok1:HOk X.prog X.w HN hf:=fun b o z=>(IN.hok b o z).stay (fun c v hc y=>by
    have:c≠D/\c≠kS:=by
     rcases hc with e | e
     ·rw[e]; exact nt b o z
     ·exact nt c _ e
    rw[oth c this.1 this.2];exact y) (fun _ y=>y) fun _ _ y=>y
   have pz:((ps.map Prod.snd).map refV).length<=sizeLine:=by rw[af,pi.length_eq]; lia
   have ok2:HOk X.prog X.w (upd HN D (.lst ((ps.map Prod.snd).map refV))) hf:=ok1.adopt nD ⟨pz,ps.map Prod.snd,e9,jHP rf,he9⟩;have u9:Un (frs X.stack) [] H (upd HN D (.lst ((ps.map Prod.snd).map refV))) s.heap hf:=(uN.out fun b hb=>oth b (aW (aX hb hD)) (aW (aX hb hkS))).track I.hok hD;have I9:Inv X lK σ (upd HN D (.lst ((ps.map Prod.snd).map refV))) { s' with heap:=hf} :=Inv.call' I (IN.os.trans I.os.symm) u9 ok2 IN.bare fun b z=>absurd z Ad;exact⟨.ref D,_,I9,rfl,fin D _ _ (I.hok.fresh hD) p1 p2 (fun b o z=>by rw[j9 (aW (aX (I.hok.lt z) hD))]; exact eN b o z) j5⟩
end L2
namespace TM
open PySem PySem.Spec PyProof.Rows PySem.W
open L2 (All2)
def TupP (h:Heap)(v:Value)(l:Ag):Prop:=∃ a m n t c lot,v= .ref a/\h.get? a=some { cls:= .type "tuple",data:= .seq #[.int n t, .ref c] m} /\TupI h (.ref c) lot/\l=n::lot
def decP (h:Heap):Value->Ag
 | .ref a=>match h.get? a with
  | some o=>match o.data with
   | .seq xs _=>match xs.toList with
    | [k,c]=>numOf k::decV h c
    | _=> []
   | _=> []
  | none=> []
 | _=> []
theorem TupP.dec {h:Heap}{v:Value}{l:Ag}(t:TupP h v l):decP h v=l:=by
 obtain⟨a,m,n,t,c,lot,rfl,ho,hc,rfl⟩:=t;dsimp only [decP];rw[ho];show n::decV h (.ref c)=_;rw[hc.dec]
section
variable {prog:Program}{w:World}{A:Around}{E:Ah}{s:Shared}
theorem eqTup {u v:Value}{x y:Ag}(hu:TupI s.heap u x)(hv:TupI s.heap v y)(room:A.units+1<cLine):SeqAt.EqAt A s u v (decide (x=y)):=by
 obtain⟨a,n,its,rfl,ho,hi⟩:=hu;obtain⟨b,m,its2,rfl,ho2,hi2⟩:=hv;by_cases e:a=b
 ·subst e;rw[ho] at ho2;cases ho2;have:x=y:=hi.nums.symm.trans hi2.nums;rw[ax this];exact SeqAt.EqAt.same _
 ·refine SeqAt.EqAt.of_refs e ?_;have key:=SeqAt.RcAt.tuples (A:=A) (s:=s) (l:=a) (b:=b) (items:=its) (items2:=its2) (e:=fun j=>decide (x.getD j 0=y.getD j 0)) ⟨_,ho,rfl,n,rfl⟩ ⟨_,ho2,rfl,m,rfl⟩ Aa fun j h1 h2=>by
   have at1:∀ {vs:Al}{ns:Ag},IntsAre vs ns->∀ (j:Nat) (h:j<vs.length),∃ t,vs[j]=Value.int (ns.getD j 0) t:=by
    intro vs ns h
    induction h with
    | nil=>intro j h; cases h
    | cons n t _ ih=>
     intro j h;cases j with
     | zero=>exact⟨t,rfl⟩
     | succ j=>exact ih j (jp h)
   obtain⟨t1,e1⟩:=at1 hi j (by rw[aM]; exact h1);obtain⟨t2,e2⟩:=at1 hi2 j (by rw[aM]; exact h2);rw[eF] at e1 e2;rw[e1,e2];exact eX _ t1 _ t2
  have l1:its.size=x.length:=by rw[<- hi.nums,af,aM]
  have l2:its2.size=y.length:=by rw[<- hi2.nums,af,aM]
  have ee:((List.range (min its.size its2.size)).all (fun j=>decide (x.getD j 0=y.getD j 0))&&its.size==its2.size)=decide (x=y):=by
   rw[bZ,bD,br,bK,g4,l1,l2];constructor
   ·rintro ⟨h1,h2⟩;refine List.ext_getElem h2 fun j q1 q2=>?_;have:=aI (h1 j (bF.mpr Aa));rw[aj,aj,aq q1,aq q2] at this;exact this
   ·intro z;subst z;exact⟨fun j _=>ax rfl,rfl⟩
  rw[ee] at key;exact key
theorem jEI:∀ {vs:Al}{ws:Af},All2 (TupP s.heap) vs ws->∃ fs:Al,KatTups s.heap vs fs/\fs.length=vs.length/\∀ v∈fs,∃ n t,v=Value.int n t
 | [],[],_=>⟨[],trivial,rfl,fun v h=>by cases h⟩
 | v::vs,l::ws,⟨⟨a,m,n,t,c,lot,e,ho,hc,_⟩,r⟩=>by
  obtain⟨fs,h1,h2,h3⟩:=jEI r;refine⟨.int n t::fs,⟨⟨a,_,_,m,e,ho,rfl,rfl,rfl⟩,h1⟩,bY (· +1) h2,fun v hv=>?_⟩;rcases aE.mp hv with z | z
  ·exact⟨n,t,z⟩
  ·exact h3 v z
theorem pair_kind {vs:Al}{ws:Af}{Q:SortKind->Shared->Prop}(t:All2 (TupP s.heap) vs ws)(h2:vs≠ [])(h:Q (tuples' true) s):wpAny (model prog w) A (keyKind' vs.toArray) Q E s:=by
 obtain⟨fs,f1,f2,f3⟩:=jEI t;refine kat_kind (T:= .type "int") f1 (by rw[f2]; exact lb.mpr h2) (fun v hv=>?_) rfl h;obtain⟨n,t',e⟩:=f3 v hv;rw[e];exact .now
theorem pair_lt {u v:Value}{x y:Ag}{Q:Bool->Shared->Prop}(hu:TupP s.heap u x)(hv:TupP s.heap v y)(room:A.units+2<cLine)(h:Q (HT.lexLt x y) s):wpAny (model prog w) A (keyLt' (tuples' true) u v) Q E s:=by
 obtain⟨a,m,n,t,c,lot,rfl,ho,hc,rfl⟩:=hu;obtain⟨a2,m2,n2,t2,c2,lot2,rfl,ho2,hc2,rfl⟩:=hv;refine kat_lt ho rfl ho2 rfl ?_;show KatLex prog w A true false Q [(.int n t, .int n2 t2),(.ref c, .ref c2)] 0 s;rw[HT.lexLt_cons] at h;refine kat_cons (eX n t n2 t2 prog w _ _ ?_);by_cases e:n=n2
 ·rw[ay e] at h;rw[show (n==n2)=true by simp [e]];refine kat_yes (kat_cons (eqTup hc hc2 Aa prog w _ _ ?_));by_cases e2:lot=lot2
  ·rw[e2,lex_irr] at h;rw[ax e2];exact kat_yes (kat_nil h)
  ·rw[aN e2];refine kat_no ?_;obtain⟨b1,k1,its1,q1,o1,i1⟩:=hc;obtain⟨b2,k2,its2,q2,o2,i2⟩:=hc2;cases q1;cases q2;exact kat_one _ _ (HT.lt_tupInts (items:=its1) (items2:=its2) ⟨_,o1,rfl,k1,rfl⟩ ⟨_,o2,rfl,k2,rfl⟩ i1 i2 Aa h)
 ·rw[aw e] at h;rw[show (n==n2)=false by simp [e]];exact kat_no (jNV h)
end
end TM
namespace L2
open PySem PySem.Spec PyProof.Rows
def PairR (H:Hp)(v:V)(l:Ag):Prop:=∃ t a n lot,v= .ref t/\H t=some (.tup [.int n, .ref a])/\H a=some (.tup (lot.map V.int))/\l=n::lot
theorem PairR.at {P:Program}{w:World}{H:Hp}{h:Heap}{v:V}{u:Value}{l:Ag}(ok:HOk P w H h)(r:RelV v u)(k:PairR H v l):TM.TupP h u l:=by
 obtain⟨t,a,n,lot,rfl,ht,ha,rfl⟩:=k;cases r;obtain⟨_,its,r2,m,ho⟩:=(show ObjOk P w H h t (.tup _) from ok t _ ht);obtain⟨_,its2,r3,m2,ho2⟩:=(show ObjOk P w H h a (.tup _) from ok a _ ha);cases r2 with
 | cons q1 q2=>
  cases q2 with
  | cons q3 q4=>
   cases q4;obtain⟨tk,rfl⟩:=q1;cases q3;exact⟨t,m,n,tk,a,lot,rfl,ho,⟨a,m2,its2.toArray,rfl,ho2,jFX r3⟩,rfl⟩
def keyP:KeyS:=⟨TM.TupP,PairR,fun _=>tuples' true,TM.decP⟩
theorem jV4:KeyOk keyP where
 of:=PairR.at
 mono:=fun t k=>let ⟨q,a,n,lot,e,h1,h2,h3⟩:=k; ⟨q,a,n,lot,e,t _ _ h1,t _ _ h2,h3⟩
 dec:=TM.TupP.dec
 kind:=TM.pair_kind
 lt:=TM.pair_lt
section
variable {X:Cx}{S:KeyS}
end
section
variable {P:Program}{w:World}{K:W.Frag}{mg:Ak}{Aq:Heap}{N fs:Am}{x:Str}{qual:Str}{scope:Scope}{f:Addr}{cd:Value}{cl:Aj}{A:Around}{Ap:List Env}{s:Shared}{H:Hp}{u:Value}{v:V}{fv:List V}
end
end L2
section
open PySem L2
variable {P:Program}{w:World}{K:W.Frag}{mg:Ak}{Aq:Heap}{f fT fL fW fR fG fI c0 tb fM fF fA j fC fP fB a c fK fN tb1 tb2 fO tb3 tb4:Addr}{fdT fdL fdW fdR fdG fdI fdM fdF fdA fdC fdP fdB fdK fdN fdO:FuncData}{lM cd:Value}{A:Around}{Ap:List Env}{s:Shared}{H0 H H':Hp}{E:XK}{cl:Aj}{Z:Shared->Hp->Prop}{zh:Hp->Prop}{ms ts ks:Ag}{Ar:Ae}{S:List Addr}{n:Nat}
namespace Eo
open PySem L2
def Keep (H H':Hp)(p:Addr):Prop:=∀ b o,H b=some o->b≠p->H' b=some o
structure Txt (mg:Ak):Prop where
 len:mg "len" =none
 range:mg "range" =none
 tuple:mg "tuple" =none
 sorted:mg "sorted" =none
 set:mg "set" =none
 list:mg "list" =none
 int:mg "int" =none
 isinstance:mg "isinstance" =none
 bool:mg "bool" =none
 str:mg "str" =none
 all:mg "all" =none
 zip:mg "zip" =none
 max:mg "max" =none
 min:mg "min" =none
 any:mg "any" =none
 abs:mg "abs" =none
 sum:mg "sum" =none
 enumerate:mg "enumerate" =none
 dict:mg "dict" =none
structure Can (P:Program)(w:World)(K:W.Frag)(mg:Ak)(Aq:Heap)(x:Str)(k:Nat)(f:Addr)(fd:FuncData)(ps:Am)(sp:Sp):Prop where
 G:FnOk P w K mg Aq CX0 k f fd ps sp
 m:mg x=some (.ref f)
 kp:keepIn K (.ref f)=true
 b:Binds K fd ps []
theorem Can.pe {X:Cx}{x:Str}{k:Nat}{f:Addr}{fd:FuncData}{ps:Am}{sp:Sp}{e:Expr}{es:List Expr}{t:TA}{p pos:Pos}(C:Can X.prog X.w X.K X.mg X.Aq x k f fd ps sp)(hr:Room k X.A)(hg:Gl X x)(ha:PA X (e::es) t)(hdb:(x==("__debug__" :Str))=false:=by decide)
  (he:starEach (e::es) X.env=(false,eval e X.env)::starEach es X.env:=by rfl) (hpl:(backTo pos (starEach es X.env)).any (·.1)=false:=by rfl):PE X (.Call (.Name x p) (e::es) [] pos) (tCall sp [] E0 t):=
 jUG C.G hr hg C.m C.kp C.b .nil pass0 ha hdb he hpl
theorem Can.je {X:Cx}{x:Str}{k:Nat}{f:Addr}{fd:FuncData}{ps:Am}{sp:Sp}{e:Expr}{es:List Expr}{t:TA}{p pos:Pos}(C:Can X.prog X.w X.K X.mg X.Aq x k f fd ps sp)(hr:Room k X.A)(hg:Gl1 X x)(ha:JA X (e::es) t)(he:starEach (e::es) X.env=(false,eval e X.env)::starEach es X.env)
  (hdb:(x==("__debug__" :Str))=false:=by decide) (hpl:(backTo pos (starEach es X.env)).any (·.1)=false:=by rfl):JE X (.Call (.Name x p) (e::es) [] pos) (tCall sp [] E0 t):=
 ⟨C.pe hr hg.a ha.h hdb he hpl⟩
def jCR (K:W.Frag):Sp:=fun vs H Q _=>∃ (a:Addr) (ns:Ag) (k:Int),vs=[.ref a, .int k]/\SqL K H a (ns.map V.int)/\0<=k/\∀ c:Int,Q (.int c) H
theorem jW2:FnScope ["script","k"] ["script","k"] (j7 sCell):= {}
theorem jUT {f:Addr}{fd:FuncData}(F:Fun K "_law_cell_at" "_law_cell_at" sCell f fd)(T:Txt mg):FnOk P w K mg Aq CX0 1 f fd ["script","k"] (jCR K):=by
 refine F.ok jW2 (fun vs H Q E h=>?_) (fun lM A Ap s H vs Q E hr h=>?_)
 ·obtain⟨a,ns,k,rfl,_⟩:=h;rfl
 ·obtain⟨a,ns,k,rfl,hS,h0,q⟩:=h;refine⟨_,kW (ps_if (jEF op_lt (pv 1) (jGF jN (by rfl) T.len PySem.boot_len (kI (pv 0) yQ)) (jT _)) (jAZ (jDU (pe_ix jCH (pv 0) (pv 1) (fun _ _=>rfl)))) jGD) (jAZ (jDU jS)),?_⟩;refine⟨_,rfl,_,rfl,a,_,rfl, .inl hS,_,_,rfl,rfl,_,rfl,?_⟩;refine ite2 (fun hlt=>?_) (fun _=>?_)
  ·have hlt:k<((ns.map V.int).length:Int):=aI hlt;have hk:k.toNat<ns.length:=by rw[af] at hlt; lia
   refine⟨_,rfl,_,rfl,a,_,k, .int (ns[k.toNat]),rfl,rfl,hS,?_,q _⟩;have e:(k.toNat:Int)=k:=Aa;have q2:=yW (xs:=ns.map V.int) (j:=k.toNat) (v:=V.int ns[k.toNat]) (by simp [hk]);rw[e] at q2;exact q2
  ·exact q 0
def yS:Sp:=fun vs H Q _=>∃ (p:Addr) (N w:Int),vs=[.ref p, .int w]/\H p=some (.lst [.int N])/\0<=N/\0<w/\w<2 ^ 64/\∀ N' r:Int,0<=N'->0<=r->r<w->Q (.int r) (upd H p (.lst [.int N']))
theorem scTake:FnScope ["pot","wide","found"] ["pot","wide"] (j7 sTake):= {}
theorem jUM {f:Addr}{fd:FuncData}(F:Fun K "_law_take" "_law_take" sTake f fd):FnOk P w K mg Aq CX0 1 f fd ["pot","wide"] yS:=by
 refine F.ok scTake (fun vs H Q E h=>?_) (fun lM A Ap s H vs Q E hr h=>?_)
 ·obtain⟨a,ns,k,rfl,_⟩:=h;rfl
 ·obtain⟨p,N,w,rfl,hp,h0,h1,h2,q⟩:=h;refine⟨_,kW (qL (i:=2) scTake.nd rfl (Or.inl rfl) (kR jHX (pe_ix jCH (pv 0) jS (fun _ _=>rfl)) (pv 1)))
   (kW (jWC (kR jKS (pe_ix jCH (pv 0) jS (fun _ _=>rfl)) (pv 1)) (jWG (pv 0) jS jQO))
   (jAZ (jDU (pv 2)))),?_⟩
  refine⟨_,rfl,p,_,0, .int N,rfl,rfl,SqL.of hp,rfl,_,rfl,_,_,rfl,rfl,h1,?_⟩;refine⟨_,rfl,p,_,0, .int N,rfl,rfl,SqL.of hp,rfl,_,rfl,_,_,rfl,rfl,⟨h1,h2⟩,?_⟩;refine⟨_,rfl,p,_,0,0,rfl,rfl,hp,rfl,_,rfl,?_⟩;exact q _ _ (Int.ediv_nonneg h0 Aa) (Int.emod_nonneg _ Aa) (lC _ h1)
def spPot:Sp:=fun vs H Q _=>∃ c:Int,vs=[.int c]/\∀ (p:Addr) (N:Int),H p=none->0<=N->Q (.ref p) (upd H p (.lst [.int N]))
theorem scPot:FnScope ["cell","number","j","more"] ["cell"] (j7 sPot):= {}
theorem jWT {f:Addr}{fd:FuncData}(F:Fun K "_law_pot" "_law_pot" sPot f fd)(T:Txt mg):FnOk P w K mg Aq CX0 1 f fd ["cell"] spPot:=by
 refine F.ok scPot (fun vs H Q E h=>?_) (fun lM A Ap s H vs Q E hr h=>?_)
 ·obtain⟨c,rfl,_⟩:=h;rfl
 ·obtain⟨c,rfl,q⟩:=h;have one: [V.int 0].length<=sizeLine:=by show 1<=sizeLine; decide
  refine⟨_,kW (ps_if (jEF op_ge (pv 0) (kR jNT jS jS) (jT _)) (jAZ (jDU (jKR (kI (kR jEK (pv 0) (kR jNT jS jS)) yQ)))) jGD)
   (kW (qL (i:=1) scPot.nd rfl (Or.inl rfl) jS)
   (kW (jST cB rfl (jCX rfl T.range (kI jS yQ)) (jGE (i:=2) scPot.nd rfl (Or.inl rfl))
    (kW (qL (i:=3) scPot.nd rfl (Or.inl rfl) (kR jHX (kR jDW (kR yE (kR yE (kR jHX (pv 0) jS) (kR jDW jS (pv 2))) jS) jS) jS))
    (kW (qL (i:=3) scPot.nd rfl (Or.inl rfl) (kR jHX (kR yE (kR yE (kR jDW (pv 3) (pv 3)) (kR jDW jS (pv 2))) jS) jS))
    (jAZ (qL (i:=1) scPot.nd rfl (Or.inl rfl) (kR yE (kR jDW (pv 1) jS) (pv 3)))))))
   (jAZ (jDU (jKR (kI (pv 1) yQ)))))),?_⟩
  refine⟨_,rfl,_,_,rfl,rfl,⟨Ac,Ac,Ac⟩,_,_,rfl,rfl,_,rfl,?_⟩;refine ite2 (fun hge=>?_) (fun _=>?_)
  ·refine⟨_,rfl,_,_,rfl,rfl,⟨Ac,Ac,Ac⟩,_,_,rfl,rfl,one,fun p hp=>q p _ hp ?_⟩;exact Int.sub_nonneg_of_le (aI hge)
  ·refine⟨64,rfl,Ac,Ac,jD5 (n:=64) (fun i σ H2=>∃ (num:Int) (v1 v2:Option V),σ=[some (.int c),some (.int num),v1,v2]/\0<=num/\H2=H) ⟨0,none,none,rfl,cY _,rfl⟩ ?_ ?_⟩
   ·rintro i σ H2 hi ⟨num,v1,v2,rfl,hn,rfl⟩;refine⟨_,rfl,_,_,rfl,rfl,(by show (0:Int)<2147483629; decide),_,rfl,_,_,rfl,rfl, .inl ⟨Ac,Ac⟩,_,_,rfl,rfl,_,_,rfl,rfl,_,_,rfl,rfl, .inr ⟨Ac,Ac⟩,_,_,rfl,rfl,(by show (0:Int)<2147483647; decide),?_⟩;refine⟨_,rfl,_,rfl,_,_,rfl,rfl, .inl ⟨?_,?_⟩,_,rfl,_,_,rfl,rfl, .inl ⟨Ac,Ac⟩,_,_,rfl,rfl,_,_,rfl,rfl,_,_,rfl,rfl,(by show (0:Int)<2147483587; decide),?_⟩
    ·lia
    ·lia
    ·refine⟨_,rfl,_,_,rfl,rfl, .inr ⟨Ac,Ac⟩,_,rfl,_,_,rfl,rfl,?_⟩;refine⟨_,_,_,rfl,?_,rfl⟩;lia
   ·rintro σ H2 ⟨num,v1,v2,rfl,hn,rfl⟩;exact⟨_,rfl,one,fun p hp=>q p num hp hn⟩
theorem jDC {H:Hp}{a:Addr}{o o':HO} :upd (upd H a o) a o'=upd H a o':=by
 funext b;unfold upd;by_cases h:b=a
 ·rw[ay h,ay h]
 ·rw[aw h,aw h,aw h]
theorem yI {H:Hp}{a b:Addr}{o:HO}(h:upd H a o b=none):b≠a/\H b=none:=by
 have h1:b≠a:=fun e=>by rw[e,j5] at h; cases h
 exact⟨h1,by rw[j9 h1] at h; exact h⟩
theorem Keep.refl (H:Hp)(p:Addr):Keep H H p:=fun _ _ h _=>h
theorem Keep.trans {H H1 H2:Hp}{p:Addr}(a:Keep H H1 p)(b:Keep H1 H2 p):Keep H H2 p:=fun c o h n=>b c o (a c o h n) n
theorem Keep.upd {H H1:Hp}{p:Addr}(a:Keep H H1 p)(o:HO):Keep H (upd H1 p o) p:=fun c u h n=>by rw[j9 n]; exact a c u h n
theorem Keep.new {H H1:Hp}{p l:Addr}(a:Keep H H1 p)(hl:H1 l=none)(o:HO):Keep H (L2.upd H1 l o) p:=fun c u h n=>by
 have:=a c u h n;rw[j9 (jA this hl)];exact this
theorem pw {w:Int}(h1:1<=w)(h2:w<=16):(2:Int)<=2 ^ w.toNat/\(2:Int) ^ w.toNat<=65536:=by
 have e:∀ n:Nat,n<17->1<=n->(2:Int)<=2 ^ n/\(2:Int) ^ n<=65536:=Ab;exact e w.toNat Aa Aa
structure Lot (w:Int)(ts:Ag):Prop where
 ris:ts.Pairwise (· < ·)
 bnd:∀ z∈ts,0<=z/\z<w
 ne:ts≠ []
def bits (n:Int)(k:Nat):Ag:=((List.range k).filter fun t=>decide (Builtin.bitAnd (n / 2 ^ t) 1=1)).map fun (t:Nat)=>(t:Int)
theorem jIR (n:Int)(k:Nat):bits n (k+1)=bits n k++(if decide (Builtin.bitAnd (n / 2 ^ k) 1=1)=true then [(k:Int)] else []):=by
 unfold bits;rw[ie,bV,aU];congr 1;rw[cK];split <;> rfl
theorem jS9 {n w:Int}(h1:1<=n)(hw:0<=w)(h2:n<2 ^ w.toNat):Lot w (bits n w.toNat):=by
 refine⟨?_,fun z hz=>?_,?_⟩
 ·unfold bits;rw[bh];have:=(gM (n:=w.toNat)).filter (fun t=>decide (Builtin.bitAnd (n / 2 ^ t) 1=1));exact this.imp fun h=>by lia
 ·unfold bits at hz;obtain⟨t,ht,rfl⟩:=aQ.mp hz;have:=bF.mp (ba.mp ht).1;lia
 ·obtain⟨m,rfl⟩:∃ m:Nat,n=(m:Int):=⟨n.toNat,Aa⟩;have hm:m≠0:=Aa;have hlt:m<2 ^ w.toNat:=by
   have:((m:Nat):Int)<((2 ^ w.toNat:Nat):Int):=by rw[Int.natCast_pow]; exact h2
   lia
  obtain⟨i,hi⟩:=Nat.exists_testBit_of_ne_zero hm;have hiw:i<w.toNat:=by
   rcases fb i w.toNat with h | h
   ·exact h
   ·rw[gL (aX hlt (ci Aa h))] at hi;cases hi
  have hb:Builtin.bitAnd ((m:Int) / 2 ^ i) 1=1:=by
   have e:((m:Int) / 2 ^ i)=((m / 2 ^ i:Nat):Int):=by rw[Int.natCast_ediv,Int.natCast_pow]; rfl
   rw[e,PyProof.Rows.bitAnd_pp (gj _) Ac];have e2:(((m / 2 ^ i:Nat):Int).toNat&&&(1:Int).toNat)=1:=by
    rw[aR];show (m / 2 ^ i)&&&1=1;rw[lF];have:=hi;rw[gN] at this;exact aI this
   rw[e2];rfl
  intro z;have hmem:(i:Int)∈bits (m:Int) w.toNat:=by
   unfold bits;exact aQ.mpr ⟨i,ba.mpr ⟨bF.mpr hiw,ax hb⟩,rfl⟩
  rw[z] at hmem;cases hmem
def qS:Sp:=fun vs H Q _=>∃ (p:Addr) (N w:Int),vs=[.ref p, .int w]/\H p=some (.lst [.int N])/\0<=N/\1<=w/\w<=16/\
 ∀ (q:Addr) (N':Int) (ts:Ag) (H':Hp),0<=N'->Lot w ts->H' q=some (.tup (ts.map V.int))->H' p=some (.lst [.int N'])->Keep H H' p->Q (.ref q) H'
theorem scLot:FnScope ["pot","wide","way","number","start","step","size"] ["pot","wide"] (j7 sLot):= {}
theorem jWV {f fT:Addr}{fd fdT:FuncData}(F:Fun K "_law_lot" "_law_lot" sLot f fd)(T:Txt mg)(CT:Can P w K mg Aq "_law_take" 1 fT fdT ["pot","wide"] yS):FnOk P w K mg Aq CX0 2 f fd ["pot","wide"] qS:=by
 refine F.ok scLot (fun vs H Q E h=>?_) (fun lM A Ap s H vs Q E hr h=>?_)
 ·obtain⟨a,ns,k,rfl,_⟩:=h;rfl
 ·obtain⟨p,N,w,rfl,hp,hN,h1,h2,q⟩:=h;have hpw:=pw h1 h2;have nd:=scLot.nd;refine⟨_,kW (qL (i:=2) nd rfl (Or.inl rfl) (CT.pe hr rfl (kI (pv 0) (kI jS yQ))))
   (kW (ps_if (jEF qU (pv 2) jS (jT _))
    (kW (qL (i:=3) nd rfl (Or.inr rfl) (kR yE jS (CT.pe hr rfl (kI (pv 0) (kI (kR jEK (kR jHW jS (pv 1)) jS) yQ)))))
    (jAZ (jDU (jCY jV rfl T.tuple Ab (kI
     (jJA (m:=[none,some 3]) (Nc:=["t","number"]) rfl (jCX rfl T.range (kI (pv 1) yQ)) rfl Ab Ab (jK (psc:=j7 sLot))
      (jI (N:=["pot","wide","way","number","start","step","size"]) rfl rfl Ab)
      (fun cl C fp s H=>jGE (i:=0) (show (["t","number"]:Am).Nodup by decide+kernel) rfl (Or.inl rfl))
      (fun cl C fp s H=>jNI (jEF qU (kR jKT (kR jSW (pv 1) (pv 0)) jS) jS (jT _)))
      (fun cl C fp s H=>pv 0)) yQ)))))
    jGD)
   (kW (qL (i:=4) nd rfl (Or.inr rfl) (CT.pe hr rfl (kI (pv 0) (kI (pv 1) yQ))))
   (kW (qL (i:=5) nd rfl (Or.inr rfl) (kR yE jS (CT.pe hr rfl (kI (pv 0) (kI jS yQ)))))
   (kW (qL (i:=6) nd rfl (Or.inl rfl) (kR yE jS (CT.pe hr rfl (kI (pv 0) (kI (pe_ix jCH (jKR (kI jS (kI jS (kI jS yQ)))) (kR jEK (pv 2) jS) (fun _ _=>rfl)) yQ)))))
   (jAZ (jDU (jCY jV rfl T.tuple Ab (kI (jGF (jFG rfl) rfl T.sorted Ab (kI (jCY (jQ1 rfl) rfl T.set Ab (kI
     (jJA (m:=[none,some 4,some 5,some 1]) (Nc:=["j","start","step","wide"]) rfl (jCX rfl T.range (kI (pv 6) yQ)) rfl Ab Ab (jK (psc:=j7 sLot))
      (jI (N:=["pot","wide","way","number","start","step","size"]) rfl rfl Ab)
      (fun cl C fp s H=>jGE (i:=0) (show (["j","start","step","wide"]:Am).Nodup by decide+kernel) rfl (Or.inl rfl))
      (fun cl C fp s H=>jNJ)
      (fun cl C fp s H=>kR jHX (kR yE (pv 1) (kR jDW (pv 2) (pv 0))) (pv 3))) yQ)) yQ)) yQ)))))))),?_⟩
  refine⟨_,rfl,p,N,4,rfl,hp,hN,Ac,Ac,fun N1 way b1 b2 b3=>?_⟩;have hp1:∀ M,(upd H p (.lst [.int M])) p=some (.lst [.int M]):=fun _=>j5;refine⟨_,rfl,rfl,_,rfl,?_⟩;refine ite2 (fun _=>?_) (fun hw0=>?_)
  ·refine⟨_,rfl,_,rfl,_,_,rfl,rfl,⟨Aa,Aa,Ac⟩,_,_,rfl,rfl,p,N1,_,rfl,hp1 _,b1,Aa,Aa,fun N2 r2 c1 c2 c3=>⟨_,_,rfl,rfl,?_⟩⟩;have hnum:1+r2<2 ^ w.toNat:=Aa;refine⟨_,rfl,w,rfl,Aa,Aa,jC6 (n:=w.toNat) (by rw[aH]; lia) (fun D i σ' H' ys=>(∃ v,σ'=[v,some (.int (1+r2))])/\ys=(bits (1+r2) i).map V.int/\H'=upd (upd (upd H p (.lst [.int N1])) p (.lst [.int N2])) D (.lst ys)) ?_ ?_ ?_ ?_⟩
   ·intro D hD;exact⟨⟨_,rfl⟩,rfl,rfl⟩
   ·rintro D i σ' H' ys hD hi ⟨_,e1,e2⟩;refine⟨by rw[e2]; exact j5,?_⟩;rw[e1,af];unfold bits;rw[af];exact bi (bU _ _) (by rw[cr]; exact aA _)
   ·rintro D i σ' H' ys hD hi ⟨⟨v,rfl⟩,rfl,rfl⟩;refine⟨_,rfl,_,rfl,_,_,rfl,rfl,(by show (0:Int)<=0+(i:Int); lia),_,_,rfl,rfl,rfl,_,rfl,?_⟩;have ei:(0+(i:Int)).toNat=i:=Aa;refine ite2 (fun hb=>?_) (fun hb=>?_)
    ·have hb:Builtin.bitAnd ((1+r2) / 2 ^ i) 1=1:=by
      have:=aI hb;rw[ei] at this;exact V.int.inj this
     refine⟨_,rfl,j5,⟨_,rfl⟩,?_,jDC⟩;rw[jIR,ay (ax hb),aU];congr 1;show [V.int (0+(i:Int))]=[V.int (i:Int)];rw[jq]
    ·have hb:¬ Builtin.bitAnd ((1+r2) / 2 ^ i) 1=1:=fun e=>hb (ax (by rw[ei]; exact bY V.int e));refine⟨⟨_,rfl⟩,?_,rfl⟩;rw[jIR,aw (by simpa using hb),bg]
   ·rintro D σ' H' ys hD ⟨_,rfl,rfl⟩;refine⟨D,_,rfl, .inl ⟨SqL.of j5,fun qq hqq=>?_⟩⟩;obtain⟨n1,n2⟩:=yI hqq;have pD:p≠D:=jA j5 hD;have pq:p≠qq:=jA j5 n2;exact q qq N2 (bits (1+r2) w.toNat) _ c1 (jS9 Aa Aa hnum) j5 (by rw[j9 pq,j9 pD,j5]) (((((Keep.refl H p).upd _).upd _).new hD _).new hqq _)
  ·have hway:1<=way:=by
    have:¬ way=0:=fun e=>hw0 (ax (by rw[e]));lia
   refine⟨_,rfl,_,rfl,p,N1,w,rfl,hp1 _,b1,Aa,Aa,fun N2 yA c1 c2 c3=>?_⟩;rw[jDC];refine⟨_,rfl,p,N2,3,rfl,hp1 _,c1,Ac,Ac,fun N3 st d1 d2 d3=>⟨_,_,rfl,rfl,?_⟩⟩;rw[jDC];refine⟨_,rfl,(by show 3<=sizeLine; decide),fun l hl=>?_⟩;have pl:p≠l:=jA (hp1 _) hl;obtain⟨wd,hwd,e1,e2⟩:∃ wd:Int,atI [V.int 1,V.int 2,V.int 4] (way - 1)=some (.int wd)/\1<=wd/\wd<=4:=by
    rcases (show way=1\/way=2\/way=3 by lia) with e | e | e
    ·subst e; exact⟨1,rfl,Ac,Ac⟩
    ·subst e; exact⟨2,rfl,Ac,Ac⟩
    ·subst e; exact⟨4,rfl,Ac,Ac⟩
   refine⟨_,rfl,_,_,rfl,rfl,l,_,_,_,rfl,rfl,SqL.of j5,hwd,p,N3,wd,rfl,by rw[j9 pl]; exact hp1 _,d1,Aa,Aa,fun N4 r4 g1 g2 g3=>⟨_,_,rfl,rfl,?_⟩⟩;have kp:Keep H (upd (upd (upd H p (.lst [.int N3])) l (.lst [V.int 1,V.int 2,V.int 4])) p (.lst [.int N4])) p:=(((Keep.refl H p).upd _).new hl _).upd _;have hp4:(upd (upd (upd H p (.lst [.int N3])) l (.lst [V.int 1,V.int 2,V.int 4])) p (.lst [.int N4])) p=some (.lst [.int N4]):=j5;generalize (upd (upd (upd H p (.lst [.int N3])) l (.lst [V.int 1,V.int 2,V.int 4])) p (.lst [.int N4]))=H4 at kp hp4 ⊢;refine⟨_,rfl,1+r4,rfl,Aa,Aa,jC6 (n:=(1+r4).toNat) (by rw[aH]; lia) (fun D i σ' H' ys=>(∃ v,σ'=[v,some (.int yA),some (.int (1+st)),some (.int w)])/\(∃ ns:Ag,ys=ns.map V.int/\ns.length=i/\∀ z∈ns,0<=z/\z<w)/\H'=upd H4 D (.lst ys)) ?_ ?_ ?_ ?_⟩
   ·intro D hD;exact⟨⟨_,rfl⟩,⟨[],rfl,rfl,fun z hz=>by cases hz⟩,rfl⟩
   ·rintro D i σ' H' ys hD hi ⟨_,⟨ns,rfl,e,_⟩,rfl⟩;exact⟨j5,by rw[af,e]; exact aA _⟩
   ·rintro D i σ' H' ys hD hi ⟨⟨v,rfl⟩,⟨ns,rfl,e,hb⟩,rfl⟩;dsimp only [kL,yB];rw[ay rfl];refine⟨_,rfl,_,rfl,_,rfl,_,_,rfl,rfl, .inl ⟨Aa,Aa⟩,_,_,rfl,rfl,_,rfl,_,_,rfl,rfl,(by show 0<w; lia),j5,⟨_,rfl⟩,⟨ns++[(yA+(1+st)*(0+(i:Int))) % w],Ad,by simp [e],fun z hz=>?_⟩,jDC⟩;rcases aP.mp hz with hz | hz
    ·exact hb z hz
    ·have:z=(yA+(1+st)*(0+(i:Int))) % w:=by simpa using hz
     rw[this];exact⟨Int.emod_nonneg _ Aa,lC _ Aa⟩
   ·rintro D σ' H' ys hD ⟨_,⟨ns,rfl,e,hb⟩,rfl⟩;refine⟨D,ns,rfl,SqL.of j5,Aa,fun z hz=>⟨(hb z hz).1,by have:=(hb z hz).2; lia⟩,fun l1 ks h11 hm1=>?_⟩;refine⟨l1,ks,rfl,j5,fun l2 ms h12 srt hm2=>?_⟩;refine⟨l2,_,rfl, .inl ⟨SqL.of j5,fun qq hqq=>?_⟩⟩;have pD:p≠D:=jA hp4 hD;have p1:p≠l1:=jA hp4 (yI h11).2;have p2:p≠l2:=jA hp4 (yI (yI h12).2).2;have pq:p≠qq:=jA hp4 (yI (yI (yI hqq).2).2).2;refine q qq N4 ms _ g1 ⟨srt,fun z hz=>hb z ((hm1 z).mp ((hm2 z).mp hz)),fun z=>?_⟩ j5 (by rw[j9 pq,j9 p2,j9 p1,j9 pD]; exact hp4) ((((kp.new hD _).new h11 _).new h12 _).new hqq _);subst z;cases ns with
    | nil=>simp at e; lia
    | cons x r=>
     have:=(hm2 x).mpr ((hm1 x).mpr ai);cases this
structure Ris (w:Int)(ts:Ag):Prop where
 ris:ts.Pairwise (· < ·)
 bnd:∀ z∈ts,0<=z/\z<w
theorem Ris.nil (w:Int):Ris w []:=⟨.nil,fun z hz=>by cases hz⟩
theorem Ris.take {w:Int}{ts:Ag}(h:Ris w ts)(k:Nat):Ris w (ts.take k):=⟨h.ris.sublist (dL _ _),fun z hz=>h.bnd z (bQ hz)⟩
theorem Ris.drop {w:Int}{ts:Ag}(h:Ris w ts)(k:Nat):Ris w (ts.drop k):=⟨h.ris.sublist (iR _ _),fun z hz=>h.bnd z (cI hz)⟩
theorem Ris.snoc {i:Nat}{ts:Ag}(h:Ris i ts):Ris (i+1:Nat) (ts++[(i:Int)]):=by
 refine⟨cw.mpr ⟨h.ris,eV _ _,fun a ha b hb=>?_⟩,fun z hz=>?_⟩
 ·have:=(h.bnd a ha).2;have e:b=i:=by simpa using hb
  lia
 ·rcases aP.mp hz with q | q
  ·have:=h.bnd z q;lia
  ·have e:z=i:=by simpa using q
   lia
theorem Ris.step {i:Nat}{ts:Ag}(h:Ris i ts):Ris (i+1:Nat) ts:=⟨h.ris,fun z hz=>by have:=h.bnd z hz; lia⟩
def upto (n:Nat):Ag:=(List.range n).map fun (i:Nat)=>(i:Int)
theorem jPF (n:Nat):yZ n=(upto n).map V.int:=by
 unfold yZ upto;rw[bH];rfl
theorem kQ (n:Nat):Ris n (upto n):=by
 refine⟨?_,fun z hz=>?_⟩
 ·unfold upto;rw[bh];exact gM.imp fun h=>by lia
 ·unfold upto at hz;obtain⟨t,ht,rfl⟩:=aQ.mp hz;have:=bF.mp ht;lia
def Tups (H H':Hp):Prop:=∀ b xs,H b=some (.tup xs)->H' b=some (.tup xs)
theorem Tups.trans {H H1 H2:Hp}(a:Tups H H1)(b:Tups H1 H2):Tups H H2:=fun c o h=>b c o (a c o h)
theorem Keep.tups {H H':Hp}{p:Addr}{xs:List V}(k:Keep H H' p)(hp:H p=some (.lst xs)):Tups H H':=fun b ys hb=>k b _ hb fun e=>by
 subst e;rw[hb] at hp;cases hp
theorem Tups.upd {H:Hp}{p:Addr}{xs:List V}(hp:H p=some (.lst xs))(o:HO):Tups H (upd H p o):=fun b ys hb=>by
 rw[j9 (fun e=>by subst e; rw[hb] at hp; cases hp)];exact hb
theorem Tups.new {H:Hp}{p:Addr}(hp:H p=none)(o:HO):Tups H (L2.upd H p o):=fun b ys hb=>by
 rw[j9 (jA hb hp)];exact hb
def PcAt (H:Hp)(v:V)(pc:List Int×Int):Prop:=∃ a q,v= .ref a/\H a=some (.tup [.ref q, .int pc.2])/\H q=some (.tup (pc.1.map V.int))
def PcsAt (H:Hp):List V->Ae->Prop
 | [],[]=>True
 | v::vs,p::ps=>PcAt H v p/\PcsAt H vs ps
 | _,_=>False
theorem PcAt.mono {H H':Hp}{v:V}{pc:List Int×Int}(h:PcAt H v pc)(t:Tups H H'):PcAt H' v pc:=by
 obtain⟨a,q,rfl,h1,h2⟩:=h;exact⟨a,q,rfl,t _ _ h1,t _ _ h2⟩
theorem PcsAt.mono {H H':Hp}(t:Tups H H'):∀ {vs:List V}{ps:Ae},PcsAt H vs ps->PcsAt H' vs ps
 | [],[],_=>trivial
 | _::_,_::_,h=>⟨h.1.mono t,PcsAt.mono t h.2⟩
 | [],_::_,h=>h.elim
 | _::_,[],h=>h.elim
theorem PcsAt.len {H:Hp} :∀ {vs:List V}{ps:Ae},PcsAt H vs ps->vs.length=ps.length
 | [],[],_=>rfl
 | _::_,_::_,h=>bY (· +1) (PcsAt.len h.2)
 | [],_::_,h=>h.elim
 | _::_,[],h=>h.elim
theorem PcsAt.put {H:Hp}{v:V}{p:List Int×Int}(hv:PcAt H v p):∀ (k:Nat) {vs:List V}{ps:Ae},PcsAt H vs ps->PcsAt H (vs.take k++v::vs.drop k) (ps.take k++p::ps.drop k)
 | 0,_,_,h=>⟨hv,h⟩
 | _+1,[],[],_=>⟨hv,trivial⟩
 | k+1,_::_,_::_,h=>⟨h.1,PcsAt.put hv k h.2⟩
 | _+1,[],_::_,h=>h.elim
 | _+1,_::_,[],h=>h.elim
structure GoodPc (w:Int)(pc:List Int×Int):Prop where
 lot:Lot w pc.1
 lo: -1000000000000<=pc.2
 hi:pc.2<=1000000000000
structure BoxAt (H:Hp)(b:Addr)(w:Int)(mays:Ag)(Ar:Ae):Prop where
 ex:∃ qm qp vs,H b=some (.tup [.int w, .ref qm, .ref qp])/\H qm=some (.tup (mays.map V.int))/\H qp=some (.tup vs)/\PcsAt H vs Ar
theorem BoxAt.mono {H H':Hp}{b:Addr}{w:Int}{mays:Ag}{Ar:Ae}(h:BoxAt H b w mays Ar)(t:Tups H H'):BoxAt H' b w mays Ar:=by
 obtain⟨qm,qp,vs,h1,h2,h3,h4⟩:=h.ex;exact⟨qm,qp,vs,t _ _ h1,t _ _ h2,t _ _ h3,h4.mono t⟩
structure Good (mt mp:Int)(w:Int)(mays:Ag)(Ar:Ae):Prop where
 w0:0<=w
 w1:w<=mt
 mr:Ris w mays
 pl:(Ar.length:Int)<=mp
 pg:∀ pc∈Ar,GoodPc w pc
theorem Keep.updNew {H H1:Hp}{p l:Addr}(a:Keep H H1 p)(hl:H l=none)(o:HO):Keep H (L2.upd H1 l o) p:=fun c u h n=>by
 rw[j9 (jA h hl)];exact a c u h n
def spBox:Sp:=fun vs H Q _=>∃ (p:Addr) (N mt mp:Int),vs=[.ref p, .int mt, .int mp]/\H p=some (.lst [.int N])/\0<=N/\0<=mt/\mt<=16/\0<=mp/\mp<=32/\
 ∀ (b:Addr) (N' w:Int) (mays:Ag) (Ar:Ae) (H':Hp),0<=N'->H' p=some (.lst [.int N'])->BoxAt H' b w mays Ar->Good mt mp w mays Ar->Keep H H' p->Q (.ref b) H'
abbrev nBox:Am:=["pot","most_things","most_pieces","wide","mays","left","far","pieces","k","size","things"]
theorem scBox:FnScope nBox ["pot","most_things","most_pieces"] (j7 sBox):= {}
abbrev XBox (P:Program)(w:World)(K:W.Frag)(mg:Ak)(Aq:Heap)(f:Addr)(lM:Value)(A:Around)(Ap:List Env)(s:Shared)(H:Hp)(E:XK):Cx:=(cxOf CX0 P w K mg Aq nBox "_law_box" (j7 sBox) f lM A Ap s H E).nox
def jD1:Stmt->List Stmt
 | .For _ _ b _ _=>b
 | _=> []
def boxI {f fT fL:Addr}{fdT fdL:FuncData}{lM:Value}{A:Around}{Ap:List Env}{s:Shared}{H:Hp}{E:XK}(T:Txt mg)(CT:Can P w K mg Aq "_law_take" 1 fT fdT ["pot","wide"] yS)(CL:Can P w K mg Aq "_law_lot" 2 fL fdL ["pot","wide"] qS)(hr:Room 2 (XBox P w K mg Aq f lM A Ap s H E).A): { t:TS // JSs (XBox P w K mg Aq f lM A Ap s H E) ((jD1 ((jD sBox).getD 7 (.Pass ⟨0,0,0,0⟩))).drop 4) t} :=
 have nd:=scBox.nd
 ⟨_,(jC (jDI (je_bm bR PySem.F.slot_list_insert PySem.F.type_list_insert jOG (jv 7 rfl vL) (j3 (CT.je (hr.mono Ac) gD (j3 (jv 0 rfl vC) (j3 (kX yE (jG jN gD T.len Ab (j3 (jv 7 rfl vL) j6 j4) j4) (je_int)) j6 yT) j4) j4) (j3 (jLA (j3 (jv 10 rfl vL) (j3 (kX jEK (CT.je (hr.mono Ac) gD (j3 (jv 0 rfl vC) (j3 (jv 6 rfl vL) j6 j4) j4) j4) (kX jKS (jv 6 rfl vL) (je_int))) j6 yT) j4)) j6 jDQ) jE) jE) kE))⟩
def boxL {f fT fL:Addr}{fdT fdL:FuncData}{lM:Value}{A:Around}{Ap:List Env}{s:Shared}{H:Hp}{E:XK}(T:Txt mg)(CT:Can P w K mg Aq "_law_take" 1 fT fdT ["pot","wide"] yS)(CL:Can P w K mg Aq "_law_lot" 2 fL fdL ["pot","wide"] qS)(hr:Room 2 (XBox P w K mg Aq f lM A Ap s H E).A): { t:TS // JSs (XBox P w K mg Aq f lM A Ap s H E) (jD1 ((jD sBox).getD 7 (.Pass ⟨0,0,0,0⟩))) t} :=
 have nd:=scBox.nd
 ⟨_,(jB (jU (i:=9) nd rfl lL (kX yE (je_int) (CT.je (hr.mono Ac) gD (j3 (jv 0 rfl vC) (j3 (je_int) j6 kO) j4) j4)) jKF)
   (jB (jU (i:=10) nd rfl lL (jW jV gD T.tuple Ab (j3 (jGS jJ6 (jv 5 rfl vL) jJQ (jJP (jv 9 rfl vL))) j6 jR) jR) kE)
   (jB (jU (i:=5) nd rfl lL (jGS jJ6 (jv 5 rfl vL) (jJP (jv 9 rfl vL)) jJQ) jKD)
   (jB (y8 (jY (jWR hr.units0) (jv 10 rfl vL) (jLA j6) (jT _)) (jC (jU (i:=10) nd rfl lL (CL.je hr gD (j3 (jv 0 rfl vC) (j3 (jv 3 rfl vL) j6 j4) j4) j4) kE)) kB)
   (boxI T CT CL hr).2))))⟩
def boxC {f fT fL:Addr}{fdT fdL:FuncData}{lM:Value}{A:Around}{Ap:List Env}{s:Shared}{H:Hp}{E:XK}(T:Txt mg)(CT:Can P w K mg Aq "_law_take" 1 fT fdT ["pot","wide"] yS)(CL:Can P w K mg Aq "_law_lot" 2 fL fdL ["pot","wide"] qS)(hr:Room 2 (XBox P w K mg Aq f lM A Ap s H E).A): { t:TS // JSs (XBox P w K mg Aq f lM A Ap s H E) ((jD sBox).drop 5) t} :=
 have nd:=scBox.nd
 ⟨_,(jB (jU (i:=6) nd rfl lL (jM jCH (jP3 (j3 (je_int) (j3 (je_int) (j3 (jXH) j6 yT) kO) kO)) (CT.je (hr.mono Ac) gD (j3 (jv 0 rfl vC) (j3 (je_int) j6 kO) j4) j4) jTV) jKD)
   (jB (jU (i:=7) nd rfl lL (jP3 j6) jEE)
   (jB (jCA cB rfl (jA5 gD T.range (j3 (kX jDW (CT.je (hr.mono Ac) gD (j3 (jv 0 rfl vC) (j3 (kX yE (jv 2 rfl vL) (je_int)) j6 yT) j4) j4) (jW jQ3 gD T.int Ab (j3 (yO op_gt (jv 3 rfl vL) (je_int) (jT _)) j6 jSQ) jSQ)) j6 yT) yT) (jJ (i:=8) nd rfl lL) (boxL T CT CL hr).2 kP)
   (jC (jL (jLA (j3 (jv 3 rfl vL) (j3 (jv 4 rfl vL) (j3 (jW jV gD T.tuple Ab (j3 (jv 7 rfl vL) j6 j4) j4) j6 jE) j4) j4)))))))⟩
def boxB {f fT fL:Addr}{fdT fdL:FuncData}{lM:Value}{A:Around}{Ap:List Env}{s:Shared}{H:Hp}{E:XK}(T:Txt mg)(CT:Can P w K mg Aq "_law_take" 1 fT fdT ["pot","wide"] yS)(CL:Can P w K mg Aq "_law_lot" 2 fL fdL ["pot","wide"] qS)(hr:Room 2 (XBox P w K mg Aq f lM A Ap s H E).A): { t:TS // JSs (XBox P w K mg Aq f lM A Ap s H E) ((jD sBox).drop 3) t} :=
 have nd:=scBox.nd
 ⟨_,(jB (jU (i:=5) nd rfl lL (jW (jBJ rfl) gD T.list Ab (j3 (jW jCK gD T.range Ab (j3 (jv 3 rfl vL) j6 j4) j4) j6 jE) jE) kE)
   (jB (y8 (jY qU (CT.je (hr.mono Ac) gD (j3 (jv 0 rfl vC) (j3 (je_int) j6 kO) j4) j4) (je_int) (jT _)) (jC (jU (i:=5) nd rfl lL (jP3 j6) jEE)) kB)
   (boxC T CT CL hr).2))⟩
def boxA {f fT fL:Addr}{fdT fdL:FuncData}{lM:Value}{A:Around}{Ap:List Env}{s:Shared}{H:Hp}{E:XK}(T:Txt mg)(CT:Can P w K mg Aq "_law_take" 1 fT fdT ["pot","wide"] yS)(CL:Can P w K mg Aq "_law_lot" 2 fL fdL ["pot","wide"] qS)(hr:Room 2 (XBox P w K mg Aq f lM A Ap s H E).A): { t:TS // JSs (XBox P w K mg Aq f lM A Ap s H E) (jD sBox) t} :=
 have nd:=scBox.nd
 ⟨_,(jB (jU (i:=3) nd rfl lL (CT.je (hr.mono Ac) gD (j3 (jv 0 rfl vC) (j3 (kX yE (jv 1 rfl vL) (je_int)) j6 yT) j4) j4) kE)
   (jB (jU (i:=4) nd rfl lL (jLA j6) jSN)
   (jB (y8 (jY qU (CT.je (hr.mono Ac) gD (j3 (jv 0 rfl vC) (j3 (je_int) j6 kO) j4) j4) (je_int) (jT _)) (jC (jU (i:=4) nd rfl lL (jW jV gD T.tuple Ab (j3 (kG (m:=[none,some 0]) (Nc:=["t","pot"]) rfl (jA5 gD T.range (j3 (jv 3 rfl vL) j6 j4) j4) rfl Ab Ab (jK (psc:=j7 sBox)) (jI (N:=nBox) rfl rfl Ab) (fun cl C fp s H=>jJ (i:=0) (show (["t","pot"]:Am).Nodup by decide+kernel) rfl yC) (fun cl C fp s H=>jEZ (jY qU (CT.je (hr.mono Ac) gl_b (j3 (jv 1 rfl kN) (j3 (je_int) j6 kO) j4) j4) (je_int) (jT _))) (fun cl C fp s H=>(jv 0 rfl jP)) kP) j6 jH) jH) kE)) kB)
   (boxB T CT CL hr).2)))⟩
structure St0 (H H2:Hp)(p:Addr)(w:Int)(qm ql:Addr)(mays lf:Ag)(N:Int):Prop where
 hp:H2 p=some (.lst [.int N])
 hN:0<=N
 hm:H2 qm=some (.tup (mays.map V.int))
 rm:Ris w mays
 hl:H2 ql=some (.lst (lf.map V.int))
 rl:Ris w lf
 ne:ql≠p
 kp:Keep H H2 p
theorem St0.step {H H2 H3:Hp}{p:Addr}{w:Int}{qm ql:Addr}{mays lf:Ag}{N N':Int}(S:St0 H H2 p w qm ql mays lf N)(k:Keep H2 H3 p)(hp:H3 p=some (.lst [.int N']))(hN:0<=N'):St0 H H3 p w qm ql mays lf N':=
 ⟨hp,hN,k qm _ S.hm (ne_of S.hm S.hp (by intro z; cases z)),S.rm,k ql _ S.hl S.ne,S.rl,S.ne,S.kp.trans k⟩
theorem jPX {w:Int}{lf:Ag}(h:Ris w lf)(lo hi:Option Int):∃ l',cutV (lf.map V.int) lo hi=l'.map V.int/\Ris w l':=by
 refine⟨(lf.drop (HT.sIx lf.length 0 lo)).take (HT.sIx lf.length lf.length hi - HT.sIx lf.length 0 lo),?_,(h.drop _).take _⟩;unfold cutV;rw[af,ln,List.map_drop]
theorem jIN (T:Txt mg)(CT:Can P w K mg Aq "_law_take" 1 fT fdT ["pot","wide"] yS)(CL:Can P w K mg Aq "_law_lot" 2 fL fdL ["pot","wide"] qS)(hr:Room 2 (XBox P w K mg Aq f lM A Ap s H0 E).A)
  {D:Ends}{H H5:Hp}{p qm ql qp qt:Addr}{mt mp w N far:Int}{mays lf ts:Ag}{vs:List V}{Ar:Ae}{v8 v9:Option V}
  (S:St0 H H5 p w qm ql mays lf N) (hqp:H5 qp=some (.lst vs)) (hv:PcsAt H5 vs Ar) (hg:∀ pc∈Ar,GoodPc w pc) (hqt:H5 qt=some (.tup (ts.map V.int))) (lt:Lot w ts) (hf:far=1\/far=10\/far=2000000000001) (hn:Ar.length<=100) (hH:H qp=none) (hne:ql≠qp) (hpp:p≠qp)
  (nx:∀ H6 N' vs' Ar',St0 H H6 p w qm ql mays lf N'->H6 qp=some (.lst vs')->PcsAt H6 vs' Ar'->(∀ pc∈Ar',GoodPc w pc)->Ar'.length=Ar.length+1->D.nx [some (.ref p),some (.int mt),some (.int mp),some (.int w),some (.ref qm),some (.ref ql),some (.int far),some (.ref qp),v8,v9,some (.ref qt)] H6):
  (boxI T CT CL hr).1 D [some (.ref p),some (.int mt),some (.int mp),some (.int w),some (.ref qm),some (.ref ql),some (.int far),some (.ref qp),v8,v9,some (.ref qt)] H5:=by
 have hlen:=hv.len;have h64:(0:Int)<far/\far<2 ^ 64:=by rcases hf with e | e | e <;> subst e <;> decide
 refine⟨_,rfl, .inl ⟨rfl,_,SqL.of hqp⟩,_,rfl,_,rfl,qp,vs,rfl, .inl (SqL.of hqp),_,_,rfl,rfl,p,N,_,rfl,S.hp,S.hN,Aa,Aa,fun N1 i a1 a2 a3=>?_⟩;refine⟨_,rfl,_,rfl,_,rfl,p,N1,far,rfl,j5,a1,h64.1,h64.2,fun N2 r b1 b2 b3=>?_⟩;rw[jDC];refine⟨_,rfl,_,_,rfl,rfl,⟨Ac,Ac⟩,_,_,rfl,rfl,(by show 2<=sizeLine; decide),fun tq htq=>?_⟩;obtain⟨t1,t2⟩:=yI htq;have ht:tq≠qp:=fun e=>by subst e; rw[hqp] at t2; cases t2
 refine⟨qp,vs,i,_,rfl,rfl,by rw[j9 ht.symm,j9 hpp.symm]; exact hqp,a2,Aa,by rw[aH]; lia,?_⟩;have T1:Tups H5 (upd (upd H5 p (.lst [.int N2])) tq (.tup [.ref qt, .int (r - far / 2)])):=(Tups.upd S.hp _).trans (Tups.new htq _);have k1:Keep H5 (upd (upd H5 p (.lst [.int N2])) tq (.tup [.ref qt, .int (r - far / 2)])) p:=((Keep.refl _ _).upd _).new htq _;have S1:=S.step k1 (by rw[j9 t1.symm]; exact j5) b1;have hq1:(upd (upd H5 p (.lst [.int N2])) tq (.tup [.ref qt, .int (r - far / 2)])) qp=some (.lst vs):=by rw[j9 ht.symm,j9 hpp.symm]; exact hqp
 have T2:=T1.trans (Tups.upd hq1 (.lst (vs.take i.toNat++V.ref tq::vs.drop i.toNat)));have pc:PcAt (upd (upd H5 p (.lst [.int N2])) tq (.tup [.ref qt, .int (r - far / 2)])) (.ref tq) (ts,r - far / 2):=⟨tq,qt,rfl,j5,T1 _ _ hqt⟩;refine nx _ N2 _ (Ar.take i.toNat++(ts,r - far / 2)::Ar.drop i.toNat) ⟨?_,b1,?_,S.rm,?_,S.rl,S.ne,S1.kp.updNew hH _⟩ j5 ?_ ?_ ?_
 ·rw[j9 hpp]; exact S1.hp
 ·exact(Tups.upd hq1 _) _ _ S1.hm
 ·rw[j9 hne]; exact S1.hl
 ·exact PcsAt.put (pc.mono (Tups.upd hq1 _)) _ (hv.mono T2)
 ·intro c hc;rcases aP.mp hc with h | h
  ·exact hg c (bQ h)
  ·rcases aE.mp h with h | h
   ·subst h;refine⟨lt,?_,?_⟩
    ·show -1000000000000<=r - far / 2;rcases hf with e | e | e <;> subst e <;> lia
    ·show r - far / 2<=1000000000000;rcases hf with e | e | e <;> subst e <;> lia
   ·exact hg c (cI h)
 ·rw[aJ,aV,bI,gY];lia
theorem jQ4 (T:Txt mg)(CT:Can P w K mg Aq "_law_take" 1 fT fdT ["pot","wide"] yS)(CL:Can P w K mg Aq "_law_lot" 2 fL fdL ["pot","wide"] qS)(hr:Room 2 (XBox P w K mg Aq f lM A Ap s H0 E).A)
  {D:Ends}{H H5:Hp}{p qm ql qp:Addr}{mt mp w N far:Int}{mays lf:Ag}{vs:List V}{Ar:Ae}{v8 v9 v10:Option V}
  (S:St0 H H5 p w qm ql mays lf N) (hqp:H5 qp=some (.lst vs)) (hv:PcsAt H5 vs Ar) (hg:∀ pc∈Ar,GoodPc w pc) (hf:far=1\/far=10\/far=2000000000001) (hn:Ar.length<=100) (hH:H qp=none) (hpp:p≠qp) (w1:1<=w) (w2:w<=16)
  (nx:∀ H6 N' vs' Ar' ql' lf' v9' v10',St0 H H6 p w qm ql' mays lf' N'->ql'≠qp->H6 qp=some (.lst vs')->PcsAt H6 vs' Ar'->(∀ pc∈Ar',GoodPc w pc)->Ar'.length=Ar.length+1->D.nx [some (.ref p),some (.int mt),some (.int mp),some (.int w),some (.ref qm),some (.ref ql'),some (.int far),some (.ref qp),v8,v9',v10'] H6):
  (boxL T CT CL hr).1 D [some (.ref p),some (.int mt),some (.int mp),some (.int w),some (.ref qm),some (.ref ql),some (.int far),some (.ref qp),v8,v9,v10] H5:=by
 refine⟨_,rfl,p,N,3,rfl,S.hp,S.hN,Ac,Ac,fun N1 r1 a1 a2 a3=>⟨_,_,rfl,rfl,?_⟩⟩;have S1:=S.step ((Keep.refl _ _).upd (.lst [.int N1])) j5 a1;have hq1:(upd H5 p (.lst [.int N1])) qp=some (.lst vs):=by rw[j9 hpp.symm]; exact hqp
 have hv1:=hv.mono (Tups.upd S.hp (.lst [.int N1]));generalize upd H5 p (.lst [.int N1])=H6 at S1 hq1 hv1 ⊢;clear S hqp hv;obtain⟨l1,e1,g1⟩:=jPX S1.rl none (some (1+r1));obtain⟨l2,e2,g2⟩:=jPX S1.rl (some (1+r1)) none;refine⟨_,rfl,_,rfl,1+r1,rfl,ql,_,rfl,SqL.of S1.hl,fun x hx=>⟨x,_,rfl, .inl ⟨SqL.of j5,fun qt hqt=>?_⟩⟩⟩;rw[e1] at hqt ⊢;have k1:Keep H6 (upd (upd H6 x (.lst (l1.map V.int))) qt (.tup (l1.map V.int))) p:=((Keep.refl _ _).new hx _).new hqt _;obtain⟨t1,t2⟩:=yI hqt;have px:p≠x:=jA S1.hp hx;have pt:p≠qt:=jA S1.hp t2;have qx:qp≠x:=jA hq1 hx;have qq:qp≠qt:=jA hq1 t2;have S2:=S1.step k1 (by rw[j9 pt,j9 px]; exact S1.hp) S1.hN;have hq2:(upd (upd H6 x (.lst (l1.map V.int))) qt (.tup (l1.map V.int))) qp=some (.lst vs):=by rw[j9 qq,j9 qx]; exact hq1
 have hv2:=hv1.mono (k1.tups S1.hp);have ht2:(upd (upd H6 x (.lst (l1.map V.int))) qt (.tup (l1.map V.int))) qt=some (.tup (l1.map V.int)):=j5;generalize upd (upd H6 x (.lst (l1.map V.int))) qt (.tup (l1.map V.int))=H7 at S2 hq2 hv2 ht2 ⊢;clear k1 hqt t2 hx S1 hq1 hv1;refine⟨_,rfl,_,rfl,1+r1,rfl,ql,_,rfl,SqL.of S2.hl,fun ql' hql=>?_⟩;rw[e2];have pl:p≠ql':=jA S2.hp hql;have k2:Keep H7 (upd H7 ql' (.lst (l2.map V.int))) p:=(Keep.refl _ _).new hql _;have S3':=S2.step k2 (by rw[j9 pl]; exact S2.hp) S2.hN;have S3:St0 H (upd H7 ql' (.lst (l2.map V.int))) p w qm ql' mays l2 N1:=⟨S3'.hp,S3'.hN,S3'.hm,S3'.rm,j5,g2,pl.symm,S3'.kp⟩;have hne:qp≠ql':=jA hq2 hql;have hq3:(upd H7 ql' (.lst (l2.map V.int))) qp=some (.lst vs):=by rw[j9 hne]; exact hq2
 have hv3:=hv2.mono (k2.tups S2.hp);have ht3:=k2.tups S2.hp _ _ ht2;generalize upd H7 ql' (.lst (l2.map V.int))=H8 at S3 hq3 hv3 ht3 ⊢;clear k2 S3' S2 hq2 hv2 ht2 hql;refine⟨_,rfl,(by show 0<=sizeLine; exact bo _),fun z hz=>⟨qt,z,l1.map V.int,rfl,rfl,SqT.of ?_,SqT.of j5,_,rfl,?_⟩⟩
 ·rw[j9 (jA ht3 hz)]; exact ht3
 have pz:p≠z:=jA S3.hp hz;have qz:qp≠z:=jA hq3 hz;have k3:Keep H8 (upd H8 z (.tup [])) p:=(Keep.refl _ _).new hz _;have S4:=S3.step k3 (by rw[j9 pz]; exact S3.hp) S3.hN;have hq4:(upd H8 z (.tup [])) qp=some (.lst vs):=by rw[j9 qz]; exact hq3
 have hv4:=hv3.mono (k3.tups S3.hp);have ht4:=k3.tups S3.hp _ _ ht3;generalize upd H8 z (.tup [])=H9 at S4 hq4 hv4 ht4 ⊢;clear k3 S3 hq3 hv3 ht3 hz pz qz;refine ite2 (fun hy=>?_) (fun hy=>?_)
 ·refine⟨_,rfl,_,rfl,p,N1,w,rfl,S4.hp,S4.hN,w1,w2,fun q N2 ts H' b1 lt b2 b3 b4=>?_⟩;exact jIN T CT CL hr (S4.step b4 b3 b1) (b4 _ _ hq4 hpp.symm) (hv4.mono (b4.tups S4.hp)) hg b2 lt hf hn hH hne.symm hpp fun H6 N' vs' Ar' z1 z2 z3 z4 z5=>nx H6 N' vs' Ar' ql' l2 _ _ z1 hne.symm z2 z3 z4 z5
 ·have nl:l1≠ []:=fun e=>hy (ax (by rw[e]; rfl));exact jIN T CT CL hr S4 hq4 hv4 hg ht4 ⟨g1.ris,g1.bnd,nl⟩ hf hn hH hne.symm hpp fun H6 N' vs' Ar' z1 z2 z3 z4 z5=>nx H6 N' vs' Ar' ql' l2 _ _ z1 hne.symm z2 z3 z4 z5
def Told (H:Hp)(p:Addr)(mt mp:Int)(R:VK):Prop:=∀ (b:Addr) (N' w:Int) (mays:Ag) (Ar:Ae) (H':Hp),0<=N'->H' p=some (.lst [.int N'])->BoxAt H' b w mays Ar->Good mt mp w mays Ar->Keep H H' p->R (.ref b) H'
theorem jIO (T:Txt mg)(CT:Can P w K mg Aq "_law_take" 1 fT fdT ["pot","wide"] yS)(CL:Can P w K mg Aq "_law_lot" 2 fL fdL ["pot","wide"] qS)(hr:Room 2 (XBox P w K mg Aq f lM A Ap s H0 E).A)
  {D:Ends}{H H5:Hp}{p qm ql:Addr}{mt mp w N:Int}{mays lf:Ag}{v6 v7 v8 v9 v10:Option V}
  (S:St0 H H5 p w qm ql mays lf N) (hpH:∃ o,H p=some o) (w0:0<=w) (w1:w<=mt) (w2:mt<=16) (n0:0<=mp) (n1:mp<=32) (q:Told H p mt mp D.rt):
  (boxC T CT CL hr).1 D [some (.ref p),some (.int mt),some (.int mp),some (.int w),some (.ref qm),some (.ref ql),v6,v7,v8,v9,v10] H5:=by
 refine⟨(by show 3<=sizeLine; decide),fun l hl=>?_⟩;have pl:p≠l:=jA S.hp hl;refine⟨_,rfl,p,N,3,rfl,by rw[j9 pl]; exact S.hp,S.hN,Ac,Ac,fun N1 r a1 a2 a3=>?_⟩;obtain⟨far,hfar,hf⟩:∃ far:Int,atI [V.int 1,V.int 10,V.int 2000000000001] r=some (.int far)/\(far=1\/far=10\/far=2000000000001):=by
  rcases (show r=0\/r=1\/r=2 by lia) with e | e | e
  ·subst e; exact⟨_,rfl, .inl rfl⟩
  ·subst e; exact⟨_,rfl, .inr (.inl rfl)⟩
  ·subst e; exact⟨_,rfl, .inr (.inr rfl)⟩
 refine⟨l,_,r,_,rfl,rfl,SqL.of (by rw[j9 pl.symm]; exact j5),hfar,?_⟩;have S1:=S.step ((((Keep.refl _ _).new hl (.lst [V.int 1,V.int 10,V.int 2000000000001])).upd (.lst [.int N1]))) j5 a1;generalize upd (upd H5 l (.lst [V.int 1,V.int 10,V.int 2000000000001])) p (.lst [.int N1])=H6 at S1 ⊢;clear hl S;refine⟨(by show 0<=sizeLine; exact bo _),fun qp hqp=>?_⟩;have pq:p≠qp:=jA S1.hp hqp;have hHq:H qp=none:=by
  cases e:H qp with
  | none=>rfl
  | some o=>
   have:=S1.kp _ _ e pq.symm;rw[hqp] at this;cases this
 have lq:ql≠qp:=jA S1.hl hqp;have S2:=S1.step ((Keep.refl _ _).new hqp (.lst [])) (by rw[j9 pq]; exact S1.hp) S1.hN;have hq2:(upd H6 qp (.lst [])) qp=some (.lst []):=j5;generalize upd H6 qp (.lst [])=H7 at S2 hq2 ⊢;clear hqp S1;refine⟨_,rfl,_,rfl,_,_,rfl,rfl,p,N1,_,rfl,S2.hp,S2.hN,Aa,Aa,fun N2 n b1 b2 b3=>?_⟩;refine⟨_,rfl,_,_,rfl,rfl, .inr ⟨_,rfl,_,_,rfl,rfl, .inl ⟨Aa,Aa⟩,_,rfl,?_⟩⟩;have S3:=S2.step ((Keep.refl _ _).upd (.lst [.int N2])) j5 b1;have hq3:(upd H7 p (.lst [.int N2])) qp=some (.lst []):=by rw[j9 pq.symm]; exact hq2
 generalize upd H7 p (.lst [.int N2])=H8 at S3 hq3 ⊢;clear S2 hq2;obtain⟨m,em,hm,hw⟩:∃ m:Int,n*(if decide (0<w)=true then 1 else 0)=m/\(0<=m/\m<=mp)/\(0<m->1<=w):=by
  by_cases h:0<w
  ·exact⟨n,by simp [h],⟨b2,Aa⟩,fun _=>h⟩
  ·exact⟨0,by simp [h],⟨Aa,n0⟩,fun z=>by lia⟩
 show _/\_/\_;rw[show (n*(if decide (0<w)=true then 1 else 0))=m from em];refine⟨Aa,Aa,jD5 (n:=m.toNat) (fun i σ H5=>∃ ql' lf' N' vs Ar v8 v9 v10,σ=[some (.ref p),some (.int mt),some (.int mp),some (.int w),some (.ref qm),some (.ref ql'),some (.int far),some (.ref qp),v8,v9,v10]/\St0 H H5 p w qm ql' mays lf' N'/\ql'≠qp/\H5 qp=some (.lst vs)/\PcsAt H5 vs Ar/\(∀ pc∈Ar,GoodPc w pc)/\Ar.length=i) ?_ ?_ ?_⟩
 ·exact⟨ql,lf,N2,[],[],_,_,_,rfl,S3,lq,hq3,trivial,(fun _ h=>by cases h),rfl⟩
 ·rintro i σ H9 hi ⟨ql',lf',N',vs,Ar,x8,x9,x10,rfl,S4,l4,hq4,hv4,hg4,e4⟩;exact jQ4 T CT CL hr S4 hq4 hv4 hg4 hf Aa hHq pq (hw Aa) Aa fun H6 N' vs' Ar' ql' lf' v9' v10' z1 z2 z3 z4 z5 z6=>⟨ql',lf',N',vs',Ar',_,_,_,rfl,z1,z2,z3,z4,z5,Aa⟩
 ·rintro σ H9 ⟨ql',lf',N',vs,Ar,x8,x9,x10,rfl,S4,l4,hq4,hv4,hg4,e4⟩;refine⟨_,rfl,_,rfl,_,rfl,qp,vs,rfl, .inl ⟨SqL.of hq4,fun tq htq=>⟨(by show 3<=sizeLine; decide),fun b hb=>?_⟩⟩⟩;have k1:Keep H9 (upd H9 tq (.tup vs)) p:=(Keep.refl _ _).new htq _;have k2:Keep H9 (upd (upd H9 tq (.tup vs)) b (.tup [.int w, .ref qm, .ref tq])) p:=k1.new hb _;have tb:=jA j5 hb;have S5:=S4.step k2 (by rw[j9 (yI hb |>.2 |> fun h=>jA S4.hp h),j9 (jA S4.hp htq)]; exact S4.hp) S4.hN;exact q b N' w mays Ar _ S4.hN S5.hp ⟨qm,tq,vs,j5,S5.hm,by rw[j9 tb]; exact j5,hv4.mono (k2.tups S4.hp)⟩ ⟨w0,w1,S4.rm,Aa,hg4⟩ S5.kp
theorem jIP (T:Txt mg)(CT:Can P w K mg Aq "_law_take" 1 fT fdT ["pot","wide"] yS)(CL:Can P w K mg Aq "_law_lot" 2 fL fdL ["pot","wide"] qS)(hr:Room 2 (XBox P w K mg Aq f lM A Ap s H0 E).A)
  {D:Ends}{H H5:Hp}{p qm:Addr}{mt mp w N:Int}{mays:Ag}{v5 v6 v7 v8 v9 v10:Option V}
  (hp:H5 p=some (.lst [.int N])) (hN:0<=N) (hm:H5 qm=some (.tup (mays.map V.int))) (rm:Ris w mays) (kp:Keep H H5 p) (hpH:∃ o,H p=some o) (w0:0<=w) (w1:w<=mt) (w2:mt<=16) (n0:0<=mp) (n1:mp<=32) (q:Told H p mt mp D.rt):
  (boxB T CT CL hr).1 D [some (.ref p),some (.int mt),some (.int mp),some (.int w),some (.ref qm),v5,v6,v7,v8,v9,v10] H5:=by
 refine⟨_,rfl,w,rfl,fun x hx=>⟨x,w,rfl,j5,w0,Aa,fun ql hql=>?_⟩⟩;rw[jPF];have px:p≠x:=jA hp hx;have pl:p≠ql:=jA hp (yI hql).2;have k1:Keep H5 (upd (upd H5 x (.rng 0 w)) ql (.lst ((upto w.toNat).map V.int))) p:=((Keep.refl _ _).new hx _).new hql _;have e:((w.toNat:Nat):Int)=w:=Aa;have rl:Ris w (upto w.toNat):=by
  have:=kQ w.toNat;rw[e] at this;exact this
 have S:St0 H (upd (upd H5 x (.rng 0 w)) ql (.lst ((upto w.toNat).map V.int))) p w qm ql mays (upto w.toNat) N:=
  ⟨by rw[j9 pl,j9 px]; exact hp,hN,k1 qm _ hm (ne_of hm hp (by intro z; cases z)),rm,j5,rl,pl.symm,kp.trans k1⟩
 generalize upd (upd H5 x (.rng 0 w)) ql (.lst ((upto w.toNat).map V.int))=H6 at S ⊢;clear k1 hql hx hp hm kp;refine⟨_,rfl,p,N,3,rfl,S.hp,S.hN,Ac,Ac,fun N1 r a1 a2 a3=>⟨rfl,_,rfl,?_⟩⟩;have S1:=S.step ((Keep.refl _ _).upd (.lst [.int N1])) j5 a1;generalize upd H6 p (.lst [.int N1])=H7 at S1 ⊢;clear S;refine ite2 (fun hy=>?_) (fun hy=>?_)
 ·refine⟨(by show 0<=sizeLine; exact bo _),fun l hl=>?_⟩;have pl2:p≠l:=jA S1.hp hl;have S2:=S1.step ((Keep.refl _ _).new hl (.lst [])) (by rw[j9 pl2]; exact S1.hp) S1.hN;have S3:St0 H (upd H7 l (.lst [])) p w qm l mays [] N1:=⟨S2.hp,S2.hN,S2.hm,S2.rm,j5,Ris.nil w,pl2.symm,S2.kp⟩;exact jIO T CT CL hr S3 hpH w0 w1 w2 n0 n1 q
 ·exact jIO T CT CL hr S1 hpH w0 w1 w2 n0 n1 q
theorem jQ5 (T:Txt mg)(CT:Can P w K mg Aq "_law_take" 1 fT fdT ["pot","wide"] yS)(CL:Can P w K mg Aq "_law_lot" 2 fL fdL ["pot","wide"] qS)(hr:Room 2 (XBox P w K mg Aq f lM A Ap s H0 E).A)
  {D:Ends}{H:Hp}{p:Addr}{mt mp N:Int}
  (hp:H p=some (.lst [.int N])) (hN:0<=N) (w0:0<=mt) (w2:mt<=16) (n0:0<=mp) (n1:mp<=32) (q:Told H p mt mp D.rt):
  (boxA T CT CL hr).1 D [some (.ref p),some (.int mt),some (.int mp),none,none,none,none,none,none,none,none] H:=by
 refine⟨_,rfl,_,rfl,_,_,rfl,rfl,p,N,_,rfl,hp,hN,Aa,Aa,fun N1 w a1 a2 a3=>?_⟩;refine⟨(by show 0<=sizeLine; exact bo _),fun t ht=>?_⟩;have pt:p≠t:=(yI ht).1.symm;refine⟨_,rfl,p,N1,3,rfl,by rw[j9 pt]; exact j5,a1,Ac,Ac,fun N2 r b1 b2 b3=>⟨rfl,_,rfl,?_⟩⟩;have k1:Keep H (upd (upd (upd H p (.lst [.int N1])) t (.tup [])) p (.lst [.int N2])) p:=(((Keep.refl _ _).upd _).new ht _).upd _;have hp1:(upd (upd (upd H p (.lst [.int N1])) t (.tup [])) p (.lst [.int N2])) p=some (.lst [.int N2]):=j5;have ht1:(upd (upd (upd H p (.lst [.int N1])) t (.tup [])) p (.lst [.int N2])) t=some (.tup []):=by rw[j9 pt.symm]; exact j5
 generalize upd (upd (upd H p (.lst [.int N1])) t (.tup [])) p (.lst [.int N2])=H1 at k1 hp1 ht1 ⊢;clear ht;refine ite2 (fun hy=>?_) (fun hy=>?_)
 ·refine⟨_,rfl,w,rfl,Aa,Aa,jC6 (n:=w.toNat) (by rw[aH]; lia) (fun D i σ' H' ys=>(∃ v,σ'=[v,some (.ref p)])/\(∃ (ms:Ag) (N':Int),ys=ms.map V.int/\ms.length<=i/\Ris i ms/\0<=N'/\H' p=some (.lst [.int N']))/\Keep H1 H' p/\H' D=some (.lst ys)/\D≠p/\H1 D=none) ?_ ?_ ?_ ?_⟩
  ·intro D hD;have:p≠D:=jA hp1 hD;exact⟨⟨_,rfl⟩,⟨[],N2,rfl,aA _,Ris.nil _,b1,by rw[j9 this]; exact hp1⟩,(Keep.refl _ _).new hD _,j5,this.symm,hD⟩
  ·rintro D i σ' H' ys hD hi ⟨_,⟨ms,N',rfl,e,_⟩,_,e2,_⟩;exact⟨e2,by rw[af]; exact e⟩
  ·rintro D i σ' H' ys hD hi ⟨⟨v,rfl⟩,⟨ms,N',rfl,e,rs,n',hp'⟩,kk,e2,dp,hn⟩;refine⟨_,rfl,p,N',3,rfl,hp',n',Ac,Ac,fun N3 r3 c1 c2 c3=>⟨rfl,_,rfl,?_⟩⟩;have k2:Keep H1 (upd H' p (.lst [.int N3])) p:=kk.upd _;have e3:(upd H' p (.lst [.int N3])) D=some (.lst (ms.map V.int)):=by rw[j9 dp]; exact e2
   have hp3:(upd H' p (.lst [.int N3])) p=some (.lst [.int N3]):=j5;generalize upd H' p (.lst [.int N3])=H'' at k2 e3 hp3 ⊢;refine ite2 (fun hz=>?_) (fun hz=>?_)
   ·refine⟨_,rfl,e3,⟨_,rfl⟩,⟨ms++[(i:Int)],N3,?_,?_,rs.snoc,c1,by rw[j9 dp.symm]; exact hp3⟩,k2.updNew hn _,j5,dp,hn⟩
    ·rw[aU];show _++[V.int (0+(i:Int))]=_++[V.int (i:Int)];rw[jq]
    ·rw[aJ];show ms.length+1<=i+1;lia
   ·exact⟨⟨_,rfl⟩,⟨ms,N3,rfl,Aa,rs.step,c1,hp3⟩,k2,e3,dp,hn⟩
  ·rintro D σ' H' ys hD ⟨_,⟨ms,N',rfl,e,rs,n',hp'⟩,kk,e2,dp,hn⟩;refine⟨D,_,rfl, .inl ⟨SqL.of e2,fun qm hqm=>?_⟩⟩;have pm:p≠qm:=jA hp' hqm;have e':((w.toNat:Nat):Int)=w:=Aa;rw[e'] at rs;exact jIP T CT CL hr (by rw[j9 pm]; exact hp') n' j5 rs ((k1.trans kk).new hqm _) ⟨_,hp⟩ a2 Aa w2 n0 n1 q
 ·exact jIP T CT CL hr hp1 b1 (mays:=[]) ht1 (Ris.nil w) k1 ⟨_,hp⟩ a2 Aa w2 n0 n1 q
theorem jWZ {f fT fL:Addr}{fd fdT fdL:FuncData}(F:Fun K "_law_box" "_law_box" sBox f fd)(T:Txt mg)(CT:Can P w K mg Aq "_law_take" 1 fT fdT ["pot","wide"] yS)(CL:Can P w K mg Aq "_law_lot" 2 fL fdL ["pot","wide"] qS):
  FnOk P w K mg Aq CX0 3 f fd ["pot","most_things","most_pieces"] spBox:=by
 refine F.ok scBox (fun vs H Q E h=>?_) (fun lM A Ap s H vs Q E hr h=>?_)
 ·obtain⟨_,_,_,_,rfl,_⟩:=h;rfl
 ·obtain⟨p,N,mt,mp,rfl,hp,hN,m0,m1,n0,n1,q⟩:=h;exact⟨_,(boxA T CT CL hr).2.h,jQ5 T CT CL hr hp hN m0 m1 n0 n1 q⟩
inductive Ob where
 | int (i:Int)
 | oth
 | tup (os:List Ob)
def OthAt (H:Hp)(v:V):Prop:=v= .non\/(∃ b,v= .bl b)\/(∃ x,v= .str x)\/∃ a,v= .ref a/\((∃ xs,H a=some (.lst xs))\/∃ kvs,H a=some (.dK kvs))
mutual
def At (H:Hp):Ob->V->Prop
 | .int i,v=>v= .int i
 | .oth,v=>OthAt H v
 | .tup os,v=>∃ a vs,v= .ref a/\H a=some (.tup vs)/\vs.length<=100/\Ats H os vs
def Ats (H:Hp):List Ob->List V->Prop
 | [],vs=>vs=[]
 | o::os,vs=>∃ v r,vs=v::r/\At H o v/\Ats H os r
end
structure Kp (H H':Hp):Prop where
 t:Tups H H'
 l:∀ a xs,H a=some (.lst xs)->∃ ys,H' a=some (.lst ys)
 d:∀ a xs,H a=some (.dK xs)->∃ ys,H' a=some (.dK ys)
theorem Kp.of {H H':Hp}(e:Ext H H'):Kp H H':=⟨fun b xs h=>e b _ h,fun a xs h=>⟨xs,e a _ h⟩,fun a xs h=>⟨xs,e a _ h⟩⟩
theorem OthAt.mono {H H':Hp}(k:Kp H H'){v:V}(h:OthAt H v):OthAt H' v:=by
 rcases h with h | h | h | ⟨a,rfl,⟨xs,h⟩ | ⟨xs,h⟩⟩
 ·exact .inl h
 ·exact .inr (.inl h)
 ·exact .inr (.inr (.inl h))
 ·exact .inr (.inr (.inr ⟨a,rfl, .inl (k.l _ _ h)⟩))
 ·exact .inr (.inr (.inr ⟨a,rfl, .inr (k.d _ _ h)⟩))
mutual
theorem At.mono {H H':Hp}(k:Kp H H'):∀ (o:Ob) (v:V),At H o v->At H' o v
 | .int _,_,h=>h
 | .oth,_,h=>OthAt.mono k h
 | .tup os,_,⟨a,vs,e,h,n,r⟩=>⟨a,vs,e,k.t _ _ h,n,Ats.mono k os vs r⟩
theorem Ats.mono {H H':Hp}(k:Kp H H'):∀ (os:List Ob) (vs:List V),Ats H os vs->Ats H' os vs
 | [],_,h=>h
 | o::os,_,⟨v,r,e,h,t⟩=>⟨v,r,e,At.mono k o v h,Ats.mono k os r t⟩
end
theorem At.ext {H H':Hp}(e:Ext H H'){o:Ob}{v:V}(h:At H o v):At H' o v:=At.mono (.of e) o v h
theorem Ats.len {H:Hp} :∀ {os:List Ob}{vs:List V},Ats H os vs->vs.length=os.length
 | [],_,h=>by cases (show _=[] from h); rfl
 | o::os,_,⟨v,r,e,h,t⟩=>by rw[e,aV,aV,Ats.len t]
theorem Ats.get {H:Hp} :∀ {os:List Ob}{vs:List V},Ats H os vs->∀ {i:Nat}{v:V},vs[i]?=some v->∃ o,os[i]?=some o/\At H o v
 | [],_,h,i,v,e=>by cases (show _=[] from h); cases e
 | o::os,_,⟨v,r,e,h,t⟩,0,v',e'=>by subst e; cases e'; exact⟨o,rfl,h⟩
 | o::os,_,⟨v,r,e,h,t⟩,i+1,v',e'=>by subst e; exact Ats.get t (i:=i) e'
theorem Ats.ints {H:Hp} :∀ (l:Ag),Ats H (l.map Ob.int) (l.map V.int)
 | []=>rfl
 | i::r=>⟨.int i,_,rfl,rfl,Ats.ints r⟩
def isInt:Ob->Bool
 | .int _=>true
 | _=>false
def isTup:Ob->Bool
 | .tup _=>true
 | _=>false
def upB (lo hi:Int):Ob->Bool
 | .int i=>decide (lo<=i)&&decide (i<=hi)
 | _=>false
def val:Ob->Int
 | .int i=>i
 | _=>0
def adj (is:Ag):List Bool:=(List.range (is.length - 1)).map fun k=>decide (is.getD k 0<is.getD (k+1) 0)
def risB:Ob->Bool
 | .tup os=>os.all isInt&&(adj (os.map val)).all id
 | _=>false
def lotB (w:Int):Ob->Bool
 | .tup os=>os.all (upB 0 (w - 1))&&(adj (os.map val)).all id
 | _=>false
def lotB' (w:Int)(o:Ob):Bool:=risB o&&match o with
 | .tup os=>decide (os=[]) || (decide (0<=(os.map val).getD 0 0)&&decide ((os.map val).getLastD 0<w))
 | _=>false
theorem jVS {is:Ag}(h:(adj is).all id=true){k:Nat}(hk:k+1<is.length):is.getD k 0<is.getD (k+1) 0:=by
 rw[bK] at h;exact aI (h _ (aQ.mpr ⟨k,bF.mpr Aa,rfl⟩))
theorem jQE {is:Ag}(h:(adj is).all id=true):∀ (j k:Nat),j<=k->k<is.length->is.getD j 0<=is.getD k 0
 | j,0,h1,_=>by
  have:j=0:=by lia
  subst this;exact cY _
 | j,k+1,h1,h2=>by
  rcases fb k j with q | q
  ·have:j=k+1:=by lia
   subst this;exact cY _
  ·have a:=jQE h j k q Aa;have b:=jVS h h2;lia
theorem jX4 (w:Int)(o:Ob):lotB' w o=lotB w o:=by
 cases o with
 | int i=>rfl
 | oth=>rfl
 | tup os=>
  rw[bZ];unfold lotB' risB lotB;simp only [bD,ig,iY];constructor
  ·rintro ⟨⟨a,b⟩,c⟩;refine⟨?_,b⟩;rw[bK] at a ⊢;intro x hx;obtain⟨j,hj,rfl⟩:=eR hx;have hi:=a _ hx;have e:os≠ []:=fun e=>by subst e; cases hx
   obtain⟨c1,c2⟩:=c.resolve_left e;have hl:(os.map val).length=os.length:=af _;have g:(os.map val).getD j 0=val os[j]:=by
    rw[aj,aS];simp [hj]
   have l1:=jQE b 0 j Aa Aa;have l2:=jQE b j (os.length - 1) Aa Aa;have l3:(os.map val).getLastD 0=(os.map val).getD (os.length - 1) 0:=by
    rw[fQ,fS,aj,hl]
   rw[g] at l1 l2;rw[l3] at c2;cases e2:os[j] with
   | int i=>
    rw[e2] at l1 l2;simp only [val] at l1 l2;simp only [upB,bD,iY];lia
   | oth=>rw[e2] at hi; cases hi
   | tup r=>rw[e2] at hi; cases hi
  ·rintro ⟨a,b⟩;rw[bK] at a;refine⟨⟨?_,b⟩,?_⟩
   ·rw[bK];intro x hx;have:=a x hx;cases x with
    | int i=>rfl
    | oth=>cases this
    | tup r=>cases this
   ·by_cases e:os=[]
    ·exact .inl e
    ·refine .inr ?_;have key:∀ j,j<os.length->0<=(os.map val).getD j 0/\(os.map val).getD j 0<w:=fun j hj=>by
      have g:(os.map val).getD j 0=val os[j]:=by
       rw[aj,aS];simp [hj]
      have:=a os[j] (cn hj);rw[g];cases e2:os[j] with
      | int i=>
       rw[e2] at this;simp only [upB,bD,iY] at this;simp only [val];lia
      | oth=>rw[e2] at this; cases this
      | tup r=>rw[e2] at this; cases this
     have hpos:0<os.length:=by
      cases os with
      | nil=>exact absurd rfl e
      | cons _ _=>simp
     have l3:(os.map val).getLastD 0=(os.map val).getD (os.length - 1) 0:=by
      rw[fQ,fS,aj,af]
     rw[l3];exact⟨(key 0 hpos).1,(key (os.length - 1) Aa).2⟩
theorem Ats.allInt {H:Hp} :∀ {os:List Ob}{vs:List V},Ats H os vs->os.all isInt=true->vs=(os.map val).map V.int
 | [],_,h,_=>by cases (show _=[] from h); rfl
 | o::os,_,⟨v,r,e,h,t⟩,ha=>by
  rw[fg,bD] at ha;subst e;rw[bf,bf,<- Ats.allInt t ha.2];cases o with
  | int i=>cases (show v= .int i from h); rfl
  | oth=>cases ha.1
  | tup _=>cases ha.1
theorem jTF (l:List Ob)(F:Ob->Bool):(l.map F).all id=l.all F:=by
 rw[ix];rfl
theorem jVR (is:Ag):(adj is).length=is.length - 1:=by
 unfold adj;rw[af,cr]
theorem jXT {is:Ag}{k:Nat}(h:k<is.length - 1):(adj is)[k]?=some (decide (is.getD k 0<is.getD (k+1) 0)):=by
 unfold adj;rw[aS,dy h];rfl
theorem jSC {is:Ag}{k:Nat}(h:k<is.length - 1):(adj is).take (k+1)=(adj is).take k++[decide (is.getD k 0<is.getD (k+1) 0)]:=by
 rw[be,jXT h];rfl
theorem getI {is:Ag}{k:Nat}(h:k<is.length):(is.map V.int)[k]?=some (.int (is.getD k 0)):=by
 rw[aS,aj];simp [h]
theorem At.ty (K:W.Frag){H:Hp}{o:Ob}{v:V}(h:At H o v):∃ t,TyOf K H v t/\kitOne K t (.type "tuple")=some (isTup o)/\∃ b1 b2,kitOne K t (.type "int")=some b1/\kitOne K t (.type "bool")=some b2/\(b1&&!b2)=isInt o:=by
 cases o with
 | int i=>
  cases (show v= .int i from h);exact⟨_, .int i,rfl,true,false,rfl,rfl,rfl⟩
 | oth=>
  rcases (show OthAt H v from h) with rfl | ⟨b,rfl⟩ | ⟨x,rfl⟩ | ⟨a,rfl,⟨xs,e⟩ | ⟨xs,e⟩⟩
  ·exact⟨_, .non,rfl,false,false,rfl,rfl,rfl⟩
  ·exact⟨_, .bl b,rfl,true,true,rfl,rfl,rfl⟩
  ·exact⟨_, .str x,rfl,false,false,rfl,rfl,rfl⟩
  ·exact⟨_, .lst e,rfl,false,false,rfl,rfl,rfl⟩
  ·exact⟨_, .dK e,rfl,false,false,rfl,rfl,rfl⟩
 | tup os=>
  obtain⟨a,vs,rfl,e,_⟩:=h;exact⟨_, .tup e,rfl,false,false,rfl,rfl,rfl⟩
theorem At.tupOf {H:Hp}{o:Ob}{v:V}(h:At H o v)(t:isTup o=true):∃ os a vs,o= .tup os/\v= .ref a/\H a=some (.tup vs)/\vs.length<=100/\Ats H os vs:=by
 cases o with
 | int i=>cases t
 | oth=>cases t
 | tup os=>
  obtain⟨a,vs,e1,e2,e4,e3⟩:=h;exact⟨os,a,vs,rfl,e1,e2,e4,e3⟩
theorem jII {K:W.Frag}{m:List (Option Nat)}{g:TG}{tt:TT}{te:TE}{σ:St}{H1:Hp}{Q:VK}{a:Addr}{xs:List V}{os:List Ob}{F:Ob->Bool}(ha:H1 a=some (.tup xs))(hx:Ats H1 os xs)(hn:xs.length<sizeLine)(σP:St->Prop)(h0:σP (blkσ m σ))
  (step:∀ (σ':St) (H':Hp) (v:V) (o:Ob) (R:St->V->Hp->Prop) (S:St->Hp->Prop),σP σ'->Ext H1 H'->At H' o v->(∀ σ2 H'',σP σ2->Ext H' H''->R σ2 (.bl (F o)) H'')->g v σ' H' fun σ2 H2=>tt σ2 H2 fun b H3=>if b=true then te σ2 H3 (R σ2) else S σ2 H3)
  (hd:∀ D H',Ext H1 H'->H' D=some (.lst ((os.map F).map V.bl))->Q (.ref D) H'):qQ m g tt te σ Q (Itt K a) H1:=by
 have hl:=hx.len;refine jB3 (xs:=xs) hn (fun D i σ' H' zs=>σP σ'/\Ext H1 H'/\H' D=some (.lst zs)/\H1 D=none/\zs=((os.take i).map F).map V.bl) ?_ ?_ ?_ ?_
 ·intro D hD;exact⟨h0,(Ext.refl _).new hD _,j5,hD,rfl⟩
 ·rintro D i σ' H' zs hD ⟨_,e,h2,_,rfl⟩;refine⟨e _ _ ha,h2,?_⟩;rw[af,af,bI];lia
 ·rintro D i σ' H' zs x hD hi ⟨p,e,h2,hn,rfl⟩;obtain⟨o,ho,hAt⟩:=hx.get hi;refine step σ' H' x o _ _ p e (hAt.ext e) fun σ2 H'' p2 e2=>⟨e2 _ _ h2,p2,(e.trans e2).updNew hn _,j5,hn,?_⟩;have:os.take (i+1)=os.take i++[o]:=by
   rw[be,ho];rfl
  rw[this,aU,aU];rfl
 ·rintro D σ' H' zs hD ⟨_,e,h2,_,rfl⟩;rw[hl,bz] at h2;exact hd D H' e h2
abbrev XOf (N:Am)(q:Str)(st:Stmt)(P:Program)(w:World)(K:W.Frag)(mg:Ak)(Aq:Heap)(f:Addr)(lM:Value)(A:Around)(Ap:List Env)(s:Shared)(H:Hp)(E:XK):Cx:=(cxOf CX0 P w K mg Aq N q (j7 st) f lM A Ap s H E).nox
abbrev jOC:Am:=["thing"]
theorem scWhole0:FnScope jOC ["thing"] (j7 jCD):= {}
def spWh:Sp:=fun vs H Q _=>∃ v o,vs=[v]/\At H o v/\Q (.bl (isInt o)) H
def jTK (T:Txt mg): { t:TS // JSs (XOf jOC "is_whole" jCD P w K mg Aq f lM A Ap s H0 E) (jD jCD) t} :=
 have nd:=scWhole0.nd
 ⟨_,(jC (jL ((jPA (jG jB4 gD T.isinstance Ab (j3 (jv 0 rfl vL) (j3 (jGU (v:= .ty "int") gD T.int Ab rfl) j6 j4) j4) j4) (jI8 (jXF (jG jB4 gD T.isinstance Ab (j3 (jv 0 rfl vL) (j3 (jGU (v:= .ty "bool") gD T.bool Ab rfl) j6 j4) j4) j4)))))))⟩
theorem jNY {fd:FuncData}(F:Fun K "is_whole" "is_whole" jCD f fd)(T:Txt mg):FnOk P w K mg Aq CX0 1 f fd ["thing"] spWh:=by
 refine F.ok scWhole0 (fun vs H Q E h=>?_) (fun lM A Ap s H vs Q E hr h=>?_)
 ·obtain⟨_,_,rfl,_⟩:=h;rfl
 ·obtain⟨v,o,rfl,hA,q⟩:=h;obtain⟨t,ty,_,b1,b2,k1,k2,e⟩:=hA.ty K;refine⟨_,(jTK T).2.h,?_⟩;refine⟨_,rfl,_,_,_,b1,rfl,ty,k1,b1,rfl,?_⟩;rw[<- e] at q;cases b1 with
  | true=>exact iteT ⟨_,rfl,_,_,_,b2,rfl,ty,k2,b2,rfl,q⟩
  | false=>exact iteF q
abbrev jEO:Am:=["thing"]
theorem scRising:FnScope jEO ["thing"] (j7 jAK):= {}
def spB (F:Ob->Bool):Sp:=fun vs H Q _=>∃ v o,vs=[v]/\At H o v/\∀ H',Ext H H'->Q (.bl (F o)) H'
def jTR (T:Txt mg)(CW:Can P w K mg Aq "is_whole" 1 fW fdW ["thing"] spWh)(hr:Room 1 (XOf jEO "is_rising" jAK P w K mg Aq f lM A Ap s H0 E).A): { t:TS // JSs (XOf jEO "is_rising" jAK P w K mg Aq f lM A Ap s H0 E) (jD jAK) t} :=
 have nd:=scRising.nd
 ⟨_,(jB (y8 (qF (qE (jG jB4 gD T.isinstance Ab (j3 (jv 0 rfl vC) (j3 (jGU (v:= .ty "tuple") gD T.tuple Ab rfl) j6 j4) j4) j4) yM)) (jC (jL (je_bl))) kB)
   (jB (y8 (qF (qE (jG (jBK rfl) gD T.all Ab (j3 (kG (m:=[none]) (Nc:=["number"]) rfl (qG (jv 0 rfl vC)) rfl Ab Ab (jK (psc:=j7 jAK)) (jI (N:=jEO) rfl rfl Ab) (fun cl C fp s H=>jJ (i:=0) (show (["number"]:Am).Nodup by decide+kernel) rfl yC) (fun cl C fp s H=>kJ) (fun cl C fp s H=>(CW.je hr gl_b (j3 (jv 0 rfl jP) j6 j4) j4)) y9) j6 jH) jH) yM)) (jC (jL (je_bl))) kB)
   (jC (jL (jG (jBK rfl) gD T.all Ab (j3 (kG (m:=[none,some 0]) (Nc:=["k","thing"]) rfl (jP1 gD T.range (j3 (je_int) (j3 (jG jN gD T.len Ab (j3 (jv 0 rfl vC) j6 j4) j4) j6 jE) kO) kO jE) rfl Ab Ab (jK (psc:=j7 jAK)) (jI (N:=jEO) rfl rfl Ab) (fun cl C fp s H=>jJ (i:=0) (show (["k","thing"]:Am).Nodup by decide+kernel) rfl yC) (fun cl C fp s H=>kJ) (fun cl C fp s H=>(yO op_lt (jM kY (jv 1 rfl kN) (kX jEK (jv 0 rfl jP) (je_int)) jSR) (jM kY (jv 1 rfl kN) (jv 0 rfl jP) jAY) (jT _))) kP) j6 jH) jH)))))⟩
theorem jO0 {fd:FuncData}(F:Fun K "is_rising" "is_rising" jAK f fd)(T:Txt mg)(CW:Can P w K mg Aq "is_whole" 1 fW fdW ["thing"] spWh):FnOk P w K mg Aq CX0 2 f fd ["thing"] (spB risB):=by
 refine F.ok scRising (fun vs H Q E h=>?_) (fun lM A Ap s H vs Q E hr h=>?_)
 ·obtain⟨_,_,rfl,_⟩:=h;rfl
 ·obtain⟨v,o,rfl,hA,q⟩:=h;obtain⟨t,ty,kt,_⟩:=hA.ty K;refine⟨_,(jTR T CW hr).2.h,?_⟩;refine⟨_,rfl,_,_,_,_,rfl,ty,kt,_,rfl,?_⟩;cases ht:isTup o with
  | false=>
   refine iteT ?_;have:risB o=false:=by cases o <;> first | rfl | cases ht
   rw[<- this];exact q H (Ext.refl H)
  | true=>
   refine iteF ?_;obtain⟨os,a,vs,rfl,rfl,ha,h100,hx⟩:=hA.tupOf ht;have hl:=hx.len;have hn:vs.length<sizeLine:=by rw[aH]; lia
   ·refine⟨_,rfl,a,rfl,⟨_,SqT.of ha⟩,jII (F:=isInt) ha hx hn (fun σ'=>∃ v,σ'=[v]) ⟨_,rfl⟩ ?_ ?_⟩
    ·rintro σ' H' v o R S ⟨u,rfl⟩ e hA k;dsimp only [kL,yB];rw[ay rfl];exact⟨_,rfl,v,o,rfl,hA,k _ H' ⟨_,rfl⟩ (Ext.refl _)⟩
    ·intro D H1 e1 hD;refine⟨D,_,rfl,SqL.of hD,_,rfl,?_⟩;rw[jTF];cases hi:os.all isInt with
     | false=>
      refine iteT ?_;have:risB (.tup os)=false:=by
       show (os.all isInt&&_)=false;rw[hi];rfl
      rw[<- this];exact q H1 e1
     | true=>
      refine iteF ?_;have hv:=hx.allInt hi;have hN:(os.map val).length=os.length:=af _;refine⟨_,rfl,a,_,rfl, .inr (SqT.of (e1 _ _ ha)),1,_,rfl,⟨Ac,Ac,Aa,by rw[aH] at hn; lia⟩,jC6 (n:=((vs.length:Int) - 1).toNat) Aa (fun D i σ' H' zs=>(∃ v,σ'=[v,some (.ref a)])/\zs=((adj (os.map val)).take i).map V.bl/\H'=upd H1 D (.lst zs)) ?_ ?_ ?_ ?_⟩
      ·intro D hD;exact⟨⟨_,rfl⟩,rfl,rfl⟩
      ·rintro D i σ' H' zs hD hi2 ⟨_,rfl,rfl⟩;refine⟨j5,?_⟩;rw[af,bI];lia
      ·rintro D i σ' H' zs hD hi2 ⟨⟨v,rfl⟩,rfl,rfl⟩;have hi3:i<(os.map val).length - 1:=Aa;have ha':(upd H1 D (.lst (((adj (os.map val)).take i).map V.bl))) a=some (.tup ((os.map val).map V.int)):=by
        rw[j9 (jA (e1 _ _ ha) hD),e1 _ _ ha,hv]
       dsimp only [kL,yB];rw[ay rfl];have e0:(1+(i:Int)) - 1=(i:Int):=Aa;have e2:(1+(i:Int))=((i+1:Nat):Int):=Aa;refine⟨_,rfl,_,rfl,_,_,rfl,rfl,a,_,_,_,rfl,rfl,SqT.of ha',by rw[e0]; exact yW (getI Aa),_,rfl,_,rfl,a,_,_,_,rfl,rfl,SqT.of ha',by rw[e2]; exact yW (getI Aa),_,_,rfl,rfl,j5,⟨_,rfl⟩,?_,jDC⟩;rw[jSC hi3,aU];rfl
      ·rintro D2 σ' H' zs hD2 ⟨_,rfl,rfl⟩;have hlen:((vs.length:Int) - 1).toNat=(adj (os.map val)).length:=by rw[jVR]; lia
       rw[hlen,bz];refine⟨D2,_,rfl,SqL.of j5,?_⟩;have:(adj (os.map val)).all id=risB (.tup os):=by
        show _=(os.all isInt&&(adj (os.map val)).all id);rw[hi,gb]
       rw[this];exact q _ (e1.new hD2 _)
end Eo
end
namespace L2
open PySem
theorem px_un {op:UnaryOp}{a:Expr}{pos:Pos} :jB5 (.UnaryOp op a pos):=fun _ _=>rfl
theorem jVO {α:Type}{xs:List α}{v:α}(h:xs[xs.length - 1]?=some v):atI xs (-1)=some v:=by
 have hj:xs.length - 1<xs.length:=(ao.mp h).1;have e:ixN xs.length (-1)=some (xs.length - 1):=by
  unfold ixN;rw[aw Aa,ay Aa];congr 1;lia
 unfold atI;rw[e];exact h
theorem qb {Q:VK}{H:Hp}{a b:Bool}(q:Q (.bl a) H)(e:a=b):Q (.bl b) H:=e ▸ q
end L2
namespace Eo
open PySem L2
section
variable {fPs:Addr}{fdPs:FuncData}
abbrev jOF:Am:=["thing","many"]
theorem scIsLot:FnScope jOF ["thing","many"] (j7 jDT):= {}
def spB2 (F:Int->Ob->Bool):Sp:=fun vs H Q _=>∃ v o w,vs=[v, .int w]/\At H o v/\∀ H',Ext H H'->Q (.bl (F w o)) H'
def jXI (T:Txt mg)(CR:Can P w K mg Aq "is_rising" 2 fR fdR ["thing"] (spB risB))(hr:Room 2 (XOf jOF "is_lot" jDT P w K mg Aq f lM A Ap s H0 E).A): { t:TS // JSs (XOf jOF "is_lot" jDT P w K mg Aq f lM A Ap s H0 E) (jD jDT) t} :=
 have nd:=scIsLot.nd
 ⟨_,(jB (y8 (qF (qE (CR.je hr gD (j3 (jv 0 rfl vL) j6 j4) j4) yM)) (jC (jL (je_bl))) kB)
   (jC (jL ((je_or (yO qU (jG jN gD T.len Ab (j3 (jv 0 rfl vL) j6 j4) j4) (je_int) (jT _)) (jI8 ((jPA (yO op_ge (jM jQ (jv 0 rfl vL) (je_int) jF) (je_int) (jT _)) (jI8 (yO op_lt (jM jQ (jv 0 rfl vL) (je_un jSF (je_int)) px_un) (jv 1 rfl vL) (jT _)))))))))))⟩
theorem jRA {fd:FuncData}(F:Fun K "is_lot" "is_lot" jDT f fd)(T:Txt mg)(CR:Can P w K mg Aq "is_rising" 2 fR fdR ["thing"] (spB risB)):FnOk P w K mg Aq CX0 3 f fd ["thing","many"] (spB2 lotB):=by
 refine F.ok scIsLot (fun vs H Q E h=>?_) (fun lM A Ap s H vs Q E hr h=>?_)
 ·obtain⟨_,_,_,rfl,_⟩:=h;rfl
 ·obtain⟨v,o,w,rfl,hA,q⟩:=h;refine⟨_,(jXI T CR hr).2.h,?_⟩;refine⟨_,rfl,v,o,rfl,hA,fun H1 e1=>⟨_,rfl,?_⟩⟩;have eq:=jX4 w o;cases hR:risB o with
  | false=>
   refine iteT (qb (q H1 e1) ?_);rw[<- eq];unfold lotB';rw[hR];rfl
  | true=>
   refine iteF ?_;have ht:isTup o=true:=by cases o <;> first | rfl | cases hR
   obtain⟨os,a,vs,rfl,rfl,ha,h100,hx⟩:=hA.tupOf ht;have hl:=hx.len;have hi:os.all isInt=true:=by
    have:(os.all isInt&&(adj (os.map val)).all id)=true:=hR;rw[bD] at this;exact this.1
   have hv:=hx.allInt hi;have ha1:=e1 _ _ ha;refine⟨_,rfl,a,_,rfl, .inr (SqT.of ha1),rfl,_,rfl,ite2 (fun hy=>?_) (fun hy=>?_)⟩
   ·have h0:=V.int.inj (aI hy);have e0:os=[]:=eS.mp Aa;refine qb (q H1 e1) ?_;rw[<- eq];unfold lotB';rw[hR];simp [e0]
   ·have h0:0<vs.length:=Nat.pos_of_ne_zero fun h=>hy (ax (by rw[h]; rfl));have hml:(os.map val).length=vs.length:=by rw[af,hl]
    refine⟨_,rfl,a,_,0, .int ((os.map val).getD 0 0),rfl,rfl,SqT.of ha1,?_,_,_,rfl,rfl,_,rfl,ite2 (fun hz=>?_) (fun hz=>?_)⟩
    ·rw[hv];exact yW (j:=0) (getI Aa)
    ·refine⟨_,rfl,_,rfl,a,_,_, .int ((os.map val).getLastD 0),rfl,rfl,SqT.of ha1,?_,_,rfl,_,_,rfl,rfl,qb (q H1 e1) ?_⟩
     ·show atI vs (-1)=_;refine jVO ?_;rw[hv,af,getI Aa,fQ,fS,aj]
     ·rw[<- eq];unfold lotB';rw[hR];have e0:¬ os=[]:=fun e=>by rw[e] at hl; have:vs.length=0:=hl; lia
      have hz:=aI hz;simp [e0];intro hh;simpa using hz
    ·refine qb (q H1 e1) ?_;rw[<- eq];unfold lotB';rw[hR];have e0:¬ os=[]:=fun e=>by rw[e] at hl; have:vs.length=0:=hl; lia
     have hz:¬ (0<=(os.map val).getD 0 0):=fun h=>hz (ax h);simp only [e0,decide_false,i6,gb,aN hz,gw]
end
end Eo
namespace L2
open PySem
section
variable {P:Program}{w:World}{K:W.Frag}{mg:Ak}{Aq:Heap}{N:Am}{qual:Str}{sc:Scope}{f:Addr}{lM:Value}{A:Around}{Ap:List Env}{s:Shared}{H:Hp}{E:XK}{x y z:Str}{p1 p2 p3 pos:Pos}{k i j l:Nat}
theorem jL9 (hN:N.Nodup)(hi:N[i]?=some x)(hj:N[j]?=some y)(hx:sc.names.lookup x=some .local)(hy:sc.names.lookup y=some .local):
  JG (cxOf CX0 P w K mg Aq N qual sc f lM A Ap s H E).nox (.Tuple [.Name x p1, .Name y p2] k pos) (gTup K 2 (gCons (kL i) (gCons (kL j) gNil))):=
 jP2 (X:=(cxOf CX0 P w K mg Aq N qual sc f lM A Ap s H E).nox) rfl (jC1 (jJ hN hi (loc_l hx)) (jC1 (jJ hN hj (loc_l hy)) jJS jDO) jDO)
end
section
variable {K:W.Frag}{m:List (Option Nat)}{g:TG}{tt:TT}{te:TE}{σ:St}{H1:Hp}{Q:VK}
end
end L2
namespace Eo
open PySem L2
theorem jJV {α:Type}{l:List α}{i:Nat}{d:α}(h:i<l.length):l.getD i d=l[i]:=by
 rw[aj,aq h];rfl
theorem jA7 (l:Ag):(l.map V.int).all qV=true:=by
 rw[bK];intro x hx;obtain⟨i,_,rfl⟩:=aQ.mp hx;rfl
theorem jC2 (i:Int)(l:Ag):inV (.int i) (l.map V.int)=decide (i∈l):=by
 unfold inV;rw[bZ,dR,br];constructor
 ·rintro ⟨x,hx,e⟩;obtain⟨j,hj,rfl⟩:=aQ.mp hx;have:j=i:=eq_of_beq e;rw[<- this];exact hj
 ·intro h;exact⟨.int i,aQ.mpr ⟨i,h,rfl⟩,by simp [eqV]⟩
theorem jPY (i:Int):∀ (l:Ag),((l.map V.int).countP fun z=>eqV z (.int i))=l.count i
 | []=>rfl
 | a::r=>by
  rw[bf,cF,jPY i r,List.count_cons];rfl
theorem jAL:∀ (ts:Ag) (lo w:Int),ts.Pairwise (· < ·)->(∀ z∈ts,lo<=z/\z<w)->(ts.length:Int)<=max (w - lo) 0
 | [],lo,w,_,_=>by show (0:Int)<=_; lia
 | a::r,lo,w,hp,hb=>by
  have h1:=hb a ai;have hp':=cU.mp hp;have:=jAL r (a+1) w hp'.2 fun z hz=>⟨by have:=hp'.1 z hz; lia,(hb z (ag _ hz)).2⟩;rw[aV];lia
def j8 (Ar:Ae)(k:Int):Ag:=(Ar.getD k.toNat ([],0)).1
theorem PcsAt.get {H:Hp} :∀ {vs:List V}{ps:Ae},PcsAt H vs ps->∀ {k:Nat},k<ps.length->∃ v,vs[k]?=some v/\PcAt H v (ps.getD k ([],0))
 | v::vs,p::ps,h,0,_=>⟨v,rfl,h.1⟩
 | v::vs,p::ps,h,k+1,hk=>PcsAt.get h.2 (k:=k) (by simpa using hk)
 | [],[],_,k,hk=>absurd hk (fe _)
 | [],_::_,h,_,_=>h.elim
 | _::_,[],h,_,_=>h.elim
theorem Good.at {mt mp w:Int}{ms:Ag}{Ar:Ae}(g:Good mt mp w ms Ar){k:Nat}(hk:k<Ar.length):GoodPc w (Ar.getD k ([],0)):=by
 have e:Ar.getD k ([],0)=Ar[k]:=by simp [List.getD,hk]
 rw[e];exact g.pg _ (cn hk)
theorem jED {n i:Nat}(h:i<n):(upto n).take (i+1)=(upto n).take i++[(i:Int)]:=by
 unfold upto;rw[<- ln,<- ln,List.take_range,List.take_range,show min (i+1) n=i+1 by lia,show min i n=i by lia,ie,aU];rfl
theorem yH (n:Nat):(upto n).length=n:=by
 unfold upto;rw[af,cr]
theorem jCN {n i:Nat}(h:i<n):(upto n)[i]?=some (i:Int):=by
 unfold upto;rw[aS,dy h];rfl
theorem jLQ {H:Hp}{a:Addr}{vs:List V}{os:List Ob}(h:H a=some (.tup vs))(n:vs.length<=100)(r:Ats H os vs):At H (.tup os) (.ref a):=⟨a,vs,rfl,h,n,r⟩
theorem _root_.L2.Ext.tups {H H':Hp}(e:Ext H H'):Tups H H':=fun b xs h=>e b _ h
theorem PcsAt.at {H:Hp} :∀ {vs:List V}{ps:Ae},PcsAt H vs ps->∀ {i:Nat}{v:V},vs[i]?=some v->∃ pc,ps[i]?=some pc/\PcAt H v pc
 | [],[],_,i,v,e=>by cases e
 | x::vs,p::ps,h,0,v,e=>by cases e; exact⟨p,rfl,h.1⟩
 | x::vs,p::ps,h,i+1,v,e=>PcsAt.at h.2 (i:=i) e
 | [],_::_,h,_,_,_=>h.elim
 | _::_,[],h,_,_,_=>h.elim
theorem PcsAt.snoc {H:Hp}{v:V}{p:List Int×Int}(hv:PcAt H v p):∀ {vs:List V}{ps:Ae},PcsAt H vs ps->PcsAt H (vs++[v]) (ps++[p])
 | [],[],_=>⟨hv,trivial⟩
 | x::vs,q::ps,h=>⟨h.1,PcsAt.snoc hv h.2⟩
 | [],_::_,h=>h.elim
 | _::_,[],h=>h.elim
theorem Good.wide {mt mp w mt' mp':Int}{ms:Ag}{Ar:Ae}(g:Good mt mp w ms Ar)(h1:mt<=mt')(h2:mp<=mp'):Good mt' mp' w ms Ar:=⟨g.w0,dr g.w1 h1,g.mr,dr g.pl h2,g.pg⟩
theorem jO7 (n:Nat):∀ (ds:Ag),ds.Nodup->(∀ t∈ds,0<=t/\t<(n:Int))->ds.length<=n:=by
 intro ds h1 h2;have h3:(ds.map Int.toNat).Nodup:=by
  rw[List.Nodup,bh];refine cQ (R:=(· ≠ ·)) (fun {a b} ha hb hne e=>hne ?_) h1;have:=h2 a ha;have:=h2 b hb;lia
 have h4:(ds.map Int.toNat).length<=(List.range n).length:=h3.length_le_of_subset fun x hx=>by
  obtain⟨t,ht,rfl⟩:=aQ.mp hx;have:=h2 t ht;exact bF.mpr Aa
 rw[af,cr] at h4;exact h4
def pcT (pc:List Int×Int):Tr:= .tup [.tup (pc.1.map Tr.int), .int pc.2]
def boxT (w:Int)(ms:Ag)(Ar:Ae):Tr:= .tup [.int w, .tup (ms.map Tr.int), .tup (Ar.map pcT)]
theorem jFW {H:Hp} :∀ l:Ag,TsAt H (l.map Tr.int) (l.map V.int)
 | []=>rfl
 | i::r=>⟨.int i,_,rfl,rfl,jFW r⟩
theorem pcs_T {H:Hp} :∀ {vs:List V}{Ar:Ae},PcsAt H vs Ar->TsAt H (Ar.map pcT) vs
 | [],[],_=>rfl
 | v::vs,p::ps,h=>by
  obtain⟨a,q,e,h1,h2⟩:=h.1;exact⟨v,vs,rfl,⟨a,_,e,h1, .ref q,_,rfl,⟨q,_,rfl,h2,jFW _⟩, .int p.2,[],rfl,rfl,rfl⟩,pcs_T h.2⟩
 | [],_::_,h=>h.elim
 | _::_,[],h=>h.elim
theorem box_T {H:Hp}{b:Addr}{w:Int}{ms:Ag}{Ar:Ae}(h:BoxAt H b w ms Ar):TAt H (boxT w ms Ar) (.ref b):=by
 obtain⟨qm,qp,ps,b1,b2,b3,b4⟩:=h.ex;exact⟨b,_,rfl,b1, .int w,_,rfl,rfl, .ref qm,_,rfl,⟨qm,_,rfl,b2,jFW _⟩, .ref qp,[],rfl,⟨qp,_,rfl,b3,pcs_T b4⟩,rfl⟩
theorem jBG:∀ l:Ag,deps (l.map Tr.int)=0
 | []=>by simp [deps]
 | i::r=>by simp [deps,dep,jBG r]
theorem jLK:∀ l:Ae,deps (l.map pcT)<=2
 | []=>by simp [deps]
 | p::r=>by
  have:=jLK r;simp only [bf,deps,pcT,dep,jBG];lia
theorem jVL (w:Int)(ms:Ag)(Ar:Ae):dep (boxT w ms Ar)<=4:=by
 have:=jLK Ar;simp only [boxT,dep,deps,jBG];lia
theorem iteN {A B:Prop}{c:Bool}(hc:c=false)(h:B):if c=true then A else B:=by
 rw[hc];exact iteF h
abbrev leI:Int->Int->Bool:=fun a b=>decide (a<=b)
def srt (l:Ag):Ag:=l.mergeSort leI
theorem jAA (l:Ag):(srt l).Perm l:=lc _ _
theorem jN9 (l:Ag):(srt l).Pairwise (· <= ·):=by
 have:=jh (le:=leI) (fun a b c h1 h2=>ax (dr (aI h1) (aI h2))) (fun a b=>by
  rw[ig];rcases Int.le_total a b with h | h
  ·exact .inl (ax h)
  ·exact .inr (ax h)) l
 exact this.imp fun h=>aI h
theorem jC9 {l m:Ag}(h1:m.Pairwise (· <= ·))(h2:m.Perm l):m=srt l:=
 List.Perm.eq_of_pairwise (fun a b _ _ h1 h2=>Int.le_antisymm h1 h2) h1 (jN9 l) (h2.trans (jAA l).symm)
theorem jSO {l:Ag}(h:l.Pairwise (· <= ·)):srt l=l:=(jC9 h (.refl _)).symm
theorem jTP (l:Ag):(srt l).length=l.length:=(jAA l).length_eq
theorem jJ8 {a b:Ag}(ra:a.Pairwise (· < ·))(rb:b.Pairwise (· < ·))(h:∀ x,x∈a↔x∈b):a=b:=by
 have na:a.Nodup:=ra.imp fun {a b} h=>by lia
 have nb:b.Nodup:=rb.imp fun {a b} h=>by lia
 have pm:a.Perm b:=(dw na nb).mpr h;rw[jC9 (ra.imp fun {a b} h=>by lia) pm,jSO (rb.imp fun {a b} h=>by lia)]
def plcs (ts lot:Ag):Ag:=(lot.filter fun t=>decide (t∈ts)).map fun t=>((ts.idxOf t:Nat):Int)
def nmd (ts lot:Ag):Ag:=srt (plcs ts lot)
theorem jKQ (ts lot:Ag):(plcs ts lot).length<=lot.length:=by
 unfold plcs;rw[af];exact bU _ _
def pick (ts:Ag)(Ar:Ae)(ks:Ag):Ae:=ks.map fun k=>(nmd ts (j8 Ar k),(Ar.getD k.toNat ([],0)).2)
def plKv (ts:Ag):List (Key×V):=(List.range ts.length).map fun i=>(Sum.inl (ts.getD i 0),V.int (i:Int))
theorem jQW (ts:Ag):(plKv ts).length=ts.length:=by
 unfold plKv;rw[af,cr]
theorem jEH (ts:Ag):(plKv ts).map (·.1)=ts.map Sum.inl:=by
 unfold plKv;rw[bH];refine List.ext_getElem Ad fun i h1 h2=>?_;have:i<ts.length:=by simpa using h1
 simp [List.getD,this]
theorem jQX {ts:Ag}{i:Nat}{k:Key}{v:V}(h:(plKv ts)[i]?=some (k,v)):∃ t,ts[i]?=some t/\k=Sum.inl t/\v=V.int (i:Int):=by
 unfold plKv at h;rw[aS] at h;by_cases hi:i<ts.length
 ·rw[dy hi] at h;simp only [map_some,gB,Prod.mk.injEq] at h;refine⟨ts[i],by simp [hi],?_,h.2.symm⟩;rw[<- h.1];simp [List.getD,hi]
 ·rw[b8 (by simp; lia)] at h;cases h
theorem jQL {κ:Type} [DecidableEq κ]{kvs:List (κ×V)}{k:κ}(h:k∉kvs.map (·.1)):valV kvs k=none:=by
 unfold valV;rw[List.find?_eq_none.mpr fun x hx=>?_]
 ·rfl
 ·intro e;exact h (aQ.mpr ⟨x,hx,aI e⟩)
theorem jSE {κ:Type} [DecidableEq κ]:∀ {kvs:List (κ×V)}{i:Nat}{k:κ}{v:V},(kvs.map (·.1)).Nodup->kvs[i]?=some (k,v)->valV kvs k=some v
 | [],_,_,_,_,h=>by simp at h
 | p::r,0,k,v,_,h=>by
  simp at h;subst h;exact jBP rfl
 | p::r,i+1,k,v,nd,h=>by
  rw[bf,cf] at nd;have h:r[i]?=some (k,v):=by simpa using h
  have hm:k∈r.map (·.1):=aQ.mpr ⟨_,aB h,rfl⟩;have ne:¬ p.1=k:=fun e=>nd.1 (by rw[e]; exact hm);have:=jSE (i:=i) nd.2 h;unfold valV at this ⊢;rw[d9,aN ne];exact this
theorem jHY {ts:Ag}(h:ts.Nodup):(ts.map (Sum.inl:Int->Key)).Nodup:=by
 rw[List.Nodup,bh];exact h.imp fun hne e=>hne (g8 e)
theorem jQV {ts:Ag}(nd:ts.Nodup)(t:Int):valV (plKv ts) (Sum.inl t)=if t∈ts then some (.int ((ts.idxOf t:Nat):Int)) else none:=by
 by_cases h:t∈ts
 ·rw[ay h];have hi:=bP.mpr h;refine jSE (i:=ts.idxOf t) (by rw[jEH]; exact jHY nd) ?_;unfold plKv;rw[aS,dy hi];show some (Sum.inl (ts.getD (ts.idxOf t) 0),_)=_;rw[show ts.getD (ts.idxOf t) 0=t by simp [List.getD,hi,gt]]
 ·rw[aw h];refine jQL ?_;rw[jEH];intro z;obtain⟨x,hx,e⟩:=aQ.mp z;exact h (g8 e ▸ hx)
abbrev qC:Stmt:=(jD y4).getD 1 (.Pass ⟨0,0,0,0⟩)
abbrev jKX:Am:=["lot","places"]
theorem scNamed:NScope jKX ["lot"] ["places"] (j7 qC):=⟨rfl,rfl,rfl,Ab,rfl,Ab,Ab,fun x h=>by
 have:=b9 h;revert this;have hl:∀ y∈(j7 qC).names,y.2= .free->y.1= "places" :=Ab;intro m;have:=hl _ m rfl;exact this ▸ ai,Ab⟩
def jNA:List V->Sp:=fun fv vs H Q _=>∃ (d a:Addr) (ts lot:Ag),fv=[.ref d]/\vs=[.ref a]/\ts.Nodup/\H d=some (.dK (plKv ts))/\H a=some (.tup (lot.map V.int))/\lot.length<64/\∀ r H',H' r=some (.tup ((nmd ts lot).map V.int))->Ext H H'->Q (.ref r) H'
def jX1 (T:Txt mg)(hr:Room 0 (cxN P w K mg Aq jKX "picked.<locals>.named" (j7 qC) f cd cl A Ap s H0).A): { t:TS // JSs (cxN P w K mg Aq jKX "picked.<locals>.named" (j7 qC) f cd cl A Ap s H0) (jD qC) t} :=
 have nd:=scNamed.nd
 ⟨_,(jC (jL (jW jV gl_n T.tuple Ab (j3 (jG jBI gl_n T.sorted Ab (j3 (kG (m:=[none,some 1]) (Nc:=["thing","places"]) rfl (qG (jv 0 rfl qA)) rfl Ab Ab (jK (psc:=j7 qC)) (jI (N:=jKX) rfl rfl Ab) (fun cl C fp s H=>jJ (i:=0) (show (["thing","places"]:Am).Nodup by decide+kernel) rfl yC) (fun cl C fp s H=>jEZ (jXG (hu_of hr) (jv 0 rfl jP) (jv 1 rfl kN) rfl)) (fun cl C fp s H=>(jGT (hu_of hr) (jv 1 rfl kN) (jv 0 rfl jP) jAY)) y9) j6 jH) jH) j6 jE) jE)))⟩
theorem jR5 (T:Txt mg):FnN P w K mg Aq 1 "named" "picked.<locals>.named" (y0 qC) (jD qC) (j7 qC) ["lot"] ["places"] jNA:=by
 refine jT9 scNamed (fun fv vs H Q E h=>?_) (fun cl doc pm c ctv us hl=>?_) (fun A Ap s H a c cl vs fv Q E hr h=>?_)
 ·obtain⟨_,_,_,_,_,rfl,_⟩:=h;rfl
 ·match us,hl with
  | [u],_=>rfl
 ·obtain⟨d,a,ts,lot,rfl,rfl,nd,hd,ha,hl,q⟩:=h;refine⟨_,(jX1 T hr).2.h,?_⟩;refine⟨_,rfl,a,rfl,⟨_,SqT.of ha⟩,jB3 (xs:=lot.map V.int) (by rw[af,aH]; lia) (fun D j σ' H' zs=>(∃ v,σ'=[v,some (.ref d)])/\Ext H H'/\H' D=some (.lst zs)/\H D=none/\zs=(plcs ts (lot.take j)).map V.int) ?_ ?_ ?_ ?_⟩
  ·intro D hD;exact⟨⟨_,rfl⟩,(Ext.refl _).new hD _,j5,hD,rfl⟩
  ·rintro D j σ' H' zs hD ⟨_,e,h2,_,rfl⟩;refine⟨e _ _ ha,h2,?_⟩;rw[af];have:=jKQ ts (lot.take j);have:=bB j lot;lia
  ·rintro D j σ' H' zs x hD hx ⟨⟨v,rfl⟩,e,h2,hn,rfl⟩;obtain⟨z,hz,rfl⟩:∃ z:Int,lot[j]?=some z/\V.int z=x:=by
    rw[aS] at hx;cases hq:lot[j]? with
    | none=>rw[hq] at hx; cases hx
    | some z=>rw[hq] at hx; cases hx; exact⟨z,rfl,rfl⟩
   have ht:plcs ts (lot.take (j+1))=plcs ts (lot.take j)++(if z∈ts then [((ts.idxOf z:Nat):Int)] else []):=by
    unfold plcs;rw[be,hz,bV,aU];congr 1;by_cases hzz:z∈ts <;> simp [hzz]
   have hD':H' d=some (.dK (plKv ts)):=e _ _ hd;have gv:=jQV nd z;refine⟨_,rfl,_,rfl,d,_,rfl,DGet.k (k:=Sum.inl z) hD',_,rfl,?_⟩;rw[gv];by_cases hzz:z∈ts
   ·rw[ay hzz] at gv ht ⊢;refine⟨_,rfl,_,rfl,d,_,rfl,by rw[<- gv]; exact DGet.k (k:=Sum.inl z) hD',h2,⟨_,rfl⟩,e.updNew hn _,j5,hn,?_⟩;rw[ht,aU];rfl
   ·rw[aw hzz] at gv ht ⊢;refine⟨⟨_,rfl⟩,e,h2,hn,?_⟩;rw[ht,bg]
  ·rintro D σ' H' zs hD ⟨_,e,h2,hn,rfl⟩;rw[af,bz] at h2;refine⟨D,_,rfl,SqL.of h2,?_,fun l ns hl hs hp=>?_⟩
   ·have:=jKQ ts lot;lia
   refine⟨l,_,rfl, .inl ⟨SqL.of j5,fun r hr=>?_⟩⟩;refine q r _ ?_ ((e.new hl _).new hr _);rw[j5,jC9 hs hp];rfl
theorem jHS {H:Hp}{vs:List V}{Ar:Ae}(h:PcsAt H vs Ar){k:Int}(h0:0<=k)(h1:k<Ar.length):∃ a q,atI vs k=some (.ref a)/\H a=some (.tup [.ref q, .int (Ar.getD k.toNat ([],0)).2])/\H q=some (.tup ((j8 Ar k).map V.int)):=by
 obtain⟨v,hv,a,q,rfl,b1,b2⟩:=h.get (k:=k.toNat) Aa;refine⟨a,q,?_,b1,b2⟩;have e:((k.toNat:Nat):Int)=k:=Aa;have:=yW hv;rw[e] at this;exact this
abbrev jDG:Am:=["box","things","pieces","places","named"]
theorem scPicked:FnScope jDG ["box","things","pieces"] (j7 y4):= {}
abbrev jSV:Pos:=match qC with
 | .FunctionDef _ _ _ _ _ _ _ _ _ p=>p
 | _=>⟨0,0,0,0⟩
abbrev TabP (H:Hp)(tb:Addr):Prop:=TabOk H tb jSV "picked.<locals>.named"
theorem jLG:∀ x∈(["places"]:Am),(j7 qC).names.lookup x=some .free:=by decide+kernel
theorem jF2:FsAt (XOf jDG "picked" y4 P w K mg Aq f (.ref c0) A Ap s H0 E) ["places"] [3]:=⟨rfl,fun k x h=>by
 cases k with
 | zero=>cases h; exact⟨3,rfl,rfl, .inl (show (j7 y4).names.lookup ("places" :Str)=some NameKind.cell by decide+kernel)⟩
 | succ k=>cases h⟩
def jBT (tb:Addr):Sp:=fun vs H Q _=>∃ (b a c:Addr) (tp tq:Bool) (w:Int) (ms:Ag) (Ar:Ae) (ts ks:Ag),vs=[.ref b, .ref a, .ref c]/\BoxAt H b w ms Ar/\AtS tp H a (ts.map V.int)/\AtS tq H c (ks.map V.int)/\ts.Nodup/\ts.length<=100/\ms.length<64/\(∀ p∈Ar,p.1.length<64)/\(∀ k∈ks,0<=k/\k<Ar.length)/\ks.length<=1000/\TabP H tb/\
 ∀ r H',BoxAt H' r ts.length (nmd ts ms) (pick ts Ar ks)->ExtT tb H H'->TabP H' tb->Q (.ref r) H'
def jU5 (T:Txt mg)(CH:PySem.W.CodeHd Aq c0 tb)(BM:qR Aq mg)(FN:FnN P w K mg Aq 1 "named" "picked.<locals>.named" (y0 qC) (jD qC) (j7 qC) ["lot"] ["places"] jNA)(hr:Room 1 (XOf jDG "picked" y4 P w K mg Aq f (.ref c0) A Ap s H0 E).A): { t:TS // JSs (XOf jDG "picked" y4 P w K mg Aq f (.ref c0) A Ap s H0 E) (jD y4) t} :=
 have nd:=scPicked.nd
 ⟨_,(jB (jU (i:=3) nd rfl loc_c (jW (jMR rfl) gD T.dict Ab (j3 (kG (m:=[none,none]) (Nc:=["place","thing"]) rfl (jJR gD T.enumerate (j3 (jv 1 rfl vL) j6 j4) j4) rfl Ab Ab (jK (psc:=j7 y4)) (jI (N:=jDG) rfl rfl Ab) (fun cl C fp s H=>jD3 (i:=0) (j:=1) rfl (show (["place","thing"]:Am).Nodup by decide+kernel) rfl rfl Ab Ab) (fun cl C fp s H=>kJ) (fun cl C fp s H=>(yG (j3 (jv 1 rfl jP) (j3 (jv 0 rfl jP) j6 j4) j4))) kP) j6 jH) jH) kE)
   (jB (jT5 (j:=4) nd rfl loc_c rfl CH BM (jK (psc:=j7 y4)) rfl rfl)
   (jC (jL (yG (j3 (jG jN gD T.len Ab (j3 (jv 1 rfl vL) j6 j4) j4) (j3 (jV5 (j:=4) FN hr rfl vC (jK (psc:=j7 y4)) jLG jF2 (j3 (jM jQ (jv 0 rfl vC) (je_int) jF) j6 jR) jR) (j3 (jW jV gD T.tuple Ab (j3 (jRS (m:=[none,some 4,some 0]) (Nc:=["piece","named","box"]) rfl (jXE (jv 2 rfl vL)) rfl Ab Ab (jK (psc:=j7 y4)) (jI (N:=jDG) rfl rfl Ab) (fun cl C fp s H=>jJ (i:=0) (show (["piece","named","box"]:Am).Nodup by decide+kernel) rfl yC) (fun cl C fp s H=>kJ) (fun cl C fp s H lK σ I0 hfp=>(yG (j3 (jRP (j:=1) I0 hfp FN hr rfl kN (jK (psc:=j7 y4)) jLG jF2 (j3 (jM kY (jM kY (jM kY (jv 2 rfl kN) (je_int) jF) (jv 0 rfl jP) jAY) (je_int) jF) j6 jR) jR) (j3 (jM kY (jM kY (jM kY (jv 2 rfl kN) (je_int) jF) (jv 0 rfl jP) jAY) (je_int) jF) j6 jR) jE))) y9) j6 jH) jH) j6 jE) jE) jE))))))⟩
theorem jO1 {fd:FuncData}(F:FunC K "picked" "picked" y4 f fd c0)(T:Txt mg)(CH:PySem.W.CodeHd Aq c0 tb)(BM:qR Aq mg):FnOk P w K mg Aq CX0 2 f fd ["box","things","pieces"] (jBT tb):=by
 refine F.ok scPicked (fun vs H Q E h=>?_) (fun A Ap s H vs Q E hr h=>?_)
 ·obtain⟨_,_,_,_,_,_,_,_,_,_,rfl,_⟩:=h;rfl
 ·obtain⟨b,a,c,tp,tq,w,ms,Ar,ts,ks,rfl,hB,ha,hc,nd,lts,lms,lpc,hks,lks,tab,q⟩:=h;refine⟨_,(jU5 T CH BM (jR5 T) hr).2.h,?_⟩;obtain⟨qm,qp,ps,b1,b2,b3,b4⟩:=id hB.ex;have pl:=b4.len;refine⟨_,rfl,tp,a,rfl,⟨_,ha.sq⟩,jIK (xs:=ts.map V.int) (by rw[af,aH]; lia) (fun D j σ' H' zs=>(∃ v v',σ'=[v,v'])/\Ext H H'/\H' D=some (.lst zs)/\H D=none/\zs.length=j/\∀ i,i<j->∃ r:Addr,zs[i]?=some (V.ref r)/\H' r=some (.tup [.int (ts.getD i 0), .int (i:Int)])) ?_ ?_ ?_ ?_⟩
  ·intro D hD;exact⟨⟨_,_,rfl⟩,(Ext.refl _).new hD _,j5,hD,rfl,fun i hi=>absurd hi (fe _)⟩
  ·rintro D j σ' H' zs hD ⟨_,e,h2,_,hl,_⟩;exact⟨(ha.ext e).sq,h2,Aa⟩
  ·rintro D j σ' H' zs x X hD hx hX ⟨⟨v,v',rfl⟩,e,h2,hn,hl,hz⟩;obtain⟨z,hz1,rfl⟩:∃ z:Int,ts[j]?=some z/\V.int z=x:=by
    rw[aS] at hx;cases hq:ts[j]? with
    | none=>rw[hq] at hx; cases hx
    | some z=>rw[hq] at hx; cases hx; exact⟨z,rfl,rfl⟩
   have hgd:ts.getD j 0=z:=by rw[aj,hz1]; rfl
   refine⟨X,_,rfl,SqT.of j5,rfl,_,_,rfl,_,_,rfl,rfl,?_⟩;dsimp only [kL,yB];rw[ay rfl];refine⟨_,rfl,_,rfl,by show (2:Nat)<=_; decide,fun r H2 d2 e2=>?_⟩;have e1:Ext H' (L2.upd H' X (.tup [.int (j:Int), .int z])):=(Ext.refl _).new hX _;have hD2:H2 D=some (.lst zs):=e2 _ _ (e1 _ _ h2);have rD:r≠D:=fun z=>by rw[z,hD2] at d2; cases d2
   refine⟨hD2,⟨_,_,rfl⟩,((e.trans e1).trans e2).updNew hn _,j5,hn,by rw[aJ,hl]; rfl,fun i hi=>?_⟩;by_cases hij:i=j
   ·subst hij;refine⟨r,?_,?_⟩
    ·rw[bu Aa,hl,gJ];rfl
    ·rw[j9 rD,d2,hgd]
   ·obtain⟨r',z1,z2⟩:=hz i Aa;have z3:=e2 _ _ (e1 _ _ z2);refine⟨r',?_,?_⟩
    ·rw[ce Aa];exact z1
    ·rw[j9 (fun y=>by rw[y,hD2] at z3; cases z3)];exact z3
  ·rintro D σ' H1 zs hD ⟨_,e1,h2,hn,hl,hz⟩;rw[af] at hl hz;refine⟨D,zs,plKv ts,rfl,h2,by rw[jQW]; exact hl,fun i k v hk=>?_,by rw[jEH]; exact jHY nd,fun d hd=>?_⟩
   ·obtain⟨t,z1,rfl,rfl⟩:=jQX hk;obtain⟨r,z2,z3⟩:=hz i (ao.mp z1).1;refine⟨r,z2,?_⟩;rw[z3];show _=some (HO.tup [V.int t,V.int (i:Int)]);rw[aj,z1];rfl
   have e2:Ext H (L2.upd H1 d (.dK (plKv ts))):=e1.new hd _;have d2:(L2.upd H1 d (.dK (plKv ts))) d=some (.dK (plKv ts)):=j5;generalize L2.upd H1 d (.dK (plKv ts))=H2 at e2 d2;refine⟨tab.ext e2,fun fa fc H3 k1 k2 k3 k4 k5=>?_⟩;have tab3:TabP H3 tb:= .inr ⟨fc,k3,k2⟩;have E3:ExtT tb H H3:=(ExtT.of e2).trans k4;have B1:=E3.at tab b1;have B2:=E3.at tab b2;have B3:=E3.at tab b3;have dd:=k4.at (tab.ext e2) d2;have aa:=E3.seq tab ha;have cc:=E3.seq tab hc;refine⟨_,rfl,a,_,rfl,aa.or,?_⟩;refine⟨fa,rfl,_,rfl,b,_,1,_,rfl,rfl,SqT.of B1,rfl,fc,[.ref d],k1,k2,rfl,d,qm,ts,ms,rfl,rfl,nd,dd,B2,lms,fun r1 H4 d4 e4=>?_⟩;refine jS4 (tp:=tq) (xs:=ks.map V.int) (cc.ext e4) (fun Q h=>⟨_,rfl,h⟩) (by rw[af,aH]; lia) (fun D j σ' H' zs=>(∃ v,σ'=[v,some (.ref fa),some (.ref b)])/\Ext H4 H'/\H' D=some (.lst zs)/\H4 D=none/\PcsAt H' zs (pick ts Ar (ks.take j))) ?_ ?_ ?_ ?_
   ·intro D hD;exact⟨⟨_,rfl⟩,(Ext.refl _).new hD _,j5,hD,trivial⟩
   ·rintro D j σ' H' zs hD ⟨_,e,h2,_,pz⟩;refine⟨cc.ext (e4.trans e),h2,?_⟩;rw[pz.len];unfold pick;rw[af];exact bB _ _
   ·rintro D j σ' H' zs x hD hx ⟨⟨v,rfl⟩,e,h2,hn,pz⟩;obtain⟨k,hk,rfl⟩:∃ z:Int,ks[j]?=some z/\V.int z=x:=by
     rw[aS] at hx;cases hq:ks[j]? with
     | none=>rw[hq] at hx; cases hx
     | some z=>rw[hq] at hx; cases hx; exact⟨z,rfl,rfl⟩
    have hkb:=hks k (aB hk);have e34:=e4.trans e;obtain⟨pa,pq,g1,g2,g3⟩:=jHS b4 hkb.1 hkb.2;have g2':=e34 _ _ (E3.at tab g2);have g3':=e34 _ _ (E3.at tab g3);have hlen:(j8 Ar k).length<64:=by
     unfold j8;rw[jJV Aa];exact lpc _ (cn _)
    dsimp only [kL,yB];rw[ay rfl];refine⟨fa,rfl,_,rfl,b,_,2,_,rfl,rfl,SqT.of (e34 _ _ B1),rfl,_,rfl,qp,_,k,_,rfl,rfl,SqT.of (e34 _ _ B3),g1,pa,_,0,_,rfl,rfl,SqT.of g2',rfl,fc,[.ref d],e34 _ _ k1,e34 _ _ k2,rfl,d,pq,ts,j8 Ar k,rfl,rfl,nd,e34 _ _ dd,g3',hlen,fun r2 H5 d5 e5=>?_⟩;have e35:=e34.trans e5;refine⟨_,rfl,b,_,2,_,rfl,rfl,SqT.of (e35 _ _ B1),rfl,_,rfl,qp,_,k,_,rfl,rfl,SqT.of (e35 _ _ B3),g1,pa,_,1,_,rfl,rfl,SqT.of (e5 _ _ g2'),rfl,by show (2:Nat)<=_; decide,fun r3 H6 d6 e6=>?_⟩;have hD6:H6 D=some (.lst zs):=e6 _ _ (e5 _ _ h2);refine⟨hD6,⟨_,rfl⟩,((e.trans e5).trans e6).updNew hn _,j5,hn,?_⟩;have ez:pick ts Ar (ks.take (j+1))=pick ts Ar (ks.take j)++[(nmd ts (j8 Ar k),(Ar.getD k.toNat ([],0)).2)]:=by
     unfold pick;rw[be,hk,aU];rfl
    rw[ez];exact PcsAt.mono (Tups.upd hD6 _) (PcsAt.snoc (p:=(nmd ts (j8 Ar k),(Ar.getD k.toNat ([],0)).2)) ⟨r3,r2,rfl,d6,e6 _ _ d5⟩ (pz.mono (e5.trans e6).tups))
   ·rintro D σ' H5 zs hD ⟨_,e5,h5,hn5,pz⟩;rw[af,bz] at pz;refine⟨D,_,rfl, .inl ⟨SqL.of h5,fun l hl=>?_⟩⟩;have e6:Ext H5 (L2.upd H5 l (.tup zs)):=(Ext.refl _).new hl _;have d6:(L2.upd H5 l (.tup zs)) l=some (.tup zs):=j5;generalize L2.upd H5 l (.tup zs)=H6 at e6 d6;refine⟨by show (3:Nat)<=_; decide,fun r H7 d7 e7=>?_⟩;have e47:=(e5.trans e6).trans e7;refine q r H7 ⟨r1,l,zs,?_,e47 _ _ d4,e7 _ _ d6,pz.mono (e6.trans e7).tups⟩ (E3.trans (ExtT.of (e4.trans e47))) (tab3.ext (e4.trans e47));rw[d7,af]
theorem jEV {n:Int}{ks:Ag}(h:ks.Pairwise (· < ·))(hb:∀ k∈ks,0<=k/\k<n):lotB n (.tup (ks.map Ob.int))=true:=by
 have hv:(ks.map Ob.int).map val=ks:=by rw[bH]; exact iZ _
 show ((ks.map Ob.int).all (upB 0 (n - 1))&&(adj ((ks.map Ob.int).map val)).all id)=true;rw[hv,bD,bK,bK];refine⟨fun x hx=>?_,fun x hx=>?_⟩
 ·obtain⟨k,hk,rfl⟩:=aQ.mp hx;have:=hb k hk;show (decide (0<=k)&&decide (k<=n - 1))=true;rw[ax Aa,ax Aa];rfl
 ·unfold adj at hx;obtain⟨i,hi,rfl⟩:=aQ.mp hx;have hi:=bF.mp hi;refine ax ?_;rw[jJV Aa,jJV Aa];exact bL.mp h i (i+1) Aa Aa Aa
theorem jPQ {α:Type}{p:α->Bool}{l:List α}{i:Nat}{x:α}(h:l[i]?=some x):(l.take (i+1)).filter p=(l.take i).filter p++(if p x=true then [x] else []):=by
 rw[be,h,bV];congr 1;rw[Option.toList,cK];split <;> rfl
theorem jBR (n:Nat):(upto n).Nodup:=(kQ n).ris.imp fun h=>by lia
theorem jLI {f:Int->Ag} :∀ {ks:Ag},(∀ k∈ks,(f k).length<=16)->∀ (i:Nat),ks.length<=i->(ks.flatMap f).length<=16*i
 | [],_,_,_=>by rw[List.flatMap_nil]; exact bo _
 | a::r,h,i,hi=>by
  rw[i4,aJ];have h1:=h a ai;rw[aV] at hi;have:=jLI (f:=f) (ks:=r) (fun k hk=>h k (ag _ hk)) (i - 1) Aa;lia
theorem jCF {w:Int}{ts:Ag}(h:ts.Pairwise (· < ·))(b:∀ z∈ts,0<=z/\z<w)(hw:w<=16):ts.length<=16:=by
 have:=jAL ts 0 w h b;lia
theorem jFI {w:Int}{ms:Ag}{Ar:Ae}(g:Good 16 32 w ms Ar){k:Int}(h0:0<=k)(h1:k<Ar.length):(j8 Ar k).length<=16:=by
 have:=g.at (k:=k.toNat) Aa;exact jCF this.lot.ris this.lot.bnd g.w1
theorem jPG {K:W.Frag}{m:List (Option Nat)}{σ:St}{H:Hp}{Q:VK}{q t:Addr}{tp:Bool}{lot ts:Ag}(hq:H q=some (.tup (lot.map V.int)))(ht:AtS tp H t (ts.map V.int))(hl:lot.length<=1000)(h0:blkσ m σ=[none,some (.ref t)])
  (k:∀ D H',H' D=some (.lst ((lot.map fun x=>decide (x∈ts)).map V.bl))->Ext H H'->H D=none->Q (.ref D) H'):qQ m (kL 0) yB (tOp (rIn K false) (tVar 0) (tVar 1)) σ Q (Itt K q) H:=by
 refine jB3 (xs:=lot.map V.int) (by rw[af,aH]; lia) (fun D j σ' H' zs=>(∃ v,σ'=[v,some (.ref t)])/\Ext H H'/\H' D=some (.lst zs)/\H D=none/\zs=((lot.take j).map fun x=>decide (x∈ts)).map V.bl) ?_ ?_ ?_ ?_
 ·intro D hD;exact⟨⟨_,h0⟩,(Ext.refl _).new hD _,j5,hD,rfl⟩
 ·rintro D j σ' H' zs hD ⟨_,e,h2,_,rfl⟩;refine⟨e _ _ hq,h2,?_⟩;rw[af,af];exact bB _ _
 ·rintro D j σ' H' zs x hD hx ⟨⟨v,rfl⟩,e,h2,hn,rfl⟩;obtain⟨z,hz,rfl⟩:∃ z:Int,lot[j]?=some z/\V.int z=x:=by
   rw[aS] at hx;cases hq:lot[j]? with
   | none=>rw[hq] at hx; cases hx
   | some z=>rw[hq] at hx; cases hx; exact⟨z,rfl,rfl⟩
  dsimp only [kL,yB];rw[ay rfl];refine⟨_,rfl,_,rfl,t,_,rfl,(ht.ext e).or,rfl,jA7 _,h2,⟨_,rfl⟩,e.updNew hn _,j5,hn,?_⟩;have:lot.take (j+1)=lot.take j++[z]:=by
   rw[be,hz];rfl
  rw[this,aU,aU];show _++[V.bl (inV (.int z) (ts.map V.int))]=_;rw[jC2];rfl
 ·rintro D σ' H' zs hD ⟨_,e,h2,hn,rfl⟩;rw[af,bz] at h2;exact k D H' h2 e hn
theorem jXS {lot:Ag}{p:Int->Bool} :(lot.map p).all id=lot.all p:=by rw[ix]; rfl
theorem jXQ {lot:Ag}{p:Int->Bool} :(lot.map p).any id=lot.any p:=by rw[lJ]; rfl
theorem pc_lt {w:Int}{ms:Ag}{Ar:Ae}(g:Good 16 32 w ms Ar):∀ p∈Ar,p.1.length<64:=fun p hp=>by
 have:=g.pg p hp;have:=jCF this.lot.ris this.lot.bnd g.w1;lia
theorem jXJ {ts:Ag}(h:ts.Pairwise (· < ·)){a b:Int}(ha:a∈ts)(hb:b∈ts)(hab:a<b):ts.idxOf a<ts.idxOf b:=by
 have ia:=bP.mpr ha;have ib:=bP.mpr hb;have ea:=gt ia;have eb:=gt ib;rcases gA (ts.idxOf a) (ts.idxOf b) with q | q | q
 ·exact q
 ·exfalso;have e2:ts[ts.idxOf a]=ts[ts.idxOf b]:=by congr 1
  lia
 ·exfalso;have:=bL.mp h _ _ ib ia q;lia
theorem jKP {ts lot:Ag}(h:ts.Pairwise (· < ·))(hl:lot.Pairwise (· < ·)):(plcs ts lot).Pairwise (· < ·):=by
 unfold plcs;rw[bh];refine cQ (R:=fun a b=>a<b) (fun {a b} ha hb hab=>?_) (hl.sublist fY);have:=jXJ h (aI (ba.mp ha).2) (aI (ba.mp hb).2) hab;lia
theorem jO8 {ts lot:Ag}(h:ts.Pairwise (· < ·))(hl:lot.Pairwise (· < ·)):nmd ts lot=plcs ts lot:=jSO ((jKP h hl).imp fun h=>by lia)
theorem jQU {ts lot:Ag}(h:∀ t∈lot,t∈ts):plcs ts lot=lot.map fun t=>((ts.idxOf t:Nat):Int):=by
 unfold plcs;rw[lg.mpr fun t ht=>ax (h t ht)]
theorem mem_upto {n:Nat}{t:Int} :t∈upto n↔0<=t/\t<n:=by
 constructor
 ·exact fun h=>(kQ n).bnd t h
 ·intro h;unfold upto;exact aQ.mpr ⟨t.toNat,bF.mpr Aa,Aa⟩
theorem jA6 {ts:Ag}{t:Int}(h:t∈ts):ts[ts.idxOf t]?=some t/\∀ m,m<ts.idxOf t->ts[m]?≠some t:=by
 have hi:=bP.mpr h;refine⟨by rw[aq hi,gt],fun m hm e=>?_⟩;have hm':m<ts.length:=Aa;rw[aq hm'] at e;have:=List.not_of_lt_findIdx (p:=(· ==t)) (xs:=ts) (i:=m) (by unfold List.idxOf at hm; exact hm);rw[bw e] at this;simp at this
theorem jLD {K:W.Frag}{m:List (Option Nat)}{σ:St}{H:Hp}{Q:VK}{q t:Addr}{lot ts:Ag}(hq:H q=some (.tup (lot.map V.int)))(ht:H t=some (.tup (ts.map V.int)))(hl:lot.length<=1000)(hs:∀ x∈lot,x∈ts)(h0:blkσ m σ=[none,some (.ref t)])
  (k:∀ D H',H' D=some (.lst ((lot.map fun t=>((ts.idxOf t:Nat):Int)).map V.int))->Ext H H'->H D=none->Q (.ref D) H'):qQ m (kL 0) yB (tBMT jNH (tVar 1) (tCons (tVar 0) tNil)) σ Q (Itt K q) H:=by
 refine jB3 (xs:=lot.map V.int) (by rw[af,aH]; lia) (fun D j σ' H' zs=>(∃ v,σ'=[v,some (.ref t)])/\Ext H H'/\H' D=some (.lst zs)/\H D=none/\zs=((lot.take j).map fun t=>((ts.idxOf t:Nat):Int)).map V.int) ?_ ?_ ?_ ?_
 ·intro D hD;exact⟨⟨_,h0⟩,(Ext.refl _).new hD _,j5,hD,rfl⟩
 ·rintro D j σ' H' zs hD ⟨_,e,h2,_,rfl⟩;refine⟨e _ _ hq,h2,?_⟩;rw[af,af];exact bB _ _
 ·rintro D j σ' H' zs x hD hx ⟨⟨v,rfl⟩,e,h2,hn,rfl⟩;obtain⟨z,hz,rfl⟩:∃ z:Int,lot[j]?=some z/\V.int z=x:=by
   rw[aS] at hx;cases hq:lot[j]? with
   | none=>rw[hq] at hx; cases hx
   | some z=>rw[hq] at hx; cases hx; exact⟨z,rfl,rfl⟩
  have hzt:=hs z (aB hz);dsimp only [kL,yB];rw[ay rfl];refine⟨_,rfl,⟨t,_,rfl,e _ _ ht⟩,_,rfl,t,ts,z,ts.idxOf z,rfl,rfl,e _ _ ht,(jA6 hzt).1,(jA6 hzt).2,h2,⟨_,rfl⟩,e.updNew hn _,j5,hn,?_⟩;have:lot.take (j+1)=lot.take j++[z]:=by
   rw[be,hz];rfl
  rw[this,aU,aU];rfl
 ·rintro D σ' H' zs hD ⟨_,e,h2,hn,rfl⟩;rw[af,bz] at h2;exact k D H' h2 e hn
abbrev nMask:Am:=["lot"]
theorem scMask:FnScope nMask ["lot"] (j7 sMask):= {}
def jHF:Sp:=fun vs H Q _=>∃ (q:Addr) (ts:Ag),vs=[.ref q]/\H q=some (.tup (ts.map V.int))/\(∀ t∈ts,0<=t/\t<64)/\ts.length<=64/\∀ H',Ext H H'->Q (.int ((maskN ts:Nat):Int)) H'
def maskA (T:Txt mg): { t:TS // JSs (XOf nMask "mask_of" sMask P w K mg Aq f lM A Ap s H0 E) (jD sMask) t} :=
 have nd:=scMask.nd
 ⟨_,(jC (jL (jG (jF9 rfl) gD T.sum Ab (j3 (kG (m:=[none]) (Nc:=["thing"]) rfl (qG (jv 0 rfl vL)) rfl Ab Ab (jK (psc:=j7 sMask)) (jI (N:=nMask) rfl rfl Ab) (fun cl C fp s H=>jJ (i:=0) (show (["thing"]:Am).Nodup by decide+kernel) rfl yC) (fun cl C fp s H=>kJ) (fun cl C fp s H=>(kX jHW (je_int) (jv 0 rfl jP))) y9) j6 jH) jH)))⟩
theorem jMC (ts:Ag)(h:∀ t∈ts,0<=t):(ts.map fun t=>(1:Int)*2 ^ t.toNat).sum=((maskN ts:Nat):Int):=by
 induction ts with
 | nil=>rfl
 | cons t r ih=>
  have e:maskN (t::r)=2 ^ t.toNat+maskN r:=by simp [maskN]
  rw[bf,dG,ih fun x hx=>h x (ag _ hx),e];push_cast;lia
theorem jUN {fd:FuncData}(F:Fun K "mask_of" "mask_of" sMask f fd)(T:Txt mg):FnOk P w K mg Aq CX0 1 f fd ["lot"] jHF:=by
 refine F.ok scMask (fun vs H Q E h=>?_) (fun lM A Ap s H vs Q E hr h=>?_)
 ·obtain⟨_,_,rfl,_⟩:=h;rfl
 ·obtain⟨q,ts,rfl,hq,hb,hl,k⟩:=h;refine⟨_,(maskA T).2.h,?_⟩;refine⟨_,rfl,q,rfl,⟨_,SqT.of hq⟩,jB3 (xs:=ts.map V.int) (by rw[af,aH]; lia) (fun D i σ' H' zs=>(∃ v,σ'=[v])/\Ext H H'/\H' D=some (.lst zs)/\H D=none/\zs=((ts.take i).map fun t=>(1:Int)*2 ^ t.toNat).map V.int) ?_ ?_ ?_ ?_⟩
  ·intro D hD;exact⟨⟨_,rfl⟩,(Ext.refl _).new hD _,j5,hD,rfl⟩
  ·rintro D i σ' H' zs hD ⟨_,e,h2,_,rfl⟩;refine⟨e _ _ hq,h2,?_⟩;rw[af,af,bI];lia
  ·rintro D i σ' H' zs x hD hx ⟨⟨v,rfl⟩,e,h2,hn,rfl⟩;obtain⟨z,hz,rfl⟩:∃ z:Int,ts[i]?=some z/\V.int z=x:=by
    rw[aS] at hx;cases hq:ts[i]? with
    | none=>rw[hq] at hx; cases hx
    | some z=>rw[hq] at hx; cases hx; exact⟨z,rfl,rfl⟩
   have hzb:=hb z (aB hz);dsimp only [kL,yB];rw[ay rfl];refine⟨_,rfl,_,_,rfl,rfl,⟨?_,?_,?_⟩,h2,⟨_,rfl⟩,e.updNew hn _,j5,hn,?_⟩
   ·first | lia | decide
   ·first | lia | decide
   ·first | lia | decide
   ·have:ts.take (i+1)=ts.take i++[z]:=by
     rw[be,hz];rfl
    rw[this,aU,aU];rfl
  ·rintro D σ' H' zs hD ⟨_,e,h2,hn,rfl⟩;refine⟨D,_,rfl,SqL.of h2,?_⟩;rw[af,bz,jMC ts fun t ht=>(hb t ht).1];exact k H' e
end Eo
namespace L2
open PySem
theorem jP5 {X:Cx}{a b c:Expr}{pos:Pos}{ta tb:TE}{tc:TT}(hc:JT X c tc)(ha:JE X a ta)(hb:JE X b tb):JE X (.IfExp c a b pos) (tIf tc ta tb):=⟨jR1 hc.h ha.h hb.h⟩
theorem jW1 {a b c:Expr}{pos:Pos}{es:List Expr}{env:Env} :starEach (.IfExp c a b pos::es) env=(false,eval (.IfExp c a b pos) env)::starEach es env:=rfl
end L2
namespace Eo
open PySem L2
def PrAt (H:Hp)(v:V)(c:Int×Nat):Prop:=∃ q,v= .ref q/\H q=some (.tup [.int c.1, .int ((c.2:Nat):Int)])
theorem PrAt.mono {H H':Hp}(t:Tups H H'){v:V}{c:Int×Nat}(h:PrAt H v c):PrAt H' v c:=let ⟨q,e,z⟩:=h; ⟨q,e,t _ _ z⟩
def RowAt (H:Hp)(l:Addr)(cs:List (Int×Nat)):Prop:=∃ vs,H l=some (.lst vs)/\All2 (PrAt H) vs cs
structure ChAt (H:Hp)(L:Addr)(ch:Ch):Prop where
 ex:∃ ls:List Addr,H L=some (.lst (ls.map V.ref))/\ls.Nodup/\All2 (RowAt H) ls ch
theorem RowAt.keep {H H':Hp}{l:Addr}{cs:List (Int×Nat)}(h:RowAt H l cs)(k:∀ xs,H l=some (.lst xs)->H' l=some (.lst xs))(t:Tups H H'):RowAt H' l cs:=let ⟨vs,a,b⟩:=h; ⟨vs,k _ a,b.imp fun _ _=>PrAt.mono t⟩
theorem ChAt.keep {H H':Hp}{L:Addr}{ch:Ch}(h:ChAt H L ch)(k:∀ b xs,H b=some (.lst xs)->H' b=some (.lst xs))(t:Tups H H'):ChAt H' L ch:=by
 obtain⟨ls,a,b,c⟩:=h.ex;exact⟨ls,k _ _ a,b,c.imp fun l cs r=>r.keep (k l) t⟩
theorem ChAt.ext {H H':Hp}{L:Addr}{ch:Ch}(h:ChAt H L ch)(e:Ext H H'):ChAt H' L ch:=h.keep (fun b xs z=>e _ _ z) e.tups
theorem ChAt.len {H:Hp}{L:Addr}{ch:Ch}(h:ChAt H L ch):∃ ls:List Addr,H L=some (.lst (ls.map V.ref))/\ls.length=ch.length:=by
 obtain⟨ls,a,b,c⟩:=h.ex;exact⟨ls,a,c.len⟩
def yD (ms:Ag)(Ar:Ae)(n t:Nat):List (Int×Nat):=
 (if (t:Int)∈ms then [(-1,2 ^ t)] else [])++(((upto Ar.length).take n).filter fun k=>decide ((j8 Ar k).headD 0=(t:Int))).map fun k=>(k,maskN (j8 Ar k))
def chsN (w:Nat)(ms:Ag)(Ar:Ae)(n:Nat):Ch:=(List.range w).map (yD ms Ar n)
def chs (w:Nat)(ms:Ag)(Ar:Ae):Ch:=chsN w ms Ar Ar.length
theorem kT (w:Nat)(ms:Ag)(Ar:Ae)(n:Nat):(chsN w ms Ar n).length=w:=by
 unfold chsN;rw[af,cr]
theorem yK {w:Nat}{ms:Ag}{Ar:Ae}{n t:Nat}(h:t<w):(chsN w ms Ar n)[t]?=some (yD ms Ar n t):=by
 unfold chsN;rw[aS,dy h];rfl
theorem jI1 {ts:Ag}{t:Nat}(hp:ts.Pairwise (· < ·))(h0:∀ x∈ts,0<=x)(h:(t:Int)∈ts):(maskN ts).testBit t=true:=by
 rw[jA8 ts t hp h0,ax h]
theorem jER {ts:Ag}{w:Nat}(hp:ts.Pairwise (· < ·))(h0:∀ x∈ts,0<=x/\x<(w:Int)):maskN ts<2 ^ w:=by
 refine Nat.lt_pow_two_of_testBit _ fun i hi=>?_;rw[jA8 ts i hp fun x hx=>(h0 x hx).1,aN];intro z;have:=(h0 _ z).2;lia
theorem jE7 {l:Ag}(h:l≠ []):l.headD 0∈l:=by
 cases l with
 | nil=>exact absurd rfl h
 | cons a r=>exact ai ..
theorem qH {w:Int}{ms:Ag}{Ar:Ae}{n:Nat}(g:Good 16 32 w ms Ar):ChOk (chsN w.toNat ms Ar n):=by
 have w0:=g.w0;have w1:=g.w1;have gpl:=g.pl;refine⟨by rw[kT]; lia,fun t cs h=>?_,fun t cs h c hc=>?_⟩
 ·have ht:t<w.toNat:=by
   have:=(ao.mp h).1
   rwa [kT] at this
  rw[yK ht] at h;cases h;unfold yD;rw[aJ,af];have:=bU (fun k=>decide ((j8 Ar k).headD 0=(t:Int))) ((upto Ar.length).take n);have:=bB n (upto Ar.length);have:=yH Ar.length;have:((upto Ar.length).take n).length<=(upto Ar.length).length:=by rw[bI]; lia
  split <;> simp only [aV,cz] <;> lia
 ·have ht:t<w.toNat:=by
   have:=(ao.mp h).1
   rwa [kT] at this
  rw[yK ht] at h;cases h;unfold yD at hc;rw[kT];rcases aP.mp hc with hc | hc
  ·split at hc
   ·rw[aK] at hc;subst hc;exact⟨by simp [cL],g9 Ac ht,by show (-1:Int)<= -1; decide,by show (-1:Int)<32; decide⟩
   ·cases hc
  ·obtain⟨k,hk,rfl⟩:=aQ.mp hc;obtain⟨hk1,hk2⟩:=ba.mp hk;have kb:=(kQ Ar.length).bnd k (bQ hk1);have gp:=g.at (k:=k.toNat) Aa;have hk2:=aI hk2;have hne:j8 Ar k≠ []:=gp.lot.ne;have hm:(t:Int)∈j8 Ar k:=by
    rw[<- hk2];exact jE7 hne
   exact⟨jI1 gp.lot.ris (fun x hx=>(gp.lot.bnd x hx).1) hm,jER gp.lot.ris fun x hx=>⟨(gp.lot.bnd x hx).1,by have:=(gp.lot.bnd x hx).2; lia⟩,Aa,Aa⟩
abbrev jBV:Am:=["box","choices","number","piece"]
theorem scChoices:FnScope jBV ["box"] (j7 yJ):= {}
def jAP:Sp:=fun vs H Q _=>∃ (b:Addr) (w:Int) (ms:Ag) (Ar:Ae),vs=[.ref b]/\BoxAt H b w ms Ar/\Good 16 32 w ms Ar/\∀ r H',ChAt H' r (chs w.toNat ms Ar)->Ext H H'->Q (.ref r) H'
def jVK (T:Txt mg)(CM:Can P w K mg Aq "mask_of" 1 fM fdM ["lot"] jHF)(hr:Room 1 (XOf jBV "choices_of" yJ P w K mg Aq f lM A Ap s H0 E).A): { t:TS // JSs (XOf jBV "choices_of" yJ P w K mg Aq f lM A Ap s H0 E) (jD1 ((jD yJ).getD 1 (.Pass ⟨0,0,0,0⟩))) t} :=
 have nd:=scChoices.nd
 ⟨_,(jC (jDI (je_bm bR eL eM jBD (jM jCH (jv 1 rfl vL) (jM jQ (jM jQ (jv 3 rfl vL) (je_int) jF) (je_int) jF) jW6) (j3 (yG (j3 (jv 2 rfl vL) (j3 (CM.je hr gD (j3 (jM jQ (jv 3 rfl vL) (je_int) jF) j6 jR) jR) j6 jE) j4)) j6 jDQ) jDQ) kE))⟩
def jS6 (T:Txt mg)(CM:Can P w K mg Aq "mask_of" 1 fM fdM ["lot"] jHF)(hr:Room 1 (XOf jBV "choices_of" yJ P w K mg Aq f lM A Ap s H0 E).A): { t:TS // JSs (XOf jBV "choices_of" yJ P w K mg Aq f lM A Ap s H0 E) (jD yJ) t} :=
 have nd:=scChoices.nd
 ⟨_,(jB (jOZ (i:=1) nd rfl lL ⟨by rfl⟩ (m:=[none,some 0]) (Nc:=["thing","box"]) rfl (jA5 gD T.range (j3 (jM jQ (jv 0 rfl vC) (je_int) jF) j6 jR) jR) rfl Ab Ab (jK (psc:=j7 yJ)) (jI (N:=jBV) rfl rfl Ab) (fun cl C fp s H=>jJ (i:=0) (show (["thing","box"]:Am).Nodup by decide+kernel) rfl yC) (fun cl C fp s H=>kJ) (fun cl C fp s H=>(jP5 (jY jEM (jv 0 rfl jP) (jM kY (jv 1 rfl kN) (je_int) jF) jOA) (jB2 (j3 (yG (j3 (je_un jSF (je_int)) (j3 (kX jHW (je_int) (jv 0 rfl jP)) j6 yT) se_un)) j6 jDQ)) (jB2 j6))) kP) (jB (jCA cB rfl (jJR gD T.enumerate (j3 (jM jQ (jv 0 rfl vC) (je_int) jF) j6 jR) jR) (jL9 (i:=2) (j:=3) nd rfl rfl Ab Ab) (jVK T CM hr).2 kP) (jC (jL (jv 1 rfl vL)))))⟩
abbrev nFull:Am:=["choices"]
theorem scFull:FnScope nFull ["choices"] (j7 sFull):= {}
def jFM:Sp:=fun vs H Q _=>∃ (L:Addr) (ch:Ch),vs=[.ref L]/\ChAt H L ch/\ch.length<=16/\Q (.int ((fullN ch:Nat):Int)) H
def fullA (T:Txt mg): { t:TS // JSs (XOf nFull "full_mask" sFull P w K mg Aq f lM A Ap s H0 E) (jD sFull) t} :=
 have nd:=scFull.nd
 ⟨_,(jC (jL (kX jEK (kX jHW (je_int) (jG jN gD T.len Ab (j3 (jv 0 rfl vL) j6 j4) j4)) (je_int))))⟩
abbrev nAt:Am:=["choices","mask","least_lacked"]
theorem scAt:FnScope nAt ["choices","mask"] (j7 sAt):= {}
def spAt:Sp:=fun vs H Q _=>∃ (L:Addr) (ch:Ch) (m:Nat),vs=[.ref L, .int (m:Int)]/\ChAt H L ch/\ChOk ch/\m<2 ^ ch.length/\m≠fullN ch/\∀ r H',RowAt H' r (chAt ch m)->Ext H H'->H r=none->Q (.ref r) H'
def atA (T:Txt mg): { t:TS // JSs (XOf nAt "choices_at" sAt P w K mg Aq f lM A Ap s H0 E) (jD sAt) t} :=
 have nd:=scAt.nd
 ⟨_,(jB (jU (i:=2) nd rfl lL (kX jEK (jP9 jr iA iB jOH (kX jKT (je_un jVV (jv 1 rfl vC)) (kX yE (jv 1 rfl vC) (je_int)))) (je_int)) jKF)
   (jC (jL (kG (m:=[none,some 1]) (Nc:=["choice","mask"]) rfl (yN (jM jCH (jv 0 rfl vL) (jv 2 rfl vL) jAY)) rfl Ab Ab (jK (psc:=j7 sAt)) (jI (N:=nAt) rfl rfl Ab) (fun cl C fp s H=>jJ (i:=0) (show (["choice","mask"]:Am).Nodup by decide+kernel) rfl yC) (fun cl C fp s H=>jEZ (jY qU (kX jKT (jM kY (jv 0 rfl jP) (je_int) jF) (jv 1 rfl kN)) (je_int) (jT _))) (fun cl C fp s H=>(jv 0 rfl jP)) jT7))))⟩
theorem jDN (ms:Ag)(Ar:Ae)(t:Nat):yD ms Ar 0 t=if (t:Int)∈ms then [(-1,2 ^ t)] else []:=by
 unfold yD;rw[iN];simp
theorem jQ0 {w n:Nat}{ms:Ag}{Ar:Ae}(hn:n<Ar.length)(t:Nat)(ht:(j8 Ar (n:Int)).headD 0=(t:Int)):chsN w ms Ar (n+1)=(chsN w ms Ar n).set t (yD ms Ar n t++[((n:Int),maskN (j8 Ar n))]):=by
 have key:∀ u,yD ms Ar (n+1) u=yD ms Ar n u++if u=t then [((n:Int),maskN (j8 Ar n))] else []:=fun u=>by
  unfold yD;rw[jED hn,bV,aU,aY];congr 2;rw[cK,ht];by_cases hu:u=t
  ·subst hu;rw[ay (ax rfl),ay rfl];rfl
  ·rw[aw (by rw[br]; lia),aw hu];rfl
 refine gC fun i=>?_;rw[List.getElem?_set,kT];by_cases hi:i<w
 ·rw[yK hi,yK hi,key];by_cases h:t=i
  ·subst h;rw[ay rfl,ay rfl,ay hi]
  ·rw[aw h,aw (fun z=>h z.symm),bg]
 ·rw[b8 (by rw[kT]; lia),b8 (by rw[kT]; lia)];split
  ·rw[aw Aa]
  ·rfl
theorem ChAt.app {H:Hp}{L:Addr}{ch:Ch}{t:Nat}{l:Addr}{ls:List Addr}{vs:List V}{cs:List (Int×Nat)}{v:V}{c:Int×Nat}(hL:H L=some (.lst (ls.map V.ref)))(nd:ls.Nodup)(al:All2 (RowAt H) ls ch)(hl:ls[t]?=some l)(hc:ch[t]?=some cs)(hv:H l=some (.lst vs))(av:All2 (PrAt H) vs cs)(pv:PrAt H v c)(ne:l≠L):
  (L2.upd H l (.lst (vs++[v]))) L=some (.lst (ls.map V.ref))/\All2 (RowAt (L2.upd H l (.lst (vs++[v])))) ls (ch.set t (cs++[c])):=by
 have tu:Tups H (L2.upd H l (.lst (vs++[v]))):=Tups.upd hv _;refine⟨by rw[j9 ne.symm]; exact hL,?_⟩;refine All2.of_get (by rw[List.length_set]; exact al.len) fun i a b h1 h2=>?_;rw[List.getElem?_set] at h2;by_cases hi:t=i
 ·subst hi;rw[ay rfl,ay (ao.mp hc).1] at h2;cases h2;rw[hl] at h1;cases h1;exact⟨_,j5,(av.imp fun _ _=>PrAt.mono tu).snoc (pv.mono tu)⟩
 ·rw[aw hi] at h2;obtain⟨b',hb',r⟩:=al.get' h1;rw[h2] at hb';cases hb';refine r.keep (fun xs hx=>?_) tu;rw[j9 fun z=>hi ?_]
  ·exact hx
  ·exact(fj (ao.mp hl).1 nd).mp (by rw[hl,h1,z])
theorem jM9 {fd:FuncData}(F:Fun K "choices_of" "choices_of" yJ f fd)(T:Txt mg)(CM:Can P w K mg Aq "mask_of" 1 fM fdM ["lot"] jHF):FnOk P w K mg Aq CX0 2 f fd ["box"] jAP:=by
 refine F.ok scChoices (fun vs H Q E h=>?_) (fun lM A Ap s H vs Q E hr h=>?_)
 ·obtain⟨_,_,_,_,rfl,_⟩:=h;rfl
 ·obtain⟨b,w,ms,Ar,rfl,hB,g,q⟩:=h;refine⟨_,(jS6 T CM hr).2.h,?_⟩;obtain⟨qm,qp,ps,b1,b2,b3,b4⟩:=id hB.ex;have pl:=b4.len;have w0:=g.w0;have w1:=g.w1;have gpl:=g.pl;refine⟨_,rfl,b,_,0,_,rfl,rfl,SqT.of b1,rfl,w,rfl,Aa,Aa,jC6 (n:=w.toNat) (by rw[aH]; lia) (fun D i σ' H' zs=>(∃ v,σ'=[v,some (.ref b)])/\Ext H H'/\H' D=some (.lst zs)/\H D=none/\∃ ls:List Addr,zs=ls.map V.ref/\ls.Nodup/\D∉ls/\(∀ a∈ls,H a=none)/\All2 (RowAt H') ls ((List.range i).map (yD ms Ar 0))) ?_ ?_ ?_ ?_⟩
  ·intro D hD;exact⟨⟨_,rfl⟩,(Ext.refl _).new hD _,j5,hD,[],rfl,ko,Ad,Ad,trivial⟩
  ·rintro D i σ' H' zs hD hi ⟨_,e,h2,_,ls,rfl,_,_,_,al⟩;refine⟨h2,?_⟩;rw[af,al.len,af,cr];lia
  ·rintro D i σ' H' zs hD hi ⟨⟨v,rfl⟩,e,h2,hn,ls,rfl,nd,hDl,nol,al⟩;dsimp only [kL,yB];rw[ay rfl];have e0:(0+(i:Int))=(i:Int):=Aa;have key:∀ (l:Addr) (H2:Hp),Ext H' H2->H' l=none->RowAt H2 l (yD ms Ar 0 i)->H2 D=some (.lst (ls.map V.ref))/\((∃ v,[some (V.int (i:Int)),some (.ref b)]=[v,some (.ref b)])/\Ext H (L2.upd H2 D (.lst (ls.map V.ref++[.ref l])))/\(L2.upd H2 D (.lst (ls.map V.ref++[.ref l]))) D=some (.lst (ls.map V.ref++[.ref l]))/\H D=none/\∃ ls':List Addr,ls.map V.ref++[.ref l]=ls'.map V.ref/\ls'.Nodup/\D∉ls'/\(∀ a∈ls',H a=none)/\All2 (RowAt (L2.upd H2 D (.lst (ls.map V.ref++[.ref l])))) ls' ((List.range (i+1)).map (yD ms Ar 0))):=fun l H2 e2 nl rl=>by
    have hD2:=e2 _ _ h2;have lD:l≠D:=fun z=>by rw[z,h2] at nl; cases nl
    have tu:Tups H2 (L2.upd H2 D (.lst (ls.map V.ref++[.ref l]))):=Tups.upd hD2 _;have kp:∀ a xs,a≠D->H2 a=some (.lst xs)->(L2.upd H2 D (.lst (ls.map V.ref++[.ref l]))) a=some (.lst xs):=fun a xs ha h=>by rw[j9 ha]; exact h
    refine⟨hD2,⟨_,rfl⟩,(e.trans e2).updNew hn _,j5,hn,ls++[l],by rw[aU]; rfl,?_,?_,?_,?_⟩
    ·rw[gG];refine⟨nd,Ad,fun a ha b hb z=>?_⟩;rw[aK] at hb;subst hb z;obtain⟨j,hj⟩:=bq ha;obtain⟨cs,_,vs,r,_⟩:=al.get' hj;rw[nl] at r;cases r
    ·rw[aP,aK];rintro (z | z)
     ·exact hDl z
     ·exact lD z.symm
    ·intro a ha;rcases aP.mp ha with z | z
     ·exact nol a z
     ·rw[aK] at z;subst z;cases y:H a with
      | none=>rfl
      | some o=>rw[e _ _ y] at nl; cases nl
    ·rw[ie,aU];refine(All2.of_get al.len fun j a c h1 h2'=>?_).snoc (rl.keep (fun xs=>kp l xs lD) tu);obtain⟨c',hc',r⟩:=al.get' h1;rw[h2'] at hc';cases hc';have aD:a≠D:=fun z=>hDl (z ▸ aB h1);exact r.keep (fun xs hx=>kp a xs aD (e2 _ _ hx)) (e2.tups.trans tu)
   refine⟨_,rfl,_,rfl,b,_,1,_,rfl,rfl,SqT.of (e _ _ b1),rfl,qm,_,rfl, .inr (SqT.of (e _ _ b2)),rfl,jA7 ms,_,rfl,?_⟩;rw[e0,jC2];refine ite2 (fun hz=>?_) (fun hz=>?_)
   ·have hz:=aI hz;refine⟨_,rfl,_,rfl,_,_,rfl,rfl,⟨Aa,Aa,Ac⟩,by show (2:Nat)<=_; decide,fun r H2 d2 e2=>⟨by show (1:Nat)<=_; decide,fun l H3 d3 e3 n3=>?_⟩⟩;have nl:H' l=none:=by
     cases z:H' l with
     | none=>rfl
     | some o=>rw[e2 _ _ z] at n3; cases n3
    refine key l H3 (e2.trans e3) nl ⟨_,d3,?_⟩;rw[jDN,ay hz];refine⟨⟨r,rfl,?_⟩,trivial⟩;have:(1:Int)*2 ^ (i:Int).toNat=((2 ^ i:Nat):Int):=by
     rw[aR];push_cast;lia
    rw[e3 _ _ d2];show some (HO.tup [V.int (-1),V.int ((1:Int)*2 ^ (i:Int).toNat)])=_;rw[this]
   ·refine⟨by show (0:Nat)<=_; decide,fun l H3 d3 e3 n3=>?_⟩;refine key l H3 e3 n3 ⟨_,d3,?_⟩;rw[jDN,aw (fun z=>hz (ax z))];trivial
  ·rintro D σ' H1 zs hD ⟨_,e1,h2,hn,ls,rfl,nd,hDl,nol,al⟩;refine⟨_,rfl,b,_,2,_,rfl,rfl,SqT.of (e1 _ _ b1),rfl,true,qp,rfl,⟨_,SqT.of (e1 _ _ b3)⟩,jRZ (tp:=true) (xs:=ps) (fun i σ H'=>(∃ v2 v3,σ=[some (.ref b),some (.ref D),v2,v3])/\Ext H H'/\H' D=some (.lst (ls.map V.ref))/\All2 (RowAt H') ls (chsN w.toNat ms Ar i)) ⟨⟨_,_,rfl⟩,e1,h2,al⟩ (fun i σ H' ⟨_,e,_⟩=>SqT.of (e _ _ b3)) ?_ ?_⟩
   ·rintro i x t σ H' hx ht ⟨⟨v2,v3,rfl⟩,e,h3,al3⟩;obtain⟨pc,hpc,hPc⟩:=b4.at hx;obtain⟨pa,pq,rfl,c1,c2⟩:=id hPc;have hi:i<Ar.length:=(ao.mp hpc).1;have gp:=g.pg pc (aB hpc);have et:j8 Ar (i:Int)=pc.1:=by
     unfold j8;rw[aR,aj,hpc];rfl
    have lt:=jAL _ 0 w gp.lot.ris gp.lot.bnd;have e':=e.new ht (.tup [.int (i:Int), .ref pa]);have k':Ext H' (L2.upd H' t (.tup [.int (i:Int), .ref pa])):=(Ext.refl _).new ht _;refine⟨t,_,rfl,SqT.of j5,rfl,_,_,rfl,_,_,rfl,rfl,?_⟩;have h5:=k' _ _ h3;have al5:=al3.imp fun l cs r=>r.keep (fun xs z=>k' _ _ z) k'.tups;generalize L2.upd H' t (.tup [.int (i:Int), .ref pa])=H5 at e' h5 al5 ⊢;obtain⟨hd,tl,hp1⟩:∃ hd tl,pc.1=hd::tl:=by
     cases z:pc.1 with
     | nil=>exact absurd z gp.lot.ne
     | cons a r=>exact⟨a,r,rfl⟩
    have hb:=gp.lot.bnd hd (by rw[hp1]; exact ai ..);have hdl:(j8 Ar (i:Int)).headD 0=((hd.toNat:Nat):Int):=by
     rw[et,hp1];show hd=_;lia
    have hw:hd.toNat<w.toNat:=Aa;obtain⟨l,hl,vs,hv,av⟩:=al5.get (yK hw);have lne:l≠D:=fun z=>hDl (z ▸ aB hl);have iD:atI (ls.map V.ref) hd=some (.ref l):=by
     have:=yW (xs:=ls.map V.ref) (j:=hd.toNat) (v:= .ref l) (by rw[aS,hl]; rfl)
     rwa [show ((hd.toNat:Nat):Int)=hd by lia] at this
    have c2':H5 pq=some (.tup (pc.1.map V.int)):=e' _ _ c2;refine⟨_,rfl,_,rfl,pa,_,0,_,rfl,rfl,SqT.of (e' _ _ c1),rfl,pq,_,0, .int hd,rfl,rfl,SqT.of c2',by rw[hp1]; exact yW (j:=0) rfl,D,_,_,_,rfl,rfl,SqL.of h5,iD, .inl ⟨rfl,_,SqL.of hv⟩,_,rfl,_,rfl,pa,_,0,_,rfl,rfl,SqT.of (e' _ _ c1),rfl,pq,pc.1,rfl,c2',fun x hx=>?_,Aa,fun H6 e6=>?_⟩
    ·have:=gp.lot.bnd x hx;lia
    refine⟨by show (2:Nat)<=_; decide,fun r H7 d7 e7=>?_⟩;have E7:=e6.trans e7;have hv7:=E7 _ _ hv;have vl:vs.length<=33:=by
     rw[av.len];exact(qH g).len _ _ (yK hw)
    have ap:=ChAt.app (v:= .ref r) (c:=((i:Int),maskN (j8 Ar (i:Int)))) (E7 _ _ h5) nd (al5.imp fun l cs r=>r.keep (fun xs z=>E7 _ _ z) E7.tups) hl (yK hw) hv7 (av.imp fun _ _=>PrAt.mono E7.tups) ⟨r,rfl,by rw[et]; exact d7⟩ lne;have nH:H l=none:=by
     cases z:H l with
     | none=>rfl
     | some o=>
      exfalso;rw[nol l (aB hl)] at z;cases z
    refine⟨l,_,_,rfl,rfl,hv7,by rw[aH]; lia,⟨_,_,rfl⟩,?_,ap.1,?_⟩
    ·exact(e'.trans E7).updNew nH _
    ·rw[jQ0 hi hd.toNat hdl];exact ap.2
   ·rintro σ H' ⟨⟨v2,v3,rfl⟩,e,h3,al3⟩;refine⟨_,rfl,q D H' ⟨ls,h3,nd,?_⟩ e⟩;rw[pl] at al3;exact al3
theorem jUQ {fd:FuncData}(F:Fun K "full_mask" "full_mask" sFull f fd)(T:Txt mg):FnOk P w K mg Aq CX0 1 f fd ["choices"] jFM:=by
 refine F.ok scFull (fun vs H Q E h=>?_) (fun lM A Ap s H vs Q E hr h=>?_)
 ·obtain⟨_,_,rfl,_⟩:=h;rfl
 ·obtain⟨L,ch,rfl,hL,hw,q⟩:=h;refine⟨_,(fullA T).2.h,?_⟩;obtain⟨ls,h1,h2⟩:=hL.len;refine⟨_,rfl,L,_,rfl, .inl (SqL.of h1),_,_,rfl,rfl,⟨?_,?_,?_⟩,_,_,rfl,rfl,?_⟩
  ·first | lia | decide
  ·rw[af]; lia
  ·first | lia | decide
  ·have e:(1:Int)*2 ^ (((ls.map V.ref).length:Nat):Int).toNat - 1=((fullN ch:Nat):Int):=by
    rw[af,h2,aR];unfold fullN;have:=dA ch.length;have e2:((2 ^ ch.length:Nat):Int)=(2:Int) ^ ch.length:=by push_cast; rfl
    lia
   show Q (V.int ((1:Int)*2 ^ (((ls.map V.ref).length:Nat):Int).toNat - 1)) H;rw[e];exact q
theorem ok_at {fd:FuncData}(F:Fun K "choices_at" "choices_at" sAt f fd)(T:Txt mg):FnOk P w K mg Aq CX0 1 f fd ["choices","mask"] spAt:=by
 refine F.ok scAt (fun vs H Q E h=>?_) (fun lM A Ap s H vs Q E hr h=>?_)
 ·obtain⟨_,_,_,rfl,_⟩:=h;rfl
 ·obtain⟨L,ch,m,rfl,hL,ok,hm,hf,q⟩:=h;refine⟨_,(atA T).2.h,?_⟩;obtain⟨ls,h1,nd,al⟩:=hL.ex;have hlow:=jD0 hm hf;have w16:=ok.w;refine⟨_,rfl,_,rfl,_,rfl,_,_,rfl,rfl,_,_,rfl,rfl,rfl,_,rfl,rfl,_,_,rfl,rfl,?_⟩;have el:(Builtin.Int.intBits (Builtin.bitAnd (Builtin.bitNot (m:Int)) ((m:Int)+1)):Int) - 1=((lowN m:Nat):Int):=by
   rw[jRH];lia
  show kL 2 (V.int ((Builtin.Int.intBits (Builtin.bitAnd (Builtin.bitNot (m:Int)) ((m:Int)+1)):Int) - 1)) _ _ _;rw[el];obtain⟨l,hl,vs,hv,av⟩:=al.get (aq hlow);have vl:vs.length<=33:=by
   rw[av.len];exact ok.len _ _ (aq hlow)
  have er:ch.getD (lowN m) []=ch[lowN m]:=by
   rw[aj,aq hlow];rfl
  refine⟨_,rfl,_,rfl,L,_,_,_,rfl,rfl,SqL.of h1,yW (by rw[aS,hl]; rfl),l,rfl,⟨_,SqL.of hv⟩,jAJ (xs:=vs) (fun σ=>∃ v,σ=[v,some (.int (m:Int))]) (fun H' zs j=>All2 (PrAt H') zs (((ch[lowN m]).take j).filter fun c=>c.2&&&m==0)) ⟨fun H=>trivial,fun H H' zs j t h=>h.imp fun _ _=>PrAt.mono t,fun H zs j h=>?_⟩ hv (by rw[aH]; lia) ⟨_,rfl⟩ ?_ ?_⟩
  ·rw[h.len];exact bi (bU _ _) (bB _ _)
  ·rintro j x σ' H' zs hx ⟨v,rfl⟩ e hz R S yes no;obtain⟨c,hc,qa,rfl,hq⟩:=av.get' hx;have hq':=e _ _ hq;have et:(ch[lowN m]).take (j+1)=(ch[lowN m]).take j++[c]:=by
    rw[be,hc];rfl
   refine⟨_,rfl,qa,_,1,_,rfl,rfl,SqT.of hq',rfl,_,rfl,_,_,rfl,rfl,rfl,_,rfl,?_⟩;have ez:decide (V.int (Builtin.bitAnd ((c.2:Nat):Int) (m:Int))=V.int 0)=(c.2&&&m==0):=by
    rw[jG1,bZ,br,g4];exact⟨fun h=>by have:=V.int.inj h; lia,fun h=>by rw[h]; rfl⟩
   show if decide (V.int (Builtin.bitAnd ((c.2:Nat):Int) (m:Int))=V.int 0)=true then _ else _
   rw[ez];refine ite2 (fun h=>?_) (fun h=>?_)
   ·refine⟨_,rfl,yes _ _ _ ⟨_,rfl⟩ (Ext.refl _) ?_⟩;show All2 _ _ (((ch[lowN m]).take (j+1)).filter _);rw[et,bV,cK,ay h];exact hz.snoc ⟨qa,rfl,hq'⟩
   ·refine no _ _ ⟨_,rfl⟩ (Ext.refl _) ?_;show All2 _ _ (((ch[lowN m]).take (j+1)).filter _);rw[et,bV,cK,aw h,ka,bg];exact hz
  ·rintro D H' zs hD e hn hz;rw[av.len,bz] at hz;refine q D H' ⟨zs,hD,?_⟩ e hn;unfold chAt;rw[er];exact hz
end Eo
namespace L2
open PySem
theorem jN7 {ks:List (Option Expr)}{vs:List Expr}{pos:Pos}{o:Option Expr} :SwOk (.Dict ks vs pos) o:=⟨fun _ _=>rfl⟩
end L2
namespace Eo
open PySem L2
abbrev natV (n:Nat):V:= .int (n:Int)
structure MetOk (ch:Ch)(ns:List Nat):Prop where
 zero:0∈ns
 bnd:∀ m∈ns,m<2 ^ ch.length
 up:∀ m∈ns,m≠fullN ch->∀ c∈chAt ch m,(m|||c.2)∈ns
def trK (ks:List Nat):List (Key×V):=ks.map fun (k:Nat)=>(Sum.inl (k:Int),V.bl true)
def jTL:Stmt->List Stmt
 | .While _ b _ _=>b
 | _=> []
theorem jJ3 (n:Nat):∀ ks:List Nat,valV (trK ks) (.inl (n:Int))=if n∈ks then some (.bl true) else none
 | []=>rfl
 | k::ks=>by
  show valV ((Sum.inl (k:Int),V.bl true)::trK ks) _=_;by_cases h:k=n
  ·subst h;rw[jBP rfl,ay (ai ..)]
  ·rw[jBQ (by intro z; have:=g8 z; lia),jJ3 n ks];by_cases h2:n∈ks
   ·rw[ay h2,ay (ag _ h2)]
   ·rw[aw h2,aw];intro z;rcases aE.mp z with z | z
    ·exact h z.symm
    ·exact h2 z
theorem jVH {H:Hp}{M:Addr}{ks:List Nat}{m c:Nat}(h:H M=some (.dK (trK ks))):DGet H M (.int (Builtin.bitOr (m:Int) (c:Int))) (if (m|||c)∈ks then some (.bl true) else none):=by
 rw[jD9,<- jJ3];exact DGet.k (k:=Sum.inl (((m|||c:Nat):Nat):Int)) h
theorem jVG {H:Hp}{M:Addr}{ks:List Nat}{m c:Nat}(h:H M=some (.dK (trK ks)))(hn:¬ (m|||c)∈ks)(hl:(trK ks).length<sizeLine):DPut H M (.int (Builtin.bitOr (m:Int) (c:Int))) (.bl true) (L2.upd H M (.dK (trK (ks++[m|||c])))):=by
 rw[jD9];have:=DPut.k (k:=Sum.inl (((m|||c:Nat):Nat):Int)) (v:= .bl true) h hl;rw[jKN _ (by rw[jJ3,aw hn])] at this;unfold trK;rw[aU];exact this
theorem jB0 {n:Nat}{ks:List Nat}(nd:ks.Nodup)(hb:∀ k∈ks,k<n):ks.length<=n:=by
 have:(ks.map fun k:Nat=>(k:Int)).length<=n:=jO7 n _ (bh.mpr (nd.imp fun h=>by lia)) fun t ht=>by
  obtain⟨k,hk,rfl⟩:=aQ.mp ht;have:=hb k hk;lia
 rwa [af] at this
abbrev nMet:Am:=["choices","full","met","waiting","mask","number","more"]
theorem scMet:FnScope nMet ["choices"] (j7 sMet):= {}
def spMet:Sp:=fun vs H Q _=>∃ (L:Addr) (ch:Ch),vs=[.ref L]/\ChAt H L ch/\ChOk ch/\∀ (r:Addr) (ns:List Nat) (H':Hp),H' r=some (.lst (ns.map natV))->ns.Pairwise (· > ·)->MetOk ch ns->Ext H H'->H r=none->Q (.ref r) H'
def jL2 (T:Txt mg)(CA:Can P w K mg Aq "choices_at" 1 fA fdA ["choices","mask"] spAt)(hr:Room 1 (XOf nMet "masks_met" sMet P w K mg Aq f lM A Ap s H0 E).A): { t:TS // JSs (XOf nMet "masks_met" sMet P w K mg Aq f lM A Ap s H0 E) (jTL ((jD sMet).getD 3 (.Pass ⟨0,0,0,0⟩))) t} :=
 have nd:=scMet.nd
 ⟨_,(jB (jU (i:=4) nd rfl lL (jP9 bR ki kj jX2 (jv 3 rfl vL)) kE)
   (jC (y8 (jY op_ne (jv 4 rfl vL) (jv 1 rfl vL) (jT _)) (jC (jCA cB rfl (yN (CA.je hr gD (j3 (jv 0 rfl vL) (j3 (jv 4 rfl vL) j6 j4) j4) j4)) (jL9 (i:=5) (j:=6) nd rfl rfl Ab Ab) (jC (y8 (jP6 (hu_of hr) (kX op_or (jv 4 rfl vL) (jv 6 rfl vL)) (jv 2 rfl vL) rfl) (jB (jJN (hu_of hr) (jv 2 rfl vL) (kX op_or (jv 4 rfl vL) (jv 6 rfl vL)) (je_bl) jKE)
   (jC (jDI (je_bm bR eL eM jBD (jv 3 rfl vL) (j3 (kX op_or (jv 4 rfl vL) (jv 6 rfl vL)) j6 yT) yT) kE))) kB)) kP)) kB)))⟩
def metA (T:Txt mg)(CF:Can P w K mg Aq "full_mask" 1 fF fdF ["choices"] jFM)(CA:Can P w K mg Aq "choices_at" 1 fA fdA ["choices","mask"] spAt)(hr:Room 1 (XOf nMet "masks_met" sMet P w K mg Aq f lM A Ap s H0 E).A): { t:TS // JSs (XOf nMet "masks_met" sMet P w K mg Aq f lM A Ap s H0 E) (jD sMet) t} :=
 have nd:=scMet.nd
 ⟨_,(jB (jU (i:=1) nd rfl lL (CF.je (hr.mono Ac) gD (j3 (jv 0 rfl vL) j6 j4) j4) kE) (jB (jU (i:=2) nd rfl lL (jRQ) jN7) (jB (jU (i:=3) nd rfl lL (jB2 (j3 (je_int) j6 kO)) jEE) (jB (jRM cB (jY op_gt (jG jN gD T.len Ab (j3 (jv 3 rfl vL) j6 j4) j4) (je_int) (jT _)) (jL2 T CA hr).2) (jC (jL (jI9 (jH3 rfl) gD T.sorted Ab (j3 (jv 2 rfl vL) j6 j4) (jP0 je_bl jT6) j4)))))))⟩
theorem jRE (T:Txt mg)(CA:Can P w K mg Aq "choices_at" 1 fA fdA ["choices","mask"] spAt)(hr:Room 1 (XOf nMet "masks_met" sMet P w K mg Aq f lM A Ap s H0 E).A)
  {D:Ends}{H:Hp}{L M W:Addr}{ch:Ch}{ks ws:List Nat}{m:Nat}{v4 v5 v6:Option V}(hL:ChAt H L ch) (ok:ChOk ch) (hM:H M=some (.dK (trK ks))) (hW:H W=some (.lst ((ws++[m]).map natV))) (nd:ks.Nodup) (hb:∀ k∈ks,k<2 ^ ch.length) (hm:m∈ks) (wln:ws.length<=ks.length)
  (nx:∀ (H':Hp) (new:List Nat) (v4 v5 v6:Option V),(∀ b o,H b=some o->b≠M->b≠W->H' b=some o)->H' M=some (.dK (trK (ks++new)))->H' W=some (.lst ((ws++new).map natV))->(ks++new).Nodup->(∀ k∈ks++new,k<2 ^ ch.length)->(m≠fullN ch->∀ c∈chAt ch m,(m|||c.2)∈ks++new)->D.nx [some (.ref L),some (natV (fullN ch)),some (.ref M),some (.ref W),v4,v5,v6] H'):
  (jL2 T CA hr).1 D [some (.ref L),some (natV (fullN ch)),some (.ref M),some (.ref W),v4,v5,v6] H:=by
 have MW:M≠W:=fun z=>by rw[z,hW] at hM; cases hM
 have LW:∀ ls:List Addr,H L=some (.lst (ls.map V.ref))->L≠W:=fun ls h z=>by
  rw[z,hW] at h;have h:=HO.lst.inj (bw h);have h2:natV m∈ls.map V.ref:=by rw[<- h]; simp
  obtain⟨a,_,ha⟩:=aQ.mp h2;cases ha
 have rw':∀ l cs,RowAt H l cs->l≠W:=fun l cs ⟨vs,h1,h2⟩ z=>by
  rw[z,hW] at h1;have h1:=HO.lst.inj (bw h1);have h3:vs[ws.length]?=some (natV m):=by rw[<- h1]; simp
  obtain⟨_,_,q,e,_⟩:=h2.get' h3;cases e
 have w16:=ok.w;have hm2:=hb m hm;have wl:((ws++[m]).map natV)[((ws++[m]).map natV).length - 1]?=some (natV m):=by
  rw[af,aJ,aS,bu Ad];simp
 have dl:((ws++[m]).map natV).dropLast=ws.map natV:=by
  rw[aU];simp
 refine⟨_,rfl, .inl ⟨rfl,_,SqL.of hW⟩,W,_,_,rfl,rfl,hW,wl,?_⟩;rw[dl];have hM1:(L2.upd H W (.lst (ws.map natV))) M=some (.dK (trK ks)):=by rw[j9 MW]; exact hM
 have hW1:(L2.upd H W (.lst (ws.map natV))) W=some (.lst (ws.map natV)):=j5;have k1:∀ b o,H b=some o->b≠W->(L2.upd H W (.lst (ws.map natV))) b=some o:=fun b o h n=>by rw[j9 n]; exact h
 have hL1:ChAt (L2.upd H W (.lst (ws.map natV))) L ch:=by
  obtain⟨ls,a1,a2,a3⟩:=hL.ex;exact⟨ls,k1 _ _ a1 (LW _ a1),a2,a3.imp fun l cs r=>r.keep (fun xs z=>k1 _ _ z (rw' _ _ r)) (Tups.upd hW _)⟩
 generalize L2.upd H W (.lst (ws.map natV))=H1 at hM1 hW1 k1 hL1;refine⟨_,rfl,_,rfl,rfl,_,rfl,?_⟩;have nf:(!decide (natV m=natV (fullN ch)))=true↔m≠fullN ch:=by
  rw[cH,eU];refine not_congr ⟨fun h=>?_,fun h=>by rw[h]⟩;have:=V.int.inj h;lia
 refine ite2 (fun h=>?_) (fun h=>?_)
 ·have h:=nf.mp h;refine⟨_,rfl,_,rfl,L,ch,m,rfl,hL1,ok,hm2,h,fun r H2 ⟨vs,hr2,av⟩ e2 nr=>?_⟩;have hM2:=e2 _ _ hM1;have hW2:=e2 _ _ hW1;have rW:r≠W:=fun z=>by rw[z,hW1] at nr; cases nr
  have rM:r≠M:=fun z=>by rw[z,hM1] at nr; cases nr
  refine⟨r,rfl,⟨_,SqL.of hr2⟩,jD6 (xs:=vs) (fun i σ H'=>(∃ v5 v6,σ=[some (.ref L),some (natV (fullN ch)),some (.ref M),some (.ref W),some (natV m),v5,v6])/\(∀ b o,H2 b=some o->b≠M->b≠W->H' b=some o)/\∃ new:List Nat,H' M=some (.dK (trK (ks++new)))/\H' W=some (.lst ((ws++new).map natV))/\(ks++new).Nodup/\(∀ k∈ks++new,k<2 ^ ch.length)/\∀ c∈(chAt ch m).take i,(m|||c.2)∈ks++new) ⟨⟨_,_,rfl⟩,fun b o h _ _=>h,[],by rw[bg]; exact hM2,by rw[bg]; exact hW2,by rw[bg]; exact nd,by rw[bg]; exact hb,fun c hc=>by cases hc⟩ (fun i σ H' _ ⟨_,k,_⟩=>SqL.of (k _ _ hr2 rM rW)) ?_ ?_⟩
  ·rintro i x σ H' hx ⟨⟨v5,v6,rfl⟩,k,new,hM',hW',nd',hb',cl⟩;obtain⟨c,hc,q,rfl,hq⟩:=av.get' hx;have qM:q≠M:=fun z=>by rw[z,hM2] at hq; cases hq
   have qW:q≠W:=fun z=>by rw[z,hW2] at hq; cases hq
   have hcm:=aB hc;obtain⟨u1,u2⟩:=ok.up hm2 h hcm;have tk:(chAt ch m).take (i+1)=(chAt ch m).take i++[c]:=by rw[be,hc]; rfl
   refine⟨q,_,rfl,SqT.of (k _ _ hq qM qW),rfl,_,_,rfl,_,_,rfl,rfl,?_⟩;refine⟨_,rfl,_,rfl,_,_,rfl,rfl,_,rfl,M,_,rfl,jVH hM',_,rfl,?_⟩;by_cases hin:(m|||c.2)∈ks++new
   ·rw[ay hin];refine iteF ⟨⟨_,_,rfl⟩,k,new,hM',hW',nd',hb',fun c' hc'=>?_⟩;rw[tk] at hc';rcases aP.mp hc' with z | z
    ·exact cl c' z
    ·rw[aK] at z;rw[z];exact hin
   ·rw[aw hin];have ndn:(ks++(new++[m|||c.2])).Nodup:=by
     rw[<- aY,gG];refine⟨nd',Ad,fun a ha b hb z=>?_⟩;rw[aK] at hb;exact hin (hb ▸ z ▸ ha)
    have bdn:∀ k∈ks++(new++[m|||c.2]),k<2 ^ ch.length:=fun k hk=>by
     rw[<- aY] at hk;rcases aP.mp hk with z | z
     ·exact hb' k z
     ·rw[aK] at z;rw[z];exact u2
    have sz:(ks++(new++[m|||c.2])).length<=2 ^ 16:=bi (jB0 ndn bdn) (ci Ac w16);rw[aJ,aJ] at sz;have kl:(trK (ks++new)).length<sizeLine:=by
     unfold trK;rw[af,aJ,aH];simp at sz;lia
    refine iteT ⟨_,rfl,_,rfl,_,rfl,_,_,rfl,rfl,M,_,rfl,jVG hM' hin kl,?_⟩;have hW3:(L2.upd H' M (.dK (trK (ks++new++[m|||c.2])))) W=some (.lst ((ws++new).map natV)):=by rw[j9 MW.symm]; exact hW'
    have hM3:(L2.upd H' M (.dK (trK (ks++new++[m|||c.2])))) M=some (.dK (trK (ks++(new++[m|||c.2])))):=by rw[j5,aY]
    have k3:∀ b o,H2 b=some o->b≠M->b≠W->(L2.upd H' M (.dK (trK (ks++new++[m|||c.2])))) b=some o:=fun b o hbo n1 n2=>by rw[j9 n1]; exact k b o hbo n1 n2
    generalize L2.upd H' M (.dK (trK (ks++new++[m|||c.2])))=H3 at hW3 hM3 k3;refine⟨_,rfl, .inl ⟨rfl,_,SqL.of hW3⟩,_,rfl,_,rfl,_,_,rfl,rfl,W,_,_,rfl,rfl,hW3,?_,⟨_,_,rfl⟩,fun b o hbo n1 n2=>by rw[j9 n2]; exact k3 b o hbo n1 n2,new++[m|||c.2],by rw[j9 MW]; exact hM3,?_,ndn,bdn,fun c' hc'=>?_⟩
    ·skip
     rw[af,aJ,aH];simp at sz;lia
    ·rw[j5];show some (HO.lst ((ws++new).map natV++[V.int (Builtin.bitOr (m:Int) (c.2:Int))]))=_;rw[jD9,<- aY];exact bY (fun z=>some (HO.lst z)) (aU (f:=natV) (l₁:=ws++new) (l₂:=[m|||c.2])).symm
    ·rw[<- aY,aP];rw[tk] at hc';rcases aP.mp hc' with z | z
     ·exact .inl (cl c' z)
     ·rw[aK] at z;rw[z];exact .inr (aK.mpr rfl)
  ·rintro σ H' ⟨⟨v5,v6,rfl⟩,k,new,hM',hW',nd',hb',cl⟩;have:(chAt ch m).take vs.length=chAt ch m:=by rw[av.len,bz]
   rw[this] at cl;exact nx H' new _ _ _ (fun b o hbo n1 n2=>k _ _ (e2 _ _ (k1 _ _ hbo n2)) n1 n2) hM' hW' nd' hb' fun _=>cl
 ·have h:m=fullN ch:=bM fun z=>h (nf.mpr z);exact nx H1 [] _ _ _ (fun b o hbo n1 n2=>k1 _ _ hbo n2) (by rw[bg]; exact hM1) (by rw[bg]; exact hW1) (by rw[bg]; exact nd) (by rw[bg]; exact hb) fun z=>absurd h z
theorem jWU {fd:FuncData}(F:Fun K "masks_met" "masks_met" sMet f fd)(T:Txt mg)(CF:Can P w K mg Aq "full_mask" 1 fF fdF ["choices"] jFM)(CA:Can P w K mg Aq "choices_at" 1 fA fdA ["choices","mask"] spAt):FnOk P w K mg Aq CX0 2 f fd ["choices"] spMet:=by
 refine F.ok scMet (fun vs H Q E h=>?_) (fun lM A Ap s H vs Q E hr h=>?_)
 ·obtain⟨_,_,rfl,_⟩:=h;rfl
 ·obtain⟨L,ch,rfl,hL,ok,q⟩:=h;refine⟨_,(metA T CF CA hr).2.h,?_⟩;have w16:=ok.w;refine⟨_,rfl,L,ch,rfl,hL,w16,?_⟩;refine fun M H1 hM1 e1 nM=>?_;refine⟨by show (1:Nat)<=_; decide,fun W H2 hW2 e2 nW=>?_⟩;have hM2:=e2 _ _ hM1;have nW0:H W=none:=by
   cases z:H W with
   | none=>rfl
   | some o=>rw[e1 _ _ z] at nW; cases nW
  have E2:=e1.trans e2;have pz:(0:Nat)<2 ^ ch.length:=dA _;refine⟨fun n σ H'=>(∃ v4 v5 v6,σ=[some (.ref L),some (natV (fullN ch)),some (.ref M),some (.ref W),v4,v5,v6])/\Ext H H'/\∃ ks ws:List Nat,n=2*(2 ^ ch.length - ks.length)+ws.length/\H' M=some (.dK (trK ks))/\H' W=some (.lst (ws.map natV))/\ks.Nodup/\(∀ k∈ks,k<2 ^ ch.length)/\(∀ k∈ws,k∈ks)/\ws.length<=ks.length/\0∈ks/\∀ k∈ks,k∉ws->k≠fullN ch->∀ c∈chAt ch k,(k|||c.2)∈ks,⟨_,⟨_,_,_,rfl⟩,E2,[0],[0],rfl,hM2,hW2,Ad,fun k hk=>by rw[aK] at hk; lia,fun k hk=>hk,aA _,Ad,fun k h1 h2=>absurd h1 h2⟩,?_⟩;rintro n σ H' ⟨⟨v4,v5,v6,rfl⟩,e,ks,ws,rfl,hM',hW',nd,hb,sub,wl,z0,cl⟩;refine⟨_,rfl,W,_,rfl, .inl (SqL.of hW'),_,_,rfl,rfl,_,rfl,?_⟩;rcases List.eq_nil_or_concat ws with hws | ⟨ws',m,hws⟩
  ·subst hws;refine iteF ?_;have ksl:=jB0 nd hb;have p16:2 ^ ch.length<=2 ^ 16:=ci Ac w16;refine⟨_,rfl,M,trK ks,ks.map fun k:Nat=>(k:Int),true,rfl,rfl,hM',by unfold trK; rw[bH,bH]; rfl,by rw[af,aH]; lia,fun l ns hl ord pm=>?_⟩;obtain⟨js,rfl⟩:∃ js:List Nat,ns=js.map fun k:Nat=>(k:Int):=by
    refine⟨ns.map Int.toNat,?_⟩;rw[bH];refine(iZ ns).symm.trans (cM fun x hx=>?_);obtain⟨k,_,rfl⟩:=aQ.mp (pm.mem_iff.mp hx);show ((k:Nat):Int)=(((k:Nat):Int).toNat:Int);lia
   have pm':js.Perm ks:=by
    have:=pm.map Int.toNat;rw[bH,bH] at this;have e:∀ l:List Nat,l.map (Int.toNat ∘ fun k:Nat=>(k:Int))=l:=fun l=>(cM fun x _=>by show ((x:Nat):Int).toNat=x; lia).trans (iZ l)
    rwa [e,e] at this
   refine q l js _ ?_ ?_ ⟨pm'.mem_iff.mpr z0,fun m hm=>hb m (pm'.mem_iff.mp hm),fun m hm hf c hc=>pm'.mem_iff.mpr (cl m (pm'.mem_iff.mp hm) Ad hf c hc)⟩ ((Ext.refl _).trans (e.new hl _)) ?_
   ·rw[j5,bH];rfl
   ·have nj:js.Nodup:=pm'.nodup_iff.mpr nd;have:js.Pairwise (fun (a b:Nat)=>(b:Int)<=(a:Int)):=bh.mp ord;exact(this.and nj).imp fun {a b} h=>by lia
   ·cases z:H l with
    | none=>rfl
    | some o=>rw[e _ _ z] at hl; cases hl
  ·have hws:ws=ws'++[m]:=by rw[hws,List.concat_eq_append]
   subst hws;have lp:decide ((0:Int)<(((ws'++[m]).map natV).length:Int))=true:=by
    rw[br,af,aJ];show (0:Int)<((ws'.length+1:Nat):Int);lia
   show if decide ((0:Int)<(((ws'++[m]).map natV).length:Int))=true then _ else _
   rw[ay lp];rw[aJ] at wl;refine⟨fun σ' H''=>(∃ v4 v5 v6,σ'=[some (.ref L),some (natV (fullN ch)),some (.ref M),some (.ref W),v4,v5,v6])/\Ext H H''/\∃ new:List Nat,H'' M=some (.dK (trK (ks++new)))/\H'' W=some (.lst ((ws'++new).map natV))/\(ks++new).Nodup/\(∀ k∈ks++new,k<2 ^ ch.length)/\(m≠fullN ch->∀ c∈chAt ch m,(m|||c.2)∈ks++new),?_,jRE T CA hr (ks:=ks) (ws:=ws') (m:=m) (hL.ext e) ok hM' hW' nd hb (sub m Ad) Aa ?_⟩
   ·rintro σ' H'' ⟨hσ,e',new,a1,a2,a3,a4,a5⟩;have sl:=jB0 a3 a4;rw[aJ] at sl;refine⟨_,?_,hσ,e',ks++new,ws'++new,rfl,a1,a2,a3,a4,fun k hk=>?_,?_,aZ _ z0,fun k hk hkw hf c hc=>?_⟩
    ·rw[aJ,aJ,aJ];simp only [aV,cz];lia
    ·rcases aP.mp hk with z | z
     ·exact aZ _ (sub k (aZ _ z))
     ·exact aF _ z
    ·rw[aJ,aJ];lia
    ·by_cases hkm:k=m
     ·subst hkm;exact a5 hf c hc
     ·rcases aP.mp hk with z | z
      ·refine aZ _ (cl k z (fun y=>?_) hf c hc);rcases aP.mp y with y | y
       ·exact hkw (aZ _ y)
       ·exact hkm (aK.mp y)
      ·exact absurd (aF _ z) hkw
   ·intro H'' new v4 v5 v6 kp a1 a2 a3 a4 a5;refine⟨⟨_,_,_,rfl⟩,fun b o hbo=>?_,new,a1,a2,a3,a4,a5⟩;refine kp b o (e b o hbo) (fun z=>?_) fun z=>?_
    ·rw[z,nM] at hbo; cases hbo
    ·rw[z,nW0] at hbo; cases hbo
end Eo
namespace L2
open PySem
theorem jTN {x:Str}{pos:Pos}{o:Option Expr} :SwOk (.Name x pos) o:=⟨fun _ _=>rfl⟩
end L2
namespace Eo
open PySem L2
structure HpOk (φ:Hp->Prop):Prop where
 keep:∀ (H H':Hp) (D:Addr) (kvs:List (Key×V)),H D=some (.dK kvs)->(∀ b o,H b=some o->b≠D->H' b=some o)->φ H->φ H'
 ext:∀ H H',Ext H H'->φ H->φ H'
abbrev RepT:=Nat->Hp->V->Prop
def RepOk (R:RepT):Prop:=∀ m v,HpOk fun H=>R m H v
def ItAt (R:RepT)(m:Nat)(H:Hp)(v:V)(c:Int×Nat):Prop:=∃ q u,v= .ref q/\H q=some (.tup [.int c.1,u])/\R (m|||c.2) H u
def jFL (ch:Ch)(R:RepT):Sp:=fun vs H Q _=>∃ (l:Addr) (us:List V) (m:Nat),vs=[.ref l]/\H l=some (.lst us)/\m<2 ^ ch.length/\m≠fullN ch/\All2 (ItAt R m H) us (chAt ch m)/\∀ r H',R m H' r->Ext H H'->Q r H'
def gvs (ns:List Nat)(us:List V):List (Key×V):=(ns.zip us).map fun p:Nat×V=>(Sum.inl (p.1:Int),p.2)
structure GotAt (H:Hp)(r:Addr)(ch:Ch)(R:RepT)(ns:List Nat):Prop where
 ex:∃ us,H r=some (.dK (gvs ns us))/\All2 (fun n u=>R n H u) ns us
theorem jG5 {R:Nat->V->Prop} :∀ {ns:List Nat}{us:List V}{n:Nat},All2 R ns us->ns.Nodup->n∈ns->∃ u,valV (gvs ns us) (.inl (n:Int))=some u/\R n u
 | [],_,_,_,_,h=>by cases h
 | k::ns,[],_,h,_,_=>h.elim
 | k::ns,u::us,n,h,nd,hm=>by
  show ∃ x,valV ((Sum.inl (k:Int),u)::gvs ns us) _=_/\_;by_cases hk:k=n
  ·subst hk;exact⟨u,jBP rfl,h.1⟩
  ·rw[jBQ (by intro z; have:=g8 z; lia)];rcases aE.mp hm with z | z
   ·exact absurd z.symm hk
   ·exact jG5 h.2 (cf.mp nd).2 z
theorem jCM:∀ {ns:List Nat}{us:List V}{n:Nat},n∉ns->valV (gvs ns us) (.inl (n:Int))=none
 | [],_,_,_=>by
  unfold gvs;rw[List.zip_nil_left];rfl
 | k::ns,[],_,_=>rfl
 | k::ns,u::us,n,h=>by
  show valV ((Sum.inl (k:Int),u)::gvs ns us) _=_;rw[jBQ (by intro z; have:=g8 z; exact h (by rw[show n=k by lia]; exact ai ..))];exact jCM fun z=>h (ag _ z)
theorem jRX {ns:List Nat}{us:List V}{n:Nat}{u:V}(h:ns.length=us.length):gvs (ns++[n]) (us++[u])=gvs ns us++[(Sum.inl (n:Int),u)]:=by
 unfold gvs;rw[List.zip_append h,aU];rfl
section
variable {ch:Ch}{R:RepT}
abbrev nGath:Am:=["choices","at_end","join","full","values","mask"]
theorem scGath:FnScope nGath ["choices","at_end","join"] (j7 qX):= {}
def jND (j:Addr)(zh:Hp->Prop)(ch:Ch)(R:RepT):Sp:=fun vs H Q _=>∃ (L:Addr) (ve:V),vs=[.ref L,ve, .ref j]/\ChAt H L ch/\R (fullN ch) H ve/\zh H/\∀ (r:Addr) (ns:List Nat) (H':Hp),GotAt H' r ch R ns->ns.Pairwise (· > ·)->MetOk ch ns->Ext H H'->H r=none->Q (.ref r) H'
def jPI (T:Txt mg)(CA:Can P w K mg Aq "choices_at" 1 fA fdA ["choices","mask"] spAt)(CJ:Callee P w K mg Aq Z zh 3 j (jFL ch R))(zs:ZSt Z)(hz:Z s H0)(hr:Room 3 (XOf nGath "gathered" qX P w K mg Aq f lM A Ap s H0 E).A): { t:TS // JSs (XOf nGath "gathered" qX P w K mg Aq f lM A Ap s H0 E) (jD1 ((jD qX).getD 2 (.Pass ⟨0,0,0,0⟩))) t} :=
 have nd:=scGath.nd
 ⟨_,(jC (y8 (jY qU (jv 5 rfl vC) (jv 3 rfl vL) (jT _)) (jC (jJN (hu_of hr) (jv 4 rfl vC) (jv 5 rfl vC) (jv 1 rfl vL) jTN)) (jC (jJN (hu_of hr) (jv 4 rfl vC) (jv 5 rfl vC) (jLC (j:=2) CJ (hr.mono Ac) zs hz rfl rfl vL (j3 (kG (m:=[none,none,some 4,some 5]) (Nc:=["number","more","values","mask"]) rfl (yN (CA.je (hr.mono Ac) gD (j3 (jv 0 rfl vL) (j3 (jv 5 rfl vC) j6 j4) j4) j4)) rfl Ab Ab (jK (psc:=j7 qX)) (jI (N:=nGath) rfl rfl Ab) (fun cl C fp s H=>jD3 (i:=0) (j:=1) rfl (show (["number","more","values","mask"]:Am).Nodup by decide+kernel) rfl rfl Ab Ab) (fun cl C fp s H=>kJ) (fun cl C fp s H=>(yG (j3 (jv 0 rfl jP) (j3 (jGT (hu_of hr) (jv 2 rfl kN) (kX op_or (jv 3 rfl kN) (jv 1 rfl jP)) jSR) j6 jR) j4))) kP) j6 jH) jH) kE))))⟩
def gathA (T:Txt mg)(CF:Can P w K mg Aq "full_mask" 1 fF fdF ["choices"] jFM)(CM:Can P w K mg Aq "masks_met" 2 fM fdM ["choices"] spMet)(CA:Can P w K mg Aq "choices_at" 1 fA fdA ["choices","mask"] spAt)(CJ:Callee P w K mg Aq Z zh 3 j (jFL ch R))(zs:ZSt Z)(hz:Z s H0)(hr:Room 3 (XOf nGath "gathered" qX P w K mg Aq f lM A Ap s H0 E).A): { t:TS // JSs (XOf nGath "gathered" qX P w K mg Aq f lM A Ap s H0 E) (jD qX) t} :=
 have nd:=scGath.nd
 ⟨_,(jB (jU (i:=3) nd rfl lL (CF.je (hr.mono Ac) gD (j3 (jv 0 rfl vL) j6 j4) j4) kE) (jB (jU (i:=4) nd rfl loc_c (jRR) jN7) (jB (jCA cB rfl (yN (CM.je (hr.mono Ac) gD (j3 (jv 0 rfl vL) j6 j4) j4)) (jJ (i:=5) nd rfl loc_c) (jPI T CA CJ zs hz hr).2 kP) (jC (jL (jv 4 rfl vC))))))⟩
theorem jO3 {fd:FuncData}(F:Fun K "gathered" "gathered" qX f fd)(T:Txt mg)(CF:Can P w K mg Aq "full_mask" 1 fF fdF ["choices"] jFM)(CM:Can P w K mg Aq "masks_met" 2 fM fdM ["choices"] spMet)(CA:Can P w K mg Aq "choices_at" 1 fA fdA ["choices","mask"] spAt)(CJ:Callee P w K mg Aq Z zh 3 j (jFL ch R))(zs:ZSt Z)(zo:HpOk zh)(ro:RepOk R)(ok:ChOk ch):FnZ P w K mg Aq CX0 Z 4 f fd ["choices","at_end","join"] (jND j zh ch R):=by
 refine F.okZ scGath (fun vs H Q E h=>?_) (fun lM A Ap s H vs Q E hr hz h=>?_)
 ·obtain⟨_,_,rfl,_⟩:=h;rfl
 ·obtain⟨L,ve,rfl,hL,he,hzh,q⟩:=h;refine⟨_,(gathA T CF CM CA CJ zs hz hr).2.h,?_⟩;have w16:=ok.w;have p16:2 ^ ch.length<=2 ^ 16:=ci Ac w16;refine⟨_,rfl,L,ch,rfl,hL,w16,?_⟩;refine fun D nD=>?_;have e1:Ext H (L2.upd H D (.dK [])):=(Ext.refl _).new nD _;have hD1:(L2.upd H D (.dK [])) D=some (.dK []):=j5;generalize L2.upd H D (.dK [])=H1 at e1 hD1;refine⟨_,rfl,L,ch,rfl,hL.ext e1,ok,fun r ns H2 hr2 srt mt e2 nr=>?_⟩;have hD2:=e2 _ _ hD1;have rD:r≠D:=fun z=>by rw[z,hD1] at nr; cases nr
  have E2:=e1.trans e2;have nsn:ns.Nodup:=srt.imp fun {a b} h=>by lia
  have nsl:=jB0 nsn mt.bnd;refine⟨r,rfl,⟨_,SqL.of hr2⟩,jD6 (xs:=ns.map natV) (fun i σ H'=>(∃ v5,σ=[some (.ref L),some ve,some (.ref j),some (natV (fullN ch)),some (.ref D),v5])/\(∀ b o,H2 b=some o->b≠D->H' b=some o)/\GotAt H' D ch R (ns.take i)) ⟨⟨_,rfl⟩,fun b o h _=>h,[],hD2,trivial⟩ (fun i σ H' _ ⟨_,k,_⟩=>SqL.of (k _ _ hr2 rD)) ?_ ?_⟩
  ·rintro i x σ H' hx ⟨⟨v5,rfl⟩,k,us,hD',au⟩;obtain⟨m,hm,rfl⟩:∃ m,ns[i]?=some m/\natV m=x:=by
    rw[aS] at hx;cases hq:ns[i]? with
    | none=>rw[hq] at hx; cases hx
    | some z=>rw[hq] at hx; cases hx; exact⟨z,rfl,rfl⟩
   have hmn:=aB hm;have hm2:=mt.bnd m hmn;have il:i<ns.length:=(ao.mp hm).1;have tk:ns.take (i+1)=ns.take i++[m]:=by rw[be,hm]; rfl
   have kl:(gvs (ns.take i) us).length<sizeLine:=by
    unfold gvs;rw[af,jz,bI,aH];lia
   have kH:∀ b o,H b=some o->H' b=some o:=fun b o h=>k _ _ (E2 _ _ h) fun z=>by rw[z,nD] at h; cases h
   have mi:m∉ns.take i:=fun z=>by
    obtain⟨a,ha⟩:=bq z;have al:a<i:=by have:=(ao.mp ha).1; rw[bI] at this; lia
    rw[cC al] at ha;have:=(fj Aa nsn).mp (ha.trans hm.symm);lia
   have fin:∀ (u:V) (H3:Hp),(∀ b o,H' b=some o->H3 b=some o)->R m H3 u->DPut H3 D (natV m) u (L2.upd H3 D (.dK (gvs (ns.take (i+1)) (us++[u]))))/\((∃ v5,[some (V.ref L),some ve,some (.ref j),some (natV (fullN ch)),some (.ref D),some (natV m)]=[some (V.ref L),some ve,some (.ref j),some (natV (fullN ch)),some (.ref D),v5])/\(∀ b o,H2 b=some o->b≠D->(L2.upd H3 D (.dK (gvs (ns.take (i+1)) (us++[u])))) b=some o)/\GotAt (L2.upd H3 D (.dK (gvs (ns.take (i+1)) (us++[u])))) D ch R (ns.take (i+1))):=fun u H3 e3 ru=>by
    have hD3:=e3 _ _ hD';have up:∀ b o,H3 b=some o->b≠D->(L2.upd H3 D (.dK (gvs (ns.take (i+1)) (us++[u])))) b=some o:=fun b o h n=>by rw[j9 n]; exact h
    refine⟨?_,⟨_,rfl⟩,fun b o h n=>up b o (e3 _ _ (k b o h n)) n,us++[u],j5,?_⟩
    ·have:=DPut.k (k:=Sum.inl ((m:Nat):Int)) (v:=u) hD3 kl;rw[jKN _ (jCM mi),<- jRX au.len,<- tk] at this;exact this
    ·rw[tk];refine All2.snoc ?_ ((ro m u).keep _ _ D _ hD3 (by rw[<- tk]; exact up) ru);rw[<- tk];exact au.imp fun n u h=>(ro n u).keep _ _ D _ hD3 up ((ro n u).ext _ _ e3 h)
   refine⟨_,rfl,_,rfl,rfl,_,rfl,?_⟩;have ef:decide (natV m=natV (fullN ch))=true↔m=fullN ch:=by
    rw[br];exact⟨fun h=>by have:=V.int.inj h; lia,fun h=>by rw[h]⟩
   refine ite2 (fun h=>?_) (fun h=>?_)
   ·have h:=ef.mp h;obtain⟨f1,f2⟩:=fin ve H' (fun b o h=>h) (by rw[h]; exact(ro _ _).ext _ _ kH he);exact⟨_,rfl,_,rfl,_,rfl,D,_,rfl,f1,f2⟩
   ·have h:m≠fullN ch:=fun z=>h (ef.mpr z);refine⟨rfl,_,rfl,_,rfl,L,ch,m,rfl,hL.ext kH,ok,hm2,h,fun r4 H4 ⟨vs4,hr4,av4⟩ e4 n4=>?_⟩;have hD4:=e4 _ _ hD';have vl4:vs4.length<=33:=by
     rw[av4.len];have hlow:=jD0 hm2 h;refine bi (bU _ _) ?_;rw[aj,aq hlow];exact ok.len _ _ (aq hlow)
    refine⟨r4,rfl,⟨_,SqL.of hr4⟩,jAJ (xs:=vs4) (fun σ=>∃ v1 v2,σ=[v1,v2,some (.ref D),some (natV m)]) (fun H' zs t=>All2 (fun v c=>∃ q u,v= .ref q/\H' q=some (.tup [.int c.1,u])/\R (m|||c.2) H4 u) zs ((chAt ch m).take t)) ⟨fun H=>trivial,fun H H' zs t tu hz=>hz.imp fun v c ⟨q,u,a1,a2,a3⟩=>⟨q,u,a1,tu _ _ a2,a3⟩,fun H zs t hz=>?_⟩ hr4 (by rw[aH]; lia) ⟨_,_,rfl⟩ ?_ ?_⟩
    ·rw[hz.len];exact bB _ _
    ·rintro t x σ' H5 zs hx ⟨v1,v2,rfl⟩ e5 hz5 S1 S2 yes no;obtain⟨c,hc,qa,rfl,hq⟩:=av4.get' hx;have hcm:=aB hc;obtain⟨u1,u2⟩:=ok.up hm2 h hcm;have ut:=mt.up m hmn h c hcm;have up:(m|||c.2)∈ns.take i:=by
      obtain⟨a,ha⟩:=bq ut;have al:a<i:=by
       refine bM fun z=>?_;have a1:=(ao.mp ha);have m1:=(ao.mp hm);rcases fb i a with y | y
       ·have:=bL.mp srt i a il a1.1 y;rw[a1.2,m1.2] at this;lia
       ·have:a=i:=by lia
        subst this;rw[hm] at ha;have:=bw ha;lia
      exact aB (i:=a) (by rw[cC al]; exact ha)
     obtain⟨u,hu,ru⟩:=jG5 au (nsn.sublist (dL _ _)) up;have et:(chAt ch m).take (t+1)=(chAt ch m).take t++[c]:=by rw[be,hc]; rfl
     have dg:DGet H5 D (.int (Builtin.bitOr (m:Int) (c.2:Int))) (some u):=by
      rw[jD9,<- hu];exact DGet.k (k:=Sum.inl (((m|||c.2:Nat):Nat):Int)) (e5 _ _ hD4)
     refine⟨qa,_,rfl,SqT.of (e5 _ _ hq),rfl,_,_,rfl,_,_,rfl,rfl,?_⟩;dsimp only [yB];rw[ay rfl];refine⟨_,rfl,_,rfl,_,rfl,_,rfl,_,_,rfl,rfl,D,u,rfl,dg,by show (2:Nat)<=_; decide,fun r6 H6 d6 e6=>yes _ _ _ ⟨_,_,rfl⟩ e6 ?_⟩;show All2 _ _ ((chAt ch m).take (t+1));rw[et];exact(hz5.imp fun v c ⟨q,u,a1,a2,a3⟩=>⟨q,u,a1,e6 _ _ a2,a3⟩).snoc ⟨r6,u,rfl,d6,(ro _ _).ext _ _ e4 ru⟩
    ·rintro D7 H7 zs hD7 e7 n7 hz7;rw[av4.len,bz] at hz7;refine⟨zo.ext _ _ (fun b o h=>e7 _ _ (e4 _ _ (kH b o h))) hzh,D7,zs,m,rfl,hD7,hm2,h,hz7.imp fun v c ⟨q,u,a1,a2,a3⟩=>⟨q,u,a1,a2,(ro _ _).ext _ _ e7 a3⟩,fun rr H8 r8 e8=>?_⟩;obtain⟨f1,f2⟩:=fin rr H8 (fun b o h=>e8 _ _ (e7 _ _ (e4 _ _ h))) r8;exact⟨_,rfl,_,rfl,D,_,rfl,f1,f2⟩
  ·rintro σ H' ⟨⟨v5,rfl⟩,k,got⟩;rw[af,bz] at got;exact⟨_,rfl,q D ns H' got srt mt (fun b o h=>k _ _ (E2 _ _ h) fun z=>by rw[z,nD] at h; cases h) nD⟩
end
end Eo
namespace L2
open PySem
def spEx {α:Type}(p:α->Prop)(sp:α->Sp):Sp:=fun vs H Q E=>∃ a,p a/\sp a vs H Q E
theorem FnOk.ex {α:Type}{p:α->Prop}{sp:α->Sp}{P:Program}{w:World}{K:W.Frag}{mg:Ak}{Aq:Heap}{CX:CXT}{k:Nat}{f:Addr}{fd:FuncData}{ps:Am}(h:∀ a,p a->FnOk P w K mg Aq CX k f fd ps (sp a)):FnOk P w K mg Aq CX k f fd ps (spEx p sp):=
 ⟨fun vs H Q E ⟨a,pa,q⟩=>(h a pa).len vs H Q E q,fun A Ap s H args us vs Q E hr he hb hv ⟨a,pa,q⟩=>(h a pa).run A Ap s H args us vs Q E hr he hb hv q⟩
theorem Callee.mono {P:Program}{w:World}{K:W.Frag}{mg:Ak}{Aq:Heap}{Z:Shared->Hp->Prop}{zh:Hp->Prop}{i k:Nat}{a:Addr}{sp:Sp}(C:Callee P w K mg Aq Z zh i a sp)(h:i<=k):Callee P w K mg Aq Z zh k a sp:=
 ⟨C.fn,fun A Ap s H us vs Q E hr=>C.run A Ap s H us vs Q E (hr.mono h)⟩
theorem Callee.imp {P:Program}{w:World}{K:W.Frag}{mg:Ak}{Aq:Heap}{Z Z':Shared->Hp->Prop}{zh:Hp->Prop}{k:Nat}{a:Addr}{sp:Sp}(C:Callee P w K mg Aq Z zh k a sp)(h:∀ s H,Z' s H->Z s H):Callee P w K mg Aq Z' zh k a sp:=
 ⟨C.fn,fun A Ap s H us vs Q E hr he hz=>C.run A Ap s H us vs Q E hr he (h _ _ hz)⟩
theorem FnOk.never {P:Program}{w:World}{K:W.Frag}{mg:Ak}{Aq:Heap}{CX:CXT}{k:Nat}{f:Addr}{fd:FuncData}{ps:Am} :FnOk P w K mg Aq CX k f fd ps (fun _ _ _ _=>False):=
 ⟨fun _ _ _ _ h=>h.elim,fun _ _ _ _ _ _ _ _ _ _ _ _ _ h=>h.elim⟩
theorem jSP {a:Arguments}{b:Expr}{sc:Scope}{pos:Pos}{es:List Expr}{env:Env} :starEach (.Lambda a b sc pos::es) env=(false,eval (.Lambda a b sc pos) env)::starEach es env:=rfl
end L2
namespace Eo
open PySem L2
theorem got0 {H:Hp}{r:Addr}{ch:Ch}{R:RepT}{ns:List Nat}(g:GotAt H r ch R ns)(nd:ns.Pairwise (· > ·))(m:MetOk ch ns):∃ u,DGet H r (.int 0) (some u)/\R 0 H u:=by
 obtain⟨us,h1,h2⟩:=g.ex;obtain⟨u,hu,ru⟩:=jG5 h2 (nd.imp fun {a b} h=>by lia) m.zero;refine⟨u,?_,ru⟩;have:=DGet.k (k:=Sum.inl (0:Int)) h1;rw[show valV (gvs ns us) (Sum.inl (0:Int))=some u from hu] at this;exact this
end Eo
namespace L2
open PySem PySem.Spec PyProof.Rows
end L2
namespace Eo
open PySem L2
def yV (pc:List Int×Int):Int:=pc.1.getD 0 0
def cntF (Ar:Ae)(t:Int):Nat:=Ar.countP fun pc=>decide (t<=yV pc)
def lead (Ar:Ae)(t:Int)(i:Nat):Nat:=(Ar.take i).countP fun pc=>decide (yV pc=t)
theorem jIL (t:Int):∀ Ar:Ae,cntF Ar t=cntF Ar (t+1)+Ar.countP fun pc=>decide (yV pc=t)
 | []=>rfl
 | p::r=>by
  have ih:=jIL t r;unfold cntF at ih ⊢;rw[cF,cF,cF,ih];by_cases h1:yV p=t
  ·have h2:t<=yV p:=Aa;have h3:¬ t+1<=yV p:=Aa;have h4:¬ t+1<=t:=Aa;simp [h1,h4]
   try lia
  ·by_cases h2:t<=yV p
   ·have h3:t+1<=yV p:=Aa;simp [h1,h2,h3];lia
   ·have h3:¬ t+1<=yV p:=Aa;simp [h1,h2,h3]
theorem jXO (Ar:Ae)(t:Int):cntF Ar t<=Ar.length:=List.countP_le_length
theorem jRJ (Ar:Ae)(t:Int):2 ^ cntF Ar (t+1)*(1+lead Ar t Ar.length)<=2 ^ cntF Ar t:=by
 unfold lead;rw[bz,jIL t Ar,Nat.pow_add];refine io _ ?_;have:=Nat.lt_two_pow_self (n:=Ar.countP fun pc=>decide (yV pc=t));lia
theorem jOS {Ar:Ae}{t:Int}{i:Nat}{pc:List Int×Int}(h:Ar[i]?=some pc):lead Ar t (i+1)=lead Ar t i+if yV pc=t then 1 else 0:=by
 unfold lead;rw[be,h];show ((Ar.take i)++[pc]).countP _=_;rw[List.countP_append,cF,List.countP_nil];simp
theorem jJ9 {Ar:Ae}{t:Int}(h:Ar.length<=16):2 ^ cntF Ar t<=65536:=by
 have:=jXO Ar t;exact bi (ci Ac (bi this h)) Ac
def wJ (l:List (Int×Af)):Af:=l.flatMap fun p=>p.2.map fun x=>if p.1<0 then x else p.1::x
def wk (ch:Ch)(m:Nat):Af:=gv ch [[]] wJ m
theorem jH8 (a b:List (Int×Af)):wJ (a++b)=wJ a++wJ b:=lh
theorem jB7 (ch:Ch):wk ch (fullN ch)=[[]]:=jV9
theorem jB6 {ch:Ch}{m:Nat}(o:ChOk ch)(h:m<2 ^ ch.length)(hn:m≠fullN ch):wk ch m=wJ ((chAt ch m).map fun c=>(c.1,wk ch (m|||c.2))):=jV8 o h hn
theorem jL4 (w:Nat):lowN (2 ^ w - 1)=w:=by
 refine jT0 ?_ fun j hj=>?_
 ·rw[da,aN Aa]
 ·rw[da,ax hj]
theorem jSZ {m c:Nat}(h:c.testBit (lowN m)=true):lowN m<lowN (m|||c):=by
 refine bM fun z=>?_;have n1:=jET (m|||c);rw[b7] at n1;rcases fb (lowN (m|||c)) (lowN m) with y | y
 ·rw[jGM m _ y] at n1;cases n1
 ·rw[show lowN (m|||c)=lowN m by lia,h,fw] at n1;cases n1
theorem jCL {ch:Ch}(o:ChOk ch){P:Nat->Prop}(h0:P (fullN ch))(hs:∀ m,m<2 ^ ch.length->m≠fullN ch->(∀ c∈chAt ch m,P (m|||c.2))->P m):∀ m,m<2 ^ ch.length->P m:=by
 intro m hm;generalize hk:fullN ch - m=k
 induction k using strongRecOn generalizing m with
 | _ k ih=>
  by_cases hf:m=fullN ch
  ·rw[hf];exact h0
  ·have hlt:m<fullN ch:=by
    unfold fullN at hf ⊢;lia
   refine hs m hm hf fun c hc=>?_;obtain⟨u1,u2⟩:=o.up hm hf hc;exact ih (fullN ch - (m|||c.2)) Aa _ u2 rfl
theorem mem_wJ {l:List (Int×Af)}{x:Ag} :x∈wJ l↔∃ p∈l,∃ y∈p.2,x=if p.1<0 then y else p.1::y:=by
 unfold wJ;rw[List.mem_flatMap];refine exists_congr fun p=>ke fun _=>?_;rw[aQ];exact exists_congr fun y=>ke fun _=>eq_comm
theorem jK8 {ch:Ch}(o:ChOk ch):∀ m,m<2 ^ ch.length->∀ x∈wk ch m,(∀ k∈x,0<=k/\k<32)/\x.length+lowN m<=ch.length:=by
 refine jCL o ?_ ?_
 ·intro x hx;rw[jB7,aK] at hx;subst hx;refine⟨fun k hk=>(by cases hk),?_⟩;unfold fullN;rw[jL4];simp
 ·intro m hm hf ih x hx;rw[jB6 o hm hf] at hx;obtain⟨p,hp,y,hy,rfl⟩:=mem_wJ.mp hx;obtain⟨c,hc,rfl⟩:=aQ.mp hp;obtain⟨i1,i2⟩:=ih c hc y hy;obtain⟨m1,m2,m3,m4,m5⟩:=o.mem hm hf hc;have lo:=jSZ m1;dsimp only;split
  ·exact⟨i1,Aa⟩
  ·refine⟨fun k hk=>?_,by rw[aV]; lia⟩;rcases aE.mp hk with z | z
   ·subst z;lia
   ·exact i1 k z
theorem jMM (l:Ag):l.getD 0 0=l.headD 0:=by cases l <;> rfl
theorem jMI (Ar:Ae)(t:Nat)(i:Nat)(hi:i<=Ar.length):(((upto Ar.length).take i).filter fun k=>decide ((j8 Ar k).headD 0=(t:Int))).length=lead Ar t i:=by
 induction i with
 | zero=>rfl
 | succ i ih=>
  have hil:i<Ar.length:=Aa;rw[jED hil,bV,aJ,ih Aa,jOS (aq hil)];congr 1;rw[cK,ka];have e:j8 Ar (i:Int)=Ar[i].1:=by
   unfold j8;rw[aR,aj,aq hil];rfl
  unfold yV;rw[e,jMM];by_cases h:Ar[i].1.headD 0=(t:Int)
  ·rw[ay (ax h),ay h];rfl
  ·rw[aw (fun z=>h (aI z)),aw h];rfl
theorem jS5 (Ar:Ae){s t:Int}(h:s<=t):cntF Ar t<=cntF Ar s:=by
 unfold cntF;refine List.countP_mono_left fun x _ hx=>?_;have:=aI hx;exact ax Aa
theorem jID {α β:Type}(f:α->List β)(B:Nat):∀ (l:List α),(∀ a∈l,(f a).length<=B)->(l.flatMap f).length<=l.length*B
 | [],_=>by simp
 | a::l,h=>by
  rw[i4,aJ,aV,Nat.succ_mul];have h1:=h a (ai ..);have h2:=jID f B l fun x hx=>h x (ag _ hx);lia
theorem jMW {w:Int}{ms:Ag}{Ar:Ae}(g:Good 16 32 w ms Ar):∀ m,m<2 ^ (chs w.toNat ms Ar).length->(wk (chs w.toNat ms Ar) m).length<=2 ^ cntF Ar (lowN m:Nat):=by
 have o:ChOk (chs w.toNat ms Ar):=qH g;refine jCL o ?_ ?_
 ·rw[jB7];exact Nat.one_le_two_pow
 ·intro m hm hf ih;have hl:lowN m<w.toNat:=by
   have:=jD0 hm hf;unfold chs at this
   rwa [kT] at this
  rw[jB6 o hm hf];unfold wJ;refine bi (jID _ (2 ^ cntF Ar ((lowN m:Nat)+1:Int)) _ fun p hp=>?_) ?_
  ·obtain⟨c,hc,rfl⟩:=aQ.mp hp;rw[af];have lo:=jSZ (o.mem hm hf hc).1;exact bi (ih c hc) (ci Ac (jS5 Ar Aa))
  ·rw[af,Nat.mul_comm];refine bi (io _ ?_) (jRJ Ar (lowN m:Nat));unfold chAt;refine bi (bU _ _) ?_;unfold chs;rw[aj,yK hl];show (yD ms Ar Ar.length (lowN m)).length<=_;unfold yD;rw[aJ,af,jMI Ar _ _ (aA _)];split <;> simp only [aV,cz] <;> lia
theorem jF7 (a b:Int):decide (V.int a=V.int b)=decide (a=b):=by
 rw[bZ,br,br];exact⟨fun h=>V.int.inj h,fun h=>by rw[h]⟩
def LsAt (H:Hp)(us:List V)(ws:Af):Prop:=All2 (fun v x=>∃ a,v=V.ref a/\H a=some (.tup (x.map V.int))) us ws
theorem LsAt.mono {H H':Hp}{us:List V}{ws:Af}(t:Tups H H')(h:LsAt H us ws):LsAt H' us ws:=All2.imp (fun v x ⟨a,e,q⟩=>⟨a,e,t _ _ q⟩) h
def cvs (w:Int)(ms:Ag)(Ar:Ae):Af:=(wk (chs w.toNat ms Ar) 0).map srt
structure MkOk (w:Nat)(t:Nat)(hs:Ag)(m:Nat):Prop where
 lt:m<2 ^ w
 lo:∀ j,j<t->m.testBit j=true
 hi:∀ j,t<=j->j<w->(m.testBit j=true↔(j:Int)∈hs)
theorem MkOk.full {w:Nat}{hs:Ag}{m:Nat}(h:MkOk w w hs m):m=2 ^ w - 1:=jPJ h.lt h.lo
theorem MkOk.held {w t:Nat}{hs:Ag}{m:Nat}(h:MkOk w t hs m)(ht:t<w)(hm:(t:Int)∈hs):MkOk w (t+1) hs m:=by
 refine⟨h.lt,fun j hj=>?_,fun j h1 h2=>h.hi j Aa h2⟩;rcases fb j t with y | y
 ·exact h.lo j y
 ·rw[show j=t by lia];exact(h.hi t (aA _) ht).mpr hm
theorem MkOk.low {w t:Nat}{hs:Ag}{m:Nat}(h:MkOk w t hs m)(ht:t<w)(hm:¬ (t:Int)∈hs):lowN m=t:=
 jT0 (cj.mpr fun z=>hm ((h.hi t (aA _) ht).mp z)) h.lo
theorem MkOk.ne {w t:Nat}{hs:Ag}{m:Nat}(h:MkOk w t hs m)(ht:t<w)(hm:¬ (t:Int)∈hs):m≠2 ^ w - 1:=fun z=>by
 have:=h.low ht hm;rw[z,jL4] at this;lia
theorem MkOk.may {w t:Nat}{hs:Ag}{m:Nat}(h:MkOk w t hs m)(ht:t<w):MkOk w (t+1) hs (m|||2 ^ t):=by
 refine⟨iX h.lt (g9 Ac ht),fun j hj=>?_,fun j h1 h2=>?_⟩
 ·rw[b7,cL];rcases fb j t with y | y
  ·rw[h.lo j y];rfl
  ·rw[show j=t by lia,ax rfl,fw]
 ·rw[b7,cL,aN Aa,Bool.or_false];exact h.hi j Aa h2
theorem MkOk.piece {w t:Nat}{hs:Ag}{m:Nat}{own:Ag}(h:MkOk w t hs m)(ht:t<w)(l:Lot (w:Int) own)(hd:(t:Int)∈own):MkOk w (t+1) (hs++own) (m|||maskN own):=by
 have b0:∀ x∈own,0<=x:=fun x hx=>(l.bnd x hx).1;refine⟨iX h.lt (jER l.ris l.bnd),fun j hj=>?_,fun j h1 h2=>?_⟩
 ·rw[b7,jA8 own j l.ris b0];rcases fb j t with y | y
  ·rw[h.lo j y];rfl
  ·rw[show j=t by lia,ax hd,fw]
 ·rw[b7,jA8 own j l.ris b0,ig,br,aP];exact or_congr (h.hi j Aa h2) Iff.rfl
theorem MkOk.fits {w t:Nat}{hs:Ag}{m:Nat}{own:Ag}(h:MkOk w t hs m)(l:Lot (w:Int) own)(hd:own.headD 0=(t:Int)):(maskN own&&&m==0)=!(own.any fun x=>decide (x∈hs)):=by
 have b0:∀ x∈own,0<=x:=fun x hx=>(l.bnd x hx).1;have ge:∀ x∈own,(t:Int)<=x:=fun x hx=>by
  cases ho:own with
  | nil=>rw[ho] at hx; cases hx
  | cons a r=>
   rw[ho] at hd hx;have hd:a=t:=hd;have lr:=l.ris;rw[ho] at lr;rcases aE.mp hx with z | z
   ·lia
   ·have:=(cU.mp lr).1 x z;lia
 rw[bZ,g4,cH,List.any_eq_false];constructor
 ·intro z x hx hh;have hh:=aI hh;have bx:=l.bnd x hx;have t1:=(h.hi x.toNat (by have:=ge x hx; lia) Aa).mpr (by rw[show ((x.toNat:Nat):Int)=x by lia]; exact hh);have t2:(maskN own).testBit x.toNat=true:=by
   rw[jA8 own _ l.ris b0,br,show ((x.toNat:Nat):Int)=x by lia];exact hx
  have t3:=bY (fun y=>y.testBit x.toNat) z;simp only [eg,t1,t2,dF] at t3;cases t3
 ·intro z;apply eE;intro i;rw[eg,dF,jA8 own i l.ris b0];by_cases hi:(i:Int)∈own
  ·have bx:=l.bnd _ hi;have gi:=ge _ hi;rw[ax hi,gb];refine cj.mpr fun y=>?_;exact z _ hi (ax ((h.hi i Aa Aa).mp y))
  ·rw[aN hi];rfl
def wkI (ch:Ch)(ms:Ag)(Ar:Ae)(m t i:Nat):Af:=wJ (((yD ms Ar i t).filter fun c=>c.2&&&m==0).map fun c=>(c.1,wk ch (m|||c.2)))
theorem jMQ {n:Nat}{ms:Ag}{Ar:Ae}(hn:n<Ar.length)(u:Nat):yD ms Ar (n+1) u=yD ms Ar n u++if (j8 Ar (n:Int)).headD 0=(u:Int) then [((n:Int),maskN (j8 Ar n))] else []:=by
 unfold yD;rw[jED hn,bV,aU,aY];congr 2;rw[cK];by_cases hu:(j8 Ar (n:Int)).headD 0=(u:Int)
 ·rw[ay (ax hu),ay hu];rfl
 ·rw[aw (fun z=>hu (aI z)),aw hu];rfl
theorem jQJ {ch:Ch}{ms:Ag}{Ar:Ae}{m t:Nat}(hb:m.testBit t=false):wkI ch ms Ar m t 0=if (t:Int)∈ms then wk ch (m|||2 ^ t) else []:=by
 unfold wkI;rw[jDN];by_cases h:(t:Int)∈ms
 ·have e:(2 ^ t&&&m==0)=true:=by
   rw[g4];apply eE;intro i;rw[eg,dF,cL];by_cases hi:t=i
   ·subst hi;rw[hb,dq]
   ·rw[aN hi];rfl
  rw[ay h,ay h,cK,ay e];show wJ [(-1,wk ch (m|||2 ^ t))]=_;unfold wJ;rw[gP];exact(cM fun x _=>ay (show (-1:Int)<0 by decide)).trans (iZ _)
 ·rw[aw h,aw h];rfl
theorem jK9 {ch:Ch}{ms:Ag}{Ar:Ae}{m t i:Nat}(hi:i<Ar.length):wkI ch ms Ar m t (i+1)=wkI ch ms Ar m t i++if (j8 Ar (i:Int)).headD 0=(t:Int)/\(maskN (j8 Ar (i:Int))&&&m==0)=true then (wk ch (m|||maskN (j8 Ar (i:Int)))).map ((i:Int):: ·) else []:=by
 unfold wkI;rw[jMQ hi,bV,aU,jH8];congr 1;by_cases h1:(j8 Ar (i:Int)).headD 0=(t:Int)
 ·rw[ay h1,cK];by_cases h2:(maskN (j8 Ar (i:Int))&&&m==0)=true
  ·rw[ay h2,ay ⟨h1,h2⟩];show wJ [((i:Int),wk ch (m|||maskN (j8 Ar (i:Int))))]=_;unfold wJ;rw[gP];exact cM fun x _=>aw Aa
  ·rw[aw h2,aw (fun z=>h2 z.2)];rfl
 ·rw[aw h1,aw (fun z=>h1 z.1)];rfl
theorem jTI {w:Int}{ms:Ag}{Ar:Ae}{m t:Nat}(g:Good 16 32 w ms Ar)(hm:m<2 ^ w.toNat)(hf:m≠2 ^ w.toNat - 1)(hl:lowN m=t)(ht:t<w.toNat):wkI (chs w.toNat ms Ar) ms Ar m t Ar.length=wk (chs w.toNat ms Ar) m:=by
 have o:ChOk (chs w.toNat ms Ar):=qH g;have el:(chs w.toNat ms Ar).length=w.toNat:=kT _ _ _ _;rw[jB6 o (by rw[el]; exact hm) (by unfold fullN; rw[el]; exact hf)];unfold wkI chAt;have:(chs w.toNat ms Ar).getD (lowN m) []=yD ms Ar Ar.length t:=by
  rw[hl,aj];unfold chs;rw[yK ht];rfl
 rw[this]
theorem jQK {ch:Ch}{ms:Ag}{Ar:Ae}{m t i:Nat}(hi:i<=Ar.length):(wkI ch ms Ar m t i).length<=(wkI ch ms Ar m t Ar.length).length:=by
 have key:∀ d i,i+d=Ar.length->(wkI ch ms Ar m t i).length<=(wkI ch ms Ar m t Ar.length).length:=by
  intro d
  induction d with
  | zero=>intro i h; rw[show i=Ar.length by lia]; exact aA _
  | succ d ih=>
   intro i h;refine bi ?_ (ih (i+1) Aa);rw[jK9 Aa,aJ];lia
 exact key (Ar.length - i) i Aa
def jFN (d:Nat):Sp:=fun vs H Q _=>∃ (b h:Addr) (w:Int) (t:Nat) (ms:Ag) (Ar:Ae) (hs:Ag) (m:Nat),vs=[.ref b, .int (t:Int), .ref h]/\BoxAt H b w ms Ar/\Good 16 16 w ms Ar/\(t:Int)<=w/\w - t<=d/\H h=some (.tup (hs.map V.int))/\hs.length<=16*t/\MkOk w.toNat t hs m/\
 ∀ l us H',H' l=some (.lst us)->LsAt H' us (wk (chs w.toNat ms Ar) m)->Ext H H'->Q (.ref l) H'
def spNo:Sp:=fun _ _ _ _=>False
def jG9:Nat->Sp
 | 0=>spNo
 | d+1=>jFN d
theorem ok_no {k:Nat}{f:Addr}{fd:FuncData}{ps:Am} :FnOk P w K mg Aq CX0 k f fd ps spNo:=⟨fun _ _ _ _ h=>h.elim,fun _ _ _ _ _ _ _ _ _ _ _ _ _ h=>h.elim⟩
abbrev nFrom:Am:=["box","thing","held","found","k","own"]
theorem scFrom:FnScope nFrom ["box","thing","held"] (j7 qY):= {}
abbrev XFrom (P:Program)(w:World)(K:W.Frag)(mg:Ak)(Aq:Heap)(f:Addr)(lM:Value)(A:Around)(Ap:List Env)(s:Shared)(H:Hp)(E:XK):Cx:=XOf nFrom "_law_from" qY P w K mg Aq f lM A Ap s H E
def fromL {d:Nat}{sp:Sp}(T:Txt mg)(CF:Can P w K mg Aq "_law_from" (d+1) fF fdF ["box","thing","held"] sp)(hr:Room (d+1) (XFrom P w K mg Aq f lM A Ap s H0 E).A): { t:TS // JSs (XFrom P w K mg Aq f lM A Ap s H0 E) (jD1 ((jD qY).getD 4 (.Pass ⟨0,0,0,0⟩))) t} :=
 have nd:=scFrom.nd
 ⟨_,(jB (jU (i:=5) nd rfl lL (jM jQ (jM jQ (jM jQ (jv 0 rfl vL) (je_int) jF) (jv 4 rfl vC) jAY) (je_int) jF) jKD)
   (jC (y8 (jt_w (jT4 (jY qU (jM jQ (jv 5 rfl vL) (je_int) jF) (jv 1 rfl vL) (jT _)) (jOY (qF (qE (jG (jFA rfl) gD T.any Ab (j3 (kG (m:=[none,some 2]) (Nc:=["t","held"]) rfl (qG (jv 5 rfl vL)) rfl Ab Ab (jK (psc:=j7 qY)) (jI (N:=nFrom) rfl rfl Ab) (fun cl C fp s H=>jJ (i:=0) (show (["t","held"]:Am).Nodup by decide+kernel) rfl yC) (fun cl C fp s H=>kJ) (fun cl C fp s H=>(yO jEM (jv 0 rfl jP) (jv 1 rfl kN) jGH)) y9) j6 jH) jH) yM))))) (jC (jU (i:=3) nd rfl lL (kX jR3 (jv 3 rfl vL) (kG (m:=[none,some 4]) (Nc:=["rest","k"]) rfl (yN (CF.je hr gD (j3 (jv 0 rfl vL) (j3 (kX yE (jv 1 rfl vL) (je_int)) (j3 (kX jJD (jv 2 rfl vC) (jv 5 rfl vL)) j6 yT) yT) j4) j4)) rfl Ab Ab (jK (psc:=j7 qY)) (jI (N:=nFrom) rfl rfl Ab) (fun cl C fp s H=>jJ (i:=0) (show (["rest","k"]:Am).Nodup by decide+kernel) rfl yC) (fun cl C fp s H=>kJ) (fun cl C fp s H=>(kX jJD (yG (j3 (jv 1 rfl kN) j6 j4)) (jv 0 rfl jP))) kP)) jKF)) kB)))⟩
def fromB {d:Nat}{sp:Sp}(T:Txt mg)(CF:Can P w K mg Aq "_law_from" (d+1) fF fdF ["box","thing","held"] sp)(hr:Room (d+1) (XFrom P w K mg Aq f lM A Ap s H0 E).A): { t:TS // JSs (XFrom P w K mg Aq f lM A Ap s H0 E) ((jD qY).drop 4) t} :=
 have nd:=scFrom.nd
 ⟨_,(jB (jCA cB rfl (jA5 gD T.range (j3 (jG jN gD T.len Ab (j3 (jM jQ (jv 0 rfl vL) (je_int) jF) j6 jR) jR) j6 jE) jE) (jJ (i:=4) nd rfl loc_c) (fromL T CF hr).2 kP) (jC (jL (jv 3 rfl vL))))⟩
def fromA {d:Nat}{sp:Sp}(T:Txt mg)(CF:Can P w K mg Aq "_law_from" (d+1) fF fdF ["box","thing","held"] sp)(hr:Room (d+1) (XFrom P w K mg Aq f lM A Ap s H0 E).A): { t:TS // JSs (XFrom P w K mg Aq f lM A Ap s H0 E) (jD qY) t} :=
 have nd:=scFrom.nd
 ⟨_,(jB (y8 (jY qU (jv 1 rfl vL) (jM jQ (jv 0 rfl vL) (je_int) jF) (jT _)) (jC (jL (jB2 (j3 (yG j6) j6 jDQ)))) kB) (jB (y8 (jY jEL (jv 1 rfl vL) (jv 2 rfl vC) jGH) (jC (jL (CF.je hr gD (j3 (jv 0 rfl vL) (j3 (kX yE (jv 1 rfl vL) (je_int)) (j3 (jv 2 rfl vC) j6 j4) yT) j4) j4))) kB) (jB (jU (i:=3) nd rfl lL (jB2 j6) jEE) (jB (y8 (jY jEL (jv 1 rfl vL) (jM jQ (jv 0 rfl vL) (je_int) jF) jOA) (jC (jU (i:=3) nd rfl lL (CF.je hr gD (j3 (jv 0 rfl vL) (j3 (kX yE (jv 1 rfl vL) (je_int)) (j3 (jv 2 rfl vC) j6 j4) yT) j4) j4) kE)) kB) (fromB T CF hr).2))))⟩
theorem jFY {d:Nat}(T:Txt mg)(CF:Can P w K mg Aq "_law_from" (d+1) fF fdF ["box","thing","held"] (jG9 d))(hr:Room (d+1) (XFrom P w K mg Aq f lM A Ap s H0 E).A)
  {H H1:Hp}{b h l:Addr}{wi:Int}{t m:Nat}{ms:Ag}{Ar:Ae}{hs:Ag}{us:List V}{v4 v5:Option V}{D:Ends}(hB:BoxAt H b wi ms Ar) (g:Good 16 16 wi ms Ar) (t1:(t:Int)<wi) (hd:wi - t<=d) (hh:H h=some (.tup (hs.map V.int))) (hl:hs.length<=16*t) (mk:MkOk wi.toNat t hs m) (hnt:¬ (t:Int)∈hs)
  (e1:Ext H H1) (hf:H1 l=some (.lst us)) (fc:LsAt H1 us (wkI (chs wi.toNat ms Ar) ms Ar m t 0))
  (q:∀ l us H',H' l=some (.lst us)->LsAt H' us (wk (chs wi.toNat ms Ar) m)->Ext H H'->D.rt (.ref l) H'):
  (fromB T CF hr).1 D [some (.ref b),some (.int (t:Int)),some (.ref h),some (.ref l),v4,v5] H1:=by
 obtain⟨qm,qp,ps,b1,b2,b3,b4⟩:=hB.ex;have pl:=b4.len;have gl:=g.pl;have w0:=g.w0;have w1:=g.w1;have g32:Good 16 32 wi ms Ar:=g.wide Aa Aa;have tw:t<wi.toNat:=Aa;have o:ChOk (chs wi.toNat ms Ar):=qH g32;have el:(chs wi.toNat ms Ar).length=wi.toNat:=kT _ _ _ _;have all:=jTI (Ar:=Ar) (ms:=ms) g32 mk.lt (mk.ne tw hnt) (mk.low tw hnt) tw;have wlen:(wk (chs wi.toNat ms Ar) m).length<=65536:=bi (jMW g32 m (by rw[el]; exact mk.lt)) (jJ9 Aa);refine⟨_,rfl,b,_,2,_,rfl,rfl,SqT.of (e1 _ _ b1),rfl,qp,_,rfl, .inr (SqT.of (e1 _ _ b3)),_,rfl,Aa,Aa,jD5 (fun i σ H'=>(∃ l us v4 v5,σ=[some (.ref b),some (.int (t:Int)),some (.ref h),some (.ref l),v4,v5]/\H' l=some (.lst us)/\LsAt H' us (wkI (chs wi.toNat ms Ar) ms Ar m t i))/\Ext H H') ⟨⟨_,_,_,_,rfl,hf,fc⟩,e1⟩ ?_ ?_⟩
 ·rintro i σ H2 hi ⟨⟨l2,us2,v4,v5,rfl,g1,g3⟩,e2⟩;have hil:i<ps.length:=Aa;have hip:i<Ar.length:=Aa;have hy1:ps[i]?=some ps[i]:=aq hil;obtain⟨pc,hpc,pa,pq,hpe,c1,c2⟩:=b4.at hy1;have hlot:=(g.pg pc (aB hpc)).lot;have et:j8 Ar (i:Int)=pc.1:=by
   unfold j8;rw[aR,aj,hpc];rfl
  have lt2:pc.1.length<=16:=by
   have:=jAL _ 0 wi hlot.ris hlot.bnd;lia
  have lt0:atI (pc.1.map V.int) 0=some (.int (pc.1.headD 0)):=by
   cases z:pc.1 with
   | nil=>exact absurd z hlot.ne
   | cons a r=>exact yW (j:=0) rfl
  have at1:atI ps (0+(i:Int))=some (.ref pa):=by rw[jq]; exact yW (by rw[hy1,hpe])
  have hsu:=jK9 (ch:=chs wi.toNat ms Ar) (ms:=ms) (m:=m) (t:=t) hip;rw[et] at hsu;have ul:us2.length<=65536:=by
   rw[g3.len];exact bi (jQK Aa) (by rw[all]; exact wlen)
  have keep:∀ (v4 v5:Option V) (H3:Hp),Ext H2 H3->wkI (chs wi.toNat ms Ar) ms Ar m t (i+1)=wkI (chs wi.toNat ms Ar) ms Ar m t i->(∃ l us v4' v5',([some (.ref b),some (.int (t:Int)),some (.ref h),some (.ref l2),v4,v5]:St)=[some (.ref b),some (.int (t:Int)),some (.ref h),some (.ref l),v4',v5']/\H3 l=some (.lst us)/\LsAt H3 us (wkI (chs wi.toNat ms Ar) ms Ar m t (i+1)))/\Ext H H3:=fun v4 v5 H3 e3 ez=>⟨⟨l2,us2,v4,v5,rfl,e3 _ _ g1,by rw[ez]; exact g3.mono e3.tups⟩,e2.trans e3⟩;refine⟨_,rfl,b,_,2,_,rfl,rfl,SqT.of (e2 _ _ b1),rfl,_,rfl,qp,_,_,_,rfl,rfl,SqT.of (e2 _ _ b3),at1,pa,_,0,_,rfl,rfl,SqT.of (e2 _ _ c1),rfl,?_⟩;refine⟨_,rfl,pq,_,0,_,rfl,rfl,SqT.of (e2 _ _ c2),lt0,_,rfl,rfl,_,rfl,?_⟩;rw[jF7];refine ite2 (fun h1=>?_) (fun h1=>?_)
  ·have h1:pc.1.headD 0=(t:Int):=aI h1;have fi:=mk.fits (own:=pc.1) (by rw[show ((wi.toNat:Nat):Int)=wi by lia]; exact hlot) h1;refine⟨_,rfl,pq,rfl,⟨_,SqT.of (e2 _ _ c2)⟩,jLM (xs:=pc.1.map V.int) (fun σ=>∃ v,σ=[v,some (.ref h)]) (mapZ pc.1 fun x=>V.bl (decide (x∈hs))) (mapZ.ok _ _) (e2 _ _ c2) (by rw[af,aH]; lia) ⟨_,rfl⟩ ?_ ?_⟩
   ·rintro j x σ' H' zs hx ⟨v,rfl⟩ e hz S1 S2 yes no;obtain⟨z,hz',rfl⟩:=int_at hx;dsimp only [kL,yB];rw[ay rfl];refine⟨_,rfl,_,rfl,h,_,rfl, .inr (SqT.of (e _ _ (e2 _ _ hh))),rfl,jA7 _,?_⟩;rw[jC2];exact yes _ _ _ ⟨_,rfl⟩ (Ext.refl _) (hz.yes hz')
   ·rintro D' H3 zs h2 e3 hn hz;have hz:=hz.all (by rw[af]; exact aA _);have hz2:zs=(pc.1.map fun x=>decide (x∈hs)).map V.bl:=by rw[hz,bH]; rfl
    rw[hz2] at h2;refine⟨D',_,rfl,SqL.of h2,_,rfl,?_⟩;have ea:((pc.1.map fun x=>decide (x∈hs)).any id)=pc.1.any fun x=>decide (x∈hs):=by rw[lJ]; rfl
    rw[ea];have E3:=e2.trans e3;refine ite2 (fun h3=>?_) (fun h3=>keep _ _ H3 e3 ?_)
    ·have h3:(maskN pc.1&&&m==0)=true:=by rw[fi]; exact h3
     rw[ay ⟨h1,h3⟩] at hsu;cases d with
     | zero=>lia
     | succ d=>
     have htm:(t:Int)∈pc.1:=by rw[<- h1]; exact jE7 hlot.ne
     refine⟨_,rfl,_,rfl,_,rfl,_,_,rfl,rfl,_,rfl,_,rfl,h,pq,_,_,rfl,rfl,E3 _ _ hh,E3 _ _ c2,by rw[af,af,aH]; lia,fun r H4 hr4 e4=>?_⟩;have E4:=E3.trans e4;refine⟨b,r,wi,t+1,ms,Ar,hs++pc.1,m|||maskN pc.1,rfl,hB.mono E4.tups,g,Aa,Aa,by rw[aU]; exact hr4,by rw[aJ]; lia,mk.piece tw (by rw[show ((wi.toNat:Nat):Int)=wi by lia]; exact hlot) htm,fun l5 us5 H5 hl5 hc5 e5=>?_⟩;have E5:=E4.trans e5;have mlt:m|||maskN pc.1<2 ^ (chs wi.toNat ms Ar).length:=by
      rw[el];exact(mk.piece tw (by rw[show ((wi.toNat:Nat):Int)=wi by lia]; exact hlot) htm).lt
     have u5:us5.length<=65536:=by
      rw[hc5.len];exact bi (jMW g32 _ mlt) (jJ9 Aa)
     refine⟨l5,rfl,⟨_,SqL.of hl5⟩,jAJ (xs:=us5) (fun σ=>∃ v,σ=[v,some (.int (0+(i:Int)))]) (fun H' zs j=>LsAt H' zs (((wk (chs wi.toNat ms Ar) (m|||maskN pc.1)).take j).map ((i:Int):: ·))) ⟨fun H=>trivial,fun H H' zs j tt h=>h.mono tt,fun H zs j h=>?_⟩ hl5 (by rw[aH]; lia) ⟨_,rfl⟩ ?_ ?_⟩
     ·rw[h.len,af];exact bB _ _
     ·rintro j x σ' H' zs hx ⟨v,rfl⟩ e hz S1 S2 yes no;obtain⟨ks,hks,a,rfl,ha⟩:=hc5.get' hx;have kl:=(jK8 o _ mlt ks (aB hks)).2;dsimp only [kL,yB];rw[ay rfl];refine⟨_,rfl,by rw[aH]; show 1<=_; lia,fun r6 H6 hr6 e6=>⟨_,rfl,r6,a,_,_,rfl,rfl,hr6,e6 _ _ (e _ _ ha),by rw[af,aH]; show 1+_<=_; lia,fun r7 H7 hr7 e7=>?_⟩⟩;have e67:=e6.trans e7;refine yes _ _ _ ⟨_,rfl⟩ e67 ?_;show LsAt H7 _ (((wk (chs wi.toNat ms Ar) (m|||maskN pc.1)).take (j+1)).map ((i:Int):: ·));rw[be,hks,aU];refine All2.snoc (LsAt.mono e67.tups hz) ⟨r7,rfl,?_⟩;rw[hr7,jq];rfl
     ·rintro D6 H6 zs h26 e6 hn6 hz6;rw[hc5.len,bz] at hz6;have zl:zs.length<=65536:=by
       rw[hz6.len,af,<- hc5.len];exact u5
      refine⟨l2,D6,_,_,rfl,rfl,e6 _ _ (e5 _ _ (e4 _ _ (e3 _ _ g1))),h26,by rw[aH]; lia,fun r7 H7 hr7 e7 hn7=>?_⟩;have E37:=((e3.trans e4).trans e5).trans (e6.trans e7);refine⟨⟨r7,_,_,_,rfl,hr7,?_⟩,e2.trans E37⟩;rw[hsu];exact All2.append (LsAt.mono E37.tups g3) (LsAt.mono e7.tups hz6)
    ·rw[hsu,aw,bg];rintro ⟨_,z⟩;rw[fi] at z;exact h3 z
  ·refine iteF (keep _ _ H2 (Ext.refl _) ?_);rw[hsu,aw,bg];rintro ⟨z,_⟩;exact h1 (ax z)
 ·rintro σ H2 ⟨⟨l2,us2,v4,v5,rfl,g1,g3⟩,e2⟩;have em:((ps.length:Int)).toNat=Ar.length:=Aa;rw[em,all] at g3;exact⟨_,rfl,q l2 us2 H2 g1 g3 e2⟩
theorem jIC {fd:FuncData}(d:Nat)(F:Fun K "_law_from" "_law_from" qY f fd)(T:Txt mg)(CF:Can P w K mg Aq "_law_from" (d+1) f fd ["box","thing","held"] (jG9 d)):
  FnOk P w K mg Aq CX0 (d+2) f fd ["box","thing","held"] (jFN d):=by
 refine F.ok scFrom (fun vs H Q E h=>?_) (fun lM A Ap s H vs Q E hr h=>?_)
 ·obtain⟨_,_,_,_,_,_,_,_,rfl,_⟩:=h;rfl
 ·obtain⟨b,h,wi,t,ms,Ar,hs,m,rfl,hB,g,t1,hd,hh,hl,mk,q⟩:=h;obtain⟨qm,qp,ps,b1,b2,b3,b4⟩:=hB.ex;have gl:=g.pl;have w0:=g.w0;have w1:=g.w1;have el:(chs wi.toNat ms Ar).length=wi.toNat:=kT _ _ _ _;refine⟨_,(fromA T CF hr).2.h,?_⟩;refine⟨_,rfl,_,rfl,b,_,0,_,rfl,rfl,SqT.of b1,rfl,rfl,_,rfl,?_⟩;rw[jF7];refine ite2 (fun h1=>?_) (fun h1=>?_)
  ·have h1:(t:Int)=wi:=aI h1;have tw:t=wi.toNat:=Aa;subst tw;have mf:m=fullN (chs wi.toNat ms Ar):=by
    unfold fullN;rw[el];exact mk.full
   rw[mf,jB7] at q;refine⟨by rw[aH]; show 0<=_; lia,fun r1 H1 hr1 e1=>⟨by rw[aH]; show 1<=_; lia,fun r2 H2 hr2 e2 _=>?_⟩⟩;exact q r2 _ H2 hr2 ⟨⟨r1,rfl,e2 _ _ hr1⟩,trivial⟩ (e1.trans e2)
  ·have h1:¬ (t:Int)=wi:=fun h=>h1 (ax h);have tw:t<wi.toNat:=Aa;refine⟨_,rfl,_,rfl,h,_,rfl, .inr (SqT.of hh),rfl,jA7 _,_,rfl,?_⟩;have hd1:∃ d',d=d'+1:=⟨d - 1,Aa⟩;obtain⟨d',rfl⟩:=hd1;have call:∀ (m':Nat) (H1:Hp) (Q':VK),MkOk wi.toNat (t+1) hs m'->Ext H H1->(∀ l us H',H' l=some (.lst us)->LsAt H' us (wk (chs wi.toNat ms Ar) m')->Ext H H'->Q' (.ref l) H')->jG9 (d'+1) [.ref b, .int ((t:Int)+1), .ref h] H1 Q' E0:=fun m' H1 Q' mk' e1 k=>by
    exact⟨b,h,wi,t+1,ms,Ar,hs,m',rfl,hB.mono e1.tups,g,Aa,Aa,e1 _ _ hh,Aa,mk',fun l us H' a1 a2 a3=>k l us H' a1 a2 (e1.trans a3)⟩
   rw[jC2];refine ite2 (fun h2=>?_) (fun h2=>?_)
   ·have h2:(t:Int)∈hs:=aI h2;refine⟨_,rfl,_,rfl,_,_,rfl,rfl,_,rfl,call m H _ (mk.held tw h2) (Ext.refl _) fun l us H' a1 a2 a3=>?_⟩;exact q l us H' a1 a2 a3
   ·have h2:¬ (t:Int)∈hs:=fun z=>h2 (ax z);have hb:m.testBit t=false:=cj.mpr fun z=>h2 ((mk.hi t (aA _) tw).mp z);refine⟨by rw[aH]; show 0<=_; lia,fun l1 H1 hl1 e1 _=>?_⟩;refine⟨_,rfl,_,rfl,b,_,1,_,rfl,rfl,SqT.of (e1 _ _ b1),rfl,qm,_,rfl, .inr (SqT.of (e1 _ _ b2)),rfl,jA7 _,_,rfl,?_⟩;rw[jC2];have hz:=jQJ (ch:=chs wi.toNat ms Ar) (ms:=ms) (Ar:=Ar) hb;refine ite2 (fun h3=>?_) (fun h3=>?_)
    ·rw[ay (aI h3)] at hz;refine⟨_,rfl,_,rfl,_,_,rfl,rfl,_,rfl,(show jG9 (d'+1) [.ref b, .int ((t:Int)+1), .ref h] H1 (fun x H2=>(fromB T CF hr).1 { nx:=fun x H'=>Q V.non H',rt:=Q} [some (.ref b),some (.int (t:Int)),some (.ref h),some x,none,none] H2) E0 from call (m|||2 ^ t) H1 _ (mk.may tw) e1 fun l us H' a1 a2 a3=>?_)⟩;exact jFY T CF hr hB g Aa hd hh hl mk h2 a3 a1 (by rw[hz]; exact a2) q
    ·rw[aw (fun z=>h3 (ax z))] at hz;exact jFY T CF hr hB g Aa hd hh hl mk h2 e1 hl1 (by rw[hz]; trivial) q
theorem jO4 {fd:FuncData}(F:Fun K "_law_from" "_law_from" qY f fd)(T:Txt mg)(hm:mg "_law_from" =some (.ref f))(kp:keepIn K (.ref f)=true)(hb:Binds K fd ["box","thing","held"] []):
  ∀ d:Nat,FnOk P w K mg Aq CX0 (d+2) f fd ["box","thing","held"] (jFN d)
 | 0=>jIC 0 F T ⟨ok_no,hm,kp,hb⟩
 | d+1=>jIC (d+1) F T ⟨jO4 F T hm kp hb d,hm,kp,hb⟩
def jCP:Sp:=fun vs H Q _=>∃ (b:Addr) (w:Int) (ms:Ag) (Ar:Ae),vs=[.ref b]/\BoxAt H b w ms Ar/\Good 16 16 w ms Ar/\
 ∀ l us H',H' l=some (.lst us)->LsAt H' us (cvs w ms Ar)->us.length<=65536->Ext H H'->Q (.ref l) H'
abbrev nCovs:Am:=["box"]
theorem scCovs:FnScope nCovs ["box"] (j7 sCovs):= {}
def covsA (T:Txt mg)(CF:Can P w K mg Aq "_law_from" 18 fF fdF ["box","thing","held"] (jFN 16))(hr:Room 18 (XOf nCovs "_law_coverings" sCovs P w K mg Aq f lM A Ap s H0 E).A): { t:TS // JSs (XOf nCovs "_law_coverings" sCovs P w K mg Aq f lM A Ap s H0 E) (jD sCovs) t} :=
 have nd:=scCovs.nd
 ⟨_,(jC (jL (kG (m:=[none]) (Nc:=["some"]) rfl (yN (CF.je hr gD (j3 (jv 0 rfl vL) (j3 (je_int) (j3 (yG j6) j6 jDQ) kO) j4) j4)) rfl Ab Ab (jK (psc:=j7 sCovs)) (jI (N:=nCovs) rfl rfl Ab) (fun cl C fp s H=>jJ (i:=0) (show (["some"]:Am).Nodup by decide+kernel) rfl yC) (fun cl C fp s H=>kJ) (fun cl C fp s H=>(jW jF8 gl_b T.tuple Ab (j3 (jG jBH gl_b T.sorted Ab (j3 (jv 0 rfl jP) j6 j4) j4) j6 jE) jE)) kP)))⟩
theorem jUZ (w:Nat):MkOk w 0 [] 0:=⟨dA _,fun j hj=>by lia,fun j _ _=>by simp⟩
theorem jUR {fd:FuncData}(F:Fun K "_law_coverings" "_law_coverings" sCovs f fd)(T:Txt mg)(CF:Can P w K mg Aq "_law_from" 18 fF fdF ["box","thing","held"] (jFN 16)):FnOk P w K mg Aq CX0 19 f fd ["box"] jCP:=by
 refine F.ok scCovs (fun vs H Q E h=>?_) (fun lM A Ap s H vs Q E hr h=>?_)
 ·obtain⟨_,_,_,_,rfl,_⟩:=h;rfl
 ·obtain⟨b,wi,ms,Ar,rfl,hB,g,q⟩:=h;have gl:=g.pl;have w0:=g.w0;have w1:=g.w1;have g32:Good 16 32 wi ms Ar:=g.wide Aa Aa;have o:ChOk (chs wi.toNat ms Ar):=qH g32;have el:(chs wi.toNat ms Ar).length=wi.toNat:=kT _ _ _ _;have z0:0<2 ^ (chs wi.toNat ms Ar).length:=dA _;refine⟨_,(covsA T CF hr).2.h,?_⟩;refine⟨_,rfl,by rw[aH]; show 0<=_; lia,fun r1 H1 hr1 e1=>⟨b,r1,wi,0,ms,Ar,[],0,rfl,hB.mono e1.tups,g,Aa,Aa,hr1,by show 0<=_; lia,jUZ _,fun l us H2 a1 a3 a4=>?_⟩⟩;have ul:us.length<=65536:=by
   rw[a3.len];exact bi (jMW g32 _ z0) (jJ9 Aa)
  refine⟨l,rfl,⟨_,SqL.of a1⟩,jAJ (xs:=us) (fun σ=>∃ v,σ=[v]) (fun H' zs j=>LsAt H' zs (((wk (chs wi.toNat ms Ar) 0).take j).map srt)) ⟨fun H=>trivial,fun H H' zs j tt h=>h.mono tt,fun H zs j h=>?_⟩ a1 (by rw[aH]; lia) ⟨_,rfl⟩ ?_ ?_⟩
  ·rw[h.len,af];exact bB _ _
  ·rintro j x σ' H' zs hx ⟨v,rfl⟩ e hz S1 S2 yes no;obtain⟨ks,hks,a,rfl,ha⟩:=a3.get' hx;have kl:=(jK8 o _ z0 ks (aB hks)).2;dsimp only [kL,yB];rw[ay rfl];refine⟨_,rfl,a,ks,rfl,e _ _ ha,Aa,fun l6 ns hl6 sr pm=>⟨l6,_,rfl, .inl ⟨SqL.of j5,fun l7 hl7=>?_⟩⟩⟩;have e6:Ext H' (L2.upd H' l6 (.lst (ns.map V.int))):=(Ext.refl _).new hl6 _;have e7:Ext H' (L2.upd (L2.upd H' l6 (.lst (ns.map V.int))) l7 (.tup (ns.map V.int))):=e6.new hl7 _;refine yes _ _ _ ⟨_,rfl⟩ e7 ?_;show LsAt _ _ (((wk (chs wi.toNat ms Ar) 0).take (j+1)).map srt);rw[be,hks,aU];refine All2.snoc (LsAt.mono e7.tups hz) ⟨l7,rfl,?_⟩;rw[j5,jC9 sr pm]
  ·rintro D6 H6 zs h26 e6 hn6 hz6;rw[a3.len,bz] at hz6;exact q D6 zs H6 h26 hz6 (by rw[hz6.len,af,<- a3.len]; exact ul) ((e1.trans a4).trans e6)
theorem jXP {w:Int}{ms:Ag}{Ar:Ae}{m:Nat}{c:Int×Nat}(hm:m<2 ^ (chs w.toNat ms Ar).length)(hf:m≠fullN (chs w.toNat ms Ar))(hc:c∈chAt (chs w.toNat ms Ar) m):c.1<Ar.length:=by
 have hl:lowN m<w.toNat:=by
  have:=jD0 hm hf;unfold chs at this
  rwa [kT] at this
 obtain⟨h1,_⟩:=ba.mp hc;unfold chs at h1;rw[aj,yK hl] at h1;have h1:c∈yD ms Ar Ar.length (lowN m):=h1;unfold yD at h1;rcases aP.mp h1 with z | z
 ·split at z
  ·rw[aK] at z;rw[z];show (-1:Int)<_;lia
  ·cases z
 ·obtain⟨k,hk,rfl⟩:=aQ.mp z;exact((kQ Ar.length).bnd k (bQ (ba.mp hk).1)).2
theorem jBX {w:Int}{ms:Ag}{Ar:Ae}{m:Nat}{c:Int×Nat}(hl:lowN m<w.toNat):c∈chAt (chs w.toNat ms Ar) m↔c.2&&&m=0/\((c=(-1,2 ^ lowN m)/\(lowN m:Int)∈ms)\/∃ k:Int,c=(k,maskN (j8 Ar k))/\0<=k/\k<Ar.length/\(j8 Ar k).headD 0=(lowN m:Int)):=by
 unfold chAt;rw[ba,g4,and_comm];refine ke fun _=>?_;unfold chs;rw[aj,yK hl];show c∈yD ms Ar Ar.length (lowN m)↔_;unfold yD;rw[aP];refine or_congr ?_ ?_
 ·by_cases h:(lowN m:Int)∈ms
  ·rw[ay h,aK];exact⟨fun z=>⟨z,h⟩,fun z=>z.1⟩
  ·rw[aw h];exact⟨fun z=>(by cases z),fun z=>absurd z.2 h⟩
 ·rw[bX (by rw[yH]; exact aA _),aQ];constructor
  ·rintro ⟨k,hk,rfl⟩;obtain⟨h1,h2⟩:=ba.mp hk;have b:=(kQ Ar.length).bnd k h1;exact⟨k,rfl,b.1,b.2,aI h2⟩
  ·rintro ⟨k,rfl,h1,h2,h3⟩;refine⟨k,ba.mpr ⟨?_,ax h3⟩,rfl⟩;unfold upto;exact aQ.mpr ⟨k.toNat,bF.mpr Aa,Aa⟩
structure CovM (w:Int)(ms:Ag)(Ar:Ae)(m:Nat)(x:Ag):Prop where
 nd:x.Nodup
 bnd:∀ k∈x,0<=k/\k<Ar.length
 off:∀ k∈x,∀ t∈j8 Ar k,m.testBit t.toNat=false
 dis:∀ k∈x,∀ k'∈x,k≠k'->∀ t∈j8 Ar k,t∉j8 Ar k'
 cov:∀ t:Nat,t<w.toNat->m.testBit t=false->(t:Int)∉ms->∃ k∈x,(t:Int)∈j8 Ar k
section
variable {w:Int}(g:Good 16 32 w ms Ar)
include g
theorem jAN {k:Int}(h0:0<=k)(h1:k<Ar.length):Lot w (j8 Ar k):=(g.at (k:=k.toNat) Aa).lot
theorem jFP {k:Int}(h0:0<=k)(h1:k<Ar.length)(t:Nat):(maskN (j8 Ar k)).testBit t=decide ((t:Int)∈j8 Ar k):=jA8 _ t (jAN g h0 h1).ris fun x hx=>((jAN g h0 h1).bnd x hx).1
theorem jSU {k:Int}(h0:0<=k)(h1:k<Ar.length){m:Nat} :maskN (j8 Ar k)&&&m=0↔∀ t∈j8 Ar k,m.testBit t.toNat=false:=by
 have l:=jAN g h0 h1;constructor
 ·intro h t ht;have bt:=l.bnd t ht;have q:=bY (fun z=>z.testBit t.toNat) h;simp only [eg,dF,jFP g h0 h1] at q;rw[show ((t.toNat:Nat):Int)=t by lia,ax ht,gb] at q;exact q
 ·intro h;apply eE;intro i;rw[eg,dF,jFP g h0 h1];by_cases hi:(i:Int)∈j8 Ar k
  ·have:=h _ hi;rw[aR] at this;rw[this,dq]
  ·rw[aN hi];rfl
theorem jAR {k:Int}(h0:0<=k)(h1:k<Ar.length):(j8 Ar k).headD 0∈j8 Ar k/\∀ t∈j8 Ar k,(j8 Ar k).headD 0<=t:=by
 have l:=jAN g h0 h1;refine⟨jE7 l.ne,fun t ht=>?_⟩;have r:=l.ris;cases z:j8 Ar k with
 | nil=>rw[z] at ht; cases ht
 | cons a q=>
  rw[z] at ht r;show a<=t;rcases aE.mp ht with y | y
  ·lia
  ·have:=(cU.mp r).1 t y;lia
theorem jG4:∀ m,m<2 ^ (chs w.toNat ms Ar).length->∀ x∈wk (chs w.toNat ms Ar) m,CovM w ms Ar m x:=by
 have o:ChOk (chs w.toNat ms Ar):=qH g;have el:(chs w.toNat ms Ar).length=w.toNat:=kT _ _ _ _;refine jCL o ?_ ?_
 ·intro x hx;rw[jB7,aK] at hx;subst hx;refine⟨ko,fun k hk=>(by cases hk),fun k hk=>(by cases hk),fun k hk=>(by cases hk),fun t ht hb _=>?_⟩;unfold fullN at hb;rw[el,da,ax ht] at hb;cases hb
 ·intro m hm hf ih x hx;have hl:lowN m<w.toNat:=by have:=jD0 hm hf; rwa [el] at this
  rw[jB6 o hm hf] at hx;obtain⟨p,hp,y,hy,rfl⟩:=mem_wJ.mp hx;obtain⟨c,hc,rfl⟩:=aQ.mp hp;have I:=ih c hc y hy;have offm:∀ k∈y,∀ t∈j8 Ar k,m.testBit t.toNat=false:=fun k hk t ht=>by
   have:=I.off k hk t ht;rw[b7,h9] at this;exact this.1
  obtain⟨hz,hcase⟩:=(jBX hl).mp hc;rcases hcase with ⟨rfl,hms⟩ | ⟨k,rfl,k0,k1,hd⟩
  ·dsimp only;rw[ay (show (-1:Int)<0 by decide)];refine⟨I.nd,I.bnd,offm,I.dis,fun t ht hb hn=>?_⟩;refine I.cov t ht ?_ hn;rw[b7,hb,i6,cL,aN];intro z;subst z;exact hn hms
  ·dsimp only at I hz ⊢;rw[aw Aa];have ky:∀ t∈j8 Ar k,∀ k'∈y,t∉j8 Ar k':=fun t ht k' hk' ht'=>by
    have:=I.off k' hk' t ht';have bt:=(jAN g k0 k1).bnd t ht;rw[b7,jFP g k0 k1,show ((t.toNat:Nat):Int)=t by lia,ax ht,fw] at this;cases this
   have hhd:=(jAR g k0 k1).1;refine⟨cf.mpr ⟨fun z=>ky _ hhd k z hhd,I.nd⟩,fun k' hk'=>?_,fun k' hk' t ht=>?_,fun k1' h1' k2' h2' ne t ht=>?_,fun t ht hb hn=>?_⟩
   ·rcases aE.mp hk' with z | z
    ·rw[z]; exact⟨k0,k1⟩
    ·exact I.bnd k' z
   ·rcases aE.mp hk' with z | z
    ·rw[z] at ht;exact(jSU g k0 k1).mp hz t ht
    ·exact offm k' z t ht
   ·rcases aE.mp h1' with z | z <;> rcases aE.mp h2' with u | u
    ·exact absurd (z.trans u.symm) ne
    ·rw[z] at ht;exact ky t ht _ u
    ·rw[u];intro q;exact ky t q _ z ht
    ·exact I.dis _ z _ u ne t ht
   ·by_cases hk:(t:Int)∈j8 Ar k
    ·exact⟨k,ai .., hk⟩
    ·obtain⟨k',h1,h2⟩:=I.cov t ht (by rw[b7,hb,jFP g k0 k1,aN hk]; rfl) hn;exact⟨k',ag _ h1,h2⟩
theorem jJ2:∀ m,m<2 ^ (chs w.toNat ms Ar).length->∀ x,CovM w ms Ar m x->∃ y∈wk (chs w.toNat ms Ar) m,∀ k,k∈y↔k∈x:=by
 have o:ChOk (chs w.toNat ms Ar):=qH g;have el:(chs w.toNat ms Ar).length=w.toNat:=kT _ _ _ _;have w0:=g.w0;refine jCL o ?_ ?_
 ·intro x C;refine⟨[],by rw[jB7]; exact aK.mpr rfl,fun k=>⟨fun z=>(by cases z),fun hk=>?_⟩⟩;exfalso;have b:=C.bnd k hk;have hh:=(jAR g b.1 b.2).1;have hb:=(jAN g b.1 b.2).bnd _ hh;have:=C.off k hk _ hh;unfold fullN at this;rw[el,da,ax Aa] at this;cases this
 ·intro m hm hf ih x C;have hl:lowN m<w.toNat:=by have:=jD0 hm hf; rwa [el] at this
  have hstep:=jB6 o hm hf;by_cases hx:∃ k∈x,(lowN m:Int)∈j8 Ar k
  ·obtain⟨k,hk,ht⟩:=hx;have b:=C.bnd k hk;have hd:(j8 Ar k).headD 0=(lowN m:Int):=by
    obtain⟨h1,h2⟩:=jAR g b.1 b.2;have h3:=h2 _ ht;have hb:=(jAN g b.1 b.2).bnd _ h1;have h4:=C.off k hk _ h1;rcases Int.lt_or_eq_of_le h3 with z | z
    ·have:=jGM m ((j8 Ar k).headD 0).toNat Aa;rw[this] at h4;cases h4
    ·exact z
   have fit:maskN (j8 Ar k)&&&m=0:=(jSU g b.1 b.2).mpr (C.off k hk);have hc:((k,maskN (j8 Ar k)):Int×Nat)∈chAt (chs w.toNat ms Ar) m:=(jBX hl).mpr ⟨fit, .inr ⟨k,rfl,b.1,b.2,hd⟩⟩;have memE:∀ j,j∈x.erase k↔j≠k/\j∈x:=fun j=>C.nd.mem_erase_iff;obtain⟨y,hy,hye⟩:=ih _ hc (x.erase k) ⟨C.nd.erase k,fun j hj=>C.bnd j ((memE j).mp hj).2,fun j hj t ht'=>by
     obtain⟨n1,n2⟩:=(memE j).mp hj;have bj:=C.bnd j n2;have bt:=(jAN g bj.1 bj.2).bnd t ht';have:=C.dis j n2 k hk n1 t ht';rw[b7,C.off j n2 t ht',jFP g b.1 b.2,show ((t.toNat:Nat):Int)=t by lia,aN this];rfl,fun j1 h1 j2 h2=>C.dis j1 ((memE j1).mp h1).2 j2 ((memE j2).mp h2).2,fun t ht' hb hn=>by
     rw[b7,h9,jFP g b.1 b.2,eU] at hb;obtain⟨j,hj,hjt⟩:=C.cov t ht' hb.1 hn;exact⟨j,(memE j).mpr ⟨fun z=>hb.2 (z ▸ hjt),hj⟩,hjt⟩⟩
   refine⟨k::y,?_,fun j=>?_⟩
   ·rw[hstep,mem_wJ];exact⟨_,bO hc,y,hy,by dsimp only; rw[aw Aa]⟩
   ·rw[aE,hye,memE];constructor
    ·rintro (z | z)
     ·rw[z]; exact hk
     ·exact z.2
    ·intro z;by_cases hj:j=k
     ·exact .inl hj
     ·exact .inr ⟨hj,z⟩
  ·have hms:(lowN m:Int)∈ms:=bM fun z=>hx (C.cov (lowN m) hl (jET m) z);have fit:2 ^ lowN m&&&m=0:=by
    apply eE;intro i;rw[eg,dF,cL];by_cases hi:lowN m=i
    ·rw[<- hi,jET,dq]
    ·rw[aN hi];rfl
   have hc:((-1,2 ^ lowN m):Int×Nat)∈chAt (chs w.toNat ms Ar) m:=(jBX hl).mpr ⟨fit, .inl ⟨rfl,hms⟩⟩;obtain⟨y,hy,hye⟩:=ih _ hc x ⟨C.nd,C.bnd,fun j hj t ht'=>by
     have bj:=C.bnd j hj;have bt:=(jAN g bj.1 bj.2).bnd t ht';rw[b7,C.off j hj t ht',i6,cL,aN];intro z;refine hx ⟨j,hj,?_⟩;rw[z,show ((t.toNat:Nat):Int)=t by lia];exact ht',C.dis,fun t ht' hb hn=>by
     rw[b7,h9] at hb;exact C.cov t ht' hb.1 hn⟩
   refine⟨y,?_,hye⟩;rw[hstep,mem_wJ];exact⟨_,bO hc,y,hy,by dsimp only; rw[ay Ac]⟩
theorem jQI:∀ m,m<2 ^ (chs w.toNat ms Ar).length->(wk (chs w.toNat ms Ar) m).Pairwise fun y z=>¬ ∀ k,k∈y↔k∈z:=by
 have o:ChOk (chs w.toNat ms Ar):=qH g;have el:(chs w.toNat ms Ar).length=w.toNat:=kT _ _ _ _;refine jCL o ?_ ?_
 ·rw[jB7];exact eV _ _
 ·intro m hm hf ih;have hl:lowN m<w.toNat:=by have:=jD0 hm hf; rwa [el] at this
  rw[jB6 o hm hf];unfold wJ;rw[List.pairwise_flatMap];have at0:∀ c∈chAt (chs w.toNat ms Ar) m,∀ y∈wk (chs w.toNat ms Ar) (m|||c.2),∀ k∈y,(lowN m:Int)∉j8 Ar k:=fun c hc y hy k hk ht=>by
   have C:=jG4 g _ (o.up hm hf hc).2 y hy;have:=C.off k hk _ ht;rw[aR,b7,(o.mem hm hf hc).1,fw] at this;cases this
  constructor
  ·intro p hp;obtain⟨c,hc,rfl⟩:=aQ.mp hp;rw[bh];refine(gW.mp (ih c hc)).imp fun {y z} h=>?_;obtain⟨hy,hz,h⟩:=h;dsimp only;obtain⟨_,hcase⟩:=(jBX hl).mp hc;rcases hcase with ⟨rfl,hms⟩ | ⟨k,rfl,k0,k1,hd⟩
   ·rw[ay (show (-1:Int)<0 by decide),ay (show (-1:Int)<0 by decide)];exact h
   ·rw[aw Aa,aw Aa];intro q;refine h fun j=>?_;have kt:(lowN m:Int)∈j8 Ar k:=by rw[<- hd]; exact(jAR g k0 k1).1
    have ny:k∉y:=fun u=>at0 _ hc y hy k u kt;have nz:k∉z:=fun u=>at0 _ hc z hz k u kt;have qj:=q j;rw[aE,aE] at qj;constructor
    ·intro u;rcases qj.mp (.inr u) with v | v
     ·rw[v] at u; exact absurd u ny
     ·exact v
    ·intro u;rcases qj.mpr (.inr u) with v | v
     ·rw[v] at u; exact absurd u nz
     ·exact v
  ·rw[bh];have pw:(chAt (chs w.toNat ms Ar) m).Pairwise fun a b=>a.1≠b.1:=by
    unfold chAt chs;rw[aj,yK hl];show ((yD ms Ar Ar.length (lowN m)).filter _).Pairwise _;refine la _ ?_;unfold yD;rw[cw];refine⟨by split <;> simp,?_,fun a ha b hb=>?_⟩
    ·rw[bh];refine la _ (List.Pairwise.sublist (dL _ _) ?_);exact(kQ Ar.length).ris.imp fun {a b} h=>by
      show a≠b;lia
    ·obtain⟨k,hk,rfl⟩:=aQ.mp hb;have bk:=(kQ Ar.length).bnd k (bQ (ba.mp hk).1);split at ha
     ·rw[aK] at ha;rw[ha];show (-1:Int)≠k;lia
     ·cases ha
   refine(gW.mp pw).imp fun {c d} h=>?_;obtain⟨hc,hd',ne⟩:=h;intro x hx y hy q;obtain⟨u,hu,rfl⟩:=aQ.mp hx;obtain⟨v,hv,rfl⟩:=aQ.mp hy;dsimp only at hu hv q;obtain⟨_,h1⟩:=(jBX hl).mp hc;obtain⟨_,h2⟩:=(jBX hl).mp hd';have one:∀ (k:Int) (z:Ag),0<=k->k<Ar.length->(j8 Ar k).headD 0=(lowN m:Int)->(lowN m:Int)∈j8 Ar k:=fun k z k0 k1 e=>by rw[<- e]; exact(jAR g k0 k1).1
   rcases h1 with ⟨rfl,_⟩ | ⟨k,rfl,k0,k1,hk⟩ <;> rcases h2 with ⟨rfl,_⟩ | ⟨j,rfl,j0,j1,hj⟩
   ·exact ne rfl
   ·rw[ay (show (-1:Int)<0 by decide),aw Aa] at q;exact at0 _ hc u hu j ((q j).mpr (ai ..)) (one j v j0 j1 hj)
   ·rw[aw Aa,ay (show (-1:Int)<0 by decide)] at q;exact at0 _ hd' v hv k ((q k).mp (ai ..)) (one k v k0 k1 hk)
   ·rw[aw Aa,aw Aa] at q;rcases aE.mp ((q k).mp (ai ..)) with z | z
    ·exact ne z
    ·exact at0 _ hd' v hv k z (one k v k0 k1 hk)
end
structure IsCov (w:Int)(ms:Ag)(Ar:Ae)(c:Ag):Prop where
 ris:Ris Ar.length c
 dis:∀ k∈c,∀ k'∈c,k≠k'->∀ t∈j8 Ar k,t∉j8 Ar k'
 cov:∀ t:Int,0<=t->t<w->t∉ms->∃ k∈c,t∈j8 Ar k
section
variable {w:Int}(g:Good 16 32 w ms Ar)
include g
theorem qD {c:Ag} :c∈cvs w ms Ar↔IsCov w ms Ar c:=by
 have z0:0<2 ^ (chs w.toNat ms Ar).length:=dA _;have w0:=g.w0;unfold cvs;rw[aQ];constructor
 ·rintro ⟨x,hx,rfl⟩;have C:=jG4 g 0 z0 x hx;have me:∀ k,k∈srt x↔k∈x:=fun k=>(jAA x).mem_iff;refine⟨⟨?_,fun k hk=>C.bnd k ((me k).mp hk)⟩,fun k hk k' hk'=>C.dis k ((me k).mp hk) k' ((me k').mp hk'),fun t t0 t1 hn=>?_⟩
  ·exact(iT (jN9 x) ((jAA x).nodup_iff.mpr C.nd)).imp fun {a b} h=>by lia
  ·obtain⟨k,hk,hkt⟩:=C.cov t.toNat Aa (dF _) (by rw[show ((t.toNat:Nat):Int)=t by lia]; exact hn);exact⟨k,(me k).mpr hk,by rwa [show ((t.toNat:Nat):Int)=t by lia] at hkt⟩
 ·intro C;obtain⟨y,hy,hye⟩:=jJ2 g 0 z0 c ⟨C.ris.ris.imp fun {a b} h=>by lia,C.ris.bnd,fun k hk t ht=>dF _,C.dis,fun t ht _ hn=>C.cov t Aa Aa hn⟩;refine⟨y,hy,?_⟩;have ny:=(jG4 g 0 z0 y hy).nd;have nc:c.Nodup:=C.ris.ris.imp fun {a b} h=>by lia
  have pm:c.Perm y:=(dw nc ny).mpr fun k=>(hye k).symm;exact(jC9 (C.ris.ris.imp fun {a b} h=>by lia) pm).symm
theorem jIG:(cvs w ms Ar).Nodup:=by
 have z0:0<2 ^ (chs w.toNat ms Ar).length:=dA _;unfold cvs;refine bh.mpr ((jQI g 0 z0).imp fun {y z} h e=>h fun k=>?_);rw[<- (jAA y).mem_iff,e,(jAA z).mem_iff]
end
theorem jK1 (w:Int)(ms:Ag)(Ar:Ae):(cvs w ms Ar).length=(wk (chs w.toNat ms Ar) 0).length:=af ..
theorem jGQ {α β:Type} [DecidableEq β](f:α->β):∀ {l:List α}{m:List β},l.Nodup->(∀ a∈l,f a∈m)->(∀ a∈l,∀ b∈l,f a=f b->a=b)->l.length<=m.length
 | [],m,_,_,_=>bo _
 | a::l,m,nd,h,inj=>by
  have ha:=h a (ai ..);obtain⟨n1,n2⟩:=cf.mp nd;have:=jGQ f (m:=m.erase (f a)) n2 (fun b hb=>(List.mem_erase_of_ne fun e=>n1 (inj _ (ag _ hb) _ (ai ..) e ▸ hb)).mpr (h b (ag _ hb))) fun b hb c hc=>inj b (ag _ hb) c (ag _ hc);rw[List.length_erase_of_mem ha] at this;have:=List.length_pos_of_mem ha;rw[aV];lia
theorem mem_nmd {ts lot:Ag}{p:Int} :p∈nmd ts lot↔∃ t∈lot,t∈ts/\p=((ts.idxOf t:Nat):Int):=by
 unfold nmd;rw[(jAA _).mem_iff];unfold plcs;rw[aQ];constructor
 ·rintro ⟨t,ht,rfl⟩;obtain⟨h1,h2⟩:=ba.mp ht;exact⟨t,h1,aI h2,rfl⟩
 ·rintro ⟨t,h1,h2,rfl⟩;exact⟨t,ba.mpr ⟨h1,ax h2⟩,rfl⟩
theorem jA3 {ts:Ag}{Ar:Ae}{ks:Ag}{j:Int}(h0:0<=j)(h1:j<ks.length):j8 (pick ts Ar ks) j=nmd ts (j8 Ar (ks.getD j.toNat 0)):=by
 have hj:j.toNat<ks.length:=Aa;unfold pick;show ((ks.map _).getD j.toNat ([],0)).1=_;rw[aj,aS,aj,aq hj];rfl
theorem jCI {ts:Ag}{a b:Int}(ha:a∈ts)(hb:b∈ts)(h:((ts.idxOf a:Nat):Int)=((ts.idxOf b:Nat):Int)):a=b:=by
 have e:ts.idxOf a=ts.idxOf b:=Aa;have h1:=(jA6 ha).1;rw[e,(jA6 hb).1] at h1;exact(bw h1).symm
theorem jO9 {ts lot:Ag}(h:ts.Pairwise (· < ·))(hl:lot.Pairwise (· < ·)):Ris ts.length (nmd ts lot):=by
 rw[jO8 h hl];refine⟨jKP h hl,fun z hz=>?_⟩;unfold plcs at hz;obtain⟨t,ht,rfl⟩:=aQ.mp hz;have:=bP.mpr (aI (ba.mp ht).2);lia
def lamOf (s:Stmt):Arguments×Expr×Scope×Pos:=match jD s with
 | [.Return (some (.Call _ [_,_, .Lambda a b sc p] _ _)) _]=>(a,b,sc,p)
 | _=>(y0 s, .Constant .none 0 ⟨0,0,0,0⟩,j7 s,⟨0,0,0,0⟩)
abbrev lamA:Arguments:=(lamOf qT).1
abbrev lamB:Expr:=(lamOf qT).2.1
abbrev lamS:Scope:=(lamOf qT).2.2.1
abbrev lamP:Pos:=(lamOf qT).2.2.2
abbrev nLam:Am:=["behind"]
theorem scLam:NScope nLam ["behind"] [] lamS:=⟨rfl,rfl,rfl,Ab,rfl,Ab,Ab,fun x h=>by
  have hl:∀ y∈lamS.names,y.2≠ .free:=Ab;exact absurd rfl (hl _ (b9 h)),Ab⟩
def RWay (ch:Ch):RepT:=fun m _ v=>v=natV (wk ch m).length
theorem RWay.ok (ch:Ch):RepOk (RWay ch):=fun _ _=>⟨fun _ _ _ _ _ _ h=>h,fun _ _ _ h=>h⟩
theorem jVU (l:List (Int×Af)):(wJ l).length=(l.map fun p=>p.2.length).sum:=by
 unfold wJ;rw[List.length_flatMap];congr 1;refine cM fun p _=>?_;rw[af]
abbrev qLam:Str:= "ways_of.<locals>.<lambda>"
def jRK (T:Txt mg): { t:TE // JE (cxN P w K mg Aq nLam qLam lamS a (.ref c) cl A Ap s H0) lamB t} :=⟨_,(jG (jF9 rfl) gl_n T.sum Ab (j3 (kG (m:=[none,none]) (Nc:=["number","ways"]) rfl (yN (jv 0 rfl qA)) rfl Ab Ab (fun y hy hf=>absurd hf (by revert y; decide+kernel)) (jI (N:=nLam) rfl rfl Ab) (fun cl C fp s H=>jD3 (i:=0) (j:=1) rfl (show (["number","ways"]:Am).Nodup by decide+kernel) rfl rfl Ab Ab) (fun cl C fp s H=>kJ) (fun cl C fp s H=>(jv 1 rfl jP)) y9) j6 jH) jH)⟩
def zhW (a c:Addr):Hp->Prop:=fun H=>H a=some (.ext (nlP qLam lamA lamB lamS [] a c))/\H c=some (.ext (ncP qLam c))
theorem zhW.ok (a c:Addr):HpOk (zhW a c):=⟨fun H H' D kvs hD k h=>⟨k _ _ h.1 fun z=>(by rw[<- z,h.1] at hD; cases hD),k _ _ h.2 fun z=>(by rw[<- z,h.2] at hD; cases hD)⟩,fun H H' e h=>⟨e _ _ h.1,e _ _ h.2⟩⟩
theorem jWX {ch:Ch}(o:ChOk ch)(T:Txt mg):Callee P w K mg Aq ZT (zhW a c) 1 a (jFL ch (RWay ch)):=by
 refine Callee.imp (jPN (fv:=[]) scLam (fun vs H Q E h=>?_) (fun pm ctv us hl=>?_) fun A Ap s H vs Q E hr h=>?_) fun s H _=>⟨⟨fun x y c h=>(by cases h),fun x c h=>(by cases h)⟩,rfl,fun i x v h=>(by cases h)⟩
 ·obtain⟨_,_,_,rfl,_⟩:=h;rfl
 ·match us,hl with
  | [_],_=>rfl
 ·obtain⟨l,us,m,rfl,hl,hm,hf,av,q⟩:=h;refine⟨_,(jRK T).2.h,?_⟩;have vl:us.length<=33:=by
   rw[av.len];have hlow:=jD0 hm hf;refine bi (bU _ _) ?_;rw[aj,aq hlow];exact o.len _ _ (aq hlow)
  refine⟨_,rfl,l,rfl,⟨_,SqL.of hl⟩,jAJ (xs:=us) (fun σ=>∃ v1 v2,σ=[v1,v2]) (mapZ (chAt ch m) fun c=>natV (wk ch (m|||c.2)).length) (mapZ.ok _ _) hl (by rw[aH]; lia) ⟨_,_,rfl⟩ ?_ ?_⟩
  ·rintro j x σ' H' zs hx ⟨v1,v2,rfl⟩ e hz S1 S2 yes no;obtain⟨c,hc,p,u,rfl,hp,hR⟩:=av.get' hx;have hR:u=natV (wk ch (m|||c.2)).length:=hR;subst hR;refine⟨p,_,rfl,SqT.of (e _ _ hp),rfl,_,_,rfl,_,_,rfl,rfl,?_⟩;dsimp only [yB];rw[ay rfl];exact⟨_,rfl,yes _ _ _ ⟨_,_,rfl⟩ (Ext.refl _) (hz.yes hc)⟩
  ·rintro D H' zs hD e nD hz;have hz:=hz.all (by rw[av.len]; exact aA _);have hz2:zs=((chAt ch m).map fun c=>((wk ch (m|||c.2)).length:Int)).map V.int:=by rw[hz,bH]; rfl
   rw[hz2] at hD;refine⟨D,_,rfl,SqL.of hD,q _ _ ?_ e⟩;show V.int _=natV _;rw[jB6 o hm hf,jVU,bH];congr 1;generalize chAt ch m=cs
   induction cs with
   | nil=>rfl
   | cons a r ih=>
    rw[bf,dG,bf,dG,ih];push_cast;rfl
abbrev nWays:Am:=["choices"]
theorem scWays:FnScope nWays ["choices"] (j7 qT):= {}
abbrev TabW (H:Hp)(tb:Addr):Prop:=TabOk H tb lamP qLam
def jJ5:Sp:=spEx (fun x:Addr×Addr×Ch=>ChOk x.2.2) fun x=>jND x.1 (zhW x.1 x.2.1) x.2.2 (RWay x.2.2)
def jKG (tb:Addr):Sp:=fun vs H Q _=>∃ (L:Addr) (ch:Ch),vs=[.ref L]/\ChAt H L ch/\ChOk ch/\TabW H tb/\∀ (r:Addr) (ns:List Nat) (H':Hp),GotAt H' r ch (RWay ch) ns->ns.Pairwise (· > ·)->MetOk ch ns->ExtT tb H H'->TabW H' tb->H r=none->Q (.ref r) H'
def waysA (T:Txt mg)(CH:PySem.W.CodeHd Aq c0 tb)(BM:qR Aq mg)(CG:Can P w K mg Aq "gathered" 4 fG fdG ["choices","at_end","join"] jJ5)(hr:Room 4 (XOf nWays "ways_of" qT P w K mg Aq f (.ref c0) A Ap s H0 E).A): { t:TS // JSs (XOf nWays "ways_of" qT P w K mg Aq f (.ref c0) A Ap s H0 E) (jD qT) t} :=
 have nd:=scWays.nd
 ⟨_,(jC (jL (CG.je hr gD (j3 (jv 0 rfl vL) (j3 je_int (j3 (jP4 rfl CH BM (fun y hy hf=>absurd hf (by revert y; decide+kernel)) rfl) j6 jSP) kO) j4) j4)))⟩
theorem jUL {fd:FuncData}(F:FunC K "ways_of" "ways_of" qT f fd c0)(T:Txt mg)(CH:PySem.W.CodeHd Aq c0 tb)(BM:qR Aq mg)(CG:Can P w K mg Aq "gathered" 4 fG fdG ["choices","at_end","join"] jJ5):FnOk P w K mg Aq CX0 5 f fd ["choices"] (jKG tb):=by
 refine F.ok scWays (fun vs H Q E h=>?_) (fun A Ap s H vs Q E hr h=>?_)
 ·obtain⟨_,_,rfl,_⟩:=h;rfl
 ·obtain⟨L,ch,rfl,hL,o,tab,q⟩:=h;refine⟨_,(waysA T CH BM CG hr).2.h,?_⟩;refine⟨_,rfl,tab,fun a c H1 k1 k2 k3 e1 na=>?_⟩;have hL1:ChAt H1 L ch:=hL.keep (fun b xs h=>e1.at tab h) fun b xs h=>e1.at tab h;refine⟨(a,c,ch),o,L,_,rfl,hL1,?_,⟨k1,k2⟩,fun r ns H2 got srt mt e2 n2=>?_⟩
  ·show V.int 1=natV _;rw[jB7];rfl
  ·refine q r ns H2 got srt mt (fun b o hb hn=>e2 _ _ (e1 b o hb hn)) (.inr ⟨c,e2 _ _ k3,e2 _ _ k2⟩) ?_;cases z:H r with
   | none=>rfl
   | some o=>
    by_cases hr:r=tb
    ·rw[hr,k3] at n2;cases n2
    ·rw[e1 _ _ z hr] at n2;cases n2
abbrev nMany:Am:=["box"]
theorem scMany:FnScope nMany ["box"] (j7 sMany):= {}
def qK (tb:Addr):Sp:=fun vs H Q _=>∃ (b:Addr) (w:Int) (ms:Ag) (Ar:Ae),vs=[.ref b]/\BoxAt H b w ms Ar/\Good 16 32 w ms Ar/\TabW H tb/\∀ H',ExtT tb H H'->TabW H' tb->Q (natV (wk (chs w.toNat ms Ar) 0).length) H'
def manyA (T:Txt mg)(CC:Can P w K mg Aq "choices_of" 2 fC fdC ["box"] jAP)(CW:Can P w K mg Aq "ways_of" 5 fW fdW ["choices"] (jKG tb))(hr:Room 5 (XOf nMany "many" sMany P w K mg Aq f lM A Ap s H0 E).A): { t:TS // JSs (XOf nMany "many" sMany P w K mg Aq f lM A Ap s H0 E) (jD sMany) t} :=
 have nd:=scMany.nd
 ⟨_,(jC (jL (jGT (hu_of hr) (CW.je hr gD (j3 (CC.je (hr.mono Ac) gD (j3 (jv 0 rfl vL) j6 j4) j4) j6 jE) jE) je_int jF)))⟩
theorem jUO {fd:FuncData}(F:Fun K "many" "many" sMany f fd)(T:Txt mg)(CC:Can P w K mg Aq "choices_of" 2 fC fdC ["box"] jAP)(CW:Can P w K mg Aq "ways_of" 5 fW fdW ["choices"] (jKG tb)):FnOk P w K mg Aq CX0 6 f fd ["box"] (qK tb):=by
 refine F.ok scMany (fun vs H Q E h=>?_) (fun lM A Ap s H vs Q E hr h=>?_)
 ·obtain⟨_,_,_,_,rfl,_⟩:=h;rfl
 ·obtain⟨b,wi,ms,Ar,rfl,hB,g,tab,q⟩:=h;refine⟨_,(manyA T CC CW hr).2.h,?_⟩;refine⟨_,rfl,b,wi,ms,Ar,rfl,hB,g,fun L H1 hL1 e1=>?_⟩;refine⟨L,_,rfl,hL1,qH g,tab.ext e1,fun r ns H2 got srt mt e2 t2 n2=>?_⟩;obtain⟨u,dg,ru⟩:=got0 got srt mt;have ru:u=natV _:=ru;subst ru;exact⟨r,_,rfl,dg,q H2 ((ExtT.of e1).trans e2) t2⟩
section
variable {fH:Addr}{fdH:FuncData}
abbrev jJI:Am:=["one","other"]
theorem scCommon:FnScope jJI ["one","other"] (j7 jBC):= {}
def jE0:Sp:=fun vs H Q _=>∃ (q t:Addr) (lot ts:Ag),vs=[.ref q, .ref t]/\H q=some (.tup (lot.map V.int))/\H t=some (.tup (ts.map V.int))/\lot.length<=1000/\∀ H',Ext H H'->Q (.bl (lot.any fun x=>decide (x∈ts))) H'
def jVJ (T:Txt mg): { t:TS // JSs (XOf jJI "have_common" jBC P w K mg Aq f lM A Ap s H0 E) (jD jBC) t} :=
 have nd:=scCommon.nd
 ⟨_,(jC (jL (jG (jFA rfl) gD T.any Ab (j3 (kG (m:=[none,some 1]) (Nc:=["thing","other"]) rfl (qG (jv 0 rfl vL)) rfl Ab Ab (jK (psc:=j7 jBC)) (jI (N:=jJI) rfl rfl Ab) (fun cl C fp s H=>jJ (i:=0) (show (["thing","other"]:Am).Nodup by decide+kernel) rfl yC) (fun cl C fp s H=>kJ) (fun cl C fp s H=>(yO jEM (jv 0 rfl jP) (jv 1 rfl kN) jGH)) y9) j6 jH) jH)))⟩
theorem jO5 {fd:FuncData}(F:Fun K "have_common" "have_common" jBC f fd)(T:Txt mg):FnOk P w K mg Aq CX0 1 f fd ["one","other"] jE0:=by
 refine F.ok scCommon (fun vs H Q E h=>?_) (fun lM A Ap s H vs Q E hr h=>?_)
 ·obtain⟨_,_,_,_,rfl,_⟩:=h;rfl
 ·obtain⟨q,t,lot,ts,rfl,hq,ht,hl,k⟩:=h;refine⟨_,(jVJ T).2.h,?_⟩;refine⟨_,rfl,q,rfl,⟨_,SqT.of hq⟩,jPG (tp:=true) hq ht hl rfl fun D H1 k1 e1 n1=>?_⟩;refine⟨D,_,rfl,SqL.of k1,?_⟩;rw[jXQ];exact k H1 e1
abbrev jGI:Am:=["box","lot"]
theorem scNarrow:FnScope jGI ["box","lot"] (j7 jAX):= {}
def lkP (Ar:Ae)(ts:Ag):Ag:=(upto Ar.length).filter fun k=>(j8 Ar k).any fun t=>decide (t∈ts)
def jDZ (tb:Addr):Sp:=fun vs H Q _=>∃ (b a:Addr) (w:Int) (ms:Ag) (Ar:Ae) (ts:Ag),vs=[.ref b, .ref a]/\BoxAt H b w ms Ar/\Good 16 32 w ms Ar/\H a=some (.tup (ts.map V.int))/\Ris w ts/\TabP H tb/\
 ∀ r H',BoxAt H' r ts.length (nmd ts ms) (pick ts Ar (lkP Ar ts))->ExtT tb H H'->TabP H' tb->Q (.ref r) H'
def jUY (T:Txt mg)(CL:Can P w K mg Aq "is_lot" 3 fL fdL ["thing","many"] (spB2 lotB))(CK:Can P w K mg Aq "picked" 2 fK fdK ["box","things","pieces"] (jBT tb))(CH:Can P w K mg Aq "have_common" 1 fH fdH ["one","other"] jE0)(hr:Room 3 (XOf jGI "narrowed" jAX P w K mg Aq f lM A Ap s H0 E).A): { t:TS // JSs (XOf jGI "narrowed" jAX P w K mg Aq f lM A Ap s H0 E) (jD jAX) t} :=
 have nd:=scNarrow.nd
 ⟨_,(jB (y8 (qF (qE (CL.je (hr.mono Ac) gD (j3 (jv 1 rfl vC) (j3 (jM jQ (jv 0 rfl vL) (je_int) jF) j6 jR) j4) j4) yM)) (jC (jL8)) kB)
   (jC (jL (CK.je (hr.mono Ac) gD (j3 (jv 0 rfl vL) (j3 (jv 1 rfl vC) (j3 (kG (m:=[none,none,some 1]) (Nc:=["number","piece","lot"]) rfl (jJR gD T.enumerate (j3 (jM jQ (jv 0 rfl vL) (je_int) jF) j6 jR) jR) rfl Ab Ab (jK (psc:=j7 jAX)) (jI (N:=jGI) rfl rfl Ab) (fun cl C fp s H=>jD3 (i:=0) (j:=1) rfl (show (["number","piece","lot"]:Am).Nodup by decide+kernel) rfl rfl Ab Ab) (fun cl C fp s H=>jEZ (qE (CH.je (hr.mono Ac) gl_b (j3 (jM kY (jv 1 rfl jP) (je_int) jF) (j3 (jv 2 rfl kN) j6 j4) jR) jR) yM)) (fun cl C fp s H=>(jv 0 rfl jP)) kP) j6 jH) j4) j4) j4))))⟩
theorem jJL {Ar:Ae}{ts:Ag} :∀ k∈lkP Ar ts,0<=k/\k<Ar.length:=fun k hk=>(kQ Ar.length).bnd k (ba.mp hk).1
theorem jOQ (Ar:Ae)(ts:Ag):(lkP Ar ts).length<=Ar.length:=by
 have:=bU (fun k=>(j8 Ar k).any fun t=>decide (t∈ts)) (upto Ar.length);rw[yH] at this;exact this
theorem jO2 {fd:FuncData}(F:Fun K "narrowed" "narrowed" jAX f fd)(T:Txt mg)(CL:Can P w K mg Aq "is_lot" 3 fL fdL ["thing","many"] (spB2 lotB))(CK:Can P w K mg Aq "picked" 2 fK fdK ["box","things","pieces"] (jBT tb))(CH:Can P w K mg Aq "have_common" 1 fH fdH ["one","other"] jE0):FnOk P w K mg Aq CX0 4 f fd ["box","lot"] (jDZ tb):=by
 refine F.ok scNarrow (fun vs H Q E h=>?_) (fun lM A Ap s H vs Q E hr h=>?_)
 ·obtain⟨_,_,_,_,_,_,rfl,_⟩:=h;rfl
 ·obtain⟨b,a,w,ms,Ar,ts,rfl,hB,g,ha,rk,tab,q⟩:=h;refine⟨_,(jUY T CL CK CH hr).2.h,?_⟩;obtain⟨qm,qp,ps,b1,b2,b3,b4⟩:=id hB.ex;have pl:=b4.len;have w0:=g.w0;have w1:=g.w1;have gpl:=g.pl;have kris:=rk.ris;have kbnd:=rk.bnd;have tl16:=jCF rk.ris rk.bnd w1;refine⟨_,rfl,_,rfl,b,_,0,_,rfl,rfl,SqT.of b1,rfl, .ref a,_,_,rfl,jLQ ha (by rw[af]; lia) (Ats.ints ts),fun H1 e1=>⟨_,rfl,?_⟩⟩;rw[jEV rk.ris rk.bnd];refine iteF ?_;have ha1:=e1 _ _ ha;refine⟨_,rfl,_,rfl,_,rfl,b,_,2,_,rfl,rfl,SqT.of (e1 _ _ b1),rfl,true,qp,rfl,⟨_,SqT.of (e1 _ _ b3)⟩,jIK (xs:=ps) (by rw[pl,aH]; lia) (fun D j σ' H' zs=>(∃ v v',σ'=[v,v',some (.ref a)])/\Ext H1 H'/\H' D=some (.lst zs)/\H1 D=none/\zs=(((upto Ar.length).take j).filter fun k=>(j8 Ar k).any fun x=>decide (x∈ts)).map V.int) ?_ ?_ ?_ ?_⟩
  ·intro D hD;exact⟨⟨_,_,rfl⟩,(Ext.refl _).new hD _,j5,hD,rfl⟩
  ·rintro D j σ' H' zs hD ⟨_,e,h2,_,rfl⟩;refine⟨SqT.of (e _ _ (e1 _ _ b3)),h2,?_⟩;rw[af];exact bi (bU _ _) (bB _ _)
  ·rintro D j σ' H' zs x X hD hx hX ⟨⟨v,v',rfl⟩,e,h2,hn,rfl⟩;have hj:j<Ar.length:=by
    rw[<- pl];exact(ao.mp hx).1
   obtain⟨x',hx',pa,pq,rfl,c1,c2⟩:=b4.get hj;rw[hx] at hx';cases hx';have e7:Ext H' (L2.upd H' X (.tup [.int (j:Int), .ref pa])):=(Ext.refl _).new hX _;have E7:=(e1.trans e).trans e7;refine⟨X,_,rfl,SqT.of j5,rfl,_,_,rfl,_,_,rfl,rfl,?_⟩;dsimp only [kL];have ll:(Ar.getD j ([],0)).1.length<=16:=by
    have:=jFI g (k:=j) Aa Aa;unfold j8 at this;rw[aR] at this;exact this
   refine⟨_,rfl,pa,_,0,_,rfl,rfl,SqT.of (E7 _ _ c1),rfl,_,rfl,pq,a,_,ts,rfl,E7 _ _ c2,e7 _ _ (e _ _ ha1),Aa,fun H8 e8=>⟨_,rfl,?_⟩⟩;have h8:=e8 _ _ (e7 _ _ h2);have et:j8 Ar (j:Int)=(Ar.getD j ([],0)).1:=by unfold j8; rw[aR]
   have E8:=(e.trans e7).trans e8;rw[<- et,jPQ (jCN hj)];refine ite2 (fun hz=>?_) (fun hz=>?_)
   ·refine⟨_,rfl,h8,⟨_,_,rfl⟩,E8.updNew hn _,j5,hn,?_⟩;rw[ay hz,aU];rfl
   ·refine⟨⟨_,_,rfl⟩,E8,h8,hn,?_⟩;rw[aw hz,bg]
  ·rintro D σ' H7 zs hD ⟨_,e7,h7,n7,rfl⟩;have hap:((upto Ar.length).take ps.length).filter (fun k=>(j8 Ar k).any fun x=>decide (x∈ts))=lkP Ar ts:=by
    rw[pl,bX (by rw[yH]; exact aA _)];rfl
   rw[hap] at h7;have E7:=e1.trans e7;have tln:=jCF kris kbnd w1;have aln:=jOQ Ar ts;refine⟨b,a,D,true,false,w,ms,Ar,ts,lkP Ar ts,rfl,hB.mono E7.tups,E7 _ _ ha,h7,kris.imp fun h=>by lia,Aa,?_,pc_lt g,jJL,Aa,tab.ext E7,fun r1 H8 B8 e8 t8=>?_⟩
   ·have:=jCF g.mr.ris g.mr.bnd w1;lia
   exact q r1 H8 B8 ((ExtT.of E7).trans e8) t8
theorem jF1 {w mp:Int}{ms:Ag}{Ar:Ae}{ts:Ag}(g:Good 16 mp w ms Ar)(rk:Ris w ts):Good 16 mp ts.length (nmd ts ms) (pick ts Ar (lkP Ar ts)):=by
 have tl16:=jCF rk.ris rk.bnd g.w1;have gpl:=g.pl;have ll:=jOQ Ar ts;refine⟨Aa,Aa,jO9 rk.ris g.mr.ris,?_,fun pc hpc=>?_⟩
 ·unfold pick;rw[af];lia
 ·unfold pick at hpc;obtain⟨k,hk,rfl⟩:=aQ.mp hpc;have kb:=jJL k hk;have gp:=g.at (k:=k.toNat) Aa;have r:=jO9 rk.ris (lot:=j8 Ar k) gp.lot.ris;refine⟨⟨r.ris,r.bnd,fun z=>?_⟩,gp.lo,gp.hi⟩;have hany:=(ba.mp hk).2;obtain⟨x,hx,hx2⟩:=dR.mp hany;have:(plcs ts (j8 Ar k)).length=0:=by
   rw[<- jO8 (lot:=j8 Ar k) rk.ris gp.lot.ris];exact bY List.length z
  unfold plcs at this;rw[af] at this;have mem:x∈(j8 Ar k).filter fun t=>decide (t∈ts):=ba.mpr ⟨hx,hx2⟩;rw[cO this] at mem;cases mem
end
structure Tb2 (H:Hp)(tb1 tb2:Addr):Prop where
 p:TabP H tb1
 w:TabW H tb2
 ne:tb1≠tb2
def Ex2 (tb1 tb2:Addr)(H H':Hp):Prop:=∀ b o,H b=some o->b≠tb1->b≠tb2->H' b=some o
theorem TabOk.extO {H H':Hp}{T U:Addr}{pos:Pos}{q:Str}(t:TabOk H T pos q)(ne:T≠U)(u:∀ c,H c=some (.ext (ncP q c))->c≠U)(e:ExtT U H H'):TabOk H' T pos q:=by
 rcases t with h | ⟨c,h,h2⟩
 ·exact .inl (e _ _ h ne)
 ·exact .inr ⟨c,e _ _ h ne,e _ _ h2 (u c h2)⟩
theorem Tb2.ext {H H':Hp}{tb1 tb2:Addr}(t:Tb2 H tb1 tb2)(e:Ext H H'):Tb2 H' tb1 tb2:=⟨t.p.ext e,t.w.ext e,t.ne⟩
theorem Tb2.extP {H H':Hp}{tb1 tb2:Addr}(t:Tb2 H tb1 tb2)(e:ExtT tb1 H H')(p:TabP H' tb1):Tb2 H' tb1 tb2:=⟨p,TabOk.extO t.w t.ne.symm (fun c h=>t.p.ne h (by intro _ z; cases z)) e,t.ne⟩
theorem Tb2.extW {H H':Hp}{tb1 tb2:Addr}(t:Tb2 H tb1 tb2)(e:ExtT tb2 H H')(p:TabW H' tb2):Tb2 H' tb1 tb2:=⟨TabOk.extO t.p t.ne (fun c h=>t.w.ne h (by intro _ z; cases z)) e,p,t.ne⟩
theorem Ex2.ofP {H H':Hp}{tb1 tb2:Addr}(e:ExtT tb1 H H'):Ex2 tb1 tb2 H H':=fun b o h n _=>e b o h n
theorem Ex2.ofW {H H':Hp}{tb1 tb2:Addr}(e:ExtT tb2 H H'):Ex2 tb1 tb2 H H':=fun b o h _ n=>e b o h n
theorem Ex2.trans {H H1 H2:Hp}{tb1 tb2:Addr}(a:Ex2 tb1 tb2 H H1)(b:Ex2 tb1 tb2 H1 H2):Ex2 tb1 tb2 H H2:=fun c o h n m=>b c o (a c o h n m) n m
theorem Ex2.at {H H':Hp}{tb1 tb2:Addr}(e:Ex2 tb1 tb2 H H')(t:Tb2 H tb1 tb2){b:Addr}{o:HO}(h:H b=some o)(ho:∀ ps,o≠ .tbl ps:=by intro _ z; cases z):H' b=some o:=e b o h (t.p.ne h ho) (t.w.ne h ho)
theorem Ex2.tups {H H':Hp}{tb1 tb2:Addr}(e:Ex2 tb1 tb2 H H')(t:Tb2 H tb1 tb2):Tups H H':=fun b xs h=>e.at t h
abbrev nBar:Am:=["box","lot"]
theorem scBar:FnScope nBar ["box","lot"] (j7 sBar):= {}
def wkN (ms:Ag)(Ar:Ae)(ts:Ag):Af:=wk (chs ts.length (nmd ts ms) (pick ts Ar (lkP Ar ts))) 0
def spBar (tb1 tb2:Addr):Sp:=fun vs H Q _=>∃ (b a:Addr) (w:Int) (ms:Ag) (Ar:Ae) (ts:Ag),vs=[.ref b, .ref a]/\BoxAt H b w ms Ar/\Good 16 32 w ms Ar/\H a=some (.tup (ts.map V.int))/\Ris w ts/\Tb2 H tb1 tb2/\
 ∀ H',Ex2 tb1 tb2 H H'->Tb2 H' tb1 tb2->Q (.bl (decide (wkN ms Ar ts=[]))) H'
def barA (CN:Can P w K mg Aq "narrowed" 4 fN fdN ["box","lot"] (jDZ tb1))(CM:Can P w K mg Aq "many" 6 fM fdM ["box"] (qK tb2))(hr:Room 6 (XOf nBar "is_bar" sBar P w K mg Aq f lM A Ap s H0 E).A): { t:TS // JSs (XOf nBar "is_bar" sBar P w K mg Aq f lM A Ap s H0 E) (jD sBar) t} :=
 have nd:=scBar.nd
 ⟨_,(jC (jL (yO qU (CM.je hr gD (j3 (CN.je (hr.mono Ac) gD (j3 (jv 0 rfl vL) (j3 (jv 1 rfl vL) j6 j4) j4) j4) j6 jE) jE) (je_int) (jT _))))⟩
theorem jX0 {fd:FuncData}(F:Fun K "is_bar" "is_bar" sBar f fd)(CN:Can P w K mg Aq "narrowed" 4 fN fdN ["box","lot"] (jDZ tb1))(CM:Can P w K mg Aq "many" 6 fM fdM ["box"] (qK tb2)):FnOk P w K mg Aq CX0 7 f fd ["box","lot"] (spBar tb1 tb2):=by
 refine F.ok scBar (fun vs H Q E h=>?_) (fun lM A Ap s H vs Q E hr h=>?_)
 ·obtain⟨_,_,_,_,_,_,rfl,_⟩:=h;rfl
 ·obtain⟨b,a,w,ms,Ar,ts,rfl,hB,g,ha,rk,tab,q⟩:=h;refine⟨_,(barA CN CM hr).2.h,?_⟩;refine⟨_,rfl,_,rfl,b,a,w,ms,Ar,ts,rfl,hB,g,ha,rk,tab.p,fun r H1 B1 e1 t1=>?_⟩;have T1:=tab.extP e1 t1;refine⟨r,_,_,_,rfl,B1,jF1 g rk,T1.w,fun H2 e2 t2=>?_⟩;refine⟨rfl,?_⟩;have ed:decide (natV (wk (chs ((ts.length:Int)).toNat (nmd ts ms) (pick ts Ar (lkP Ar ts))) 0).length=V.int 0)=decide (wkN ms Ar ts=[]):=by
   rw[aR];refine jg.mpr ⟨fun z=>?_,fun z=>?_⟩
   ·have:((wkN ms Ar ts).length:Int)=0:=V.int.inj z;exact cO Aa
   ·show natV (wkN ms Ar ts).length=_;rw[z];rfl
  rw[ed];exact q H2 ((Ex2.ofP e1).trans (Ex2.ofW e2)) (T1.extW e2 t2)
def btsN (n m:Nat):Ag:=((List.range n).filter fun t=>m.testBit t).map fun (t:Nat)=>(t:Int)
theorem jDJ (p:Nat->Bool):∀ (d b:Nat),(∀ t,b<=t->p t=false)->(List.range (b+d)).filter p=(List.range b).filter p
 | 0,_,_=>rfl
 | d+1,b,h=>by
  rw[show b+(d+1)=(b+d)+1 by lia,ie,bV,jDJ p d b h,cK,aw (by rw[h _ Aa]; exact az),ka,bg]
theorem jS8 {m a b:Nat}(ha:m<2 ^ a)(hb:m<2 ^ b):btsN a m=btsN b m:=by
 have f:∀ c,m<2 ^ c->∀ t,c<=t->m.testBit t=false:=fun c hc t ht=>gL (aX hc (ci Ac ht));unfold btsN;congr 1;rcases Nat.le_total a b with h | h
 ·obtain⟨d,rfl⟩:∃ d,b=a+d:=⟨b - a,Aa⟩;exact(jDJ _ d a (f a ha)).symm
 ·obtain⟨d,rfl⟩:∃ d,a=b+d:=⟨a - b,Aa⟩;exact jDJ _ d b (f b hb)
theorem jVM (m:Nat):m<2 ^ Builtin.Int.intBits (m:Int):=by
 unfold Builtin.Int.intBits;by_cases h:m=0
 ·subst h;decide
 ·have:(((m:Nat):Int)==0)=false:=cm.mpr Aa;rw[this,lG];exact Nat.lt_log2_self
theorem jVN {m n:Nat}(h:m<2 ^ n):Builtin.Int.intBits (m:Int)<=n:=by
 unfold Builtin.Int.intBits;by_cases h0:m=0
 ·subst h0;exact bo _
 ·have:(((m:Nat):Int)==0)=false:=cm.mpr Aa;rw[this,lG];exact(Nat.log2_lt h0).mpr h
theorem jSA (m t:Nat):decide (V.int (Builtin.bitAnd ((m:Int) / 2 ^ ((t:Nat):Int).toNat) 1)=V.int 1)=m.testBit t:=by
 have e:(m:Int) / 2 ^ ((t:Nat):Int).toNat=((m / 2 ^ t:Nat):Int):=by
  rw[aR];push_cast;rfl
 rw[e,show Builtin.bitAnd ((m / 2 ^ t:Nat):Int) 1=((m / 2 ^ t&&&1:Nat):Int) from jG1 _ 1,lF,gN,bZ,br,br];constructor
 ·intro h;have:=V.int.inj h;lia
 ·intro h;rw[h];rfl
theorem jLO (n m:Nat):Ris (n:Int) (btsN n m):=by
 unfold btsN;refine⟨bh.mpr ((gM.filter _).imp fun h=>by lia),fun z hz=>?_⟩;obtain⟨t,ht,rfl⟩:=aQ.mp hz;have:=bF.mp (ba.mp ht).1;lia
abbrev jOE:Am:=["mask"]
theorem scLotOf:FnScope jOE ["mask"] (j7 jDS):= {}
def jG8:Sp:=fun vs H Q _=>∃ (m n:Nat),vs=[natV m]/\m<2 ^ n/\n<=64/\∀ r H',H' r=some (.tup ((btsN n m).map V.int))->Ext H H'->Q (.ref r) H'
def jX5 (T:Txt mg): { t:TS // JSs (XOf jOE "lot_of" jDS P w K mg Aq f lM A Ap s H0 E) (jD jDS) t} :=
 have nd:=scLotOf.nd
 ⟨_,(jC (jL (jW jV gD T.tuple Ab (j3 (kG (m:=[none,some 0]) (Nc:=["thing","mask"]) rfl (jA5 gD T.range (j3 (jP9 jr iA iB jOH (jv 0 rfl vC)) j6 jE) jE) rfl Ab Ab (jK (psc:=j7 jDS)) (jI (N:=jOE) rfl rfl Ab) (fun cl C fp s H=>jJ (i:=0) (show (["thing","mask"]:Am).Nodup by decide+kernel) rfl yC) (fun cl C fp s H=>jEZ (jY qU (kX jKT (kX jSW (jv 1 rfl kN) (jv 0 rfl jP)) (je_int)) (je_int) (jT _))) (fun cl C fp s H=>(jv 0 rfl jP)) kP) j6 jH) jH)))⟩
theorem jR6 {fd:FuncData}(F:Fun K "lot_of" "lot_of" jDS f fd)(T:Txt mg):FnOk P w K mg Aq CX0 1 f fd ["mask"] jG8:=by
 refine F.ok scLotOf (fun vs H Q E h=>?_) (fun lM A Ap s H vs Q E hr h=>?_)
 ·obtain⟨_,_,rfl,_⟩:=h;rfl
 ·obtain⟨m,n,rfl,hm,hn,q⟩:=h;refine⟨_,(jX5 T).2.h,?_⟩;have bl:=jVN hm;refine⟨_,rfl,rfl,_,rfl,rfl,_,rfl,Aa,Aa,jE8 (n:=(Builtin.Int.intBits (m:Int):Int).toNat) (fun σ=>∃ v,σ=[v,some (natV m)]) (outZ (List.range (Builtin.Int.intBits (m:Int):Int).toNat) (fun t=>m.testBit t) natV) (outZ.ok _ _ _) (by rw[aH]; lia) ⟨_,rfl⟩ ?_ ?_⟩
  ·rintro j σ' H' zs hj ⟨v,rfl⟩ e hz S1 S2 yes no;have e0:(0+(j:Int))=(j:Int):=Aa;have hg:(List.range (Builtin.Int.intBits (m:Int):Int).toNat)[j]?=some j:=dy hj;refine⟨_,rfl,_,rfl,_,_,rfl,rfl,Aa,_,_,rfl,rfl,rfl,_,rfl,?_⟩;show if decide (V.int (Builtin.bitAnd ((m:Int) / 2 ^ (0+(j:Int)).toNat) 1)=V.int 1)=true then _ else _
   rw[e0,jSA];refine ite2 (fun h=>?_) (fun h=>?_)
   ·refine⟨_,rfl,yes _ _ _ ⟨_,rfl⟩ (Ext.refl _) (hz.yes hg h)⟩
   ·exact no _ _ ⟨_,rfl⟩ (Ext.refl _) (hz.no hg (cj.mpr h))
  ·rintro D H' zs hD e nD hz;have hz:=hz.all (by rw[cr]; exact aA _);refine⟨D,_,rfl, .inl ⟨SqL.of hD,fun r hr'=>q r _ ?_ ((e.trans ((Ext.refl _).new hr' _)))⟩⟩;rw[j5,hz];have:=jS8 (a:=n) hm (jVM m);rw[this];unfold btsN;rw[bH];rfl
theorem jES {H:Hp} :∀ {us:List V}{ws:Af},LsAt H us ws->TsAt H (ws.map fun x=>Tr.tup (x.map Tr.int)) us
 | [],[],_=>rfl
 | v::us,x::ws,⟨⟨a,e,h⟩,r⟩=>⟨v,us,rfl,⟨a,_,e,h,jFW x⟩,jES r⟩
theorem jGL:∀ (ws:Af),deps (ws.map fun x=>Tr.tup (x.map Tr.int))<=100
 | []=>by show (0:Nat)<=100; decide
 | x::ws=>by
  refine Nat.max_le.mpr ⟨?_,jGL ws⟩;show deps (x.map Tr.int)+1<=100;rw[jBG];decide
theorem jSY (ws:Af):eqTs (ws.map fun x=>Tr.tup (x.map Tr.int)) []=decide (ws=[]):=by
 cases ws <;> rfl
def lsZ {α:Type}(l:List α)(p:α->Bool)(f:α->Ag):Hp->List V->Nat->Prop:=fun H zs j=>LsAt H zs (((l.take j).filter p).map f)
theorem LsAt.len {H:Hp}{us:List V}{ws:Af}(h:LsAt H us ws):us.length=ws.length:=All2.len h
theorem lsZ.ok {α:Type}(l:List α)(p:α->Bool)(f:α->Ag):ZOk (lsZ l p f):=⟨fun _=>trivial,fun _ _ _ _ t h=>LsAt.mono t h,fun _ zs j h=>by
 rw[LsAt.len h,af];exact bi (bU _ _) (bB _ _)⟩
theorem LsAt.snoc {H:Hp}{us:List V}{ws:Af}{a:Addr}{x:Ag}(h:LsAt H us ws)(ha:H a=some (.tup (x.map V.int))):LsAt H (us++[.ref a]) (ws++[x]):=All2.snoc h ⟨a,rfl,ha⟩
theorem lsZ.yes {α:Type}{l:List α}{p:α->Bool}{f:α->Ag}{H H':Hp}{zs:List V}{j:Nat}{x:α}{a:Addr}(h:lsZ l p f H zs j)(t:Tups H H')(hx:l[j]?=some x)(hp:p x=true)(ha:H' a=some (.tup ((f x).map V.int))):lsZ l p f H' (zs++[.ref a]) (j+1):=by
 unfold lsZ;rw[be,hx,bV,aU];have e:((some x).toList.filter p).map f=[f x]:=by simp [hp]
 rw[e];exact LsAt.snoc (LsAt.mono t h) ha
theorem lsZ.all {α:Type}{l:List α}{p:α->Bool}{f:α->Ag}{H:Hp}{zs:List V}{n:Nat}(h:lsZ l p f H zs n)(hn:l.length<=n):LsAt H zs ((l.filter p).map f):=by
 unfold lsZ at h;rw[bX hn] at h;exact h
structure TT where
 a:Addr
 p:Pos
 q:Str
def ads (L:List TT):List Addr:=L.map TT.a
structure TbS (L:List TT)(H:Hp):Prop where
 nd:(ads L).Nodup
 ok:∀ t∈L,TabOk H t.a t.p t.q
def ExS (S:List Addr)(H H':Hp):Prop:=∀ b o,H b=some o->b∉S->H' b=some o
section
variable {S':List Addr}{L:List TT}{H'':Hp}
theorem ExS.of (e:Ext H H'):ExS S H H':=fun b o h _=>e b o h
theorem ExS.trans (a:ExS S H H')(b:ExS S H' H''):ExS S H H'':=fun c o h n=>b c o (a c o h n) n
theorem ExS.mono (h:∀ x∈S,x∈S')(e:ExS S H H'):ExS S' H H':=fun b o z n=>e b o z fun y=>n (h b y)
theorem ExS.ofT {T:Addr}(e:ExtT T H H')(h:T∈S):ExS S H H':=fun b o z n=>e b o z fun y=>n (y ▸ h)
theorem TbS.ext (t:TbS L H)(e:Ext H H'):TbS L H':=⟨t.nd,fun x hx=>(t.ok x hx).ext e⟩
theorem TbS.off (t:TbS L H){b:Addr}{o:HO}(h:H b=some o)(ho:∀ ps,o≠ .tbl ps:=by intro _ z; cases z):b∉ads L:=fun z=>by
 obtain⟨x,hx,e⟩:=aQ.mp z;exact(t.ok x hx).ne h ho e.symm
theorem TbS.at (t:TbS L H)(e:ExS (ads L) H H'){b:Addr}{o:HO}(h:H b=some o)(ho:∀ ps,o≠ .tbl ps:=by intro _ z; cases z):H' b=some o:=e b o h (t.off h ho)
theorem TbS.tups (t:TbS L H)(e:ExS (ads L) H H'):Tups H H':=fun b xs h=>t.at e h
theorem TbS.sq {K:W.Frag}{a:Addr}{xs:List V}(t:TbS L H)(e:ExS (ads L) H H')(h:SqL K H a xs):SqL K H' a xs:=by
 rcases h with h | h
 ·rcases h with h | ⟨o,h⟩
  ·exact .inl (.inl (t.at e h))
  ·exact .inl (.inr ⟨o,t.at e h⟩)
 ·exact .inr h
theorem TbS.set (t:TbS L H)(hs:∀ s∈S,s∈ads L)(e:ExS S H H')(k:∀ x∈L,x.a∈S->TabOk H' x.a x.p x.q):TbS L H':=⟨t.nd,fun x hx=>by
 by_cases z:x.a∈S
 ·exact k x hx z
 ·rcases t.ok x hx with h | ⟨c,h,h2⟩
  ·exact .inl (e _ _ h z)
  ·exact .inr ⟨c,e _ _ h z,e _ _ h2 fun y=>t.off h2 (by intro _ z; cases z) (hs c y)⟩⟩
theorem TbS.setT (t:TbS L H){x:TT}(hx:x∈L)(e:ExtT x.a H H')(k:TabOk H' x.a x.p x.q):TbS L H':=t.set (S:=[x.a]) (fun s hs=>by rw[aK.mp hs]; exact bO hx) (ExS.ofT e (aK.mpr rfl)) fun y hy hm=>by
 have e1:=aK.mp hm;have:y=x:=by
  have nd:=t.nd;obtain⟨i,hi⟩:=bq hy;obtain⟨j,hj⟩:=bq hx;have hi':(ads L)[i]?=some x.a:=by unfold ads; rw[aS,hi,<- e1]; rfl
  have hj':(ads L)[j]?=some x.a:=by unfold ads; rw[aS,hj]; rfl
  have li:i<(ads L).length:=(ao.mp hi').1;have ij:=(fj li nd).mp (hi'.trans hj'.symm);rw[ij,hj] at hi;exact(bw hi).symm
 rw[this];exact k
end
def keyL (x:Ag):Ag:=(x.length:Int)::x
def jBN (n:Nat):Af:=(List.range (2 ^ n)).map (btsN n)
def leK (a b:Ag):Bool:=!HT.lexLt (keyL b) (keyL a)
def y6 (n:Nat):Af:=(jBN n).mergeSort leK
theorem jBU (n:Nat):(y6 n).Perm (jBN n):=lc _ _
theorem jHM (n:Nat):(y6 n).Pairwise fun a b=>HT.lexLt (keyL b) (keyL a)=false:=by
 refine(jh (le:=leK) (fun a b c h1 h2=>?_) (fun a b=>?_) (jBN n)).imp fun {a b} h=>by
  unfold leK at h;exact cH _ |>.mp h
 ·unfold leK at h1 h2 ⊢;rw[cH] at h1 h2 ⊢;by_cases z:HT.lexLt (keyL c) (keyL a)=true
  ·by_cases y:HT.lexLt (keyL a) (keyL b)=true
   ·rw[TM.lex_tr z y] at h2;cases h2
   ·have:=TM.lex_tot (cj.mpr y) h1;rw[this,h2] at z;cases z
  ·exact cj.mpr z
 ·unfold leK;rw[ig,cH,cH];by_cases z:HT.lexLt (keyL b) (keyL a)=true
  ·right;by_cases y:HT.lexLt (keyL a) (keyL b)=true
   ·have:=TM.lex_tr z y;rw[TM.lex_irr] at this;cases this
   ·exact cj.mpr y
  ·exact .inl (cj.mpr z)
theorem jI7 (l:Af):(l.map keyL).map List.tail=l:=by
 rw[bH];exact List.map_id'' (fun _=>rfl) l
theorem jM3 {n:Nat}{ws:Af}(p:ws.Perm (jBN n))(s:(ws.map keyL).Pairwise fun a b=>HT.lexLt b a=false):ws=y6 n:=by
 have:=jGO ((p.trans (jBU n).symm).map keyL) s (bh.mpr (jHM n));rw[<- jI7 ws,this,jI7]
theorem jRI {n:Nat}{x:Ag}(h:x∈jBN n):Ris (n:Int) x:=by
 obtain⟨m,_,rfl⟩:=aQ.mp h;exact jLO n m
theorem jCV {n:Nat}{x:Ag}(h:x∈y6 n):Ris (n:Int) x:=jRI ((jBU n).mem_iff.mp h)
theorem jHN (n:Nat):(y6 n).length=2 ^ n:=by
 rw[(jBU n).length_eq];unfold jBN;rw[af,cr]
def inB (y x:Ag):Bool:=y.all fun t=>decide (t∈x)
def yP (pr:Ag->Bool)(acc:Af)(x:Ag):Af:=if (!acc.any fun y=>inB y x)&&pr x then acc++[x] else acc
def yF (pr:Ag->Bool)(ws:Af):Af:=ws.foldl (yP pr) []
theorem jEX {pr:Ag->Bool}{ws:Af}{i:Nat}{x:Ag}(h:ws[i]?=some x):yF pr (ws.take (i+1))=yP pr (yF pr (ws.take i)) x:=by
 unfold yF;rw[be,h,List.foldl_append];rfl
theorem jN8 (pr:Ag->Bool)(acc:Af)(x:Ag):(yP pr acc x).length<=acc.length+1:=by
 unfold yP;split
 ·rw[aJ]; exact aA _
 ·lia
theorem jC0 (pr:Ag->Bool):∀ (ws:Af) (i:Nat),(yF pr (ws.take i)).length<=i
 | ws,0=>by rw[iN]; exact aA _
 | ws,i+1=>by
  cases h:ws[i]? with
  | none=>
   have:ws.take (i+1)=ws.take i:=by rw[be,h]; simp
   rw[this];exact Nat.le_succ_of_le (jC0 pr ws i)
  | some x=>
   rw[jEX h];exact bi (jN8 _ _ _) (Nat.succ_le_succ (jC0 pr ws i))
theorem jBZ {pr:Ag->Bool} :∀ {ws acc:Af}{x:Ag},x∈ws.foldl (yP pr) acc->x∈acc\/x∈ws
 | [],_,_,h=> .inl h
 | y::ws,acc,x,h=>by
  rcases jBZ (ws:=ws) h with z | z
  ·unfold yP at z;split at z
   ·rcases aP.mp z with z | z
    ·exact .inl z
    ·exact .inr (aK.mp z ▸ ai ..)
   ·exact .inl z
  ·exact .inr (ag _ z)
abbrev jJF:Am:=["lot","other"]
theorem scWithin:FnScope jJF ["lot","other"] (j7 jB9):= {}
def jBS:Sp:=fun vs H Q _=>∃ (a b:Addr) (xs ys:Ag),vs=[.ref a, .ref b]/\H a=some (.tup (xs.map V.int))/\H b=some (.tup (ys.map V.int))/\xs.length<=1000/\∀ H',Ext H H'->Q (.bl (inB xs ys)) H'
def jTJ (T:Txt mg): { t:TS // JSs (XOf jJF "is_within" jB9 P w K mg Aq f lM A Ap s H0 E) (jD jB9) t} :=
 have nd:=scWithin.nd
 ⟨_,(jC (jL (jG (jBK rfl) gD T.all Ab (j3 (kG (m:=[none,some 1]) (Nc:=["thing","other"]) rfl (qG (jv 0 rfl vL)) rfl Ab Ab (jK (psc:=j7 jB9)) (jI (N:=jJF) rfl rfl Ab) (fun cl C fp s H=>jJ (i:=0) (show (["thing","other"]:Am).Nodup by decide+kernel) rfl yC) (fun cl C fp s H=>kJ) (fun cl C fp s H=>(yO jEM (jv 0 rfl jP) (jv 1 rfl kN) jGH)) y9) j6 jH) jH)))⟩
theorem jNX {fd:FuncData}(F:Fun K "is_within" "is_within" jB9 f fd)(T:Txt mg):FnOk P w K mg Aq CX0 1 f fd ["lot","other"] jBS:=by
 refine F.ok scWithin (fun vs H Q E h=>?_) (fun lM A Ap s H vs Q E hr h=>?_)
 ·obtain⟨_,_,_,_,rfl,_⟩:=h;rfl
 ·obtain⟨a,b,xs,ys,rfl,ha,hb,hl,q⟩:=h;refine⟨_,(jTJ T).2.h,?_⟩;refine⟨_,rfl,a,rfl,⟨_,SqT.of ha⟩,jPG (tp:=true) ha hb hl rfl fun D H3 h3 e3 n3=>?_⟩;refine⟨D,_,rfl,SqL.of h3,?_⟩;rw[jXS];exact q H3 e3
end Eo
namespace L2
open PySem PySem.Spec PyProof.Rows
theorem FunC.okZ {P:PySem.Program}{w:PySem.World}{K:W.Frag}{mg:PySem.Str->Option PySem.Value}{Aq:PySem.Heap}{Z:PySem.Shared->Hp->Prop}{x qual:PySem.Str}{st:PySem.Stmt}{f c0:PySem.Addr}{fd:PySem.FuncData}{N ps:List PySem.Str}{k:Nat}{sp:Sp}(F:FunC K x qual st f fd c0)(S:FnScope N ps (j7 st))(len:∀ vs H Q E,sp vs H Q E->vs.length=ps.length)
  (hbody:∀ (A:PySem.Around) (Ap:List PySem.Env) (s:PySem.Shared) (H:Hp) (vs:List V) (Q:VK) (E:XK),Room k (A.deeper (envOfC qual (j7 st) s.heap.objs.size f (.ref c0)))->Z s H->sp vs H Q E->
   ∃ t,PSs (cxOf CX0 P w K mg Aq N qual (j7 st) f (.ref c0) A Ap s H E).nox (jD st) t/\t { nx:=fun _ H'=>Q .non H',rt:=Q} (yA N vs) H):FnZ P w K mg Aq CX0 Z (k+1) f fd ps sp:=by
 obtain⟨oc,od,kV,doc,pm,an,ct,osl,rfl,lk,hcd⟩:=F.ex;refine jT8 lk hcd S len fun A Ap s H vs Q E hr hz hsp=>?_;obtain⟨t,ht,hq⟩:=hbody A Ap s H vs Q E hr hz hsp;exact⟨t,ht.nox,hq⟩
end L2
namespace Eo
open PySem L2
def lamK (s:Stmt):Arguments×Expr×Scope×Pos:=match (jD s).getD 1 (.Pass ⟨0,0,0,0⟩) with
 | .For _ (.Call _ _ [⟨_, .Lambda a b sc p,_⟩] _) _ _ _=>(a,b,sc,p)
 | _=>(y0 s, .Constant .none 0 ⟨0,0,0,0⟩,j7 s,⟨0,0,0,0⟩)
abbrev keyA:Arguments:=(lamK yY).1
abbrev keyB:Expr:=(lamK yY).2.1
abbrev keySc:Scope:=(lamK yY).2.2.1
abbrev keyPo:Pos:=(lamK yY).2.2.2
abbrev nKey:Am:=["one"]
theorem scKey:NScope nKey ["one"] [] keySc:=⟨rfl,rfl,rfl,Ab,rfl,Ab,Ab,fun x h=>by
  have hl:∀ y∈keySc.names,y.2≠ .free:=Ab;exact absurd rfl (hl _ (b9 h)),Ab⟩
abbrev qKey:Str:= "least_lots.<locals>.<lambda>"
def spKey:Sp:=fun vs H Q _=>∃ (a:Addr) (lot:Ag),vs=[.ref a]/\H a=some (.tup (lot.map V.int))/\∀ r H',H' r=some (.tup [.int (lot.length:Int), .ref a])->Ext H H'->Q (.ref r) H'
def zhK (a c:Addr):Hp->Prop:=fun H=>H a=some (.ext (nlP qKey keyA keyB keySc [] a c))/\H c=some (.ext (ncP qKey c))
theorem zhK.ext (a c:Addr)(H H':Hp)(e:Ext H H')(h:zhK a c H):zhK a c H':=⟨e _ _ h.1,e _ _ h.2⟩
section
variable {HI:Hp->Prop}{pr:Ag->Bool}
def jRL (T:Txt mg): { t:TE // JE (cxN P w K mg Aq nKey qKey keySc a (.ref c) cl A Ap s H0) keyB t} :=⟨_,(yG (j3 (jG jN gl_n T.len Ab (j3 (jv 0 rfl qA) j6 j4) j4) (j3 (jv 0 rfl qA) j6 j4) jE))⟩
theorem jWY (T:Txt mg):Callee P w K mg Aq ZT (zhK a c) 1 a spKey:=by
 refine Callee.imp (jPN (fv:=[]) scKey (fun vs H Q E h=>?_) (fun pm ctv us hl=>?_) fun A Ap s H vs Q E hr h=>?_) fun s H _=>⟨⟨fun x y c h=>(by cases h),fun x c h=>(by cases h)⟩,rfl,fun i x v h=>(by cases h)⟩
 ·obtain⟨_,_,rfl,_⟩:=h;rfl
 ·match us,hl with
  | [_],_=>rfl
 ·obtain⟨a,lot,rfl,ha,q⟩:=h;refine⟨_,(jRL T).2.h,?_⟩;refine⟨_,rfl,a,_,rfl, .inr (SqT.of ha),_,rfl,by show (2:Nat)<=_; decide,fun r H' d e=>?_⟩;rw[af] at d;exact q r H' d e
abbrev TabK (H:Hp)(tb:Addr):Prop:=TabOk H tb keyPo qKey
def jHG (S:List Addr)(HI:Hp->Prop)(n:Nat)(pr:Ag->Bool):Sp:=fun vs H Q _=>∃ (a:Addr) (lot:Ag),vs=[.ref a]/\H a=some (.tup (lot.map V.int))/\Ris (n:Int) lot/\HI H/\∀ H',ExS S H H'->HI H'->Q (.bl (pr lot)) H'
structure HIOk (S:List Addr)(HI:Hp->Prop):Prop where
 ext:∀ {H H'},Ext H H'->HI H->HI H'
 off:∀ {H b o},HI H->H b=some o->(∀ ps,o≠ .tbl ps)->b∉S
 lst:∀ {H' H p xs ys},HI H'->H' p=none->HI H->H p=some (.lst xs)->HI (L2.upd H p (.lst ys))
def jNB (j tb:Addr)(S:List Addr)(HI:Hp->Prop)(n:Nat)(pr:Ag->Bool):Sp:=fun vs H Q _=>vs=[.int (n:Int), .ref j]/\n<=16/\TabK H tb/\(∀ H',ExtT tb H H'->TabK H' tb->HI H')/\tb∉S/\
 ∀ l us H',H' l=some (.lst us)->LsAt H' us (yF pr (y6 n))->ExS (tb::S) H H'->HI H'->TabK H' tb->H l=none->Q (.ref l) H'
abbrev jKZ:Am:=["things","holds","least","lot"]
theorem scLeast:FnScope jKZ ["things","holds"] (j7 yY):= {}
abbrev jIY (P:Program)(w:World)(K:W.Frag)(mg:Ak)(Aq:Heap)(f c0:Addr)(A:Around)(Ap:List Env)(s:Shared)(H:Hp)(E:XK):Cx:=XOf jKZ "least_lots" yY P w K mg Aq f (.ref c0) A Ap s H E
def jFS (T:Txt mg)(CW:Can P w K mg Aq "is_within" 1 fW fdW ["lot","other"] jBS)(CJ:Callee P w K mg Aq Z zh 8 j (jHG S HI n pr))(zs:ZSt Z)(hz:Z s H0)(hr:Room 8 (jIY P w K mg Aq f c0 A Ap s H0 E).A): { t:TS // JSs (jIY P w K mg Aq f c0 A Ap s H0 E) (jD1 ((jD yY).getD 1 (.Pass ⟨0,0,0,0⟩))) t} :=
 have nd:=scLeast.nd
 ⟨_,(jC (y8 (jt_w (jT4 (qF (qE (jG (jFA rfl) gD T.any Ab (j3 (kG (m:=[none,some 3]) (Nc:=["shorter","lot"]) rfl (yN (jv 2 rfl vL)) rfl Ab Ab (jK (psc:=j7 yY)) (jI (N:=jKZ) rfl rfl Ab) (fun cl C fp s H=>jJ (i:=0) (show (["shorter","lot"]:Am).Nodup by decide+kernel) rfl yC) (fun cl C fp s H=>kJ) (fun cl C fp s H=>(CW.je (hr.mono Ac) gl_b (j3 (jv 0 rfl jP) (j3 (jv 1 rfl kN) j6 j4) j4) j4)) y9) j6 jH) jH) yM)) (jOY (qE (jLC (j:=1) CJ hr zs hz rfl rfl vL (j3 (jv 3 rfl vC) j6 j4) j4) yM)))) (jC (jDI (je_bm bR eL eM jBD (jv 2 rfl vL) (j3 (jv 3 rfl vC) j6 j4) j4) kE)) kB))⟩
def jX7 (T:Txt mg)(CH:PySem.W.CodeHd Aq c0 tb)(BM:qR Aq mg)(CO:Can P w K mg Aq "lot_of" 1 fO fdO ["mask"] jG8)(CW:Can P w K mg Aq "is_within" 1 fW fdW ["lot","other"] jBS)(CJ:Callee P w K mg Aq Z zh 8 j (jHG S HI n pr))(zs:ZSt Z)(hz:Z s H0)(hr:Room 8 (jIY P w K mg Aq f c0 A Ap s H0 E).A): { t:TS // JSs (jIY P w K mg Aq f c0 A Ap s H0 E) (jD yY) t} :=
 have nd:=scLeast.nd
 ⟨_,(jB (jU (i:=2) nd rfl lL (jB2 j6) jEE) (jB (jCA cB rfl (yN (jI9 (jIM jV4 (fun q c=>jWY T) zhK.ext (hr.mono Ac)) gD T.sorted Ab (j3 (kG (m:=[none]) (Nc:=["mask"]) rfl (jA5 gD T.range (j3 (kX jHW (je_int) (jv 0 rfl vL)) j6 yT) yT) rfl Ab Ab (jK (psc:=j7 yY)) (jI (N:=jKZ) rfl rfl Ab) (fun cl C fp s H=>jJ (i:=0) (show (["mask"]:Am).Nodup by decide+kernel) rfl yC) (fun cl C fp s H=>kJ) (fun cl C fp s H=>(CO.je (hr.mono Ac) gl_b (j3 (jv 0 rfl jP) j6 j4) j4)) kP) j6 jH) (jP0 (jP4 rfl CH BM (fun y hy hf=>absurd hf (by revert y; decide+kernel)) rfl) jT6) jH)) (jJ (i:=3) nd rfl loc_c) (jFS T CW CJ zs hz hr).2 kP) (jC (jL (jv 2 rfl vL)))))⟩
def lotV (H:Hp):V->Ag
 | .ref a=>match H a with
  | some (.tup xs)=>xs.map fun v=>match v with
   | .int i=>i
   | _=>0
  | _=> []
 | _=> []
theorem jOO {H:Hp}{a:Addr}{x:Ag}(h:H a=some (.tup (x.map V.int))):lotV H (.ref a)=x:=by
 dsimp only [lotV];rw[h];show (x.map V.int).map _=x;rw[bH];exact List.map_id'' (fun _=>rfl) x
theorem jON {H:Hp} :∀ {us:List V}{ws:Af},LsAt H us ws->us.map (lotV H)=ws/\∀ v∈us,∃ a,v= .ref a/\H a=some (.tup ((lotV H v).map V.int))
 | [],[],_=>⟨rfl,fun v h=>by cases h⟩
 | v::us,x::ws,⟨⟨a,e,h⟩,r⟩=>by
  obtain⟨i1,i2⟩:=jON r;subst e;refine⟨by rw[bf,jOO h,i1],fun v hv=>?_⟩;rcases aE.mp hv with z | z
  ·rw[z,jOO h];exact⟨a,rfl,h⟩
  ·exact i2 v z
theorem jOM {H H':Hp} :∀ {us:List V},(∀ v∈us,∃ a,v= .ref a/\H' a=some (.tup ((lotV H v).map V.int)))->LsAt H' us (us.map (lotV H))
 | [],_=>trivial
 | v::us,h=>⟨h v (ai ..),jOM fun w hw=>h w (ag _ hw)⟩
theorem jMG (T:Txt mg)(CW:Can P w K mg Aq "is_within" 1 fW fdW ["lot","other"] jBS)(CJ:Callee P w K mg Aq Z zh 8 j (jHG S HI n pr))(zs:ZSt Z)(hz:Z s H0)(hr:Room 8 (jIY P w K mg Aq f c0 A Ap s H0 E).A)(hi:HIOk S HI)(hzh:∀ H,HI H->zh H)
  {D:Ends}{H Hs:Hp}{l q:Addr}{x:Ag}{us:List V}{acc:Af}(Is:HI Hs) (Ns:Hs l=none) (hI:HI H) (hl:H l=some (.lst us)) (hu:LsAt H us acc) (ul:acc.length<=65536) (hq:H q=some (.tup (x.map V.int))) (rx:Ris (n:Int) x) (ra:∀ y∈acc,y.length<=1000)
  (nx:∀ H' us',HI H'->(∀ b o,H b=some o->b∉S->b≠l->H' b=some o)->H' l=some (.lst us')->LsAt H' us' (yP pr acc x)->D.nx [some (.int (n:Int)),some (.ref j),some (.ref l),some (.ref q)] H'):
  (jFS T CW CJ zs hz hr).1 D [some (.int (n:Int)),some (.ref j),some (.ref l),some (.ref q)] H:=by
 have ulen:=LsAt.len hu;refine⟨_,rfl,l,rfl,⟨_,SqL.of hl⟩,jAJ (xs:=us) (fun σ=>∃ v1,σ=[v1,some (.ref q)]) (mapZ acc fun y=>V.bl (inB y x)) (mapZ.ok _ _) hl (by rw[aH]; lia) ⟨_,rfl⟩ ?_ ?_⟩
 ·rintro i v σ' H' zs hv ⟨v1,rfl⟩ e hz' S1 S2 yes no;obtain⟨y,hy,a,rfl,ha⟩:=All2.get' hu hv;dsimp only [kL,yB];rw[ay rfl];exact⟨_,rfl,_,rfl,a,q,y,x,rfl,e _ _ ha,e _ _ hq,ra y (aB hy),fun H'' e'=>yes _ _ _ ⟨_,rfl⟩ e' (hz'.yes hy)⟩
 ·rintro D' H1 zs h1 e1 n1 hz';have hz':=hz'.all (by rw[ulen]; exact aA _);have hz2:zs=(acc.map fun y=>inB y x).map V.bl:=by rw[hz',bH]; rfl
  rw[hz2] at h1;refine⟨D',_,rfl,SqL.of h1,_,rfl,?_⟩;have ea:(acc.map fun y=>inB y x).any id=acc.any fun y=>inB y x:=by rw[lJ]; rfl
  rw[ea];have I1:=hi.ext e1 hI;refine ite2 (fun c1=>?_) (fun c1=>?_)
  ·refine⟨rfl,_,rfl,hzh _ I1,q,x,rfl,e1 _ _ hq,rx,I1,fun H2 e2 I2=>⟨_,rfl,?_⟩⟩;have k2:∀ b o,H1 b=some o->(∀ ps,o≠ .tbl ps)->H2 b=some o:=fun b o h t=>e2 b o h (hi.off I1 h t);have tu:Tups H H2:=fun b xs h=>k2 _ _ (e1 _ _ h) (by intro _ z; cases z);have hl2:=k2 _ _ (e1 _ _ hl) (by intro _ z; cases z);have kk:∀ b o,H b=some o->b∉S->b≠l->H2 b=some o:=fun b o h ns _=>e2 _ _ (e1 _ _ h) ns;refine ite2 (fun c2=>?_) (fun c2=>?_)
   ·have hs:yP pr acc x=acc++[x]:=by
     unfold yP;rw[ay (by rw[c1,c2]; rfl)]
    refine⟨_,rfl, .inl ⟨rfl,_,SqL.of hl2⟩,_,rfl,l,us,_,rfl,rfl,hl2,by rw[aH]; lia,?_⟩;have t2:=Tups.upd hl2 (.lst (us++[.ref q]));refine nx _ _ (hi.lst Is Ns I2 hl2) (fun b o h ns nl=>by rw[j9 nl]; exact kk b o h ns nl) j5 ?_;rw[hs];exact LsAt.snoc (LsAt.mono t2 (LsAt.mono tu hu)) (t2 _ _ (tu _ _ hq))
   ·have hs:yP pr acc x=acc:=by
     unfold yP;rw[aw (by rw[bD]; exact fun z=>c2 z.2)]
    exact nx H2 us I2 kk hl2 (by rw[hs]; exact LsAt.mono tu hu)
  ·have hs:yP pr acc x=acc:=by
    unfold yP;rw[aw (by rw[bD]; exact fun z=>c1 z.1)]
   exact iteF (nx H1 us I1 (fun b o h _ _=>e1 _ _ h) (e1 _ _ hl) (by rw[hs]; exact LsAt.mono e1.tups hu))
theorem jR8 {fd:FuncData}(F:FunC K "least_lots" "least_lots" yY f fd c0)(T:Txt mg)(CH:PySem.W.CodeHd Aq c0 tb)(BM:qR Aq mg)(CO:Can P w K mg Aq "lot_of" 1 fO fdO ["mask"] jG8)(CW:Can P w K mg Aq "is_within" 1 fW fdW ["lot","other"] jBS)(CJ:Callee P w K mg Aq Z zh 8 j (jHG S HI n pr))(zs:ZSt Z)(hi:HIOk S HI)(hzh:∀ H,HI H->zh H):FnZ P w K mg Aq CX0 Z 9 f fd ["things","holds"] (jNB j tb S HI n pr):=by
 refine F.okZ scLeast (fun vs H Q E h=>?_) (fun A Ap s H vs Q E hr hz h=>?_)
 ·obtain⟨rfl,_⟩:=h;rfl
 ·obtain⟨rfl,n16,tab,hI0,ntb,q⟩:=h;refine⟨_,(jX7 T CH BM CO CW CJ zs hz hr).2.h,?_⟩;have p16:2 ^ n<=2 ^ 16:=ci Ac n16;have p16':(2 ^ 16:Nat)=65536:=Ac;refine⟨by show (0:Nat)<=_; decide,fun l H1 d1 e1 n1=>?_⟩;have e2n:(1:Int)*2 ^ ((n:Nat):Int).toNat=((2 ^ n:Nat):Int):=by rw[Int.one_mul,aR]; push_cast; rfl
  refine⟨_,rfl,_,_,rfl,rfl,⟨Aa,Aa,Aa⟩,?_⟩;have p0:=dA n;generalize hN:2 ^ n=N at p16 p0 e2n;refine⟨((N:Nat):Int),by rw[<- e2n],Aa,Aa,?_⟩;subst hN;refine jE8 (n:=((2 ^ n:Nat):Int).toNat) (fun σ=>∃ v,σ=[v]) (lsZ (List.range (2 ^ n)) (fun _=>true) (btsN n)) (lsZ.ok _ _ _) (by rw[aH,aR]; lia) ⟨_,rfl⟩ ?_ ?_
  ·rintro i σ' H' zs' hi' ⟨v,rfl⟩ e hz' S1 S2 yes no;rw[aR] at hi';dsimp only [kL,yB];rw[ay rfl];have e0:(0+(i:Int))=(i:Int):=Aa;refine⟨_,rfl,i,n,by rw[e0]; rfl,hi',Aa,fun r H'' d e'=>?_⟩;exact yes _ _ _ ⟨_,rfl⟩ e' (hz'.yes e'.tups (dy hi') rfl d)
  ·rintro D H2 us h2 e2 n2 hz';have hu:LsAt H2 us (jBN n):=by
    have:=hz'.all (by rw[cr,aR]; exact aA _);rw[lg.mpr (fun _ _=>rfl)] at this;exact this
   have E2:=e1.trans e2;refine⟨tab.ext E2,fun a c H3 k1 k2 k3 e3 na=>?_⟩;have T2:TabK H2 tb:=tab.ext E2;have T3:TabK H3 tb:= .inr ⟨c,k3,k2⟩;have tu3:Tups H2 H3:=fun b xs h=>e3.at T2 h;have u3:=LsAt.mono tu3 hu;obtain⟨m1,m2⟩:=jON u3;refine⟨D,us,a,c,fun v=>keyL (lotV H3 v),rfl,rfl,SqL.of (e3.at T2 h2),⟨k1,k2⟩,fun v hv=>let ⟨x,e,_⟩:=m2 v hv; ⟨x,e⟩,fun v hv H4 Q4 e4 k4=>?_,fun l2 us' H4 nl pm pw e4 h4=>?_⟩
   ·obtain⟨x,rfl,hx⟩:=m2 v hv;exact⟨x,_,rfl,e4 _ _ hx,fun r H5 d e=>k4 _ _ ⟨r,x,_,_,rfl,d,e _ _ (e4 _ _ hx),rfl⟩ e⟩
   ·have m3:∀ v∈us',∃ a,v= .ref a/\H4 a=some (.tup ((lotV H3 v).map V.int)):=fun v hv=>by
     obtain⟨x,e,hx⟩:=m2 v (pm.mem_iff.mp hv);exact⟨x,e,e4 _ _ hx⟩
    have w4:LsAt H4 us' (y6 n):=by
     have p1:(us'.map (lotV H3)).Perm (jBN n):=by rw[<- m1]; exact pm.map _
     have p2:((us'.map (lotV H3)).map keyL).Pairwise fun a b=>HT.lexLt b a=false:=by
      rw[bh,bh];exact pw
     rw[<- jM3 p1 p2];exact jOM m3
    have d4:H4 l=some (.lst []):=e4 _ _ (e3.at T2 (e2 _ _ d1));have ne:l2≠l:=fun z=>by rw[z,e3.at T2 (e2 _ _ d1)] at nl; cases nl
    have I3:HI H3:=hI0 H3 (fun b o h ns=>e3 b o (E2 _ _ h) ns) T3;have I4:=hi.ext e4 I3;refine⟨l2,rfl,⟨_,SqL.of h4⟩,jD6 (xs:=us') (fun i σ H'=>(∃ v3,σ=[some (.int (n:Int)),some (.ref j),some (.ref l),v3])/\HI H'/\(∀ b o,H4 b=some o->b∉S->b≠l->H' b=some o)/\∃ zs,H' l=some (.lst zs)/\LsAt H' zs (yF pr ((y6 n).take i))) ⟨⟨_,rfl⟩,I4,fun b o h _ _=>h,[],d4,trivial⟩ (fun i σ H' _ ⟨_,_,k,_⟩=>SqL.of (k _ _ h4 (hi.off I4 h4 (by intro _ z; cases z)) ne)) ?_ ?_⟩
    ·rintro i v σ H' hv ⟨⟨v3,rfl⟩,I',k',zs',z1,z2⟩;obtain⟨x,hx,qa,rfl,hqa⟩:=All2.get' w4 hv;have xs:=aB hx;have hq':H' qa=some (.tup (x.map V.int)):=k' _ _ hqa (hi.off I4 hqa (by intro _ z; cases z)) fun z=>by rw[z,d4] at hqa; cases hqa
     have il:i<us'.length:=(ao.mp hv).1;have sl:=jHN n;have wl:=LsAt.len w4;have al:=jC0 pr (y6 n) i;refine jMG T CW CJ zs hz hr hi hzh (hI0 H (fun b o h _=>h) tab) n1 I' z1 z2 Aa hq' (jCV xs) (fun y hy=>?_) fun H'' us'' I'' k'' z3 z4=>⟨⟨_,rfl⟩,I'',fun b o h ns nl=>k'' b o (k' b o h ns nl) ns nl,us'',z3,?_⟩
     ·rcases jBZ hy with z | z
      ·cases z
      ·have r:=jCV (bQ z);have:=jAL y 0 n r.ris r.bnd;lia
     ·rw[jEX hx];exact z4
    ·rintro σ H' ⟨⟨v3,rfl⟩,I',k',zs',z1,z2⟩;have wl:=LsAt.len w4;rw[wl,bz] at z2;refine⟨_,rfl,q l zs' H' z1 z2 (fun b o h ns=>?_) I' ?_ n1⟩
     ·have ns2:b∉S:=fun z=>ns (ag _ z);have nt:b≠tb:=fun z=>ns (z ▸ ai ..);exact k' b o (e4 _ _ (e3 b o (E2 _ _ h) nt)) ns2 fun z=>by rw[z,n1] at h; cases h
     ·have t4:H4 tb=some (.tbl (onePs keyPo c)):=e4 _ _ k3;refine .inr ⟨c,k' _ _ t4 ntb fun z=>(by rw[z,d4] at t4; cases t4),k' _ _ (e4 _ _ k2) (hi.off I4 (e4 _ _ k2) (by intro _ z; cases z)) fun z=>?_⟩;have:=e4 _ _ k2;rw[z,d4] at this;cases this
end
def jL6 (s:Stmt):Arguments×Expr×Scope×Pos:=match (jD s).getD 1 (.Pass ⟨0,0,0,0⟩) with
 | .Return (some (.Call _ [_, .Lambda a b sc p] _ _)) _=>(a,b,sc,p)
 | _=>(y0 s, .Constant .none 0 ⟨0,0,0,0⟩,j7 s,⟨0,0,0,0⟩)
abbrev barA':Arguments:=(jL6 yL).1
abbrev barB':Expr:=(jL6 yL).2.1
abbrev barSc:Scope:=(jL6 yL).2.2.1
abbrev barPo:Pos:=(jL6 yL).2.2.2
abbrev nBarL:Am:=["lot","box"]
theorem jW3:NScope nBarL ["lot"] ["box"] barSc:=⟨rfl,rfl,rfl,Ab,rfl,Ab,Ab,fun x h=>by
  have hl:∀ y∈barSc.names,y.2= .free->y.1= "box" :=Ab;rw[show x=_ from hl _ (b9 h) rfl];exact ai .., by decide+kernel⟩
abbrev qBarL:Str:= "least_bars.<locals>.<lambda>"
structure BI where
 a:Addr
 c:Addr
 b:Addr
 w:Int
 ms:Ag
 Ar:Ae
 g:Good 16 32 w ms Ar
abbrev barP (ms:Ag)(Ar:Ae)(x:Ag):Bool:=decide (wkN ms Ar x=[])
def zhB (cl:Aj)(i:BI):Hp->Prop:=fun H=>H i.a=some (.ext (nlP qBarL barA' barB' barSc cl i.a i.c))/\H i.c=some (.ext (ncP qBarL i.c))
def HIb (tb1 tb2:Addr)(cl:Aj)(i:BI):Hp->Prop:=fun H=>zhB cl i H/\BoxAt H i.b i.w i.ms i.Ar/\Tb2 H tb1 tb2
theorem TabOk.lst {H:Hp}{T p:Addr}{pos:Pos}{q:Str}{xs:List V}{o:HO}(t:TabOk H T pos q)(hp:H p=some (.lst xs)):TabOk (L2.upd H p o) T pos q:=by
 have ne:∀ c o,H c=some o->(∀ xs,o≠ .lst xs)->c≠p:=fun c o h n z=>by
  rw[z,hp] at h;cases h;exact n _ rfl
 rcases t with h | ⟨c,h,h2⟩
 ·exact .inl (by rw[j9 (ne _ _ h (by intro _ z; cases z))]; exact h)
 ·exact .inr ⟨c,by rw[j9 (ne _ _ h (by intro _ z; cases z))]; exact h,by rw[j9 (ne _ _ h2 (by intro _ z; cases z))]; exact h2⟩
theorem HIb.ok (tb1 tb2:Addr)(cl:Aj)(i:BI):HIOk [tb1,tb2] (HIb tb1 tb2 cl i) where
 ext e h:=⟨⟨e _ _ h.1.1,e _ _ h.1.2⟩,h.2.1.mono e.tups,h.2.2.ext e⟩
 off h e t z:=by
  rcases aE.mp z with z | z
  ·exact h.2.2.p.ne e t z
  ·exact h.2.2.w.ne e t (aK.mp z)
 lst _ _ h hp:=⟨⟨by rw[j9 (fun z=>by have:=h.1.1; rw[z,hp] at this; cases this)]; exact h.1.1,by rw[j9 (fun z=>by have:=h.1.2; rw[z,hp] at this; cases this)]; exact h.1.2⟩,h.2.1.mono (Tups.upd hp _),⟨TabOk.lst h.2.2.p hp,TabOk.lst h.2.2.w hp,h.2.2.ne⟩⟩
def jSB (CB:Can P w K mg Aq "is_bar" 7 fB fdB ["box","lot"] (spBar tb1 tb2))(hr:Room 7 (cxN P w K mg Aq nBarL qBarL barSc a (.ref c) cl A Ap s H0).A): { t:TE // JE (cxN P w K mg Aq nBarL qBarL barSc a (.ref c) cl A Ap s H0) barB' t} :=⟨_,(CB.je hr gl_n (j3 (jv 1 rfl (jSD Ab)) (j3 (jv 0 rfl qA) j6 j4) j4) j4)⟩
theorem jUU (CB:Can P w K mg Aq "is_bar" 7 fB fdB ["box","lot"] (spBar tb1 tb2))(cl:Aj)(i:BI):Callee P w K mg Aq (ZC cl ["box"] [.ref i.b]) (zhB cl i) 8 i.a (jHG [tb1,tb2] (HIb tb1 tb2 cl i) i.w.toNat (barP i.ms i.Ar)):=by
 refine jPN (fv:=[.ref i.b]) jW3 (fun vs H Q E h=>?_) (fun pm ctv us hl=>?_) fun A Ap s H vs Q E hr h=>?_
 ·obtain⟨_,_,rfl,_⟩:=h;rfl
 ·match us,hl with
  | [_],_=>rfl
 ·obtain⟨x,lot,rfl,hx,rk,hI,q⟩:=h;refine⟨_,(jSB CB hr).2.h,?_⟩;have w0:=i.g.w0;have rw':Ris i.w lot:=⟨rk.ris,fun z hz=>by have:=rk.bnd z hz; lia⟩;refine⟨_,rfl,_,rfl,i.b,x,i.w,i.ms,i.Ar,lot,rfl,hI.2.1,i.g,hx,rw',hI.2.2,fun H' e t=>?_⟩;refine q H' (fun b o h n=>e b o h (fun z=>n (z ▸ ai ..)) fun z=>n (z ▸ ag _ (ai ..))) ⟨⟨e.at hI.2.2 hI.1.1,e.at hI.2.2 hI.1.2⟩,hI.2.1.mono (e.tups hI.2.2),t⟩
abbrev jL0:Am:=["box"]
theorem scLBars:FnScope jL0 ["box"] (j7 yL):= {}
theorem fsBL:∀ x∈(["box"]:Am),barSc.names.lookup x=some .free:=by decide+kernel
theorem jXL:FsAt (XOf jL0 "least_bars" yL P w K mg Aq f (.ref c0) A Ap s H0 E) ["box"] [0]:=⟨rfl,fun k x h=>by
 match k,h with
 | 0,h=>
  cases h;exact⟨0,rfl,rfl, .inl (show (j7 yL).names.lookup (("box" :String):Str)=some .cell by decide+kernel)⟩
 | k+1,h=>cases h⟩
abbrev tP (tb:Addr):TT:=⟨tb,jSV,"picked.<locals>.named"⟩
abbrev tW (tb:Addr):TT:=⟨tb,lamP,qLam⟩
abbrev tK (tb:Addr):TT:=⟨tb,keyPo,qKey⟩
abbrev tB (tb:Addr):TT:=⟨tb,barPo,qBarL⟩
abbrev L4 (tb1 tb2 tb3 tb4:Addr):List TT:=[tP tb1,tW tb2,tK tb3,tB tb4]
def qZ (w:Int)(ms:Ag)(Ar:Ae):Af:=yF (barP ms Ar) (y6 w.toNat)
def jAW (tb1 tb2 tb3 tb4:Addr):Sp:=fun vs H Q _=>∃ (b:Addr) (w:Int) (ms:Ag) (Ar:Ae),vs=[.ref b]/\BoxAt H b w ms Ar/\Good 16 32 w ms Ar/\w<=9/\TbS (L4 tb1 tb2 tb3 tb4) H/\
 ∀ l us H',H' l=some (.lst us)->LsAt H' us (qZ w ms Ar)->ExS (ads (L4 tb1 tb2 tb3 tb4)) H H'->TbS (L4 tb1 tb2 tb3 tb4) H'->H l=none->Q (.ref l) H'
abbrev jKH (tb1 tb2 tb3:Addr)(cl:Aj)(i:BI):Sp:=jNB i.a tb3 [tb1,tb2] (HIb tb1 tb2 cl i) i.w.toNat (barP i.ms i.Ar)
def jX8 (T:Txt mg)(CH:PySem.W.CodeHd Aq c0 tb4)(BM:qR Aq mg){u9:Tok}(MN:mg "MOST_THINGS_WITH_BARS" =some (.int 9 u9))(FG:∀ cl i,FnZ P w K mg Aq CX0 (ZC cl ["box"] [.ref i.b]) 9 fG fdG ["things","holds"] (jKH tb1 tb2 tb3 cl i))(MG:mg "least_lots" =some (.ref fG))(KG:keepIn K (.ref fG)=true)(BG:Binds K fdG ["things","holds"] [])(hr:Room 9 (XOf jL0 "least_bars" yL P w K mg Aq f (.ref c0) A Ap s H0 E).A): { t:TS // JSs (XOf jL0 "least_bars" yL P w K mg Aq f (.ref c0) A Ap s H0 E) (jD yL) t} :=
 have nd:=scLBars.nd
 ⟨_,(jB (y8 (jY op_gt (jM jQ (jv 0 rfl vC) (je_int) jF) (jV6 (v:= .int 9) gD MN ⟨_,rfl⟩) (jT _)) (jC (jL8)) kB) (jC (jL (jLB (G:=fun (i:BI) σ=>jE1 σ [0] [.ref i.b]) (FG _) hr gD MG KG BG (fun i lK s σ H I q=>⟨I.clOk (jK (psc:=j7 yL)),I.fvOk (jK (psc:=j7 yL)) fsBL jXL q⟩) (j3 (jM jQ (jv 0 rfl vC) (je_int) jF) (j3 (jP4 rfl CH BM (jK (psc:=j7 yL)) rfl) j6 jSP) jR) jR))))⟩
theorem jR9 {fd:FuncData}(F:FunC K "least_bars" "least_bars" yL f fd c0)(T:Txt mg)(CH:PySem.W.CodeHd Aq c0 tb4)(BM:qR Aq mg){u9:Tok}(MN:mg "MOST_THINGS_WITH_BARS" =some (.int 9 u9))(FG:∀ cl i,FnZ P w K mg Aq CX0 (ZC cl ["box"] [.ref i.b]) 9 fG fdG ["things","holds"] (jKH tb1 tb2 tb3 cl i))(MG:mg "least_lots" =some (.ref fG))(KG:keepIn K (.ref fG)=true)(BG:Binds K fdG ["things","holds"] []):FnOk P w K mg Aq CX0 10 f fd ["box"] (jAW tb1 tb2 tb3 tb4):=by
 refine F.ok scLBars (fun vs H Q E h=>?_) (fun A Ap s H vs Q E hr h=>?_)
 ·obtain⟨_,_,_,_,rfl,_⟩:=h;rfl
 ·obtain⟨b,wi,ms,Ar,rfl,hB,g,w9,tab,q⟩:=h;refine⟨_,(jX8 T CH BM MN FG MG KG BG hr).2.h,?_⟩;obtain⟨qm,qp,ps,b1,b2,b3,b4⟩:=id hB.ex;have w0:=g.w0;have nd:=tab.nd;unfold ads L4 at nd;simp only [bf,iq,cf,aE,bE,dD,lA] at nd;obtain⟨⟨n12,n13,n14⟩,⟨n23,n24⟩,n34,_⟩:=nd;have o1:=tab.ok (tP tb1) (ai ..);have o2:=tab.ok (tW tb2) (ag _ (ai ..));have o3:=tab.ok (tK tb3) (ag _ (ag _ (ai ..)));have o4:=tab.ok (tB tb4) (ag _ (ag _ (ag _ (ai ..))));refine⟨_,rfl,b,_,0,_,rfl,rfl,SqT.of b1,rfl,_,_,rfl,rfl,_,rfl,?_⟩;refine iteN (aN Aa) ?_;refine⟨_,rfl,b,_,0,_,rfl,rfl,SqT.of b1,rfl,o4,fun a c H1 k1 k2 k3 e1 na=>?_⟩;have x1:ExS (ads (L4 tb1 tb2 tb3 tb4)) H H1:=ExS.ofT e1 (by show tb4∈[tb1,tb2,tb3,tb4]; simp);have T1:TbS (L4 tb1 tb2 tb3 tb4) H1:=tab.setT (x:=tB tb4) (ag _ (ag _ (ag _ (ai ..)))) e1 (.inr ⟨c,k3,k2⟩);have tu1:=tab.tups x1;have p1:=T1.ok (tP tb1) (ai ..);have p2:=T1.ok (tW tb2) (ag _ (ai ..));have p3:=T1.ok (tK tb3) (ag _ (ag _ (ai ..)));have t12:Tb2 H1 tb1 tb2:=⟨p1,p2,n12⟩;refine⟨⟨a,c,b,wi,ms,Ar,g⟩,rfl,by show [V.int wi,V.ref a]=[V.int ((wi.toNat:Nat):Int),V.ref a]; rw[bW w0],by show wi.toNat<=16; lia,p3,fun H' e' t'=>?_,?_,fun l us H2 h2 hu e2 I2 k2' n2=>?_⟩
  ·have at1:∀ {b:Addr}{o:HO},H1 b=some o->(∀ ps,o≠ .tbl ps)->H' b=some o:=fun {b o} h t=>e' b o h (p3.ne h t);refine⟨⟨at1 k1 (by intro _ z; cases z),at1 k2 (by intro _ z; cases z)⟩,(hB.mono tu1).mono fun b xs h=>at1 h (by intro _ z; cases z),?_⟩;exact⟨TabOk.extO t12.p n13 (fun c h=>p3.ne h (by intro _ z; cases z)) e',TabOk.extO t12.w n23 (fun c h=>p3.ne h (by intro _ z; cases z)) e',n12⟩
  ·show tb3∉ [tb1,tb2];simp only [aE,bE,dD,lA];exact⟨fun z=>n13 z.symm,fun z=>n23 z.symm⟩
  ·have e3:ExS (ads (L4 tb1 tb2 tb3 tb4)) H1 H2:=ExS.mono (fun x hx=>by
    show x∈[tb1,tb2,tb3,tb4];simp only [aE,bE,dD] at hx ⊢;rcases hx with z | z | z
    ·exact .inr (.inr (.inl z))
    ·exact .inl z
    ·exact .inr (.inl z)) e2
   have T2:TbS (L4 tb1 tb2 tb3 tb4) H2:=T1.set (S:=[tb3,tb1,tb2]) (fun x hx=>by
    show x∈[tb1,tb2,tb3,tb4];simp only [aE,bE,dD] at hx ⊢;rcases hx with z | z | z
    ·exact .inr (.inr (.inl z))
    ·exact .inl z
    ·exact .inr (.inl z)) e2 fun x hx hm=>by
     simp only [aE,bE,dD] at hx;rcases hx with rfl | rfl | rfl | rfl
     ·exact I2.2.2.p
     ·exact I2.2.2.w
     ·exact k2'
     ·exfalso;simp only [aE,bE,dD] at hm;rcases hm with z | z | z
      ·exact n34 z.symm
      ·exact n14 z.symm
      ·exact n24 z.symm
   refine q l us H2 h2 hu (x1.trans e3) T2 ?_;cases z:H l with
   | none=>rfl
   | some o=>
    by_cases y:l=tb4
    ·rw[y,k3] at n2;cases n2
    ·rw[e1 _ _ z y] at n2;cases n2
structure NC (ms:Ag)(Ar:Ae)(ts S:Ag):Prop where
 bnd:∀ k∈S,0<=k/\k<Ar.length
 dis:∀ k∈S,∀ k'∈S,k≠k'->∀ t∈ts,t∈j8 Ar k->t∉j8 Ar k'
 cov:∀ t∈ts,t∉ms->∃ k∈S,t∈j8 Ar k
theorem jQ9 {w:Int}{ms:Ag}{Ar:Ae}{ts:Ag}(g:Good 16 32 w ms Ar)(rk:Ris w ts):wkN ms Ar ts≠ []↔∃ S,NC ms Ar ts S:=by
 have gn:=jF1 g rk;have el:cvs (ts.length:Int) (nmd ts ms) (pick ts Ar (lkP Ar ts))=(wkN ms Ar ts).map srt:=by
  unfold cvs wkN;rw[aR]
 have ex:wkN ms Ar ts≠ []↔∃ c,IsCov (ts.length:Int) (nmd ts ms) (pick ts Ar (lkP Ar ts)) c:=by
  constructor
  ·intro h;obtain⟨x,r,hx⟩:=dW h;exact⟨srt x,(qD gn).mp (by rw[el,hx]; exact ai ..)⟩
  ·rintro ⟨c,hc⟩ z;have:=(qD gn).mpr hc;rw[el,z] at this;cases this
 have nlk:(lkP Ar ts).Nodup:=((kQ Ar.length).ris.sublist fY).imp fun {a b} h=>by lia
 have pl:(pick ts Ar (lkP Ar ts)).length=(lkP Ar ts).length:=af ..;have lkm:∀ j:Int,0<=j->j<(lkP Ar ts).length->(lkP Ar ts).getD j.toNat 0∈lkP Ar ts:=fun j h0 h1=>by
  have hj:j.toNat<(lkP Ar ts).length:=Aa;rw[aj,aq hj];exact cn hj
 rw[ex];constructor
 ·rintro ⟨c,C⟩;have cb:∀ j∈c,0<=j/\j<(lkP Ar ts).length:=fun j hj=>by have:=C.ris.bnd j hj; rw[pl] at this; exact this
  refine⟨c.map fun j=>(lkP Ar ts).getD j.toNat 0,fun k hk=>?_,fun k hk k' hk' ne t ht h1 h2=>?_,fun t ht hn=>?_⟩
  ·obtain⟨j,hj,rfl⟩:=aQ.mp hk;exact jJL _ (lkm j (cb j hj).1 (cb j hj).2)
  ·obtain⟨j,hj,rfl⟩:=aQ.mp hk;obtain⟨j',hj',rfl⟩:=aQ.mp hk';have nj:j≠j':=fun z=>ne (by rw[z]);refine C.dis j hj j' hj' nj ((ts.idxOf t:Nat):Int) ?_ ?_
   ·rw[jA3 (cb j hj).1 (cb j hj).2];exact mem_nmd.mpr ⟨t,h1,ht,rfl⟩
   ·rw[jA3 (cb j' hj').1 (cb j' hj').2];exact mem_nmd.mpr ⟨t,h2,ht,rfl⟩
  ·have hp:ts.idxOf t<ts.length:=bP.mpr ht;obtain⟨j,hj,hjt⟩:=C.cov ((ts.idxOf t:Nat):Int) Aa Aa (fun z=>by
    obtain⟨u,hu,hut,e⟩:=mem_nmd.mp z;exact hn (jCI ht hut e ▸ hu))
   rw[jA3 (cb j hj).1 (cb j hj).2] at hjt;obtain⟨u,hu,hut,e⟩:=mem_nmd.mp hjt;exact⟨_,bO hj,jCI ht hut e ▸ hu⟩
 ·rintro ⟨S,N⟩;refine⟨(upto (lkP Ar ts).length).filter fun j=>decide ((lkP Ar ts).getD j.toNat 0∈S),⟨(kQ _).ris.sublist fY,fun j hj=>?_⟩,fun j hj j' hj' ne p h1 h2=>?_,fun p p0 p1 hn=>?_⟩
  ·rw[pl];exact(kQ _).bnd j (ba.mp hj).1
  ·obtain⟨a1,a2⟩:=ba.mp hj;obtain⟨b1,b2⟩:=ba.mp hj';have ab:=(kQ _).bnd j a1;have bb:=(kQ _).bnd j' b1;rw[jA3 ab.1 ab.2] at h1;rw[jA3 bb.1 bb.2] at h2;obtain⟨t,ht,hts,e⟩:=mem_nmd.mp h1;obtain⟨u,hu,hus,e'⟩:=mem_nmd.mp h2;have:t=u:=jCI hts hus Aa;subst this;refine N.dis _ (aI a2) _ (aI b2) (fun z=>ne ?_) t hts ht hu;have hj1:j.toNat<(lkP Ar ts).length:=Aa;have hj2:j'.toNat<(lkP Ar ts).length:=Aa;rw[aj,aj,aq hj1,aq hj2] at z;have:j.toNat=j'.toNat:=(fj hj1 nlk).mp (by rw[aq hj1,aq hj2]; exact bY some z);lia
  ·have hp:p.toNat<ts.length:=Aa;have ht:ts[p.toNat]∈ts:=cn hp;have ip:((ts.idxOf ts[p.toNat]:Nat):Int)=p:=by
    have h1:=(jA6 ht).1;have nd:ts.Nodup:=rk.ris.imp fun {a b} h=>by lia
    have hlt:ts.idxOf ts[p.toNat]<ts.length:=bP.mpr ht;have:=(fj hlt nd).mp (h1.trans (aq hp).symm);lia
   obtain⟨k,hk,hkt⟩:=N.cov _ ht (fun z=>hn (mem_nmd.mpr ⟨_,z,ht,ip.symm⟩));have kb:=N.bnd k hk;have kl:k∈lkP Ar ts:=by
    unfold lkP;refine ba.mpr ⟨?_,dR.mpr ⟨_,hkt,ax ht⟩⟩;unfold upto;exact aQ.mpr ⟨k.toNat,bF.mpr Aa,Aa⟩
   have hj:(lkP Ar ts).idxOf k<(lkP Ar ts).length:=bP.mpr kl;have gk:(lkP Ar ts).getD ((lkP Ar ts).idxOf k:Int).toNat 0=k:=by
    rw[aR,aj,(jA6 kl).1];rfl
   refine⟨((lkP Ar ts).idxOf k:Int),ba.mpr ⟨mem_upto.mpr ⟨Aa,Aa⟩,ax (by rw[gk]; exact hk)⟩,?_⟩;rw[jA3 Aa Aa,gk];exact mem_nmd.mpr ⟨_,hkt,ht,ip.symm⟩
theorem jQ8 (p:Nat->Bool):∀ n:Nat,∃ m<2 ^ n,∀ t<n,m.testBit t=p t
 | 0=>⟨0,Ac,fun t h=>by lia⟩
 | n+1=>by
  obtain⟨m,hm,h⟩:=jQ8 p n;refine⟨2 ^ n*(p n).toNat+m,?_,fun t ht=>?_⟩
  ·have:(p n).toNat<=1:=Bool.toNat_le _;have:=io (2 ^ n) this;rw[Nat.pow_succ];lia
  ·rw[Nat.testBit_two_pow_mul_add _ hm];split
   ·exact h t (by assumption)
   ·have:t=n:=by lia
    rw[this,gJ];cases p n <;> rfl
theorem jHO {n:Nat}{x:Ag}(r:Ris (n:Int) x):x∈y6 n:=by
 refine(jBU n).mem_iff.mpr ?_;obtain⟨m,hm,h⟩:=jQ8 (fun t=>decide ((t:Int)∈x)) n;refine aQ.mpr ⟨m,bF.mpr hm,jJ8 (jLO n m).ris r.ris fun y=>?_⟩;unfold btsN;rw[aQ];constructor
 ·rintro ⟨t,ht,rfl⟩;obtain⟨h1,h2⟩:=ba.mp ht;rw[h t (bF.mp h1)] at h2;exact aI h2
 ·intro hy;have b:=r.bnd y hy;refine⟨y.toNat,ba.mpr ⟨bF.mpr Aa,?_⟩,Aa⟩;rw[h _ Aa];exact ax (by rw[bW b.1]; exact hy)
theorem inB_iff {y x:Ag} :inB y x=true↔∀ t∈y,t∈x:=by
 unfold inB;rw[bK];exact⟨fun h t ht=>aI (h t ht),fun h t ht=>ax (h t ht)⟩
theorem jPM {pr:Ag->Bool} :∀ {ws acc:Af}{x:Ag},x∈ws.foldl (yP pr) acc->x∈acc\/pr x=true
 | [],_,_,h=> .inl h
 | y::ws,acc,x,h=>by
  rcases jPM (ws:=ws) h with z | z
  ·unfold yP at z;split at z
   ·rename_i c;rcases aP.mp z with z | z
    ·exact .inl z
    ·rw[aK.mp z];rw[bD] at c;exact .inr c.2
   ·exact .inl z
  ·exact .inr z
theorem jF4 {pr:Ag->Bool} :∀ {ws acc:Af}{x:Ag},x∈acc->x∈ws.foldl (yP pr) acc
 | [],_,_,h=>h
 | y::ws,acc,x,h=>by
  refine jF4 (ws:=ws) ?_;unfold yP;split
  ·exact aZ _ h
  ·exact h
theorem jGX {pr:Ag->Bool} :∀ {ws acc:Af}{x:Ag},x∈ws->pr x=true->∃ y∈ws.foldl (yP pr) acc,inB y x=true
 | [],_,_,h,_=>by cases h
 | z::ws,acc,x,h,hp=>by
  rcases aE.mp h with e | e
  ·subst e;by_cases c:(acc.any fun y=>inB y x)=true
   ·obtain⟨y,hy,hi⟩:=dR.mp c;exact⟨y,jF4 (ws:=x::ws) hy,hi⟩
   ·refine⟨x,?_,inB_iff.mpr fun t h=>h⟩;rw[List.foldl_cons];refine jF4 ?_;unfold yP;rw[ay (by rw[bD,cH]; exact⟨cj.mpr c,hp⟩)];exact aF _ (aK.mpr rfl)
  ·exact jGX (ws:=ws) e hp
theorem jBY {pr:Ag->Bool}{n:Nat}{x:Ag}(h:x∈yF pr (y6 n)):pr x=true/\Ris (n:Int) x:=by
 refine⟨?_,?_⟩
 ·rcases jPM h with z | z
  ·cases z
  ·exact z
 ·rcases jBZ h with z | z
  ·cases z
  ·exact jCV z
theorem jF3 {pr:Ag->Bool} :∀ {ws acc:Af},(acc.Pairwise fun a b=>inB a b=false)->(ws.foldl (yP pr) acc).Pairwise fun a b=>inB a b=false
 | [],_,h=>h
 | x::ws,acc,h=>by
  refine jF3 (ws:=ws) ?_;unfold yP;split
  ·rename_i c;rw[bD,cH] at c;refine cw.mpr ⟨h,eV _ _,fun a ha b hb=>?_⟩;rw[aK.mp hb];exact cj.mpr fun z=>by
    have:(acc.any fun y=>inB y x)=true:=dR.mpr ⟨a,ha,z⟩;rw[c.1] at this;cases this
  ·exact h
theorem jLH {pr:Ag->Bool} :∀ {ws acc:Af},(ws.foldl (yP pr) acc).Sublist (acc++ws)
 | [],acc=>by rw[bg]; exact i5 _
 | x::ws,acc=>by
  refine(jLH (ws:=ws)).trans ?_;rw[<- List.singleton_append,<- aY];refine List.Sublist.append ?_ (i5 _);unfold yP;split
  ·exact i5 _
  ·exact eO _ _
theorem jOR {pr:Ag->Bool}{n:Nat}{x y:Ag}(hx:x∈yF pr (y6 n))(ry:Ris (n:Int) y)(sub:∀ t∈y,t∈x)(lt:y.length<x.length):pr y=false:=by
 refine cj.mpr fun hy=>?_;obtain⟨z,hz,hi⟩:=jGX (acc:=[]) (jHO ry) hy;have hz:z∈yF pr (y6 n):=hz;have zy:=inB_iff.mp hi;have rz:=(jBY hz).2;have zl:z.length<=y.length:=jGQ id (rz.ris.imp fun {a b} h=>by lia) (fun a ha=>zy a ha) fun a _ b _ e=>e;obtain⟨i,hi⟩:=bq hz;obtain⟨j,hj⟩:=bq hx;obtain⟨hi1,hi2⟩:=ao.mp hi;obtain⟨hj1,hj2⟩:=ao.mp hj;rcases gA i j with q | q | q
 ·have:inB (yF pr (y6 n))[i] (yF pr (y6 n))[j]=false:=bL.mp (jF3 (pr:=pr) (ws:=y6 n) List.Pairwise.nil) i j hi1 hj1 q;rw[hi2,hj2] at this;rw[inB_iff.mpr fun t ht=>sub t (zy t ht)] at this;cases this
 ·subst q;rw[hi] at hj;cases hj;lia
 ·have:HT.lexLt (keyL (yF pr (y6 n))[i]) (keyL (yF pr (y6 n))[j])=false:=bL.mp ((jHM n).sublist (jLH (pr:=pr) (ws:=y6 n) (acc:=[]))) j i hj1 hi1 q;rw[hi2,hj2] at this;have l1:HT.lexLt (keyL z) (keyL x)=true:=by
   unfold keyL HT.lexLt;have:((z.length:Nat):Int)<x.length:=by lia
   simp [this];exact .inl Aa
  rw[l1] at this;cases this
end Eo
section
namespace L2
open PySem
theorem Callee.imp2 {P:Program}{w:World}{K:W.Frag}{mg:Ak}{Aq:Heap}{Z:Shared->Hp->Prop}{zh zh':Hp->Prop}{k:Nat}{a:Addr}{sp sp':Sp}(C:Callee P w K mg Aq Z zh k a sp)(h1:∀ H,zh' H->zh H)(h2:∀ vs H Q E,zh' H->sp' vs H Q E->sp vs H Q E):Callee P w K mg Aq Z zh' k a sp':=
 ⟨fun A Ap s H e z=>C.fn A Ap s H e (h1 H z),fun A Ap s H us vs Q E hr he hz zh r q=>C.run A Ap s H us vs Q E hr he hz (h1 H zh) r (h2 _ _ _ _ zh q)⟩
end L2
namespace Eo
open PySem L2
def wgt (Ar:Ae)(k:Int):Int:=(Ar.getD k.toNat ([],0)).2
def wt (Ar:Ae)(x:Ag):Int:=(x.map (wgt Ar)).sum
def minW (Ar:Ae):Af->Option (Ag)
 | []=>none
 | x::r=>match minW Ar r with
  | none=>some x
  | some y=>if wt Ar y<wt Ar x then some y else some x
def qP (Ar:Ae):Option (Ag)->Option (Ag)->Option (Ag)
 | none,b=>b
 | some x,none=>some x
 | some x,some y=>if wt Ar y<wt Ar x then some y else some x
theorem minW_none {Ar:Ae}{l:Af} :minW Ar l=none↔l=[]:=by
 cases l with
 | nil=>exact⟨fun _=>rfl,fun _=>rfl⟩
 | cons x r=>
  refine⟨fun h=>?_,fun h=>(by cases h)⟩;unfold minW at h;split at h
  ·cases h
  ·split at h <;> cases h
theorem jJO (Ar:Ae)(a b c:Option (Ag)):qP Ar (qP Ar a b) c=qP Ar a (qP Ar b c):=by
 cases a with
 | none=>rfl
 | some x=>cases b with
  | none=>rfl
  | some y=>cases c with
   | none=>
    show qP Ar (if wt Ar y<wt Ar x then some y else some x) none=if wt Ar y<wt Ar x then some y else some x
    split <;> rfl
   | some z=>
    show qP Ar (if wt Ar y<wt Ar x then some y else some x) (some z)=qP Ar (some x) (if wt Ar z<wt Ar y then some z else some y);by_cases h1:wt Ar y<wt Ar x <;> by_cases h2:wt Ar z<wt Ar y <;> by_cases h3:wt Ar z<wt Ar x <;> simp only [h1,h2,h3,g5,ja,qP] <;> first | rfl | lia
theorem jBE (Ar:Ae)(x:Ag)(r:Af):minW Ar (x::r)=qP Ar (some x) (minW Ar r):=by
 rw[minW];cases minW Ar r <;> rfl
theorem jEQ (Ar:Ae):∀ (a b:Af),minW Ar (a++b)=qP Ar (minW Ar a) (minW Ar b)
 | [],b=>rfl
 | x::r,b=>by rw[jc,jBE,jEQ Ar r b,jBE,jJO]
theorem jMU (Ar:Ae)(c:Int)(x:Ag):wt Ar (c::x)=wgt Ar c+wt Ar x:=by
 unfold wt;rw[bf,dG]
theorem jL1 (Ar:Ae)(c:Int):∀ (l:Af),minW Ar (l.map fun x=>if c<0 then x else c::x)=(minW Ar l).map fun x=>if c<0 then x else c::x
 | []=>rfl
 | x::r=>by
  rw[bf,jBE,jBE,jL1 Ar c r];cases minW Ar r with
  | none=>rfl
  | some y=>
   show (if wt Ar (if c<0 then y else c::y)<wt Ar (if c<0 then x else c::x) then _ else _)=Option.map _ (if wt Ar y<wt Ar x then some y else some x);by_cases hc:c<0
   ·simp only [hc,g5];split <;> rfl
   ·simp only [hc,ja,jMU];by_cases h:wt Ar y<wt Ar x
    ·rw[ay Aa,ay h];rfl
    ·rw[aw Aa,aw h];rfl
theorem jE4 {Ar:Ae}{x:Ag} :∀ {l:Af},minW Ar l=some x->x∈l/\∀ y∈l,wt Ar x<=wt Ar y
 | [],h=>by cases h
 | z::r,h=>by
  rw[jBE] at h;cases hr:minW Ar r with
  | none=>
   rw[hr] at h;have h:some z=some x:=h;cases h;rw[minW_none.mp hr];exact⟨ai .., fun y hy=>by rw[aK] at hy; rw[hy]; exact cY _⟩
  | some y=>
   rw[hr] at h;obtain⟨i1,i2⟩:=jE4 hr;have h:(if wt Ar y<wt Ar z then some y else some z)=some x:=h;split at h
   ·cases h;refine⟨ag _ i1,fun u hu=>?_⟩;rcases aE.mp hu with q | q
    ·rw[q]; lia
    ·exact i2 u q
   ·cases h;refine⟨ai .., fun u hu=>?_⟩;rcases aE.mp hu with q | q
    ·rw[q]; exact cY _
    ·have:=i2 u q;lia
def LtAt (Ar:Ae)(H:Hp)(v:V)(o:Option (Ag)):Prop:=match o with
 | none=>v= .non
 | some x=>∃ q r,v= .ref q/\H q=some (.tup [.int (wt Ar x), .ref r])/\H r=some (.tup (x.map V.int))
theorem LtAt.mono {Ar:Ae}{H H':Hp}{v:V}{o:Option (Ag)}(t:Tups H H')(h:LtAt Ar H v o):LtAt Ar H' v o:=by
 cases o with
 | none=>exact h
 | some x=>obtain⟨q,r,e,h1,h2⟩:=h; exact⟨q,r,e,t _ _ h1,t _ _ h2⟩
def RLt (Ar:Ae)(ch:Ch):RepT:=fun m H v=>LtAt Ar H v (minW Ar (wk ch m))
theorem RLt.ok (Ar:Ae)(ch:Ch):RepOk (RLt Ar ch):=fun m v=>⟨fun H H' D kvs hD k h=>h.mono fun q xs hq=>k _ _ hq fun z=>(by rw[z,hD] at hq; cases hq),fun H H' e h=>h.mono e.tups⟩
def preW (ch:Ch)(m i:Nat):Af:=wJ (((chAt ch m).take i).map fun c=>(c.1,wk ch (m|||c.2)))
theorem jNL {ch:Ch}{m i:Nat}{c:Int×Nat}(h:(chAt ch m)[i]?=some c):preW ch m (i+1)=preW ch m i++(wk ch (m|||c.2)).map fun x=>if c.1<0 then x else c.1::x:=by
 unfold preW;rw[be,h,aU,jH8];congr 1;unfold wJ;exact gP _ _
theorem jQS {ch:Ch}{m:Nat}(o:ChOk ch)(h:m<2 ^ ch.length)(hn:m≠fullN ch):preW ch m (chAt ch m).length=wk ch m:=by
 unfold preW;rw[bz,jB6 o h hn]
def ifOf:Stmt->List Stmt
 | .If _ b _ _=>b
 | _=> []
structure LI where
 a:Addr
 c:Addr
 b:Addr
 w:Int
 ms:Ag
 Ar:Ae
 g:Good 16 32 w ms Ar
abbrev LI.ch (i:LI):Ch:=chs i.w.toNat i.ms i.Ar
abbrev qJ:Stmt:=(jD yX).getD 0 (.Pass ⟨0,0,0,0⟩)
abbrev pLBeh:Pos:=match qJ with
 | .FunctionDef _ _ _ _ _ _ _ _ _ p=>p
 | _=>⟨0,0,0,0⟩
abbrev qLB:Str:= "lightest.<locals>.lightest_behind"
abbrev nLBeh:Am:=["behind","box","best","number","found","weight"]
theorem scLBeh:NScope nLBeh ["behind"] ["box"] (j7 qJ):=⟨rfl,rfl,rfl,Ab,rfl,Ab,Ab,fun x h=>by
  have hl:∀ y∈(j7 qJ).names,y.2= .free->y.1= "box" :=Ab;rw[aK];exact hl _ (b9 h) rfl,Ab⟩
def spLB:List V->Sp:=fun fv vs H Q E=>∃ i:LI,fv=[.ref i.b]/\BoxAt H i.b i.w i.ms i.Ar/\jFL i.ch (RLt i.Ar i.ch) vs H Q E
section
def lbInA (T:Txt mg): { t:TS // JSs (cxN P w K mg Aq nLBeh qLB (j7 qJ) f cd cl A Ap s H0) ((ifOf ((jD1 ((jD qJ).getD 1 (.Pass ⟨0,0,0,0⟩))).getD 0 (.Pass ⟨0,0,0,0⟩))).drop 1) t} :=
 have nd:=scLBeh.nd
 ⟨_,(jC (y8 (jt_w (jw_or (jY jSX (jv 2 rfl qA) (jFT) (jT _)) (jOX (jY op_lt (jv 5 rfl qA) (jM jQ (jv 2 rfl qA) (je_int) jF) (jT _))))) (jC (jU (i:=2) nd rfl loc_n (yG (j3 (jv 5 rfl qA) (j3 (jP5 (jY op_ge (jv 3 rfl qA) (je_int) (jT _)) (kX jJD (yG (j3 (jv 3 rfl qA) j6 j4)) (jM jQ (jv 4 rfl qA) (je_int) jF)) (jM jQ (jv 4 rfl qA) (je_int) jF)) j6 jW1) j4)) jSN)) kB))⟩
def jV2 (T:Txt mg): { t:TS // JSs (cxN P w K mg Aq nLBeh qLB (j7 qJ) f cd cl A Ap s H0) (jD1 ((jD qJ).getD 1 (.Pass ⟨0,0,0,0⟩))) t} :=
 have nd:=scLBeh.nd
 ⟨_,(jC (y8 (jY jNU (jv 4 rfl qA) (jFT) (jT _)) (jB (jU (i:=5) nd rfl loc_n (kX yE (jM jQ (jv 4 rfl qA) (je_int) jF) (jP5 (jY op_ge (jv 3 rfl qA) (je_int) (jT _)) (jM jQ (jM jQ (jM jQ (jv 1 rfl (jSD Ab)) (je_int) jF) (jv 3 rfl qA) jAY) (je_int) jF) (je_int))) jKF) (lbInA T).2) kB))⟩
def lbehA (T:Txt mg): { t:TS // JSs (cxN P w K mg Aq nLBeh qLB (j7 qJ) f cd cl A Ap s H0) (jD qJ) t} :=
 have nd:=scLBeh.nd
 ⟨_,(jB (jU (i:=2) nd rfl loc_n (jFT) jKE) (jB (jCA cB rfl (yN (jv 0 rfl qA)) (jRO (i:=3) (j:=4) nd rfl rfl Ab Ab) (jV2 T).2 y9) (jC (jL (jv 2 rfl qA)))))⟩
theorem lb_in (T:Txt mg){D:Ends}{H:Hp}{l b pq pr:Addr}{ve:V}{c:Int}{Ar:Ae}{y:Ag}{ob:Option (Ag)}(hpq:H pq=some (.tup [.int (wt Ar y), .ref pr]))(hpr:H pr=some (.tup (y.map V.int)))(yl:y.length<=16)(hve:LtAt Ar H ve ob)
  (nx:∀ H' ve',Ext H H'->LtAt Ar H' ve' (qP Ar ob (some (if c<0 then y else c::y)))->D.nx [some (.ref l),some (.ref b),some ve',some (.int c),some (.ref pq),some (.int (wt Ar (if c<0 then y else c::y)))] H'):
  (lbInA (P:=P) (w:=w) (K:=K) (mg:=mg) (Aq:=Aq) (f:=f) (cd:=cd) (cl:=cl) (A:=A) (Ap:=Ap) (s:=s) (H0:=H0) T).1 D [some (.ref l),some (.ref b),some ve,some (.int c),some (.ref pq),some (.int (wt Ar (if c<0 then y else c::y)))] H:=by
 refine⟨_,rfl,rfl,_,rfl,?_⟩;rcases ob with _ | z
 case' none=>
  have hve:ve= .non:=hve;subst hve;have ej:qP Ar none (some (if c<0 then y else c::y))=some (if c<0 then y else c::y):=rfl;refine iteT (iteT ?_)
 case' some=>
  obtain⟨zq,zr,rfl,hz1,hz2⟩:=hve;refine iteF ⟨_,rfl,_,rfl,zq,_,0,_,rfl,rfl,SqT.of hz1,rfl,_,_,rfl,rfl,_,rfl,?_⟩;by_cases hlt:wt Ar (if c<0 then y else c::y)<wt Ar z
  case' neg=>
   rw[aN hlt];exact iteF (nx H (.ref zq) (Ext.refl _) (by
    show LtAt Ar H (.ref zq) (if _ then _ else _);rw[aw hlt];exact⟨zq,zr,rfl,hz1,hz2⟩))
  rw[ax hlt];have ej:qP Ar (some z) (some (if c<0 then y else c::y))=some (if c<0 then y else c::y):=ay hlt;refine iteT ?_
 all_goals
  rw[ej] at nx;refine⟨_,rfl,_,rfl,_,_,rfl,rfl,_,rfl,?_⟩;by_cases hc:c<0
  ·have h0:decide ((0:Int)<=c)=false:=aN Aa;rw[h0];refine iteF ⟨_,rfl,pq,_,1,_,rfl,rfl,SqT.of hpq,rfl,by show (2:Nat)<=_; decide,fun r4 H4 d4 e4=>nx H4 (.ref r4) e4 ⟨r4,pr,rfl,d4,?_⟩⟩;rw[ay hc];exact e4 _ _ hpr
  ·have h0:decide ((0:Int)<=c)=true:=ax Aa;rw[h0];refine iteT ⟨_,rfl,by show (1:Nat)<=_; decide,fun r2 H2 d2 e2=>⟨_,rfl,pq,_,1,_,rfl,rfl,SqT.of (e2 _ _ hpq),rfl,r2,pr,_,_,rfl,rfl,d2,e2 _ _ hpr,by rw[af,aH]; show 1+_<=_; lia,fun r3 H3 d3 e3=>⟨by show (2:Nat)<=_; decide,fun r4 H4 d4 e4=>nx H4 (.ref r4) ((e2.trans e3).trans e4) ⟨r4,r3,rfl,d4,?_⟩⟩⟩⟩;rw[aw hc];exact e4 _ _ d3
theorem jUP (T:Txt mg):FnN P w K mg Aq 1 "lightest_behind" qLB (y0 qJ) (jD qJ) (j7 qJ) ["behind"] ["box"] spLB:=by
 refine jT9 scLBeh (fun fv vs H Q E h=>?_) (fun cl doc pm c ctv us hl=>?_) fun A Ap s H a c cl vs fv Q E hr h=>?_
 ·obtain⟨i,rfl,_,_,_,_,rfl,_⟩:=h;rfl
 ·match us,hl with
  | [_],_=>rfl
 ·obtain⟨⟨_,_,b,w,ms,Ar,g⟩,rfl,hB,l,us,m,rfl,hl,hm,hf,av,q⟩:=h;refine⟨_,(lbehA T).2.h,?_⟩;have o:ChOk (chs w.toNat ms Ar):=qH g;obtain⟨qm,qp,ps,b1,b2,b3,b4⟩:=id hB.ex;have gpl:=g.pl;refine⟨_,rfl,l,rfl,⟨_,SqL.of hl⟩,jD6 (xs:=us) (fun i σ H'=>Ext H H'/\∃ ve:V,(∃ v3 v4 v5,σ=[some (.ref l),some (.ref b),some ve,v3,v4,v5])/\LtAt Ar H' ve (minW Ar (preW (chs w.toNat ms Ar) m i))) ⟨Ext.refl _, .non,⟨_,_,_,rfl⟩,rfl⟩ (fun i σ H' _ ⟨e,_⟩=>SqL.of (e _ _ hl)) ?_ ?_⟩
  ·rintro i x σ H' hx ⟨e,ve,⟨v3,v4,v5,rfl⟩,hve⟩;obtain⟨c,hc,p,u,rfl,hp,hR⟩:=av.get' hx;obtain⟨m1,m2,m3,m4,m5⟩:=o.mem hm hf (aB hc);have hsu:=jNL hc;have hR:LtAt Ar H' u (minW Ar (wk (chs w.toNat ms Ar) (m|||c.2))):=LtAt.mono e.tups hR;have mup:=(o.up hm hf (aB hc)).2;have hmin:minW Ar (preW (chs w.toNat ms Ar) m (i+1))=qP Ar (minW Ar (preW (chs w.toNat ms Ar) m i)) ((minW Ar (wk (chs w.toNat ms Ar) (m|||c.2))).map fun x=>if c.1<0 then x else c.1::x):=by
    rw[hsu,jEQ,jL1]
   refine⟨p,_,rfl,SqT.of (e _ _ hp),rfl,_,_,rfl,_,_,rfl,rfl,?_⟩;refine⟨_,rfl,rfl,_,rfl,?_⟩;cases hW:minW Ar (wk (chs w.toNat ms Ar) (m|||c.2)) with
   | none=>
    rw[hW] at hR hmin;have hR:u= .non:=hR;subst hR;refine iteF ⟨e,ve,⟨_,_,_,rfl⟩,?_⟩;rw[hmin];revert hve;cases minW Ar (preW (chs w.toNat ms Ar) m i) with
    | none=>exact id
    | some z=>exact id
   | some y=>
    rw[hW] at hR hmin;obtain⟨pq,pr,rfl,hpq,hpr⟩:=hR;obtain⟨yb,yl⟩:=jK8 o _ mup y (jE4 hW).1;have w16:=o.w;refine iteT ⟨_,rfl,pq,_,0,_,rfl,rfl,SqT.of hpq,rfl,_,rfl,_,_,rfl,rfl,_,rfl,?_⟩;have y16:y.length<=16:=Aa;refine ite2 (fun h0=>?_) (fun h0=>?_)
    ·have h0:0<=c.1:=aI h0;have hlt:=jXP hm hf (aB hc);obtain⟨pv,hpv,pa,pw,rfl,ha1,ha2⟩:=b4.get (k:=c.1.toNat) Aa;have at1:atI ps c.1=some (.ref pa):=by
      have:=yW hpv
      rwa [show ((c.1.toNat:Nat):Int)=c.1 by lia] at this
     refine⟨_,rfl,b,_,2,_,rfl,rfl,SqT.of (e _ _ b1),rfl,_,rfl,qp,_,c.1,_,rfl,rfl,SqT.of (e _ _ b3),at1,pa,_,1,_,rfl,rfl,SqT.of (e _ _ ha1),rfl,_,_,rfl,rfl,?_⟩;have ew:wt Ar y+(Ar.getD c.1.toNat ([],0)).2=wt Ar (if c.1<0 then y else c.1::y):=by
      rw[aw Aa,jMU];unfold wgt;lia
     show kL 5 (V.int (wt Ar y+(Ar.getD c.1.toNat ([],0)).2)) _ _ _;rw[ew];exact lb_in T hpq hpr y16 hve fun H2 ve' e2 h2=>⟨e.trans e2,ve',⟨_,_,_,rfl⟩,by rw[hmin]; exact h2⟩
    ·have h0:c.1<0:=Int.not_le.mp fun z=>h0 (ax z);refine⟨_,_,rfl,rfl,?_⟩;have ew:wt Ar y+0=wt Ar (if c.1<0 then y else c.1::y):=by
      rw[ay h0];lia
     show kL 5 (V.int (wt Ar y+0)) _ _ _;rw[ew];exact lb_in T hpq hpr y16 hve fun H2 ve' e2 h2=>⟨e.trans e2,ve',⟨_,_,_,rfl⟩,by rw[hmin]; exact h2⟩
  ·rintro σ H' ⟨e,ve,⟨v3,v4,v5,rfl⟩,hve⟩;rw[av.len,jQS o hm hf] at hve;exact⟨_,rfl,q ve H' hve e⟩
def zhL (cl:Aj)(i:LI):Hp->Prop:=fun H=>(H i.a=some (.ext (nfP "lightest_behind" qLB (y0 qJ) (jD qJ) (j7 qJ) cl i.a i.c))/\H i.c=some (.ext (ncP qLB i.c)))/\BoxAt H i.b i.w i.ms i.Ar
theorem zhL.ok (cl:Aj)(i:LI):HpOk (zhL cl i):=⟨fun H H' D kvs hD k h=>⟨⟨k _ _ h.1.1 fun z=>(by rw[<- z,h.1.1] at hD; cases hD),k _ _ h.1.2 fun z=>(by rw[<- z,h.1.2] at hD; cases hD)⟩,h.2.mono fun b xs hb=>k _ _ hb fun z=>(by rw[z,hD] at hb; cases hb)⟩,fun H H' e h=>⟨⟨e _ _ h.1.1,e _ _ h.1.2⟩,h.2.mono e.tups⟩⟩
theorem jJE (T:Txt mg)(cl:Aj)(i:LI):Callee P w K mg Aq (ZC cl ["box"] [.ref i.b]) (zhL cl i) 1 i.a (jFL i.ch (RLt i.Ar i.ch)):=
 Callee.imp2 (Callee.ofN (jUP T)) (fun H h=>h.1) fun vs H Q E zh q=>⟨i,rfl,zh.2,q⟩
abbrev jKY:Am:=["box","lightest_behind","told"]
theorem scLight:FnScope jKY ["box"] (j7 yX):= {}
abbrev TabL (H:Hp)(tb:Addr):Prop:=TabOk H tb pLBeh qLB
def jNC (cl:Aj)(i:LI):Sp:=jND i.a (zhL cl i) i.ch (RLt i.Ar i.ch)
theorem fsLB:∀ x∈(["box"]:Am),(j7 qJ).names.lookup x=some .free:=by decide+kernel
theorem jXK:FsAt (XOf jKY "lightest" yX P w K mg Aq f (.ref c0) A Ap s H0 E) ["box"] [0]:=⟨rfl,fun k x h=>by
 match k,h with
 | 0,h=>
  cases h;exact⟨0,rfl,rfl, .inl (show (j7 yX).names.lookup (("box" :String):Str)=some .cell by decide+kernel)⟩
 | k+1,h=>cases h⟩
def jAV (tb:Addr):Sp:=fun vs H Q _=>∃ (b:Addr) (w:Int) (ms:Ag) (Ar:Ae),vs=[.ref b]/\BoxAt H b w ms Ar/\Good 16 32 w ms Ar/\TabL H tb/\
 (minW Ar (wk (chs w.toNat ms Ar) 0)=none->∀ H',ExtT tb H H'->TabL H' tb->Q .non H')/\∀ x,minW Ar (wk (chs w.toNat ms Ar) 0)=some x->∀ r q H',H' r=some (.tup [.int (wt Ar x), .ref q])->H' q=some (.tup ((srt x).map V.int))->ExtT tb H H'->TabL H' tb->Q (.ref r) H'
def jX6 (T:Txt mg)(CH:PySem.W.CodeHd Aq c0 tb)(BM:qR Aq mg)(CC:Can P w K mg Aq "choices_of" 2 fC fdC ["box"] jAP)(FG:∀ cl i,FnZ P w K mg Aq CX0 (ZC cl ["box"] [.ref i.b]) 4 fG fdG ["choices","at_end","join"] (jNC cl i))(MG:mg "gathered" =some (.ref fG))(KG:keepIn K (.ref fG)=true)(BG:Binds K fdG ["choices","at_end","join"] [])(hr:Room 4 (XOf jKY "lightest" yX P w K mg Aq f (.ref c0) A Ap s H0 E).A): { t:TS // JSs (XOf jKY "lightest" yX P w K mg Aq f (.ref c0) A Ap s H0 E) (jD yX) t} :=
 have nd:=scLight.nd
 ⟨_,(jB (jT5 (j:=1) nd rfl lL rfl CH BM (jK (psc:=j7 yX)) rfl rfl) (jB (jU (i:=2) nd rfl lL (jGT (hu_of hr) (jLB (G:=fun (i:LI) σ=>jE1 σ [0] [.ref i.b]) (FG _) hr gD MG KG BG (fun i lK s σ H I q=>⟨I.clOk (jK (psc:=j7 yX)),I.fvOk (jK (psc:=j7 yX)) fsLB jXK q⟩) (j3 (CC.je (hr.mono Ac) gD (j3 (jv 0 rfl vC) j6 j4) j4) (j3 (yG (j3 (je_int) (j3 (yG j6) j6 jDQ) kO)) (j3 (jv 1 rfl vL) j6 j4) jDQ) jE) jE) je_int jF) jKD) (jB (y8 (jY jSX (jv 2 rfl vL) (jFT) (jT _)) (jC (jL (jFT))) kB) (jC (jL (yG (j3 (jM jQ (jv 2 rfl vL) (je_int) jF) (j3 (jW jV gD T.tuple Ab (j3 (jG jBH gD T.sorted Ab (j3 (jM jQ (jv 2 rfl vL) (je_int) jF) j6 jR) jR) j6 jE) jE) j6 jE) jR)))))))⟩
set_option maxHeartbeats 4000000 in
theorem jR7 {fd:FuncData}(F:FunC K "lightest" "lightest" yX f fd c0)(T:Txt mg)(CH:PySem.W.CodeHd Aq c0 tb)(BM:qR Aq mg)(CC:Can P w K mg Aq "choices_of" 2 fC fdC ["box"] jAP)(FG:∀ cl i,FnZ P w K mg Aq CX0 (ZC cl ["box"] [.ref i.b]) 4 fG fdG ["choices","at_end","join"] (jNC cl i))(MG:mg "gathered" =some (.ref fG))(KG:keepIn K (.ref fG)=true)(BG:Binds K fdG ["choices","at_end","join"] []):FnOk P w K mg Aq CX0 5 f fd ["box"] (jAV tb):=by
 refine F.ok scLight (fun vs H Q E h=>?_) (fun A Ap s H vs Q E hr h=>?_)
 ·obtain⟨_,_,_,_,rfl,_⟩:=h;rfl
 ·obtain⟨b,wi,ms,Ar,rfl,hB,g,tab,q0,q1⟩:=h;refine⟨_,(jX6 T CH BM CC FG MG KG BG hr).2.h,?_⟩;refine⟨tab,fun a c H1 k1 k2 k3 e1 na=>?_⟩;have tu1:Tups H H1:=fun b xs h=>e1.at tab h;have hB1:=hB.mono tu1;have tab1:TabL H1 tb:= .inr ⟨c,k3,k2⟩;refine⟨_,rfl,b,wi,ms,Ar,rfl,hB1,g,fun L H2 hL2 e2=>?_⟩;refine⟨by show (0:Nat)<=_; decide,fun t0 H3 d3 e3=>⟨by show (2:Nat)<=_; decide,fun t1 H4 d4 e4=>?_⟩⟩;have E24:=(e2.trans e3).trans e4;refine⟨_,rfl,⟨a,c,b,wi,ms,Ar,g⟩,rfl,L, .ref t1,rfl,hL2.ext (e3.trans e4),?_,⟨⟨E24 _ _ k1,E24 _ _ k2⟩,hB1.mono E24.tups⟩,fun r ns H5 got srt' mt e5 n5=>?_⟩
  ·show LtAt Ar H4 (.ref t1) (minW Ar (wk _ (fullN _)));rw[jB7];exact⟨t1,t0,rfl,d4,e4 _ _ d3⟩
  obtain⟨u,dg,ru⟩:=got0 got srt' mt;refine⟨r,u,rfl,dg,?_⟩;have E25:=E24.trans e5;have x5:ExtT tb H H5:=fun b o hb hn=>E25 _ _ (e1 b o hb hn);have tab5:TabL H5 tb:=tab1.ext E25;refine⟨_,rfl,rfl,_,rfl,?_⟩;have ru:LtAt Ar H5 u (minW Ar (wk (chs wi.toNat ms Ar) 0)):=ru;cases hW:minW Ar (wk (chs wi.toNat ms Ar) 0) with
  | none=>
   rw[hW] at ru;have ru:u= .non:=ru;subst ru;exact iteT (q0 hW H5 x5 tab5)
  | some x=>
   rw[hW] at ru;obtain⟨p,pr,rfl,hp,hpr⟩:=ru;have o:ChOk (chs wi.toNat ms Ar):=qH g;have xl:=(jK8 o 0 (dA _) x (jE4 hW).1).2;have w16:=o.w;refine iteF ⟨_,rfl,p,_,0,_,rfl,rfl,SqT.of hp,rfl,_,rfl,p,_,1,_,rfl,rfl,SqT.of hp,rfl,pr,x,rfl,hpr,Aa,fun l6 ns6 hl6 sr pm=>⟨l6,_,rfl, .inl ⟨SqL.of j5,fun l7 hl7=>?_⟩⟩⟩;have e6:Ext H5 (L2.upd H5 l6 (.lst (ns6.map V.int))):=(Ext.refl _).new hl6 _;have e7:Ext H5 (L2.upd (L2.upd H5 l6 (.lst (ns6.map V.int))) l7 (.tup (ns6.map V.int))):=e6.new hl7 _;have d7:(L2.upd (L2.upd H5 l6 (.lst (ns6.map V.int))) l7 (.tup (ns6.map V.int))) l7=some (.tup (ns6.map V.int)):=j5;generalize L2.upd (L2.upd H5 l6 (.lst (ns6.map V.int))) l7 (.tup (ns6.map V.int))=H7 at e7 d7;refine⟨by show (2:Nat)<=_; decide,fun r8 H8 d8 e8=>q1 x hW r8 l7 H8 d8 (by rw[e8 _ _ d7,jC9 sr pm]) (fun b o hb hn=>e8 _ _ (e7 _ _ (x5 b o hb hn))) ((tab5.ext e7).ext e8)⟩
end
theorem jQZ {a b:Ag}(h:a.Perm b):a.sum=b.sum:=by
 induction h with
 | nil=>rfl
 | cons x _ ih=>rw[dG,dG,ih]
 | swap x y l=>rw[dG,dG,dG,dG]; lia
 | trans _ _ h1 h2=>exact h1.trans h2
theorem jMT (Ar:Ae)(x:Ag):wt Ar (srt x)=wt Ar x:=by
 unfold wt;exact jQZ ((jAA x).map _)
abbrev jJG:Am:=["box","covering"]
theorem scWeight:FnScope jJG ["box","covering"] (j7 jBA):= {}
def jAB:Sp:=fun vs H Q _=>∃ (b a:Addr) (w:Int) (ms:Ag) (Ar:Ae) (ks:Ag),vs=[.ref b, .ref a]/\BoxAt H b w ms Ar/\H a=some (.tup (ks.map V.int))/\(∀ k∈ks,0<=k/\k<Ar.length)/\ks.length<=100/\∀ H',Ext H H'->Q (.int (wt Ar ks)) H'
def jTM (T:Txt mg): { t:TS // JSs (XOf jJG "_law_weight" jBA P w K mg Aq f lM A Ap s H0 E) (jD jBA) t} :=
 have nd:=scWeight.nd
 ⟨_,(jC (jL (jG (jF9 rfl) gD T.sum Ab (j3 (kG (m:=[none,some 0]) (Nc:=["k","box"]) rfl (qG (jv 1 rfl vL)) rfl Ab Ab (jK (psc:=j7 jBA)) (jI (N:=jJG) rfl rfl Ab) (fun cl C fp s H=>jJ (i:=0) (show (["k","box"]:Am).Nodup by decide+kernel) rfl yC) (fun cl C fp s H=>kJ) (fun cl C fp s H=>(jM kY (jM kY (jM kY (jv 1 rfl kN) (je_int) jF) (jv 0 rfl jP) jAY) (je_int) jF)) y9) j6 jH) jH)))⟩
theorem jNZ {fd:FuncData}(F:Fun K "_law_weight" "_law_weight" jBA f fd)(T:Txt mg):FnOk P w K mg Aq CX0 1 f fd ["box","covering"] jAB:=by
 refine F.ok scWeight (fun vs H Q E h=>?_) (fun lM A Ap s H vs Q E hr h=>?_)
 ·obtain⟨_,_,_,_,_,_,rfl,_⟩:=h;rfl
 ·obtain⟨b,a,wi,ms,Ar,ks,rfl,hB,ha,hk,hl,q⟩:=h;refine⟨_,(jTM T).2.h,?_⟩;obtain⟨qm,qp,ps,b1,b2,b3,b4⟩:=id hB.ex;refine⟨_,rfl,a,rfl,⟨_,SqT.of ha⟩,jLM (xs:=ks.map V.int) (fun σ=>∃ v,σ=[v,some (.ref b)]) (mapZ ks fun k=>V.int (wgt Ar k)) (mapZ.ok _ _) ha (by rw[af,aH]; lia) ⟨_,rfl⟩ ?_ ?_⟩
  ·rintro j x σ' H' zs hx ⟨v,rfl⟩ e hz S1 S2 yes no;obtain⟨k,hk',rfl⟩:=int_at hx;have kb:=hk k (aB hk');obtain⟨pv,hpv,pa,pw,rfl,ha1,ha2⟩:=b4.get (k:=k.toNat) Aa;have at1:atI ps k=some (.ref pa):=by
    have:=yW hpv
    rwa [show ((k.toNat:Nat):Int)=k by lia] at this
   dsimp only [kL,yB];rw[ay rfl];exact⟨_,rfl,b,_,2,_,rfl,rfl,SqT.of (e _ _ b1),rfl,_,rfl,qp,_,k,_,rfl,rfl,SqT.of (e _ _ b3),at1,pa,_,1,_,rfl,rfl,SqT.of (e _ _ ha1),rfl,yes _ _ _ ⟨_,rfl⟩ (Ext.refl _) (hz.yes hk')⟩
  ·rintro D H' zs hD e nD hz;have hz:=hz.all (by rw[af]; exact aA _);have hz2:zs=(ks.map (wgt Ar)).map V.int:=by rw[hz,bH]; rfl
   rw[hz2] at hD;exact⟨D,_,rfl,SqL.of hD,q H' e⟩
theorem jIH {Ar:Ae}{t:Int} :∀ {c:Ag},c.Nodup->(∀ k∈c,(j8 Ar k).Nodup)->(∀ k∈c,∀ k'∈c,k≠k'->∀ t∈j8 Ar k,t∉j8 Ar k')->(c.flatMap (j8 Ar)).count t=if ∃ k∈c,t∈j8 Ar k then 1 else 0
 | [],_,_,_=>by simp
 | k::c,nd,hn,dj=>by
  obtain⟨n1,n2⟩:=cf.mp nd;have ih:=jIH (t:=t) n2 (fun k hk=>hn k (ag _ hk)) fun k hk k' hk'=>dj k (ag _ hk) k' (ag _ hk');rw[i4,List.count_append,ih];have e1:(j8 Ar k).count t=if t∈j8 Ar k then 1 else 0:=(hn k (ai ..)).count
  rw[e1];by_cases h:t∈j8 Ar k
  ·have no:¬ ∃ k'∈c,t∈j8 Ar k':=fun ⟨k',h1,h2⟩=>dj k (ai ..) k' (ag _ h1) (fun e=>n1 (e ▸ h1)) t h h2;rw[ay h,aw no,ay ⟨k,ai .., h⟩]
  ·rw[aw h,Nat.zero_add];by_cases q:∃ k'∈c,t∈j8 Ar k'
   ·rw[ay q,ay (let ⟨k',h1,h2⟩:=q; ⟨k',ag _ h1,h2⟩)]
   ·have nq:¬ ∃ k'∈k::c,t∈j8 Ar k':=fun ⟨k',h1,h2⟩=>by
     rcases aE.mp h1 with rfl | h1
     ·exact h h2
     ·exact q ⟨k',h1,h2⟩
    rw[aw q,aw nq]
abbrev nCov:Am:=["box","thing","held","number"]
theorem scCov:FnScope nCov ["box","thing"] (j7 sCov):= {}
def jCQ:Sp:=fun vs H Q _=>∃ (b a:Addr) (w:Int) (ms:Ag) (Ar:Ae) (c:Ag),vs=[.ref b, .ref a]/\BoxAt H b w ms Ar/\Good 16 32 w ms Ar/\H a=some (.tup (c.map V.int))/\IsCov w ms Ar c/\∀ H',Ext H H'->Q (.bl true) H'
def covA (T:Txt mg)(CL:Can P w K mg Aq "is_lot" 3 fL fdL ["thing","many"] (spB2 lotB))(hr:Room 3 (XOf nCov "is_covering" sCov P w K mg Aq f lM A Ap s H0 E).A): { t:TS // JSs (XOf nCov "is_covering" sCov P w K mg Aq f lM A Ap s H0 E) (jD sCov) t} :=
 have nd:=scCov.nd
 ⟨_,(jB (y8 (qF (qE (CL.je hr gD (j3 (jv 1 rfl vL) (j3 (jG jN gD T.len Ab (j3 (jM jQ (jv 0 rfl vC) (je_int) jF) j6 jR) jR) j6 jE) j4) j4) yM)) (jC (jL (je_bl))) kB)
   (jB (jU (i:=2) nd rfl loc_c (jB2 j6) jEE)
   (jB (jCA cB rfl (qG (jv 1 rfl vL)) (jJ (i:=3) nd rfl lL) (jC (jDI (je_bm bR PySem.F.slot_list_extend PySem.F.type_list_extend jMA (jv 2 rfl vC) (j3 (jM jQ (jM jQ (jM jQ (jv 0 rfl vC) (je_int) jF) (jv 3 rfl vL) jAY) (je_int) jF) j6 jR) jR) kE)) y9)
   (jC (jL (jG (jBK rfl) gD T.all Ab (j3 (kG (m:=[none,some 2,some 0]) (Nc:=["one","held","box"]) rfl (jA5 gD T.range (j3 (jM jQ (jv 0 rfl vC) (je_int) jF) j6 jR) jR) rfl Ab Ab (jK (psc:=j7 sCov)) (jI (N:=nCov) rfl rfl Ab) (fun cl C fp s H=>jJ (i:=0) (show (["one","held","box"]:Am).Nodup by decide+kernel) rfl yC) (fun cl C fp s H=>kJ) (fun cl C fp s H=>((jPA (yO op_le (jP7 bR ji jk jHZ (jv 1 rfl kN) (j3 (jv 0 rfl jP) j6 j4) j4) (je_int) (jT _)) (jI8 ((je_or (yO qU (jP7 bR ji jk jHZ (jv 1 rfl kN) (j3 (jv 0 rfl jP) j6 j4) j4) (je_int) (jT _)) (jI8 (yO jEM (jv 0 rfl jP) (jM kY (jv 2 rfl kN) (je_int) jF) jOA)))))))) kP) j6 jH) jH))))))⟩
theorem jUS {fd:FuncData}(F:Fun K "is_covering" "is_covering" sCov f fd)(T:Txt mg)(CL:Can P w K mg Aq "is_lot" 3 fL fdL ["thing","many"] (spB2 lotB)):FnOk P w K mg Aq CX0 4 f fd ["box","thing"] jCQ:=by
 refine F.ok scCov (fun vs H Q E h=>?_) (fun lM A Ap s H vs Q E hr h=>?_)
 ·obtain⟨_,_,_,_,_,_,rfl,_⟩:=h;rfl
 ·obtain⟨b,a,w,ms,Ar,c,rfl,hB,g,ha,C,q⟩:=h;obtain⟨qm,qp,ps,b1,b2,b3,b4⟩:=id hB.ex;have pl:=b4.len;have gl:=g.pl;have w0:=g.w0;have w1:=g.w1;have cl:=jAL c 0 _ C.ris.ris C.ris.bnd;have c32:c.length<=32:=Aa;refine⟨_,(covA T CL hr).2.h,?_⟩;have hA:At H (.tup (c.map Ob.int)) (.ref a):=jLQ ha (by rw[af]; lia) (Ats.ints c);refine⟨_,rfl,_,rfl,b,_,2,_,rfl,rfl,SqT.of b1,rfl,qp,_,rfl, .inr (SqT.of b3), .ref a,_,_,rfl,hA,fun H1 e1=>⟨_,rfl,?_⟩⟩;rw[pl,jEV C.ris.ris C.ris.bnd];refine iteF ?_;refine⟨by show (0:Nat)<=_; decide,fun l H2 d2 e2 n2=>?_⟩;have E2:=e1.trans e2;have n16:∀ k∈c,(j8 Ar k).length<=16:=fun k hk=>jFI g (C.ris.bnd k hk).1 (C.ris.bnd k hk).2;refine⟨_,rfl,a,rfl,⟨_,SqT.of (E2 _ _ ha)⟩,jVE (xs:=c.map V.int) (fun i σ H'=>(∃ v3,σ=[some (.ref b),some (.ref a),some (.ref l),v3])/\Ext H1 H'/\H' l=some (.lst (((c.take i).flatMap (j8 Ar)).map V.int))) ⟨⟨_,rfl⟩,e2,d2⟩ (fun i σ H' _ ⟨_,e,_⟩=>SqT.of (e _ _ (e1 _ _ ha))) ?_ ?_⟩
  ·rintro i v σ H3 hv ⟨⟨v3,rfl⟩,e3,hl3⟩;obtain⟨k,hk,rfl⟩:=int_at hv;have km:=aB hk;have kb:=C.ris.bnd k km;have E3:=e1.trans e3;obtain⟨pa,pq,g1,g2,g3⟩:=jHS b4 kb.1 kb.2;have hn:=jLI (f:=j8 Ar) (ks:=c.take i) (fun k hk=>n16 k (bQ hk)) 32 (by rw[bI]; lia);have hn2:=n16 k km;refine⟨_,rfl, .inl ⟨rfl,_,SqL.of hl3⟩,_,rfl,b,_,2,_,rfl,rfl,SqT.of (E3 _ _ b1),rfl,_,rfl,qp,_,k,_,rfl,rfl,SqT.of (E3 _ _ b3),g1,pa,_,0,_,rfl,rfl,SqT.of (E3 _ _ g2),rfl,l,pq,_,_,rfl,rfl,hl3,E3 _ _ g3,?_,⟨_,rfl⟩,e3.updNew n2 _,?_⟩
   ·rw[af,af,aH];lia
   ·rw[j5];have:c.take (i+1)=c.take i++[k]:=by rw[be,hk]; rfl
    rw[this,lh,aU];simp
  ·rintro σ H3 ⟨⟨v3,rfl⟩,e3,hl3⟩;rw[af,bz] at hl3;have E3:=e1.trans e3;have cnt:∀ t:Int,((c.flatMap (j8 Ar)).map V.int).countP (fun z=>eqV z (.int t))=if ∃ k∈c,t∈j8 Ar k then 1 else 0:=fun t=>by
    rw[jPY];refine jIH (C.ris.ris.imp fun {a b} h=>by lia) (fun k hk=>?_) C.dis;have kb:=C.ris.bnd k hk;exact(jAN g kb.1 kb.2).ris.imp fun {a b} h=>by lia
   refine⟨_,rfl,b,_,0,_,rfl,rfl,SqT.of (E3 _ _ b1),rfl,w,rfl,Aa,Aa,jE8 (n:=w.toNat) (fun σ=>∃ v,σ=[v,some (.ref l),some (.ref b)]) (mapZ (upto w.toNat) fun _=>V.bl true) (mapZ.ok _ _) (by rw[aH]; lia) ⟨_,rfl⟩ ?_ ?_⟩
   ·rintro j σ' H4 zs hj ⟨v,rfl⟩ e hz S1 S2 yes no;have e0:(0+(j:Int))=(j:Int):=Aa;dsimp only [kL,yB];rw[ay rfl];have hl4:=e _ _ hl3;have E4:=E3.trans e;refine⟨_,rfl, .inl ⟨rfl,_,SqL.of hl4⟩,_,rfl,l,_,_,rfl,rfl,hl4,rfl,jA7 _,_,_,rfl,rfl,_,rfl,?_⟩;rw[e0,cnt];by_cases hh:∃ k∈c,(j:Int)∈j8 Ar k
    ·rw[ay hh];refine iteT ⟨_,rfl, .inl ⟨rfl,_,SqL.of hl4⟩,_,rfl,l,_,_,rfl,rfl,hl4,rfl,jA7 _,rfl,_,rfl,?_⟩;rw[cnt,ay hh];exact iteT (yes _ _ _ ⟨_,rfl⟩ (Ext.refl _) (hz.yes (jCN hj)))
    ·rw[aw hh];refine iteT ⟨_,rfl, .inl ⟨rfl,_,SqL.of hl4⟩,_,rfl,l,_,_,rfl,rfl,hl4,rfl,jA7 _,rfl,_,rfl,?_⟩;rw[cnt,aw hh];refine iteF ⟨_,rfl,_,rfl,b,_,1,_,rfl,rfl,SqT.of (E4 _ _ b1),rfl,qm,_,rfl, .inr (SqT.of (E4 _ _ b2)),rfl,jA7 _,?_⟩;rw[jC2,ax (bM fun z=>hh (C.cov j Aa Aa z))];exact yes _ _ _ ⟨_,rfl⟩ (Ext.refl _) (hz.yes (jCN hj))
   ·rintro D H4 zs h4 e4 n4 hz;have hz:=hz.all (by rw[yH]; exact aA _);have hz2:zs=((upto w.toNat).map fun _=>true).map V.bl:=by rw[hz,bH]; rfl
    rw[hz2] at h4;refine⟨D,_,rfl,SqL.of h4,?_⟩;have:((upto w.toNat).map fun _=>true).all id=true:=by
     rw[ix];exact bK.mpr fun _ _=>rfl
    rw[this];exact q H4 (E3.trans e4)
section
variable {cE:Addr}
abbrev jE3:Am:=["thing","many"]
theorem scIsOrder:FnScope jE3 ["thing","many"] (j7 jAD):= {}
def ordB (n:Int)(o:Ob):Bool:=match o with
 | .tup os=>decide ((os.length:Int)=n)&&os.all isInt&&decide (srt (os.map val)=upto n.toNat)
 | _=>false
def jRT (T:Txt mg)(CW:Can P w K mg Aq "is_whole" 1 fW fdW ["thing"] spWh)(hr:Room 1 (XOf jE3 "is_order" jAD P w K mg Aq f lM A Ap s H0 E).A): { t:TS // JSs (XOf jE3 "is_order" jAD P w K mg Aq f lM A Ap s H0 E) (jD jAD) t} :=
 have nd:=scIsOrder.nd
 ⟨_,(jB (y8 (jt_w (jw_or (qF (qE (jG jB4 gD T.isinstance Ab (j3 (jv 0 rfl vL) (j3 (jGU (v:= .ty "tuple") gD T.tuple Ab rfl) j6 j4) j4) j4) yM)) (jw_or (jY op_ne (jG jN gD T.len Ab (j3 (jv 0 rfl vL) j6 j4) j4) (jv 1 rfl vL) (jT _)) (jOX (qF (qE (jG (jBK rfl) gD T.all Ab (j3 (kG (m:=[none]) (Nc:=["number"]) rfl (qG (jv 0 rfl vL)) rfl Ab Ab (jK (psc:=j7 jAD)) (jI (N:=jE3) rfl rfl Ab) (fun cl C fp s H=>jJ (i:=0) (show (["number"]:Am).Nodup by decide+kernel) rfl yC) (fun cl C fp s H=>kJ) (fun cl C fp s H=>(CW.je hr gl_b (j3 (jv 0 rfl jP) j6 j4) j4)) y9) j6 jH) jH) yM)))))) (jC (jL (je_bl))) kB)
   (jC (jL (yO (jJC hr.units101) (jG jBH gD T.sorted Ab (j3 (jv 0 rfl vL) j6 j4) j4) (jW (jBJ rfl) gD T.list Ab (j3 (jW jCK gD T.range Ab (j3 (jv 1 rfl vL) j6 j4) j4) j6 jE) jE) (jT _)))))⟩
def spOrd:Sp:=fun vs H Q _=>∃ v o w,vs=[v, .int w]/\At H o v/\0<=w/\w<=32/\∀ H',Ext H H'->Q (.bl (ordB w o)) H'
theorem jIF:∀ l m:Ag,eqTs (l.map Tr.int) (m.map Tr.int)=decide (l=m)
 | [],[]=>rfl
 | [],_::_=>rfl
 | _::_,[]=>rfl
 | a::l,b::m=>by
  have e:eqTs ((a::l).map Tr.int) ((b::m).map Tr.int)=(eqT (.int a) (.int b)&&eqTs (l.map Tr.int) (m.map Tr.int)):=rfl;rw[e,jIF l m];have e2:eqT (.int a) (.int b)=decide (a=b):=rfl;rw[e2,bZ,bD,br,br,br,List.cons.injEq]
theorem jM8 {fd:FuncData}(F:Fun K "is_order" "is_order" jAD f fd)(T:Txt mg)(CW:Can P w K mg Aq "is_whole" 1 fW fdW ["thing"] spWh):FnOk P w K mg Aq CX0 2 f fd ["thing","many"] spOrd:=by
 refine F.ok scIsOrder (fun vs H Q E h=>?_) (fun lM A Ap s H vs Q E hr h=>?_)
 ·obtain⟨_,_,_,rfl,_⟩:=h;rfl
 ·obtain⟨v,o,w,rfl,hA,w0,w1,q⟩:=h;obtain⟨t,ty,kt,_⟩:=hA.ty K;refine⟨_,(jRT T CW hr).2.h,?_⟩;refine⟨_,rfl,_,_,_,_,rfl,ty,kt,_,rfl,?_⟩;cases ht:isTup o with
  | false=>
   have:ordB w o=false:=by cases o <;> first | rfl | cases ht
   exact iteT (iteT (qb (q H (Ext.refl H)) this))
  | true=>
   refine iteF ?_;obtain⟨os,a,vs,rfl,rfl,ha,h100,hx⟩:=hA.tupOf ht;have hl:=hx.len;have hn:vs.length<sizeLine:=by rw[aH]; lia
   refine⟨_,rfl,a,_,rfl, .inr (SqT.of ha),_,rfl,rfl,_,rfl,ite2 (fun hy=>?_) (fun hy=>?_)⟩
   ·have hy:¬ (vs.length:Int)=w:=fun z=>by
     rw[z] at hy;simp at hy
    refine iteT (qb (q H (Ext.refl H)) ?_);show (decide ((os.length:Int)=w)&&_&&_)=false;rw[aN Aa];rfl
   have hy:(vs.length:Int)=w:=bM fun z=>hy (by simp [z]);refine⟨_,rfl,a,rfl,⟨_,SqT.of ha⟩,jII (F:=isInt) ha hx hn (fun σ'=>∃ v,σ'=[v]) ⟨_,rfl⟩ ?_ ?_⟩
   ·rintro σ' H' v o R S ⟨u,rfl⟩ e hA k;dsimp only [kL,yB];rw[ay rfl];exact⟨_,rfl,v,o,rfl,hA,k _ H' ⟨_,rfl⟩ (Ext.refl _)⟩
   ·intro D H1 e1 hD;refine⟨D,_,rfl,SqL.of hD,_,rfl,?_⟩;rw[jTF];cases hi:os.all isInt with
    | false=>
     refine iteT (qb (q H1 e1) ?_);show (_&&os.all isInt&&_)=false;rw[hi,dq];rfl
    | true=>
     refine iteF ?_;have hv:=hx.allInt hi;have ha1:=e1 _ _ ha;rw[hv] at ha1;refine⟨_,rfl,a,os.map val,rfl,ha1,by rw[af]; lia,fun l ns hl2 ple pm=>?_⟩;have ens:=jC9 ple pm;have e2:Ext H1 (L2.upd H1 l (.lst (ns.map V.int))):=(Ext.refl _).new hl2 _;have d2:(L2.upd H1 l (.lst (ns.map V.int))) l=some (.lst (ns.map V.int)):=j5;generalize L2.upd H1 l (.lst (ns.map V.int))=H2 at e2 d2;refine⟨_,rfl,w,rfl,fun rg hrg=>?_⟩;have e3:Ext H2 (L2.upd H2 rg (.rng 0 w)):=(Ext.refl _).new hrg _;have d3:(L2.upd H2 rg (.rng 0 w)) rg=some (.rng 0 w):=j5;generalize L2.upd H2 rg (.rng 0 w)=H3 at e3 d3;refine⟨rg,w,rfl,d3,w0,Aa,fun m hm=>?_⟩;have e4:Ext H3 (L2.upd H3 m (.lst (yZ w.toNat))):=(Ext.refl _).new hm _;have d4:(L2.upd H3 m (.lst (yZ w.toNat))) m=some (.lst (yZ w.toNat)):=j5;show ∃ ts us,_;generalize L2.upd H3 m (.lst (yZ w.toNat))=H4 at e4 d4;have eu:yZ w.toNat=(upto w.toNat).map V.int:=by
      unfold yZ upto;rw[bH];rfl
     rw[eu] at d4;refine⟨ns.map Tr.int,(upto w.toNat).map Tr.int,⟨l,_,rfl,e4 _ _ (e3 _ _ d2),jFW _⟩,⟨m,_,rfl,d4,jFW _⟩,by rw[jBG]; decide,?_⟩;rw[jIF,ens];refine qb (q H4 (((e1.trans e2).trans e3).trans e4)) ?_;show (decide ((os.length:Int)=w)&&os.all isInt&&decide (srt (os.map val)=upto w.toNat))=_;rw[hi,ax (show (os.length:Int)=w by lia),gb,gb]
def obs (o:Ob):Ag:=match o with
 | .tup os=>os.map val
 | _=> []
abbrev nAnew:Am:=["box","things","pieces"]
theorem scAnew:FnScope nAnew ["box","things","pieces"] (j7 sAnew):= {}
theorem jRU (ks:Ag):obs (.tup (ks.map Ob.int))=ks:=by
 show (ks.map Ob.int).map val=ks;rw[bH];exact iZ _
theorem jNR {n:Nat}{ks:Ag}(pm:ks.Perm (upto n)):ordB n (.tup (ks.map Ob.int))=true:=by
 have kl:ks.length=n:=by rw[pm.length_eq,yH]
 have es:upto n=srt ((ks.map Ob.int).map val):=by
  have e:(ks.map Ob.int).map val=ks:=jRU ks;rw[e];exact jC9 ((kQ n).ris.imp fun {a b} h=>cG h) pm.symm
 show (decide (((ks.map Ob.int).length:Int)=n)&&(ks.map Ob.int).all isInt&&decide (srt ((ks.map Ob.int).map val)=upto (n:Int).toNat))=true;rw[aR,<- es,af,kl];simp [isInt]
def jCS (tb:Addr):Sp:=fun vs H Q _=>∃ (b a1 a2:Addr) (w:Int) (ms:Ag) (Ar:Ae) (ts ks:Ag),vs=[.ref b, .ref a1, .ref a2]/\BoxAt H b w ms Ar/\Good 16 32 w ms Ar/\H a1=some (.tup (ts.map V.int))/\H a2=some (.tup (ks.map V.int))/\ts.Perm (upto w.toNat)/\ks.Perm (upto Ar.length)/\TabP H tb/\∀ r H',BoxAt H' r ts.length (nmd ts ms) (pick ts Ar ks)->ExtT tb H H'->TabP H' tb->Q (.ref r) H'
def anewA (T:Txt mg)(CO:Can P w K mg Aq "is_order" 2 fO fdO ["thing","many"] spOrd)(CK:Can P w K mg Aq "picked" 2 fK fdK ["box","things","pieces"] (jBT tb))(hr:Room 2 (XOf nAnew "named_anew" sAnew P w K mg Aq f lM A Ap s H0 E).A): { t:TS // JSs (XOf nAnew "named_anew" sAnew P w K mg Aq f lM A Ap s H0 E) (jD sAnew) t} :=
 have nd:=scAnew.nd
 ⟨_,(jB (y8 (qF (qE (CO.je (hr.mono Ac) gD (j3 (jv 1 rfl vL) (j3 (jM jQ (jv 0 rfl vL) (je_int) jF) j6 jR) j4) j4) yM)) (jC (jL8)) kB)
   (jB (y8 (qF (qE (CO.je (hr.mono Ac) gD (j3 (jv 2 rfl vL) (j3 (jG jN gD T.len Ab (j3 (jM jQ (jv 0 rfl vL) (je_int) jF) j6 jR) jR) j6 jE) j4) j4) yM)) (jC (jL8)) kB)
   (jC (jL (CK.je (hr.mono Ac) gD (j3 (jv 0 rfl vL) (j3 (jv 1 rfl vL) (j3 (jv 2 rfl vL) j6 j4) j4) j4) j4)))))⟩
theorem jUV {fd:FuncData}(F:Fun K "named_anew" "named_anew" sAnew f fd)(T:Txt mg)(CO:Can P w K mg Aq "is_order" 2 fO fdO ["thing","many"] spOrd)(CK:Can P w K mg Aq "picked" 2 fK fdK ["box","things","pieces"] (jBT tb)):FnOk P w K mg Aq CX0 3 f fd ["box","things","pieces"] (jCS tb):=by
 refine F.ok scAnew (fun vs H Q E h=>?_) (fun lM A Ap s H vs Q E hr h=>?_)
 ·obtain⟨_,_,_,_,_,_,_,_,rfl,_⟩:=h;rfl
 ·obtain⟨b,a1,a2,w,ms,Ar,ts,ks,rfl,hB,g,h1,h2,p1,p2,tab,q⟩:=h;refine⟨_,(anewA T CO CK hr).2.h,?_⟩;obtain⟨qm,qp,ps,b1,b2,b3,b4⟩:=id hB.ex;have pl:=b4.len;have w0:=g.w0;have w1:=g.w1;have gpl:=g.pl;have l1:=p1.length_eq;have l2:=p2.length_eq;rw[yH] at l1 l2;have A1:At H (.tup (ts.map Ob.int)) (.ref a1):=jLQ h1 (by rw[af]; lia) (Ats.ints ts);have A2:At H (.tup (ks.map Ob.int)) (.ref a2):=jLQ h2 (by rw[af]; lia) (Ats.ints ks);have y1:ordB w (.tup (ts.map Ob.int))=true:=by
   have:=jNR p1;rw[bW w0] at this;exact this
  have y2:ordB Ar.length (.tup (ks.map Ob.int))=true:=jNR p2;refine⟨_,rfl,_,rfl,b,_,0,_,rfl,rfl,SqT.of b1,rfl, .ref a1,_,_,rfl,A1,w0,Aa,fun H1 e1=>⟨_,rfl,?_⟩⟩;rw[y1];refine iteF ?_;refine⟨_,rfl,_,rfl,b,_,2,_,rfl,rfl,SqT.of (e1 _ _ b1),rfl,qp,_,rfl, .inr (SqT.of (e1 _ _ b3)), .ref a2,_,_,rfl,A2.ext e1,Aa,Aa,fun H2 e2=>⟨_,rfl,?_⟩⟩;rw[pl,y2];refine iteF ?_;have E2:=e1.trans e2;refine⟨_,rfl,_,rfl,_,rfl,b,a1,a2,true,true,w,ms,Ar,ts,ks,rfl,hB.mono E2.tups,E2 _ _ h1,E2 _ _ h2,p1.nodup_iff.mpr (jBR _),Aa,?_,pc_lt g,fun k hk=>?_,Aa,tab.ext E2,fun r1 H8 B8 e8 t8=>?_⟩
  ·have:=jCF g.mr.ris g.mr.bnd w1;lia
  ·have:=(kQ _).bnd k (p2.mem_iff.mp hk);lia
  exact q r1 H8 B8 ((ExtT.of E2).trans e8) t8
end
theorem jJT (n:Nat):yZ n=(upto n).map V.int:=by
 unfold yZ upto;rw[bH];rfl
theorem jIE:∀ (l:Ag) (j:Nat),(l.map V.int).eraseIdx j=(l.eraseIdx j).map V.int
 | [],_=>rfl
 | _::_,0=>rfl
 | a::l,j+1=>bY (V.int a:: ·) (jIE l j)
theorem jC5:∀ (l:Ag) (j:Nat) (h:j<l.length),(l[j]::l.eraseIdx j).Perm l
 | a::l,0,_=>List.Perm.refl _
 | a::l,j+1,h=>(List.Perm.swap a _ _).trans ((jC5 l j (jp h)).cons a)
theorem jNF {j n:Nat}(h:j<n):seqIndex? (j:Int) n=some j:=by
 unfold seqIndex?;dsimp only;rw[show (if (j:Int)<0 then (j:Int)+(n:Int) else (j:Int))=(j:Int) from aw Aa];have:(decide (0<=(j:Int))&&decide ((j:Int)<n))=true:=by
  rw[ax Aa,ax Aa];rfl
 rw[ay this,aR]
abbrev jJH:Am:=["pot","wide","left","found","k"]
theorem scWOrder:FnScope jJH ["pot","wide"] (j7 jBB):= {}
def jAC:Sp:=fun vs H Q _=>∃ (p:Addr) (N n:Int),vs=[.ref p, .int n]/\H p=some (.lst [.int N])/\0<=N/\0<=n/\n<=32/\
 ∀ (r:Addr) (ks:Ag) (N':Int) (H':Hp),H' r=some (.tup (ks.map V.int))->ks.Perm (upto n.toNat)->H' p=some (.lst [.int N'])->0<=N'->Keep H H' p->Q (.ref r) H'
def jTH (T:Txt mg)(CT:Can P w K mg Aq "_law_take" 1 fT fdT ["pot","wide"] yS)(hr:Room 1 (XOf jJH "_law_order" jBB P w K mg Aq f lM A Ap s H0 E).A): { t:TS // JSs (XOf jJH "_law_order" jBB P w K mg Aq f lM A Ap s H0 E) (jD jBB) t} :=
 have nd:=scWOrder.nd
 ⟨_,(jB (jU (i:=2) nd rfl lL (jW (jBJ rfl) gD T.list Ab (j3 (jW jCK gD T.range Ab (j3 (jv 1 rfl vL) j6 j4) j4) j6 jE) jE) kE)
   (jB (jU (i:=3) nd rfl lL (jB2 j6) jEE)
   (jB (jCA cB rfl (jA5 gD T.range (j3 (jv 1 rfl vL) j6 j4) j4) (jJ (i:=4) nd rfl lL) (jC (jDI (je_bm bR eL eM jBD (jv 3 rfl vL) (j3 (je_bm bR ki kj jRC (jv 2 rfl vL) (j3 (CT.je hr gD (j3 (jv 0 rfl vL) (j3 (jG jN gD T.len Ab (j3 (jv 2 rfl vL) j6 j4) j4) j6 jE) j4) j4) j6 jE) jE) j6 jE) jE) kE)) kP)
   (jC (jL (jW jV gD T.tuple Ab (j3 (jv 3 rfl vL) j6 j4) j4))))))⟩
theorem jNW {fd:FuncData}(F:Fun K "_law_order" "_law_order" jBB f fd)(T:Txt mg)(CT:Can P w K mg Aq "_law_take" 1 fT fdT ["pot","wide"] yS):FnOk P w K mg Aq CX0 2 f fd ["pot","wide"] jAC:=by
 refine F.ok scWOrder (fun vs H Q E h=>?_) (fun lM A Ap s H vs Q E hr h=>?_)
 ·obtain⟨_,_,_,rfl,_⟩:=h;rfl
 ·obtain⟨p,N,n,rfl,hp,hN,n0,n1,q⟩:=h;refine⟨_,(jTH T CT hr).2.h,?_⟩;refine⟨_,rfl,n,rfl,fun rg hrg=>?_⟩;have e1:Ext H (L2.upd H rg (.rng 0 n)):=(Ext.refl _).new hrg _;have d1:(L2.upd H rg (.rng 0 n)) rg=some (.rng 0 n):=j5;generalize L2.upd H rg (.rng 0 n)=H1 at e1 d1;refine⟨rg,n,rfl,d1,n0,Aa,fun l hl=>?_⟩;rw[jJT];have e2:Ext H1 (L2.upd H1 l (.lst ((upto n.toNat).map V.int))):=(Ext.refl _).new hl _;have d2:(L2.upd H1 l (.lst ((upto n.toNat).map V.int))) l=some (.lst ((upto n.toNat).map V.int)):=j5;have nl:H l=none:=by
   cases z:H l with
   | none=>rfl
   | some o=>rw[e1 _ _ z] at hl; cases hl
  generalize L2.upd H1 l (.lst ((upto n.toNat).map V.int))=H2 at e2 d2;have E2:=e1.trans e2;refine⟨by show (0:Nat)<=_; decide,fun m H3 d3 e3 n3=>?_⟩;have E3:=E2.trans e3;have nm:H m=none:=by
   cases z:H m with
   | none=>rfl
   | some o=>rw[E2 _ _ z] at n3; cases n3
  have lm:l≠m:=fun z=>by rw[<- z,d2] at n3; cases n3
  have lp:l≠p:=fun z=>by rw[z,hp] at nl; cases nl
  have mp:m≠p:=fun z=>by rw[z,hp] at nm; cases nm
  refine⟨_,rfl,n,rfl,Aa,Aa,jD5 (n:=n.toNat) (fun i σ H'=>(∃ v4,σ=[some (.ref p),some (.int n),some (.ref l),some (.ref m),v4])/\Keep H H' p/\(∃ N',H' p=some (.lst [.int N'])/\0<=N')/\∃ ls fs:Ag,H' l=some (.lst (ls.map V.int))/\H' m=some (.lst (fs.map V.int))/\ls.length+i=n.toNat/\(fs++ls).Perm (upto n.toNat)) ⟨⟨_,rfl⟩,fun c o h _=>E3 _ _ h,⟨N,E3 _ _ hp,hN⟩,_,[],e3 _ _ d2,d3,by rw[yH]; rfl,List.Perm.refl _⟩ ?_ ?_⟩
  ·rintro i σ H' hi ⟨⟨v4,rfl⟩,kp,⟨N',hp',hN'⟩,ls,fs,hl',hm',len,pm⟩;have lpos:0<ls.length:=Aa;have flen:fs.length+ls.length=n.toNat:=by
    have:=pm.length_eq;rw[aJ,yH] at this;exact this
   refine⟨_,rfl, .inl ⟨rfl,_,SqL.of hm'⟩,_,rfl, .inl ⟨rfl,_,SqL.of hl'⟩,_,rfl,_,rfl,l,_,rfl, .inl (SqL.of hl'),p,N',_,rfl,hp',hN',by rw[af]; lia,by rw[af]; lia,fun N2 r a1 a2 a3=>?_⟩;rw[af] at a3;obtain⟨j,rfl⟩:∃ j:Nat,r=(j:Int):=⟨r.toNat,Aa⟩;have hj:j<ls.length:=Aa;have hl2:(L2.upd H' p (.lst [.int N2])) l=some (.lst (ls.map V.int)):=by rw[j9 lp]; exact hl'
   have hm2:(L2.upd H' p (.lst [.int N2])) m=some (.lst (fs.map V.int)):=by rw[j9 mp]; exact hm'
   have hp2:(L2.upd H' p (.lst [.int N2])) p=some (.lst [.int N2]):=j5;have kp2:Keep H (L2.upd H' p (.lst [.int N2])) p:=kp.upd _;generalize L2.upd H' p (.lst [.int N2])=H4 at hl2 hm2 hp2 kp2;refine⟨l,_,_,j, .int ls[j],rfl,rfl,hl2,Aa,Aa,?_,?_,?_⟩
   ·rw[af];exact jNF hj
   ·rw[aS,aq hj];rfl
   have hl5:(L2.upd H4 l (.lst ((ls.map V.int).eraseIdx j))) l=some (.lst ((ls.eraseIdx j).map V.int)):=by rw[j5,jIE]
   have hm5:(L2.upd H4 l (.lst ((ls.map V.int).eraseIdx j))) m=some (.lst (fs.map V.int)):=by rw[j9 lm.symm]; exact hm2
   have hp5:(L2.upd H4 l (.lst ((ls.map V.int).eraseIdx j))) p=some (.lst [.int N2]):=by rw[j9 lp.symm]; exact hp2
   have kp5:Keep H (L2.upd H4 l (.lst ((ls.map V.int).eraseIdx j))) p:=kp2.updNew nl _;generalize L2.upd H4 l (.lst ((ls.map V.int).eraseIdx j))=H5 at hl5 hm5 hp5 kp5;refine⟨m,_,_,rfl,rfl,hm5,by rw[af,aH]; lia,⟨_,rfl⟩,kp5.updNew nm _,⟨N2,by rw[j9 mp.symm]; exact hp5,a1⟩,ls.eraseIdx j,fs++[ls[j]],by rw[j9 lm]; exact hl5,by rw[j5,aU]; rfl,by rw[iH hj]; lia,?_⟩;refine List.Perm.trans ?_ pm;rw[aY];exact cP fs (jC5 ls j hj)
  ·rintro σ H' ⟨⟨v4,rfl⟩,kp,⟨N',hp',hN'⟩,ls,fs,hl',hm',len,pm⟩;have:ls=[]:=cO Aa;subst this;rw[bg] at pm;refine⟨_,rfl,m,_,rfl, .inl ⟨SqL.of hm',fun r hr'=>?_⟩⟩;have rp:r≠p:=fun z=>by rw[z,hp'] at hr'; cases hr'
   exact q r fs N' _ j5 pm (by rw[j9 rp.symm]; exact hp') hN' (kp.new hr' _)
theorem jGG {ts lot:Ag}(h:∀ t∈lot,t∈ts):nmd ts lot=srt (lot.map fun t=>((ts.idxOf t:Nat):Int)):=by
 unfold nmd;rw[jQU h]
theorem jKW {ts lot:Ag}(h:∀ t∈lot,t∈ts):(nmd ts lot).length=lot.length:=by
 rw[jGG h,jTP,af]
theorem jB1 {ts lot:Ag}(hl:lot.Nodup):Ris ts.length (nmd ts lot):=by
 have nd:(plcs ts lot).Nodup:=by
  unfold plcs;refine bh.mpr (cQ (fun {a b} ha hb ne e=>ne ?_) (hl.sublist fY));exact jCI (aI (ba.mp ha).2) (aI (ba.mp hb).2) e
 refine⟨(iT (jN9 _) ((jAA (plcs ts lot)).nodup_iff.mpr nd)).imp fun {a b} h=>by lia,fun z hz=>?_⟩;obtain⟨t,_,ht,rfl⟩:=mem_nmd.mp hz;have:=bP.mpr ht;lia
theorem jCW {l:Ag}(h:l.Pairwise (· < ·)):l.Nodup:=h.imp fun {a b} h=>by lia
def bkO (ts:Ag):Ag:=(upto ts.length).map fun k=>((ts.idxOf k:Nat):Int)
section
variable {ts:Ag}(pt:ts.Perm (upto n))
include pt
theorem kZ:ts.length=n:=by rw[pt.length_eq,yH]
theorem jWQ:ts.Nodup:=pt.nodup_iff.mpr (jBR n)
theorem qN {x:Int}(h0:0<=x)(h1:x<n):x∈ts:=pt.mem_iff.mpr (mem_upto.mpr ⟨h0,h1⟩)
theorem jNS {p:Int}(h0:0<=p)(h1:p<n):ts.getD p.toNat 0∈ts/\((ts.idxOf (ts.getD p.toNat 0):Nat):Int)=p/\(0<=ts.getD p.toNat 0/\ts.getD p.toNat 0<n):=by
 have hl:=kZ pt;have hp:p.toNat<ts.length:=Aa;have e:ts.getD p.toNat 0=ts[p.toNat]:=by rw[aj,aq hp]; rfl
 rw[e];refine⟨cn hp,?_,mem_upto.mp (pt.mem_iff.mp (cn hp))⟩;rw[(jWQ pt).idxOf_getElem p.toNat hp];lia
theorem jEJ {x:Int}(h0:0<=x)(h1:x<n):ts.getD (ts.idxOf x) 0=x/\ts.idxOf x<n:=by
 have hx:=qN pt h0 h1;have hl:=bP.mpr hx;refine⟨?_,by rw[<- kZ pt]; exact hl⟩;rw[aj,(jA6 hx).1];rfl
theorem jQ7:(bkO ts).length=n:=by
 unfold bkO;rw[af,yH,kZ pt]
theorem jIQ {u:Int}(h0:0<=u)(h1:u<n):(bkO ts)[u.toNat]?=some ((ts.idxOf u:Nat):Int):=by
 unfold bkO;rw[aS,kZ pt,jCN Aa];show some ((ts.idxOf ((u.toNat:Nat):Int):Nat):Int)=_;rw[bW h0]
theorem bk_nd:(bkO ts).Nodup:=by
 unfold bkO;refine bh.mpr (cQ (fun {a b} ha hb ne e=>ne ?_) (jBR _));rw[kZ pt] at ha hb;exact jCI (qN pt (mem_upto.mp ha).1 (mem_upto.mp ha).2) (qN pt (mem_upto.mp hb).1 (mem_upto.mp hb).2) e
theorem jBL:(bkO ts).Perm (upto n):=by
 refine(dw (bk_nd pt) (jBR n)).mpr fun j=>?_;rw[mem_upto];constructor
 ·intro h;unfold bkO at h;obtain⟨u,hu,rfl⟩:=aQ.mp h;rw[kZ pt] at hu;have:=(jEJ pt (mem_upto.mp hu).1 (mem_upto.mp hu).2).2;lia
 ·rintro ⟨h0,h1⟩;obtain⟨a1,a2,a3⟩:=jNS pt h0 h1;have:=aB (jIQ pt a3.1 a3.2);rw[a2] at this;exact this
theorem jLP {u:Int}(h0:0<=u)(h1:u<n):((bkO ts).idxOf ((ts.idxOf u:Nat):Int):Nat)=u.toNat:=by
 obtain⟨hl,e⟩:=ao.mp (jIQ pt h0 h1);rw[<- e];exact(bk_nd pt).idxOf_getElem u.toNat hl
theorem bk_bk:bkO (bkO ts)=ts:=by
 refine gC fun i=>?_;by_cases hi:i<n
 ·obtain⟨a1,a2,a3⟩:=jNS pt (p:=(i:Int)) Aa Aa;have e:=jIQ (jBL pt) (u:=(i:Int)) Aa Aa;rw[aR] at e a1 a2 a3;rw[e];have b:=jLP pt a3.1 a3.2;rw[a2] at b;have hil:i<ts.length:=by rw[kZ pt]; exact hi
  have ei:ts.getD i 0=ts[i]:=by rw[aj,aq hil]; rfl
  rw[ei] at a3 b;rw[b,aq hil,bW a3.1]
 ·rw[b8 (by rw[jQ7 (jBL pt)]; lia),b8 (by rw[kZ pt]; lia)]
theorem jAE {lot:Ag}(r:Ris n lot):nmd (bkO ts) (nmd ts lot)=lot:=by
 have hin:∀ t∈lot,t∈ts:=fun t ht=>qN pt (r.bnd t ht).1 (r.bnd t ht).2;have r1:=jB1 (ts:=ts) (jCW r.ris);refine jJ8 (jB1 (jCW r1.ris)).ris r.ris fun p=>?_;rw[mem_nmd];constructor
 ·rintro ⟨j,hj,hj2,rfl⟩;obtain⟨u,hu,hut,rfl⟩:=mem_nmd.mp hj;have b:=r.bnd u hu;rw[jLP pt b.1 b.2,bW b.1];exact hu
 ·intro hp;have b:=r.bnd p hp;refine⟨((ts.idxOf p:Nat):Int),mem_nmd.mpr ⟨p,hp,hin p hp,rfl⟩,aB (jIQ pt b.1 b.2),?_⟩;rw[jLP pt b.1 b.2,bW b.1]
end
theorem jNO {ts:Ag}{Ar:Ae}{ks:Ag}{j:Int}(h0:0<=j)(h1:j<ks.length):wgt (pick ts Ar ks) j=wgt Ar (ks.getD j.toNat 0):=by
 have hj:j.toNat<ks.length:=Aa;have e:ks.getD j.toNat 0=ks[j.toNat]:=by rw[aj,aq hj]; rfl
 have e2:(ks.map fun k=>(nmd ts (j8 Ar k),(Ar.getD k.toNat ([],0)).2)).getD j.toNat ([],0)=(nmd ts (j8 Ar ks[j.toNat]),(Ar.getD ks[j.toNat].toNat ([],0)).2):=by
  rw[aj,aS,aq hj];rfl
 rw[e];show ((ks.map fun k=>(nmd ts (j8 Ar k),(Ar.getD k.toNat ([],0)).2)).getD j.toNat ([],0)).2=_;rw[e2];rfl
section
variable {w:Int}{Ar:Ae}{ts ks:Ag}(g:Good 16 32 w ms Ar)(pt:ts.Perm (upto w.toNat))(pk:ks.Perm (upto Ar.length))
include g pt pk
theorem an_w:((ts.length:Nat):Int)=w:=by
 have:=kZ pt;have:=g.w0;lia
theorem jLT {x:Int}(h0:0<=x)(h1:x<w):x∈ts:=qN pt h0 (by have:=g.w0; lia)
theorem an_th {k:Int}(h0:0<=k)(h1:k<Ar.length):j8 (pick ts Ar ks) ((ks.idxOf k:Nat):Int)=nmd ts (j8 Ar k):=by
 obtain⟨e,l⟩:=jEJ pk h0 h1;rw[jA3 Aa (by rw[kZ pk]; lia),aR,e]
theorem jLR {k t:Int}(h0:0<=k)(h1:k<Ar.length)(t0:0<=t)(t1:t<w):((ts.idxOf t:Nat):Int)∈nmd ts (j8 Ar k)↔t∈j8 Ar k:=by
 rw[mem_nmd];constructor
 ·rintro ⟨u,hu,hut,e⟩;rw[jCI (jLT g pt pk t0 t1) hut e];exact hu
 ·intro h;exact⟨t,h,jLT g pt pk t0 t1,rfl⟩
theorem jFB:(pick ts Ar ks).length=Ar.length:=by
 unfold pick;rw[af,kZ pk]
theorem jBM:Good 16 32 ((ts.length:Nat):Int) (nmd ts ms) (pick ts Ar ks):=by
 have ew:=an_w g pt pk;refine⟨Aa,by rw[ew]; exact g.w1,jB1 (jCW g.mr.ris),by rw[jFB g pt pk]; exact g.pl,fun pc hpc=>?_⟩;unfold pick at hpc;obtain⟨k,hk,rfl⟩:=aQ.mp hpc;have kb:=mem_upto.mp (pk.mem_iff.mp hk);have gp:=g.at (k:=k.toNat) Aa;have r:=jB1 (ts:=ts) (lot:=j8 Ar k) (jCW gp.lot.ris);refine⟨⟨r.ris,r.bnd,fun z=>?_⟩,gp.lo,gp.hi⟩;have hm:=jE7 gp.lot.ne;have b:=gp.lot.bnd _ hm;have:((ts.idxOf ((Ar.getD k.toNat ([],0)).1.headD 0):Nat):Int)∈nmd ts (j8 Ar k):=mem_nmd.mpr ⟨_,hm,jLT g pt pk b.1 b.2,rfl⟩;rw[show nmd ts (j8 Ar k)=[] from z] at this;cases this
theorem jQC {c:Ag}(C:IsCov w ms Ar c):IsCov ((ts.length:Nat):Int) (nmd ts ms) (pick ts Ar ks) (nmd ks c):=by
 have ew:=an_w g pt pk;have w0:=g.w0;have r:=jB1 (ts:=ks) (jCW C.ris.ris);refine⟨⟨r.ris,fun j hj=>?_⟩,fun j hj j' hj' ne p hp hp'=>?_,fun p p0 p1 hn=>?_⟩
 ·have:=r.bnd j hj;rw[jFB g pt pk,<- kZ pk];exact this
 ·obtain⟨k,hk,hks,rfl⟩:=mem_nmd.mp hj;obtain⟨k',hk',hks',rfl⟩:=mem_nmd.mp hj';have kb:=C.ris.bnd k hk;have kb':=C.ris.bnd k' hk';rw[an_th g pt pk kb.1 kb.2] at hp;rw[an_th g pt pk kb'.1 kb'.2] at hp';obtain⟨u,hu,hut,rfl⟩:=mem_nmd.mp hp;obtain⟨v,hv,hvt,e⟩:=mem_nmd.mp hp';rw[<- jCI hut hvt e] at hv;exact C.dis k hk k' hk' (fun z=>ne (by rw[z])) u hu hv
 ·rw[ew] at p1;obtain⟨a1,a2,a3⟩:=jNS pt p0 Aa;obtain⟨k,hk,hkt⟩:=C.cov _ a3.1 Aa fun hm=>hn (mem_nmd.mpr ⟨_,hm,a1,a2.symm⟩);have kb:=C.ris.bnd k hk;refine⟨((ks.idxOf k:Nat):Int),mem_nmd.mpr ⟨k,hk,qN pk kb.1 kb.2,rfl⟩,?_⟩;rw[an_th g pt pk kb.1 kb.2,<- a2];exact(jLR g pt pk kb.1 kb.2 a3.1 Aa).mpr hkt
theorem jFC:nmd (bkO ts) (nmd ts ms)=ms/\pick (bkO ts) (pick ts Ar ks) (bkO ks)=Ar/\(((bkO ts).length:Nat):Int)=w:=by
 have w0:=g.w0;have ew:((w.toNat:Nat):Int)=w:=bW w0;refine⟨jAE pt (by rw[ew]; exact g.mr),?_,by rw[jQ7 pt]; exact ew⟩;refine gC fun i=>?_;by_cases hi:i<Ar.length
 ·have e:=jIQ pk (u:=(i:Int)) Aa Aa;rw[aR] at e;obtain⟨e1,l1⟩:=jEJ pk (x:=(i:Int)) Aa Aa;show ((bkO ks).map fun k=>(nmd (bkO ts) (j8 (pick ts Ar ks) k),((pick ts Ar ks).getD k.toNat ([],0)).2))[i]?=_;rw[aS,e];have gp:=g.at (k:=i) hi;have e2:=an_th g pt pk (k:=(i:Int)) Aa Aa;have e3:((pick ts Ar ks).getD ((ks.idxOf (i:Int):Nat):Int).toNat ([],0)).2=(Ar.getD i ([],0)).2:=by
   have:=jNO (ts:=ts) (Ar:=Ar) (ks:=ks) (j:=((ks.idxOf (i:Int):Nat):Int)) Aa (by rw[kZ pk]; lia);unfold wgt at this;rw[this,aR,e1];rfl
  show some (nmd (bkO ts) (j8 (pick ts Ar ks) ((ks.idxOf (i:Int):Nat):Int)),((pick ts Ar ks).getD ((ks.idxOf (i:Int):Nat):Int).toNat ([],0)).2)=_;rw[e2,e3,jAE pt (lot:=j8 Ar (i:Int)) ⟨gp.lot.ris,fun z hz=>by rw[ew]; exact gp.lot.bnd z hz⟩];show some ((Ar.getD i ([],0)).1,(Ar.getD i ([],0)).2)=Ar[i]?;rw[aj,aq hi];rfl
 ·rw[b8 (by unfold pick; rw[af,jQ7 pk]; lia),b8 Aa]
theorem jE9:(bkO ts).Perm (upto (((ts.length:Nat):Int)).toNat):=by
 rw[aR,kZ pt];exact jBL pt
theorem jEA:(bkO ks).Perm (upto (pick ts Ar ks).length):=by
 rw[jFB g pt pk];exact jBL pk
theorem jXN {c:Ag}(C:IsCov ((ts.length:Nat):Int) (nmd ts ms) (pick ts Ar ks) c):IsCov w ms Ar (nmd (bkO ks) c):=by
 have:=jQC (jBM g pt pk) (jE9 g pt pk) (jEA g pt pk) C;obtain⟨e1,e2,e3⟩:=jFC g pt pk;rw[e1,e2,e3] at this;exact this
theorem jH6:((cvs w ms Ar).map (nmd ks)).Perm (cvs ((ts.length:Nat):Int) (nmd ts ms) (pick ts Ar ks)):=by
 have g':=jBM g pt pk;have back:∀ {c:Ag},IsCov w ms Ar c->nmd (bkO ks) (nmd ks c)=c:=fun C=>jAE pk C.ris;refine(dw ?_ (jIG g')).mpr fun c=>?_
 ·refine bh.mpr (cQ (fun {x y} hx hy ne e=>ne ?_) (jIG g));rw[<- back ((qD g).mp hx),<- back ((qD g).mp hy),e]
 ·rw[aQ,qD g'];constructor
  ·rintro ⟨c',h,rfl⟩;exact jQC g pt pk ((qD g).mp h)
  ·intro C;refine⟨_,(qD g).mpr (jXN g pt pk C),?_⟩;have rc:Ris Ar.length c:=by
    have:=C.ris;rw[jFB g pt pk] at this;exact this
   have:=jAE (jBL pk) rc;rw[bk_bk pk] at this;exact this
theorem an_wt {c:Ag}(C:IsCov w ms Ar c):wt (pick ts Ar ks) (nmd ks c)=wt Ar c:=by
 rw[jGG fun k hk=>qN pk (C.ris.bnd k hk).1 (C.ris.bnd k hk).2,jMT];unfold wt;rw[bH];congr 1;refine cM fun k hk=>?_;have kb:=C.ris.bnd k hk;obtain⟨e,l⟩:=jEJ pk kb.1 kb.2;show wgt (pick ts Ar ks) ((ks.idxOf k:Nat):Int)=_;rw[jNO Aa (by rw[kZ pk]; lia),aR,e]
theorem jXR {x:Ag}{m:Int}(hx:minW (pick ts Ar ks) (wk (chs (((ts.length:Nat):Int)).toNat (nmd ts ms) (pick ts Ar ks)) 0)=some x)(hm:m∈(cvs w ms Ar).map (wt Ar))(hl:∀ a∈(cvs w ms Ar).map (wt Ar),m<=a):wt (pick ts Ar ks) x=m:=by
 obtain⟨x1,x2⟩:=jE4 hx;have hs:srt x∈cvs ((ts.length:Nat):Int) (nmd ts ms) (pick ts Ar ks):=bO x1;obtain⟨c,hc,ec⟩:=aQ.mp ((jH6 g pt pk).mem_iff.mpr hs);have a1:=hl _ (bO hc);have e1:=an_wt g pt pk ((qD g).mp hc);rw[ec,jMT] at e1;obtain⟨d,hd,rfl⟩:=aQ.mp hm;have e2:=an_wt g pt pk ((qD g).mp hd);have hd':=(jH6 g pt pk).mem_iff.mp (bO hd);obtain⟨z,hz,ez⟩:=aQ.mp hd';have:=x2 z hz;rw[<- ez,jMT] at e2;lia
theorem an_nc {x S:Ag}(hx:Ris w x)(N:NC ms Ar x S):NC (nmd ts ms) (pick ts Ar ks) (nmd ts x) (S.map fun k=>((ks.idxOf k:Nat):Int)):=by
 refine⟨fun j hj=>?_,fun j hj j' hj' ne p hp h1 h2=>?_,fun p hp hn=>?_⟩
 ·obtain⟨k,hk,rfl⟩:=aQ.mp hj;have kb:=N.bnd k hk;have:=(jEJ pk kb.1 kb.2).2;rw[jFB g pt pk];lia
 ·obtain⟨k,hk,rfl⟩:=aQ.mp hj;obtain⟨k',hk',rfl⟩:=aQ.mp hj';have kb:=N.bnd k hk;have kb':=N.bnd k' hk';obtain⟨u,hu,hut,rfl⟩:=mem_nmd.mp hp;have ub:=hx.bnd u hu;rw[an_th g pt pk kb.1 kb.2,jLR g pt pk kb.1 kb.2 ub.1 ub.2] at h1;rw[an_th g pt pk kb'.1 kb'.2,jLR g pt pk kb'.1 kb'.2 ub.1 ub.2] at h2;exact N.dis k hk k' hk' (fun z=>ne (by rw[z])) u hu h1 h2
 ·obtain⟨u,hu,hut,rfl⟩:=mem_nmd.mp hp;have ub:=hx.bnd u hu;obtain⟨k,hk,hku⟩:=N.cov u hu fun hm=>hn (mem_nmd.mpr ⟨u,hm,hut,rfl⟩);have kb:=N.bnd k hk;exact⟨_,bO hk,by rw[an_th g pt pk kb.1 kb.2,jLR g pt pk kb.1 kb.2 ub.1 ub.2]; exact hku⟩
theorem jQB {x:Ag}(hx:Ris w x):Ris ((ts.length:Nat):Int) (nmd ts x):=jB1 (jCW hx.ris)
theorem jTE {x:Ag}(hx:Ris w x):barP (nmd ts ms) (pick ts Ar ks) (nmd ts x)=barP ms Ar x:=by
 have w0:=g.w0;have ew:((w.toNat:Nat):Int)=w:=bW w0;have hx':=jQB g pt pk hx;have g':=jBM g pt pk;have key:(wkN (nmd ts ms) (pick ts Ar ks) (nmd ts x)≠ [])↔(wkN ms Ar x≠ []):=by
  rw[jQ9 g' hx',jQ9 g hx];constructor
  ·rintro ⟨S,N⟩;have:=an_nc g' (jE9 g pt pk) (jEA g pt pk) hx' N;obtain⟨e1,e2,e3⟩:=jFC g pt pk;rw[e1,e2,jAE pt (by rw[ew]; exact hx)] at this;exact⟨_,this⟩
  ·rintro ⟨S,N⟩;exact⟨_,an_nc g pt pk hx N⟩
 unfold barP;refine jg.mpr ?_;constructor
 ·intro h;exact bM fun z=>key.mpr z h
 ·intro h;exact bM fun z=>key.mp z h
end
theorem mem_least {pr:Ag->Bool}{n:Nat}{x:Ag} :x∈yF pr (y6 n)↔Ris (n:Int) x/\pr x=true/\∀ y,Ris (n:Int) y->(∀ t∈y,t∈x)->y.length<x.length->pr y=false:=by
 constructor
 ·intro h;obtain⟨a,b⟩:=jBY h;exact⟨b,a,fun y ry sub lt=>jOR h ry sub lt⟩
 ·rintro ⟨r,p,m⟩;obtain⟨y,hy,hi⟩:=jGX (acc:=[]) (jHO r) p;have hy:y∈yF pr (y6 n):=hy;obtain⟨py,ry⟩:=jBY hy;have yx:=inB_iff.mp hi;have ny:=jCW ry.ris;have nx:=jCW r.ris;have yl:y.length<=x.length:=jGQ id ny (fun a ha=>yx a ha) fun a _ b _ e=>e;rcases fb y.length x.length with q | q
  ·rw[m y ry yx q] at py;cases py
  ·have e:y=x:=jJ8 ry.ris r.ris fun t=>⟨yx t,fun ht=>bM fun z=>by
    have:y.length+1<=x.length:=jGQ (l:=t::y) id (cf.mpr ⟨z,ny⟩) (fun a ha=>(aE.mp ha).elim (fun e=>e ▸ ht) (yx a)) fun a _ b _ e=>e;lia⟩
   rw[<- e];exact hy
theorem jL5 (pr:Ag->Bool)(n:Nat):(yF pr (y6 n)).Nodup:=(jF3 (pr:=pr) (ws:=y6 n) List.Pairwise.nil).imp fun {a b} h e=>by
 rw[e,inB_iff.mpr fun t h=>h] at h;cases h
section
variable {w:Int}{Ar:Ae}{ts ks:Ag}(g:Good 16 32 w ms Ar)(pt:ts.Perm (upto w.toNat))(pk:ks.Perm (upto Ar.length))
include g pt pk
theorem jLS {x:Ag}(h:x∈qZ w ms Ar):nmd ts x∈qZ ((ts.length:Nat):Int) (nmd ts ms) (pick ts Ar ks):=by
 have w0:=g.w0;have ew:((w.toNat:Nat):Int)=w:=bW w0;obtain⟨r,p,m⟩:=mem_least.mp h;have rw':Ris w x:=by rw[ew] at r; exact r
 have e3:=(jFC g pt pk).2.2;refine mem_least.mpr ⟨by rw[aR]; exact jQB g pt pk rw',by rw[jTE g pt pk rw']; exact p,fun y ry sub lt=>?_⟩;rw[aR] at ry;have ry':Ris ((w.toNat:Nat):Int) y:=by rw[<- kZ pt]; exact ry
 have hy:∀ t∈y,t∈bkO ts:=fun t ht=>(jBL pt).mem_iff.mpr (mem_upto.mpr (ry'.bnd t ht));have hz:Ris w (nmd (bkO ts) y):=by
  have:=jB1 (ts:=bkO ts) (jCW ry.ris);rw[e3] at this;exact this
 have back:nmd ts (nmd (bkO ts) y)=y:=by
  have:=jAE (jBL pt) ry';rw[bk_bk pt] at this;exact this
 have:=m (nmd (bkO ts) y) (by rw[ew]; exact hz) (fun t ht=>?_) (by rw[jKW hy]; rw[jKW fun t ht=>jLT g pt pk (rw'.bnd t ht).1 (rw'.bnd t ht).2] at lt; exact lt)
 ·rw[<- jTE g pt pk hz,back] at this;exact this
 ·obtain⟨j,hj,hj2,rfl⟩:=mem_nmd.mp ht;obtain⟨u,hu,hut,rfl⟩:=mem_nmd.mp (sub j hj);have ub:=rw'.bnd u hu;rw[jLP pt ub.1 Aa,bW ub.1];exact hu
theorem jMH:((qZ w ms Ar).map (nmd ts)).Perm (qZ ((ts.length:Nat):Int) (nmd ts ms) (pick ts Ar ks)):=by
 have w0:=g.w0;have ew:((w.toNat:Nat):Int)=w:=bW w0;have ris:∀ {x:Ag},x∈qZ w ms Ar->Ris ((w.toNat:Nat):Int) x:=fun h=>(jBY h).2;refine(dw ?_ (jL5 _ _)).mpr fun c=>?_
 ·refine bh.mpr (cQ (fun {x y} hx hy ne e=>ne ?_) (jL5 _ _));rw[<- jAE pt (ris hx),<- jAE pt (ris hy),e]
 ·rw[aQ];constructor
  ·rintro ⟨x,hx,rfl⟩;exact jLS g pt pk hx
  ·intro h;have:=jLS (jBM g pt pk) (jE9 g pt pk) (jEA g pt pk) h;obtain⟨e1,e2,e3⟩:=jFC g pt pk;rw[e1,e2,e3] at this;refine⟨_,this,?_⟩;have rc:=(jBY h).2;rw[aR] at rc;have rc':Ris ((w.toNat:Nat):Int) c:=by rw[<- kZ pt]; exact rc
   have:=jAE (jBL pt) rc';rw[bk_bk pt] at this;exact this
end
abbrev jOD:Am:=["order"]
theorem scWBack:FnScope jOD ["order"] (j7 jDR):= {}
def jAU:Sp:=fun vs H Q _=>∃ (a:Addr) (ts:Ag) (n:Nat),vs=[.ref a]/\H a=some (.tup (ts.map V.int))/\ts.Perm (upto n)/\n<=32/\∀ r H',H' r=some (.tup ((bkO ts).map V.int))->Ext H H'->Q (.ref r) H'
def jVT (T:Txt mg): { t:TS // JSs (XOf jOD "_law_back" jDR P w K mg Aq f lM A Ap s H0 E) (jD jDR) t} :=
 have nd:=scWBack.nd
 ⟨_,(jC (jL (jW jV gD T.tuple Ab (j3 (kG (m:=[none,some 0]) (Nc:=["k","order"]) rfl (jA5 gD T.range (j3 (jG jN gD T.len Ab (j3 (jv 0 rfl vC) j6 j4) j4) j6 jE) jE) rfl Ab Ab (jK (psc:=j7 jDR)) (jI (N:=jOD) rfl rfl Ab) (fun cl C fp s H=>jJ (i:=0) (show (["k","order"]:Am).Nodup by decide+kernel) rfl yC) (fun cl C fp s H=>kJ) (fun cl C fp s H=>(jP8 gc gd jEP (jv 1 rfl kN) (j3 (jv 0 rfl jP) j6 j4) j4)) kP) j6 jH) jH)))⟩
theorem jR4 {fd:FuncData}(F:Fun K "_law_back" "_law_back" jDR f fd)(T:Txt mg):FnOk P w K mg Aq CX0 1 f fd ["order"] jAU:=by
 refine F.ok scWBack (fun vs H Q E h=>?_) (fun lM A Ap s H vs Q E hr h=>?_)
 ·obtain⟨_,_,_,rfl,_⟩:=h;rfl
 ·obtain⟨a,ts,n,rfl,ha,pt,n32,q⟩:=h;refine⟨_,(jVT T).2.h,?_⟩;have hl:=kZ pt;refine⟨_,rfl,a,_,rfl, .inr (SqT.of ha),_,rfl,by rw[af]; lia,by rw[af]; lia,?_⟩;rw[af];refine jE8 (n:=((ts.length:Nat):Int).toNat) (fun σ=>∃ v,σ=[v,some (.ref a)]) (mapZ (upto ts.length) fun k=>V.int ((ts.idxOf k:Nat):Int)) (mapZ.ok _ _) (by rw[aH]; lia) ⟨_,rfl⟩ ?_ ?_
  ·rintro j σ' H3 zs hj ⟨v,rfl⟩ e hz S1 S2 yes no;rw[aR] at hj;have e0:(0+(j:Int))=(j:Int):=Aa;dsimp only [kL,yB];rw[ay rfl,e0];refine⟨_,rfl,⟨a,_,rfl,e _ _ ha⟩,_,rfl,a,ts,(j:Int),ts.idxOf (j:Int),rfl,rfl,e _ _ ha,(jA6 (qN pt Aa Aa)).1,(jA6 (qN pt Aa Aa)).2,?_⟩;exact yes _ _ _ ⟨_,rfl⟩ (Ext.refl _) (hz.yes (jCN hj))
  ·rintro D H3 zs h3 e3 n3 hz;have hz:=hz.all (by rw[yH,aR]; exact aA _);have hz:zs=(bkO ts).map V.int:=by
    rw[hz];unfold bkO;rw[bH];rfl
   rw[hz] at h3;refine⟨D,_,rfl, .inl ⟨SqL.of h3,fun r4 hr4=>?_⟩⟩;exact q r4 _ j5 (e3.trans ((Ext.refl _).new hr4 _))
theorem jX9 {w:Int}{ms:Ag}{Ar:Ae}(hw:w<=16)(pr:Ag->Bool):(yF pr (y6 w.toNat)).length<=65536/\∀ x∈yF pr (y6 w.toNat),x.length<=100:=by
 have p16:2 ^ w.toNat<=2 ^ 16:=ci Ac Aa;have p16':(2 ^ 16:Nat)=65536:=Ac;have:=jC0 pr (y6 w.toNat) (y6 w.toNat).length;rw[bz] at this;have sl:=jHN w.toNat;refine⟨Aa,fun x hx=>?_⟩;rcases jBZ hx with z | z
 ·cases z
 ·have r:=jCV z;have:=jAL x 0 _ r.ris r.bnd;lia
theorem jH2 {X:Cx}{sc:Scope}{cl:Aj}{C:Addr}{Nc:Am}{fp:List Addr}{s:Shared}{H:Hp} :yR (blk X sc cl C Nc fp s H) (.builtin "sorted") (fun xs H Q=>∃ (p:Addr) (ks:Ag),xs=[.ref p]/\SqL X.K H p (ks.map V.int)/\ks.length<64/\∀ (l:Addr) (ns:Ag),H l=none->ns.Pairwise (· <= ·)->ns.Perm ks->Q (.ref l) (upd H l (.lst (ns.map V.int)))):=jBI
section
variable {fX fV fE tb5:Addr}{fdX fdV fdE:FuncData}
abbrev nLaw:Am:=["script","box","pot","things","pieces","other","every","some","found","due"]
theorem scLaw:FnScope nLaw ["script"] (j7 sLaw):= {}
abbrev XLaw (P:Program)(w:World)(K:W.Frag)(mg:Ak)(Aq:Heap)(f:Addr)(lM:Value)(A:Around)(Ap:List Env)(s:Shared)(H:Hp)(E:XK):Cx:=XOf nLaw "law" sLaw P w K mg Aq f lM A Ap s H E
def turnA (T:Txt mg)(CC:Can P w K mg Aq "_law_cell_at" 1 fC fdC ["script","k"] (jCR K))(CP:Can P w K mg Aq "_law_pot" 1 fP fdP ["cell"] spPot)(CX:Can P w K mg Aq "_law_box" 3 fX fdX ["pot","most_things","most_pieces"] spBox)(CO:Can P w K mg Aq "_law_order" 2 fO fdO ["pot","wide"] jAC)(CN:Can P w K mg Aq "named_anew" 3 fN fdN ["box","things","pieces"] (jCS tb1))(CV:Can P w K mg Aq "_law_coverings" 19 fV fdV ["box"] jCP)(CM:Can P w K mg Aq "many" 6 fM fdM ["box"] (qK tb2))(CB:Can P w K mg Aq "_law_back" 1 fB fdB ["order"] jAU)(CI:Can P w K mg Aq "is_covering" 4 fI fdI ["box","thing"] jCQ)(CL:Can P w K mg Aq "lightest" 5 fL fdL ["box"] (jAV tb5))(CW:Can P w K mg Aq "_law_weight" 1 fW fdW ["box","covering"] jAB)(CE:Can P w K mg Aq "least_bars" 10 fE fdE ["box"] (jAW tb1 tb2 tb3 tb4))(hr:Room 19 (XLaw P w K mg Aq f lM A Ap s H0 E).A): { t:TS // JSs (XLaw P w K mg Aq f lM A Ap s H0 E) (jD1 ((jD sLaw).getD 7 (.Pass ⟨0,0,0,0⟩))) t} :=
 have nd:=scLaw.nd
 ⟨_,(jC (y8 (qF (qE (CI.je (hr.mono Ac) gD (j3 (jv 5 rfl vL) (j3 (jW jV gD T.tuple Ab (j3 (jG jBI gD T.sorted Ab (j3 (kG (m:=[none,some 4]) (Nc:=["k","pieces"]) rfl (qG (jv 7 rfl vL)) rfl Ab Ab (jK (psc:=j7 sLaw)) (jI (N:=nLaw) rfl rfl Ab) (fun cl C fp s H=>jJ (i:=0) (show (["k","pieces"]:Am).Nodup by decide+kernel) rfl yC) (fun cl C fp s H=>kJ) (fun cl C fp s H=>(jP8 gc gd jEP (jv 1 rfl kN) (j3 (jv 0 rfl jP) j6 j4) j4)) y9) j6 jH) jH) j6 jE) jE) j6 jE) j4) j4) yM)) (jC (jL (je_bl))) kB))⟩
def jSI (T:Txt mg)(CC:Can P w K mg Aq "_law_cell_at" 1 fC fdC ["script","k"] (jCR K))(CP:Can P w K mg Aq "_law_pot" 1 fP fdP ["cell"] spPot)(CX:Can P w K mg Aq "_law_box" 3 fX fdX ["pot","most_things","most_pieces"] spBox)(CO:Can P w K mg Aq "_law_order" 2 fO fdO ["pot","wide"] jAC)(CN:Can P w K mg Aq "named_anew" 3 fN fdN ["box","things","pieces"] (jCS tb1))(CV:Can P w K mg Aq "_law_coverings" 19 fV fdV ["box"] jCP)(CM:Can P w K mg Aq "many" 6 fM fdM ["box"] (qK tb2))(CB:Can P w K mg Aq "_law_back" 1 fB fdB ["order"] jAU)(CI:Can P w K mg Aq "is_covering" 4 fI fdI ["box","thing"] jCQ)(CL:Can P w K mg Aq "lightest" 5 fL fdL ["box"] (jAV tb5))(CW:Can P w K mg Aq "_law_weight" 1 fW fdW ["box","covering"] jAB)(CE:Can P w K mg Aq "least_bars" 10 fE fdE ["box"] (jAW tb1 tb2 tb3 tb4))(hr:Room 19 (XLaw P w K mg Aq f lM A Ap s H0 E).A): { t:TS // JSs (XLaw P w K mg Aq f lM A Ap s H0 E) ((jD sLaw).drop 10) t} :=
 have nd:=scLaw.nd
 ⟨_,(jB (jOZ (i:=9) nd rfl lL ⟨by rfl⟩ (m:=[none,some 3]) (Nc:=["bar","things"]) rfl (yN (CE.je (hr.mono Ac) gD (j3 (jv 1 rfl vC) j6 j4) j4)) rfl Ab Ab (jK (psc:=j7 sLaw)) (jI (N:=nLaw) rfl rfl Ab) (fun cl C fp s H=>jJ (i:=0) (show (["bar","things"]:Am).Nodup by decide+kernel) rfl yC) (fun cl C fp s H=>kJ) (fun cl C fp s H=>(jW jF8 gl_b T.tuple Ab (j3 (jG jH2 gl_b T.sorted Ab (j3 (kG (m:=[none,some 1]) (Nc:=["t","things"]) rfl (jRN (jv 0 rfl jP)) rfl Ab Ab (jRY Ab) (jI (N:=["bar","things"]) rfl rfl Ab) (fun cl C fp s H=>jJ (i:=0) (show (["t","things"]:Am).Nodup by decide+kernel) rfl yC) (fun cl C fp s H=>kJ) (fun cl C fp s H=>(jP8 gc gd jEP (jv 1 rfl kN) (j3 (jv 0 rfl jP) j6 j4) j4)) y9) j6 jH) jH) j6 jE) jE)) kP)
   (jC (jL (yO (jJC hr.units101) (jG (jD8 hr.units101) gD T.sorted Ab (j3 (CE.je (hr.mono Ac) gD (j3 (jv 5 rfl vL) j6 j4) j4) j6 jE) jE) (jG (jD8 hr.units101) gD T.sorted Ab (j3 (jv 9 rfl vL) j6 j4) j4) (jT _)))))⟩
def jSJ (T:Txt mg)(CC:Can P w K mg Aq "_law_cell_at" 1 fC fdC ["script","k"] (jCR K))(CP:Can P w K mg Aq "_law_pot" 1 fP fdP ["cell"] spPot)(CX:Can P w K mg Aq "_law_box" 3 fX fdX ["pot","most_things","most_pieces"] spBox)(CO:Can P w K mg Aq "_law_order" 2 fO fdO ["pot","wide"] jAC)(CN:Can P w K mg Aq "named_anew" 3 fN fdN ["box","things","pieces"] (jCS tb1))(CV:Can P w K mg Aq "_law_coverings" 19 fV fdV ["box"] jCP)(CM:Can P w K mg Aq "many" 6 fM fdM ["box"] (qK tb2))(CB:Can P w K mg Aq "_law_back" 1 fB fdB ["order"] jAU)(CI:Can P w K mg Aq "is_covering" 4 fI fdI ["box","thing"] jCQ)(CL:Can P w K mg Aq "lightest" 5 fL fdL ["box"] (jAV tb5))(CW:Can P w K mg Aq "_law_weight" 1 fW fdW ["box","covering"] jAB)(CE:Can P w K mg Aq "least_bars" 10 fE fdE ["box"] (jAW tb1 tb2 tb3 tb4))(hr:Room 19 (XLaw P w K mg Aq f lM A Ap s H0 E).A): { t:TS // JSs (XLaw P w K mg Aq f lM A Ap s H0 E) ((jD sLaw).drop 8) t} :=
 have nd:=scLaw.nd
 ⟨_,(jB (jU (i:=8) nd rfl lL (CL.je (hr.mono Ac) gD (j3 (jv 5 rfl vL) j6 j4) j4) kE) (jB (y8 (jY (jJC hr.units101) (jv 6 rfl vL) (jB2 j6) (jT _)) (jC (y8 (jY jNU (jv 8 rfl vL) (jFT) (jT _)) (jC (jL (je_bl))) kB)) (jC (y8 (jY op_ne (jM jQ (jv 8 rfl vL) (je_int) jF) (jG (jQ2 rfl) gD T.min Ab (j3 (kG (m:=[none,some 1]) (Nc:=["some","box"]) rfl (yN (jv 6 rfl vL)) rfl Ab Ab (jK (psc:=j7 sLaw)) (jI (N:=nLaw) rfl rfl Ab) (fun cl C fp s H=>jJ (i:=0) (show (["some","box"]:Am).Nodup by decide+kernel) rfl yC) (fun cl C fp s H=>kJ) (fun cl C fp s H=>(CW.je (hr.mono Ac) gl_b (j3 (jv 1 rfl kN) (j3 (jv 0 rfl jP) j6 j4) j4) j4)) y9) j6 jH) jH) (jT _)) (jC (jL (je_bl))) kB))) (jSI T CC CP CX CO CN CV CM CB CI CL CW CE hr).2))⟩
def jSK (T:Txt mg)(CC:Can P w K mg Aq "_law_cell_at" 1 fC fdC ["script","k"] (jCR K))(CP:Can P w K mg Aq "_law_pot" 1 fP fdP ["cell"] spPot)(CX:Can P w K mg Aq "_law_box" 3 fX fdX ["pot","most_things","most_pieces"] spBox)(CO:Can P w K mg Aq "_law_order" 2 fO fdO ["pot","wide"] jAC)(CN:Can P w K mg Aq "named_anew" 3 fN fdN ["box","things","pieces"] (jCS tb1))(CV:Can P w K mg Aq "_law_coverings" 19 fV fdV ["box"] jCP)(CM:Can P w K mg Aq "many" 6 fM fdM ["box"] (qK tb2))(CB:Can P w K mg Aq "_law_back" 1 fB fdB ["order"] jAU)(CI:Can P w K mg Aq "is_covering" 4 fI fdI ["box","thing"] jCQ)(CL:Can P w K mg Aq "lightest" 5 fL fdL ["box"] (jAV tb5))(CW:Can P w K mg Aq "_law_weight" 1 fW fdW ["box","covering"] jAB)(CE:Can P w K mg Aq "least_bars" 10 fE fdE ["box"] (jAW tb1 tb2 tb3 tb4))(hr:Room 19 (XLaw P w K mg Aq f lM A Ap s H0 E).A): { t:TS // JSs (XLaw P w K mg Aq f lM A Ap s H0 E) ((jD sLaw).drop 7) t} :=
 have nd:=scLaw.nd
 ⟨_,(jB (jCA cB rfl (yN (jGS jJ6 (jv 6 rfl vL) jJQ (jJP (je_int)))) (jJ (i:=7) nd rfl lL) (turnA T CC CP CX CO CN CV CM CB CI CL CW CE hr).2 jT7) (jSJ T CC CP CX CO CN CV CM CB CI CL CW CE hr).2)⟩
def midA (T:Txt mg)(CC:Can P w K mg Aq "_law_cell_at" 1 fC fdC ["script","k"] (jCR K))(CP:Can P w K mg Aq "_law_pot" 1 fP fdP ["cell"] spPot)(CX:Can P w K mg Aq "_law_box" 3 fX fdX ["pot","most_things","most_pieces"] spBox)(CO:Can P w K mg Aq "_law_order" 2 fO fdO ["pot","wide"] jAC)(CN:Can P w K mg Aq "named_anew" 3 fN fdN ["box","things","pieces"] (jCS tb1))(CV:Can P w K mg Aq "_law_coverings" 19 fV fdV ["box"] jCP)(CM:Can P w K mg Aq "many" 6 fM fdM ["box"] (qK tb2))(CB:Can P w K mg Aq "_law_back" 1 fB fdB ["order"] jAU)(CI:Can P w K mg Aq "is_covering" 4 fI fdI ["box","thing"] jCQ)(CL:Can P w K mg Aq "lightest" 5 fL fdL ["box"] (jAV tb5))(CW:Can P w K mg Aq "_law_weight" 1 fW fdW ["box","covering"] jAB)(CE:Can P w K mg Aq "least_bars" 10 fE fdE ["box"] (jAW tb1 tb2 tb3 tb4))(hr:Room 19 (XLaw P w K mg Aq f lM A Ap s H0 E).A): { t:TS // JSs (XLaw P w K mg Aq f lM A Ap s H0 E) ((jD sLaw).drop 5) t} :=
 have nd:=scLaw.nd
 ⟨_,(jB (jU (i:=6) nd rfl lL (CV.je hr gD (j3 (jv 1 rfl vC) j6 j4) j4) kE) (jB (y8 (jt_w (jw_or (jY op_ne (CM.je (hr.mono Ac) gD (j3 (jv 5 rfl vL) j6 j4) j4) (jG jN gD T.len Ab (j3 (jv 6 rfl vL) j6 j4) j4) (jT _)) (jOX (jY (jUJ hr.units101) (CN.je (hr.mono Ac) gD (j3 (jv 5 rfl vL) (j3 (CB.je (hr.mono Ac) gD (j3 (jv 3 rfl vC) j6 j4) j4) (j3 (CB.je (hr.mono Ac) gD (j3 (jv 4 rfl vC) j6 j4) j4) j6 jE) jE) j4) j4) (jv 1 rfl vC) (jT _))))) (jC (jL (je_bl))) kB) (jSK T CC CP CX CO CN CV CM CB CI CL CW CE hr).2))⟩
def lawA (T:Txt mg)(CC:Can P w K mg Aq "_law_cell_at" 1 fC fdC ["script","k"] (jCR K))(CP:Can P w K mg Aq "_law_pot" 1 fP fdP ["cell"] spPot)(CX:Can P w K mg Aq "_law_box" 3 fX fdX ["pot","most_things","most_pieces"] spBox)(CO:Can P w K mg Aq "_law_order" 2 fO fdO ["pot","wide"] jAC)(CN:Can P w K mg Aq "named_anew" 3 fN fdN ["box","things","pieces"] (jCS tb1))(CV:Can P w K mg Aq "_law_coverings" 19 fV fdV ["box"] jCP)(CM:Can P w K mg Aq "many" 6 fM fdM ["box"] (qK tb2))(CB:Can P w K mg Aq "_law_back" 1 fB fdB ["order"] jAU)(CI:Can P w K mg Aq "is_covering" 4 fI fdI ["box","thing"] jCQ)(CL:Can P w K mg Aq "lightest" 5 fL fdL ["box"] (jAV tb5))(CW:Can P w K mg Aq "_law_weight" 1 fW fdW ["box","covering"] jAB)(CE:Can P w K mg Aq "least_bars" 10 fE fdE ["box"] (jAW tb1 tb2 tb3 tb4))(hr:Room 19 (XLaw P w K mg Aq f lM A Ap s H0 E).A): { t:TS // JSs (XLaw P w K mg Aq f lM A Ap s H0 E) (jD sLaw) t} :=
 have nd:=scLaw.nd
 ⟨_,(jB (jU (i:=1) nd rfl loc_c (CX.je (hr.mono Ac) gD (j3 (CP.je (hr.mono Ac) gD (j3 (CC.je (hr.mono Ac) gD (j3 (jv 0 rfl vL) (j3 (je_int) j6 kO) j4) j4) j6 jE) jE) (j3 (je_int) (j3 (je_int) j6 kO) kO) jE) jE) kE) (jB (jU (i:=2) nd rfl lL (CP.je (hr.mono Ac) gD (j3 (CC.je (hr.mono Ac) gD (j3 (jv 0 rfl vL) (j3 (je_int) j6 kO) j4) j4) j6 jE) jE) kE) (jB (jU (i:=3) nd rfl loc_c (CO.je (hr.mono Ac) gD (j3 (jv 2 rfl vL) (j3 (jM jQ (jv 1 rfl vC) (je_int) jF) j6 jR) j4) j4) kE) (jB (jU (i:=4) nd rfl loc_c (CO.je (hr.mono Ac) gD (j3 (jv 2 rfl vL) (j3 (jG jN gD T.len Ab (j3 (jM jQ (jv 1 rfl vC) (je_int) jF) j6 jR) jR) j6 jE) j4) j4) kE) (jB (jU (i:=5) nd rfl lL (CN.je (hr.mono Ac) gD (j3 (jv 1 rfl vC) (j3 (jv 3 rfl vC) (j3 (jv 4 rfl vC) j6 j4) j4) j4) j4) kE) (midA T CC CP CX CO CN CV CM CB CI CL CW CE hr).2)))))⟩
abbrev tLt (tb:Addr):TT:=⟨tb,pLBeh,qLB⟩
abbrev LL (tb1 tb2 tb3 tb4 tb5:Addr):List TT:=[tP tb1,tW tb2,tK tb3,tB tb4,tLt tb5]
abbrev XS (tb1 tb2 tb3 tb4 tb5:Addr):Hp->Hp->Prop:=ExS (ads (LL tb1 tb2 tb3 tb4 tb5))
section
variable (t:TbS (LL tb1 tb2 tb3 tb4 tb5) H)
include t
theorem LL.pp:TabP H tb1:=t.ok (tP tb1) (ai ..)
theorem LL.ww:TabW H tb2:=t.ok (tW tb2) (ag _ (ai ..))
theorem LL.m5:tLt tb5∈LL tb1 tb2 tb3 tb4 tb5:=aF (L4 tb1 tb2 tb3 tb4) (aK.mpr rfl)
theorem LL.ll:TabL H tb5:=t.ok (tLt tb5) (LL.m5 t)
theorem LL.toP (e:ExtT tb1 H H')(k:TabP H' tb1):TbS (LL tb1 tb2 tb3 tb4 tb5) H'/\XS tb1 tb2 tb3 tb4 tb5 H H':=⟨t.setT (x:=tP tb1) (ai ..) e k,ExS.ofT e (ai ..)⟩
theorem LL.toW (e:ExtT tb2 H H')(k:TabW H' tb2):TbS (LL tb1 tb2 tb3 tb4 tb5) H'/\XS tb1 tb2 tb3 tb4 tb5 H H':=⟨t.setT (x:=tW tb2) (ag _ (ai ..)) e k,ExS.ofT e (ag _ (ai ..))⟩
theorem LL.toL (e:ExtT tb5 H H')(k:TabL H' tb5):TbS (LL tb1 tb2 tb3 tb4 tb5) H'/\XS tb1 tb2 tb3 tb4 tb5 H H':=⟨t.setT (x:=tLt tb5) (LL.m5 t) e k,ExS.ofT e (bO (f:=TT.a) (LL.m5 t))⟩
theorem LL.four:TbS (L4 tb1 tb2 tb3 tb4) H:=⟨t.nd.sublist ((eO (L4 tb1 tb2 tb3 tb4) [tLt tb5]).map _),fun x hx=>t.ok x ((eO (L4 tb1 tb2 tb3 tb4) [tLt tb5]).subset hx)⟩
theorem LL.to4 (x:ExS (ads (L4 tb1 tb2 tb3 tb4)) H H')(T1:TbS (L4 tb1 tb2 tb3 tb4) H'):TbS (LL tb1 tb2 tb3 tb4 tb5) H'/\XS tb1 tb2 tb3 tb4 tb5 H H':=by
 have sb:∀ z∈ads (L4 tb1 tb2 tb3 tb4),z∈ads (LL tb1 tb2 tb3 tb4 tb5):=fun z hz=>((eO (L4 tb1 tb2 tb3 tb4) [tLt tb5]).map TT.a).subset hz;refine⟨t.set (S:=ads (L4 tb1 tb2 tb3 tb4)) sb x fun z hz hm=>?_,ExS.mono sb x⟩;rcases aP.mp (show z∈L4 tb1 tb2 tb3 tb4++[tLt tb5] from hz) with y | y
 ·exact T1.ok z y
 ·exfalso;have e5:=aK.mp y;rw[e5] at hm;have nd:(ads (L4 tb1 tb2 tb3 tb4)++[tb5]).Nodup:=t.nd;exact(gG.mp nd).2.2 tb5 hm tb5 (aK.mpr rfl) rfl
end
structure Fx (H:Hp)(b at' ak ob lE:Addr)(wi:Int)(ms:Ag)(Ar:Ae)(ts ks:Ag)(usE:List V):Prop where
 hB:BoxAt H b wi ms Ar
 hO:BoxAt H ob ((ts.length:Nat):Int) (nmd ts ms) (pick ts Ar ks)
 ht:H at'=some (.tup (ts.map V.int))
 hk:H ak=some (.tup (ks.map V.int))
 hE:H lE=some (.lst usE)
 uE:LsAt H usE (cvs wi ms Ar)
 nE:usE.length<=65536
theorem Fx.mono {H H':Hp}{b at' ak ob lE:Addr}{wi:Int}{ms:Ag}{Ar:Ae}{ts ks:Ag}{usE:List V}(x:Fx H b at' ak ob lE wi ms Ar ts ks usE)(t:TbS (LL tb1 tb2 tb3 tb4 tb5) H)(e:XS tb1 tb2 tb3 tb4 tb5 H H'):Fx H' b at' ak ob lE wi ms Ar ts ks usE:=
 have tu:=t.tups e
 ⟨x.hB.mono tu,x.hO.mono tu,tu _ _ x.ht,tu _ _ x.hk,t.at e x.hE,LsAt.mono tu x.uE,x.nE⟩
def spLaw (K:W.Frag)(tb1 tb2 tb3 tb4 tb5:Addr):Sp:=fun vs H Q _=>∃ (a:Addr) (ns:Ag),vs=[.ref a]/\SqL K H a (ns.map V.int)/\ns.length<=63/\TabP H tb1/\TabW H tb2/\TabK H tb3/\TabOk H tb4 barPo qBarL/\TabL H tb5/\tb1≠tb2/\tb1≠tb3/\tb1≠tb4/\tb1≠tb5/\tb2≠tb3/\tb2≠tb4/\tb2≠tb5/\tb3≠tb4/\tb3≠tb5/\tb4≠tb5/\∀ H',Q (.bl true) H'
variable (T:Txt mg)(CC:Can P w K mg Aq "_law_cell_at" 1 fC fdC ["script","k"] (jCR K))(CP:Can P w K mg Aq "_law_pot" 1 fP fdP ["cell"] spPot)(CX:Can P w K mg Aq "_law_box" 3 fX fdX ["pot","most_things","most_pieces"] spBox)(CO:Can P w K mg Aq "_law_order" 2 fO fdO ["pot","wide"] jAC)(CN:Can P w K mg Aq "named_anew" 3 fN fdN ["box","things","pieces"] (jCS tb1))(CV:Can P w K mg Aq "_law_coverings" 19 fV fdV ["box"] jCP)(CM:Can P w K mg Aq "many" 6 fM fdM ["box"] (qK tb2))(CB:Can P w K mg Aq "_law_back" 1 fB fdB ["order"] jAU)(CI:Can P w K mg Aq "is_covering" 4 fI fdI ["box","thing"] jCQ)(CL:Can P w K mg Aq "lightest" 5 fL fdL ["box"] (jAV tb5))(CW:Can P w K mg Aq "_law_weight" 1 fW fdW ["box","covering"] jAB)(CE:Can P w K mg Aq "least_bars" 10 fE fdE ["box"] (jAW tb1 tb2 tb3 tb4))
include T CC CP CX CO CN CV CM CB CI CL CW CE
theorem jFJ (hr:Room 19 (XLaw P w K mg Aq f lM A Ap s H0 E).A)
  {D:Ends}{H:Hp}{b at' ak ob lE:Addr}{wi:Int}{ms:Ag}{Ar:Ae}{ts ks:Ag}{usE:List V}{v0 v2 v7 v8 v9:Option V}(F:Fx H b at' ak ob lE wi ms Ar ts ks usE) (g:Good 6 9 wi ms Ar) (pt:ts.Perm (upto wi.toNat)) (pk:ks.Perm (upto Ar.length)) (tab:TbS (LL tb1 tb2 tb3 tb4 tb5) H) (q:∀ H',D.rt (.bl true) H'):
  (jSI T CC CP CX CO CN CV CM CB CI CL CW CE hr).1 D [v0,some (.ref b),v2,some (.ref at'),some (.ref ak),some (.ref ob),some (.ref lE),v7,v8,v9] H:=by
 have g32:Good 16 32 wi ms Ar:=g.wide Ac Ac;have gO:=jBM g32 pt pk;have w0:=g.w0;have w6:=g.w1;have ew:=an_w g32 pt pk;refine⟨_,rfl,b,wi,ms,Ar,rfl,F.hB,g32,Aa,LL.four tab,fun l us H1 h1 hu x1 t1 n1=>?_⟩;obtain⟨T1,X1⟩:=LL.to4 tab x1 t1;have F1:=F.mono tab X1;obtain⟨ll,_⟩:=jX9 (w:=wi) (ms:=ms) (Ar:=Ar) Aa (barP ms Ar);have ll:(qZ wi ms Ar).length<=65536:=ll;have hl:=All2.len hu;refine⟨l,rfl,⟨_,SqL.of h1⟩,jAJ (xs:=us) (fun σ=>∃ v,σ=[v,some (.ref at')]) (fun H' zs j=>LsAt H' zs (((qZ wi ms Ar).take j).map (nmd ts))) ⟨fun H=>trivial,fun H H' zs j tt h=>LsAt.mono tt h,fun H zs j h=>?_⟩ h1 (by rw[aH]; lia) ⟨_,rfl⟩ ?_ ?_⟩
 ·rw[All2.len h,af];exact bB _ _
 ·rintro j x σ' H' zs hx ⟨v,rfl⟩ e hz S1 S2 yes no;obtain⟨x,hx',ad,rfl,had⟩:=All2.get' hu hx;have rx:=(jBY (aB hx')).2;have xl:=jAL x 0 _ rx.ris rx.bnd;have hs:∀ t∈x,t∈ts:=fun t ht=>qN pt (rx.bnd t ht).1 (rx.bnd t ht).2;dsimp only [kL,yB];rw[ay rfl];refine⟨_,rfl,ad,rfl,⟨_,SqT.of (e _ _ had)⟩,jLD (e _ _ had) (e _ _ F1.ht) Aa hs rfl fun D2 HA kA eA nA=>?_⟩;refine⟨D2,_,rfl,SqL.of kA,by rw[af]; lia,fun l3 ns hl3 ple pm=>?_⟩;have en:ns=nmd ts x:=by
   rw[jGG hs];exact jC9 ple pm
  subst en;have eB:Ext HA (L2.upd HA l3 (.lst ((nmd ts x).map V.int))):=(Ext.refl _).new hl3 _;have dB:(L2.upd HA l3 (.lst ((nmd ts x).map V.int))) l3=some (.lst ((nmd ts x).map V.int)):=j5;generalize L2.upd HA l3 (.lst ((nmd ts x).map V.int))=HB at eB dB;refine⟨l3,_,rfl, .inl ⟨SqL.of dB,fun r hr'=>?_⟩⟩;have eC:Ext HB (L2.upd HB r (.tup ((nmd ts x).map V.int))):=(Ext.refl _).new hr' _;have dC:(L2.upd HB r (.tup ((nmd ts x).map V.int))) r=some (.tup ((nmd ts x).map V.int)):=j5;have eAC:=(eA.trans eB).trans eC;refine yes _ _ _ ⟨_,rfl⟩ eAC ?_;have et:((qZ wi ms Ar).take (j+1)).map (nmd ts)=((qZ wi ms Ar).take j).map (nmd ts)++[nmd ts x]:=by
   rw[be,hx',aU];rfl
  show LsAt _ _ (((qZ wi ms Ar).take (j+1)).map (nmd ts));rw[et];exact All2.snoc (LsAt.mono eAC.tups hz) ⟨r,rfl,dC⟩
 ·rintro du H2 zs h2 e2 n2 hz;rw[hl,bz] at hz;have F2:=F1.mono T1 (ExS.of e2);have T2:=T1.ext e2;refine⟨_,rfl,ob,_,_,_,rfl,F2.hO,gO,Aa,LL.four T2,fun l4 us4 H4 h4 hu4 x4 t4 n4=>?_⟩;obtain⟨T4,X4⟩:=LL.to4 T2 x4 t4;refine⟨l4,us4,_,rfl,SqL.of h4,hu4,fun l5 us5 ws5 n5 ts5 pm5 so5=>?_⟩;have e5:Ext H4 (L2.upd H4 l5 (.lst us5)):=(Ext.refl _).new n5 _;have d5:(L2.upd H4 l5 (.lst us5)) l5=some (.lst us5):=j5;generalize L2.upd H4 l5 (.lst us5)=H5 at e5 d5;have h25:=e5 _ _ (T2.at X4 h2);have z5:=LsAt.mono ((T2.tups X4).trans e5.tups) hz;refine⟨_,rfl,du,zs,_,rfl,SqL.of h25,z5,fun l6 us6 ws6 n6 ts6 pm6 so6=>?_⟩;have e6:Ext H5 (L2.upd H5 l6 (.lst us6)):=(Ext.refl _).new n6 _;have d6:(L2.upd H5 l6 (.lst us6)) l6=some (.lst us6):=j5;show ∃ ts us,_;generalize L2.upd H5 l6 (.lst us6)=H6 at e6 d6;have ew6:ws5=ws6:=jGO ((pm5.trans (jMH g32 pt pk).symm).trans pm6.symm) so5 so6;refine⟨_,_,⟨l5,_,rfl,e6 _ _ d5,jES (LsAt.mono (e5.trans e6).tups ts5)⟩,⟨l6,_,rfl,d6,jES (LsAt.mono e6.tups ts6)⟩,jGL _,?_⟩;rw[ew6,jBF];exact q H6
theorem jLZ (hr:Room 19 (XLaw P w K mg Aq f lM A Ap s H0 E).A)
  {D:Ends}{H:Hp}{b at' ak ob lE:Addr}{wi:Int}{ms:Ag}{Ar:Ae}{ts ks:Ag}{usE:List V}{v0 v2 v7 v8 v9:Option V}(F:Fx H b at' ak ob lE wi ms Ar ts ks usE) (g:Good 6 9 wi ms Ar) (pt:ts.Perm (upto wi.toNat)) (pk:ks.Perm (upto Ar.length)) (tab:TbS (LL tb1 tb2 tb3 tb4 tb5) H) (q:∀ H',D.rt (.bl true) H'):
  (jSJ T CC CP CX CO CN CV CM CB CI CL CW CE hr).1 D [v0,some (.ref b),v2,some (.ref at'),some (.ref ak),some (.ref ob),some (.ref lE),v7,v8,v9] H:=by
 have g32:Good 16 32 wi ms Ar:=g.wide Ac Ac;have gO:=jBM g32 pt pk;have same:=(jH6 g32 pt pk).length_eq;rw[af] at same;refine⟨_,rfl,ob,_,_,_,rfl,F.hO,gO,LL.ll tab,fun hn H1 e1 t1=>?_,fun x hx r rq H1 d1 d2 e1 t1=>?_⟩
 ·obtain⟨T1,X1⟩:=LL.toL tab e1 t1;have F1:=F.mono tab X1;have hw:cvs wi ms Ar=[]:=by
   refine eS.mp (same.trans ?_);rw[jK1,minW_none.mp hn];rfl
  refine⟨_,rfl,by show (0:Nat)<=_; decide,fun m H3 d3 e3 n3=>?_⟩;refine⟨_,[],⟨lE,usE,rfl,e3 _ _ F1.hE,jES (LsAt.mono e3.tups F1.uE)⟩,⟨m,_,rfl,d3,rfl⟩,jGL _,_,rfl,?_⟩;rw[jSY,ax hw];refine iteT ⟨_,rfl,rfl,_,rfl,iteF ?_⟩;exact jFJ T CC CP CX CO CN CV CM CB CI CL CW CE hr (F1.mono T1 (ExS.of e3)) g pt pk (T1.ext e3) q
 ·obtain⟨T1,X1⟩:=LL.toL tab e1 t1;have F1:=F.mono tab X1;have hw:cvs wi ms Ar≠ []:=fun z=>by
   rw[z,jK1] at same;rw[eS.mp same.symm] at hx;cases hx
  refine⟨_,rfl,by show (0:Nat)<=_; decide,fun m0 H3 d3 e3 n3=>?_⟩;refine⟨_,[],⟨lE,usE,rfl,e3 _ _ F1.hE,jES (LsAt.mono e3.tups F1.uE)⟩,⟨m0,_,rfl,d3,rfl⟩,jGL _,_,rfl,?_⟩;rw[jSY,aN hw];refine iteF ?_;have F3:=F1.mono T1 (ExS.of e3);have T3:=T1.ext e3;refine⟨_,rfl,r,_,0,_,rfl,rfl,SqT.of (e3 _ _ d1),rfl,_,rfl,lE,rfl,⟨_,SqL.of F3.hE⟩,jAJ (xs:=usE) (fun σ=>∃ v,σ=[v,some (.ref b)]) (mapZ (cvs wi ms Ar) fun x=>V.int (wt Ar x)) (mapZ.ok _ _) F3.hE (by have:=F.nE; rw[aH]; lia) ⟨_,rfl⟩ ?_ ?_⟩
  ·rintro j x2 σ' H' zs hx2 ⟨v,rfl⟩ e hz S1 S2 yes no;obtain⟨cs,hcs,ad,rfl,had⟩:=All2.get' F3.uE hx2;have C:=(qD g32).mp (aB hcs);have kl:=jAL cs 0 _ C.ris.ris C.ris.bnd;have gpl:=g.pl;dsimp only [kL,yB];rw[ay rfl];exact⟨_,rfl,_,rfl,b,ad,_,_,_,cs,rfl,F3.hB.mono e.tups,e _ _ had,C.ris.bnd,Aa,fun H5 e5=>yes _ _ _ ⟨_,rfl⟩ e5 (hz.yes hcs)⟩
  ·rintro D2 H5 zs hD e5 n5 hz;have hz:=hz.all (by rw[All2.len F3.uE]; exact aA _);have hz2:zs=((cvs wi ms Ar).map (wt Ar)).map V.int:=by rw[hz,bH]; rfl
   rw[hz2] at hD;refine⟨D2,_,rfl,SqL.of hD,by rw[af]; exact lb.mpr hw,fun m hm hmin=>⟨rfl,_,rfl,?_⟩⟩;rw[jXR g32 pt pk hx hm hmin,ax rfl];exact iteF (jFJ T CC CP CX CO CN CV CM CB CI CL CW CE hr (F3.mono T3 (ExS.of e5)) g pt pk (T3.ext e5) q)
theorem jMY (hr:Room 19 (XLaw P w K mg Aq f lM A Ap s H0 E).A)
  {D:Ends}{H:Hp}{b at' ak ob lE ca:Addr}{wi:Int}{ms:Ag}{Ar:Ae}{ts ks c:Ag}{usE:List V}{v0 v2 v8 v9:Option V}(F:Fx H b at' ak ob lE wi ms Ar ts ks usE) (g:Good 16 32 wi ms Ar) (pt:ts.Perm (upto wi.toNat)) (pk:ks.Perm (upto Ar.length)) (hc:H ca=some (.tup (c.map V.int))) (C:IsCov wi ms Ar c)
  (nx:∀ H',Ext H H'->D.nx [v0,some (.ref b),v2,some (.ref at'),some (.ref ak),some (.ref ob),some (.ref lE),some (.ref ca),v8,v9] H'):
  (turnA T CC CP CX CO CN CV CM CB CI CL CW CE hr).1 D [v0,some (.ref b),v2,some (.ref at'),some (.ref ak),some (.ref ob),some (.ref lE),some (.ref ca),v8,v9] H:=by
 have gO:=jBM g pt pk;have cl:=jAL c 0 _ C.ris.ris C.ris.bnd;have gpl:=g.pl;have hs:∀ k∈c,k∈ks:=fun k hk=>qN pk (C.ris.bnd k hk).1 (C.ris.bnd k hk).2;refine⟨_,rfl,_,rfl,ca,rfl,⟨_,SqT.of hc⟩,jLD hc F.hk Aa hs rfl fun D2 HA kA eA nA=>?_⟩;refine⟨D2,_,rfl,SqL.of kA,by rw[af]; lia,fun l3 ns hl3 ple pm=>?_⟩;have en:ns=nmd ks c:=by
  rw[jGG hs];exact jC9 ple pm
 subst en;have eB:Ext HA (L2.upd HA l3 (.lst ((nmd ks c).map V.int))):=(Ext.refl _).new hl3 _;have dB:(L2.upd HA l3 (.lst ((nmd ks c).map V.int))) l3=some (.lst ((nmd ks c).map V.int)):=j5;generalize L2.upd HA l3 (.lst ((nmd ks c).map V.int))=HB at eB dB;refine⟨l3,_,rfl, .inl ⟨SqL.of dB,fun r hr'=>?_⟩⟩;have eC:Ext HB (L2.upd HB r (.tup ((nmd ks c).map V.int))):=(Ext.refl _).new hr' _;have dC:(L2.upd HB r (.tup ((nmd ks c).map V.int))) r=some (.tup ((nmd ks c).map V.int)):=j5;generalize L2.upd HB r (.tup ((nmd ks c).map V.int))=HC at eC dC;have eAC:=(eA.trans eB).trans eC;exact⟨ob,r,_,_,_,_,rfl,F.hO.mono eAC.tups,gO,dC,jQC g pt pk C,fun H4 e4=>⟨_,rfl,iteF (nx H4 (eAC.trans e4))⟩⟩
theorem jM0 (hr:Room 19 (XLaw P w K mg Aq f lM A Ap s H0 E).A)
  {D:Ends}{H:Hp}{b at' ak ob lE:Addr}{wi:Int}{ms:Ag}{Ar:Ae}{ts ks:Ag}{usE:List V}{v0 v2 v7 v8 v9:Option V}(F:Fx H b at' ak ob lE wi ms Ar ts ks usE) (g:Good 6 9 wi ms Ar) (pt:ts.Perm (upto wi.toNat)) (pk:ks.Perm (upto Ar.length)) (tab:TbS (LL tb1 tb2 tb3 tb4 tb5) H) (q:∀ H',D.rt (.bl true) H'):
  (jSK T CC CP CX CO CN CV CM CB CI CL CW CE hr).1 D [v0,some (.ref b),v2,some (.ref at'),some (.ref ak),some (.ref ob),some (.ref lE),v7,v8,v9] H:=by
 have g32:Good 16 32 wi ms Ar:=g.wide Ac Ac;refine⟨_,rfl,_,rfl,lE,usE,rfl,SqL.of F.hE,fun l hl=>?_⟩;have e1:Ext H (L2.upd H l (.lst (cutV usE none (some 12)))):=(Ext.refl _).new hl _;have d1:(L2.upd H l (.lst (cutV usE none (some 12)))) l=some (.lst (cutV usE none (some 12))):=j5;generalize L2.upd H l (.lst (cutV usE none (some 12)))=H1 at e1 d1;have F1:=F.mono tab (ExS.of e1);have T1:=tab.ext e1;have sub:∀ v∈cutV usE none (some 12),v∈usE:=fun v hv=>cI (bQ hv);refine⟨l,rfl,⟨_,SqL.of d1⟩,jD6 (xs:=cutV usE none (some 12)) (fun i σ H'=>(∃ v7,σ=[v0,some (.ref b),v2,some (.ref at'),some (.ref ak),some (.ref ob),some (.ref lE),v7,v8,v9])/\Ext H1 H') ⟨⟨_,rfl⟩,Ext.refl _⟩ (fun i σ H' _ ⟨_,e⟩=>SqL.of (e _ _ d1)) ?_ ?_⟩
 ·rintro i v σ H' hv ⟨⟨v7,rfl⟩,e⟩;have F':=F1.mono T1 (ExS.of e);obtain⟨j,hj⟩:=bq (sub v (aB hv));obtain⟨c,hc,ca,rfl,hca⟩:=All2.get' F'.uE hj;exact jMY T CC CP CX CO CN CV CM CB CI CL CW CE hr F' g32 pt pk hca ((qD g32).mp (aB hc)) fun H2 e2=>⟨⟨_,rfl⟩,e.trans e2⟩
 ·rintro σ H' ⟨⟨v7,rfl⟩,e⟩;exact jLZ T CC CP CX CO CN CV CM CB CI CL CW CE hr (F1.mono T1 (ExS.of e)) g pt pk (T1.ext e) q
theorem jRD (hr:Room 19 (XLaw P w K mg Aq f lM A Ap s H0 E).A)
  {D:Ends}{H:Hp}{b at' ak ob:Addr}{wi:Int}{ms:Ag}{Ar:Ae}{ts ks:Ag}{v0 v2 v6 v7 v8 v9:Option V}(hB:BoxAt H b wi ms Ar) (hO:BoxAt H ob ((ts.length:Nat):Int) (nmd ts ms) (pick ts Ar ks)) (ht:H at'=some (.tup (ts.map V.int))) (hk:H ak=some (.tup (ks.map V.int))) (g:Good 6 9 wi ms Ar) (pt:ts.Perm (upto wi.toNat)) (pk:ks.Perm (upto Ar.length)) (tab:TbS (LL tb1 tb2 tb3 tb4 tb5) H) (q:∀ H',D.rt (.bl true) H'):
  (midA T CC CP CX CO CN CV CM CB CI CL CW CE hr).1 D [v0,some (.ref b),v2,some (.ref at'),some (.ref ak),some (.ref ob),v6,v7,v8,v9] H:=by
 have g32:Good 16 32 wi ms Ar:=g.wide Ac Ac;have g16:Good 16 16 wi ms Ar:=g.wide Ac Ac;have gO:=jBM g32 pt pk;have w6:=g.w1;have gpl:=g.pl;have same:=(jH6 g32 pt pk).length_eq;rw[af] at same;refine⟨_,rfl,b,wi,ms,Ar,rfl,hB,g16,fun lE usE H1 h1 u1 n1 e1=>?_⟩;have T1:=tab.ext e1;have F1:Fx H1 b at' ak ob lE wi ms Ar ts ks usE:=⟨hB.mono e1.tups,hO.mono e1.tups,e1 _ _ ht,e1 _ _ hk,h1,u1,n1⟩;refine⟨_,rfl,ob,_,_,_,rfl,F1.hO,gO,LL.ww T1,fun H2 e2 t2=>?_⟩;obtain⟨T2,X2⟩:=LL.toW T1 e2 t2;have F2:=F1.mono T1 X2;refine⟨_,rfl,lE,_,rfl, .inl (SqL.of F2.hE),rfl,_,rfl,?_⟩;have le:usE.length=(wk (chs (((ts.length:Nat):Int)).toNat (nmd ts ms) (pick ts Ar ks)) 0).length:=by
  rw[All2.len u1,<- jK1,same]
 rw[le,ax (show natV _=V.int _ from rfl)];refine iteF ?_;refine⟨_,rfl,_,rfl,at',ts,_,rfl,F2.ht,pt,Aa,fun r3 H3 d3 e3=>?_⟩;refine⟨_,rfl,ak,ks,_,rfl,e3 _ _ F2.hk,pk,Aa,fun r4 H4 d4 e4=>?_⟩;have E4:=e3.trans e4;have F4:=F2.mono T2 (ExS.of E4);have T4:=T2.ext E4;refine⟨ob,r3,r4,_,_,_,bkO ts,bkO ks,rfl,F4.hO,gO,e4 _ _ d3,d4,jE9 g32 pt pk,jEA g32 pt pk,LL.pp T4,fun r5 H5 B5 e5 t5=>?_⟩;obtain⟨T5,X5⟩:=LL.toP T4 e5 t5;have F5:=F4.mono T4 X5;obtain⟨a1,a2,a3⟩:=jFC g32 pt pk;rw[a1,a2,a3] at B5;refine⟨_,rfl,_,_,box_T B5,box_T F5.hB,by have:=jVL wi ms Ar; unfold boxT at this; exact bi (Nat.le_of_lt_succ (by show _<_; exact Nat.lt_succ_of_le (Nat.le_of_succ_le this))) Ac,?_⟩;rw[jBF];exact⟨_,rfl,iteF (jM0 T CC CP CX CO CN CV CM CB CI CL CW CE hr F5 g pt pk T5 q)⟩
theorem jWW {fd:FuncData}(F:Fun K "law" "law" sLaw f fd):FnOk P w K mg Aq CX0 20 f fd ["script"] (spLaw K tb1 tb2 tb3 tb4 tb5):=by
 refine F.ok scLaw (fun vs H Q E h=>?_) (fun lM A Ap s H vs Q E hr h=>?_)
 ·obtain⟨_,_,rfl,_⟩:=h;rfl
 ·obtain⟨a,ns,rfl,hS,hlen,o1,o2,o3,o4,o5,n12,n13,n14,n15,n23,n24,n25,n34,n35,n45,k⟩:=h;have tab:TbS (LL tb1 tb2 tb3 tb4 tb5) H:=⟨by unfold ads LL; simp [n12,n13,n14,n15,n23,n24,n25,n34,n35,n45],fun x hx=>by
   simp only [aE,bE,dD] at hx;rcases hx with rfl | rfl | rfl | rfl | rfl
   ·exact o1
   ·exact o2
   ·exact o3
   ·exact o4
   ·exact o5⟩
  refine⟨_,(lawA T CC CP CX CO CN CV CM CB CI CL CW CE hr).2.h,?_⟩;refine⟨_,rfl,a,ns,0,rfl,hS,Ac,fun c=>⟨c,rfl,fun p N hp hN=>?_⟩⟩;have e1:Ext H (L2.upd H p (.lst [.int N])):=(Ext.refl _).new hp _;have d1:(L2.upd H p (.lst [.int N])) p=some (.lst [.int N]):=j5;generalize L2.upd H p (.lst [.int N])=H1 at e1 d1;refine⟨p,N,6,9,rfl,d1,hN,Ac,Ac,Ac,Ac,fun b N2 wi ms Ar H2 hN2 d2 hB g kp=>?_⟩;have e2:Ext H H2:=fun c o h=>kp _ _ (e1 _ _ h) (jA h hp);have w0:=g.w0;have w6:=g.w1;have gpl:=g.pl;have hS2:SqL K H2 a (ns.map V.int):=TbS.sq tab (ExS.of e2) hS;refine⟨_,rfl,a,ns,1,rfl,hS2,Ac,fun c=>⟨c,rfl,fun p3 N3 hp3 hN3=>?_⟩⟩;have e3:Ext H2 (L2.upd H2 p3 (.lst [.int N3])):=(Ext.refl _).new hp3 _;have d3:(L2.upd H2 p3 (.lst [.int N3])) p3=some (.lst [.int N3]):=j5;generalize L2.upd H2 p3 (.lst [.int N3])=H3 at e3 d3;obtain⟨qm,qp,ps,b1,b2,b3,b4⟩:=id hB.ex;have pl:=b4.len;refine⟨_,rfl,_,rfl,b,_,0,_,rfl,rfl,SqT.of (e3 _ _ b1),rfl,p3,N3,wi,rfl,d3,hN3,w0,Aa,fun r4 ts N4 H4 h4 pt q4 hN4 k4=>?_⟩;have K4:Tups H3 H4:=k4.tups d3;refine⟨_,rfl,_,rfl,b,_,2,_,rfl,rfl,SqT.of (K4 _ _ (e3 _ _ b1)),rfl,qp,_,rfl, .inr (SqT.of (K4 _ _ (e3 _ _ b3))),p3,N4,_,rfl,q4,hN4,Aa,Aa,fun r5 ks N5 H5 h5 pk q5 hN5 k5=>?_⟩;have K5:Tups H4 H5:=k5.tups q4;have E5:Ext H2 H5:=fun c o h=>k5 _ _ (k4 _ _ (e3 _ _ h) (jA h hp3)) (jA h hp3);rw[show (ps.length:Int).toNat=Ar.length by lia] at pk;have T5:=tab.ext (e2.trans E5);have B5:=hB.mono E5.tups;have g32:Good 16 32 wi ms Ar:=g.wide Ac Ac;refine⟨_,rfl,_,rfl,_,rfl,b,r4,r5,wi,ms,Ar,ts,ks,rfl,B5,g32,K5 _ _ h4,h5,pt,pk,LL.pp T5,fun ob H6 O6 e6 t6=>?_⟩;obtain⟨T6,X6⟩:=LL.toP T5 e6 t6;have tu:=T5.tups X6;exact jRD T CC CP CX CO CN CV CM CB CI CL CW CE hr (B5.mono tu) O6 (tu _ _ (K5 _ _ h4)) (tu _ _ h5) g pt pk T6 k
end
theorem lenU1 {P:Al->Prop} :∀ {us:Al},us.length=1->(∀ a,P [a])->P us
 | [a],_,h=>h a
theorem lenU2 {P:Al->Prop} :∀ {us:Al},us.length=2->(∀ a b,P [a,b])->P us
 | [a,b],_,h=>h a b
theorem lenU3 {P:Al->Prop} :∀ {us:Al},us.length=3->(∀ a b c,P [a,b,c])->P us
 | [a,b,c],_,h=>h a b c
abbrev zN (K:W.Frag)(x:Str):=PySem.W.nsIn K mainGlobals x
abbrev zr (f:Addr):Option (Ao):=some (some (.ref f))
abbrev zl (x:Str)(st:Stmt)(oc:Value)(od:Option Addr)(kV dc pm:Value)(an:Option Addr)(cd ct:Value)(sl:Array (Ao)):Option Obj:=some ⟨oc,od, .func (PySem.W.fnOf x x (y0 st) (jD st) (j7 st) .none kV dc pm an cd ct),sl⟩
abbrev zc:=PySem.W.codeIn
abbrev zk (K:W.Frag)(f:Addr):=keepIn K (.ref f)
theorem zb1 {K:W.Frag}{x q p1:Str}{st:Stmt}{f:Addr}{fd:FuncData}(F:Fun K x q st f fd)(h:∀ (kV doc pm:Value) (an:Option Addr) (lM ct u1:Value),bindArgs (PySem.W.fnOf x q (y0 st) (jD st) (j7 st) .none kV doc pm an lM ct) ⟨[u1],[]⟩=pure [(p1,u1)]:=by intros; rfl):Binds K fd [p1] []:=F.binds fun kV doc pm an lM ct us hl=>lenU1 (P:=fun us=>bindArgs _ ⟨us,[]⟩=pure (List.zip _ us)) hl fun u1=>h kV doc pm an lM ct u1
theorem zb2 {K:W.Frag}{x q p1 p2:Str}{st:Stmt}{f:Addr}{fd:FuncData}(F:Fun K x q st f fd)(h:∀ (kV doc pm:Value) (an:Option Addr) (lM ct u1 u2:Value),bindArgs (PySem.W.fnOf x q (y0 st) (jD st) (j7 st) .none kV doc pm an lM ct) ⟨[u1,u2],[]⟩=pure [(p1,u1),(p2,u2)]:=by intros; rfl):Binds K fd [p1,p2] []:=F.binds fun kV doc pm an lM ct us hl=>lenU2 (P:=fun us=>bindArgs _ ⟨us,[]⟩=pure (List.zip _ us)) hl fun u1 u2=>h kV doc pm an lM ct u1 u2
theorem zb3 {K:W.Frag}{x q p1 p2 p3:Str}{st:Stmt}{f:Addr}{fd:FuncData}(F:Fun K x q st f fd)(h:∀ (kV doc pm:Value) (an:Option Addr) (lM ct u1 u2 u3:Value),bindArgs (PySem.W.fnOf x q (y0 st) (jD st) (j7 st) .none kV doc pm an lM ct) ⟨[u1,u2,u3],[]⟩=pure [(p1,u1),(p2,u2),(p3,u3)]:=by intros; rfl):Binds K fd [p1,p2,p3] []:=F.binds fun kV doc pm an lM ct us hl=>lenU3 (P:=fun us=>bindArgs _ ⟨us,[]⟩=pure (List.zip _ us)) hl fun u1 u2 u3=>h kV doc pm an lM ct u1 u2 u3
set_option autoImplicit true
set_option relaxedAutoImplicit true
set_option maxHeartbeats 8000000 in
theorem all_mk {l:PySem.W.OpenLaw}{w:World}{K:W.Frag}{h:Heap}{mg:Ak}{fa f1 f2 f3 f4 f5 f6 f7 f8 f9 f10 f11 f12 f13 f14 f15 f16 f17 f18 f19 f20 f21 f22 f23 f24 f25 f26 f27 f28 f29 f30 f31 f32 f33 f34:Addr}(X:K.In h)(G:h.Ns mainGlobals mg)(hfa:mg "law" =some (.ref fa))
  {u1:Tok}
  (a1:zN K "is_whole" =zr f1) (l1:K.lookup f1=zl "is_whole" jCD oc1 od1 kV1 dc1 pm1 an1 cd1 ct1 sl1) (c1:zc K cd1 "is_whole" =true) (k1:zk K f1=true)
  (a2:zN K "is_rising" =zr f2) (l2:K.lookup f2=zl "is_rising" jAK oc2 od2 kV2 dc2 pm2 an2 cd2 ct2 sl2) (c2:zc K cd2 "is_rising" =true) (k2:zk K f2=true)
  (a3:zN K "is_lot" =zr f3) (l3:K.lookup f3=zl "is_lot" jDT oc3 od3 kV3 dc3 pm3 an3 cd3 ct3 sl3) (c3:zc K cd3 "is_lot" =true) (k3:zk K f3=true)
  (a4:zN K "mask_of" =zr f4) (l4:K.lookup f4=zl "mask_of" sMask oc4 od4 kV4 dc4 pm4 an4 cd4 ct4 sl4) (c4:zc K cd4 "mask_of" =true) (k4:zk K f4=true)
  (a5:zN K "lot_of" =zr f5) (l5:K.lookup f5=zl "lot_of" jDS oc5 od5 kV5 dc5 pm5 an5 cd5 ct5 sl5) (c5:zc K cd5 "lot_of" =true) (k5:zk K f5=true)
  (a6:zN K "picked" =zr f6) (l6:K.lookup f6=zl "picked" y4 oc6 od6 kV6 dc6 pm6 an6 cd6 ct6 sl6) (c6:zc K cd6 "picked" =true) (k6:zk K f6=true)
  (a7:zN K "is_order" =zr f7) (l7:K.lookup f7=zl "is_order" jAD oc7 od7 kV7 dc7 pm7 an7 cd7 ct7 sl7) (c7:zc K cd7 "is_order" =true) (k7:zk K f7=true)
  (a8:zN K "named_anew" =zr f8) (l8:K.lookup f8=zl "named_anew" sAnew oc8 od8 kV8 dc8 pm8 an8 cd8 ct8 sl8) (c8:zc K cd8 "named_anew" =true) (k8:zk K f8=true)
  (a9:zN K "is_covering" =zr f9) (l9:K.lookup f9=zl "is_covering" sCov oc9 od9 kV9 dc9 pm9 an9 cd9 ct9 sl9) (c9:zc K cd9 "is_covering" =true) (k9:zk K f9=true)
  (a10:zN K "choices_of" =zr f10) (l10:K.lookup f10=zl "choices_of" yJ oc10 od10 kV10 dc10 pm10 an10 cd10 ct10 sl10) (c10:zc K cd10 "choices_of" =true) (k10:zk K f10=true)
  (a11:zN K "full_mask" =zr f11) (l11:K.lookup f11=zl "full_mask" sFull oc11 od11 kV11 dc11 pm11 an11 cd11 ct11 sl11) (c11:zc K cd11 "full_mask" =true) (k11:zk K f11=true)
  (a12:zN K "choices_at" =zr f12) (l12:K.lookup f12=zl "choices_at" sAt oc12 od12 kV12 dc12 pm12 an12 cd12 ct12 sl12) (c12:zc K cd12 "choices_at" =true) (k12:zk K f12=true)
  (a13:zN K "masks_met" =zr f13) (l13:K.lookup f13=zl "masks_met" sMet oc13 od13 kV13 dc13 pm13 an13 cd13 ct13 sl13) (c13:zc K cd13 "masks_met" =true) (k13:zk K f13=true)
  (a14:zN K "gathered" =zr f14) (l14:K.lookup f14=zl "gathered" qX oc14 od14 kV14 dc14 pm14 an14 cd14 ct14 sl14) (c14:zc K cd14 "gathered" =true) (k14:zk K f14=true)
  (a15:zN K "ways_of" =zr f15) (l15:K.lookup f15=zl "ways_of" qT oc15 od15 kV15 dc15 pm15 an15 cd15 ct15 sl15) (c15:zc K cd15 "ways_of" =true) (k15:zk K f15=true)
  (a16:zN K "many" =zr f16) (l16:K.lookup f16=zl "many" sMany oc16 od16 kV16 dc16 pm16 an16 cd16 ct16 sl16) (c16:zc K cd16 "many" =true) (k16:zk K f16=true)
  (a17:zN K "have_common" =zr f17) (l17:K.lookup f17=zl "have_common" jBC oc17 od17 kV17 dc17 pm17 an17 cd17 ct17 sl17) (c17:zc K cd17 "have_common" =true) (k17:zk K f17=true)
  (a18:zN K "narrowed" =zr f18) (l18:K.lookup f18=zl "narrowed" jAX oc18 od18 kV18 dc18 pm18 an18 cd18 ct18 sl18) (c18:zc K cd18 "narrowed" =true) (k18:zk K f18=true)
  (a19:zN K "is_bar" =zr f19) (l19:K.lookup f19=zl "is_bar" sBar oc19 od19 kV19 dc19 pm19 an19 cd19 ct19 sl19) (c19:zc K cd19 "is_bar" =true) (k19:zk K f19=true)
  (a20:zN K "is_within" =zr f20) (l20:K.lookup f20=zl "is_within" jB9 oc20 od20 kV20 dc20 pm20 an20 cd20 ct20 sl20) (c20:zc K cd20 "is_within" =true) (k20:zk K f20=true)
  (a21:zN K "least_lots" =zr f21) (l21:K.lookup f21=zl "least_lots" yY oc21 od21 kV21 dc21 pm21 an21 cd21 ct21 sl21) (c21:zc K cd21 "least_lots" =true) (k21:zk K f21=true)
  (a22:zN K "least_bars" =zr f22) (l22:K.lookup f22=zl "least_bars" yL oc22 od22 kV22 dc22 pm22 an22 cd22 ct22 sl22) (c22:zc K cd22 "least_bars" =true) (k22:zk K f22=true)
  (a23:zN K "lightest" =zr f23) (l23:K.lookup f23=zl "lightest" yX oc23 od23 kV23 dc23 pm23 an23 cd23 ct23 sl23) (c23:zc K cd23 "lightest" =true) (k23:zk K f23=true)
  (a24:zN K "_law_cell_at" =zr f24) (l24:K.lookup f24=zl "_law_cell_at" sCell oc24 od24 kV24 dc24 pm24 an24 cd24 ct24 sl24) (c24:zc K cd24 "_law_cell_at" =true) (k24:zk K f24=true)
  (a25:zN K "_law_pot" =zr f25) (l25:K.lookup f25=zl "_law_pot" sPot oc25 od25 kV25 dc25 pm25 an25 cd25 ct25 sl25) (c25:zc K cd25 "_law_pot" =true) (k25:zk K f25=true)
  (a26:zN K "_law_take" =zr f26) (l26:K.lookup f26=zl "_law_take" sTake oc26 od26 kV26 dc26 pm26 an26 cd26 ct26 sl26) (c26:zc K cd26 "_law_take" =true) (k26:zk K f26=true)
  (a27:zN K "_law_lot" =zr f27) (l27:K.lookup f27=zl "_law_lot" sLot oc27 od27 kV27 dc27 pm27 an27 cd27 ct27 sl27) (c27:zc K cd27 "_law_lot" =true) (k27:zk K f27=true)
  (a28:zN K "_law_box" =zr f28) (l28:K.lookup f28=zl "_law_box" sBox oc28 od28 kV28 dc28 pm28 an28 cd28 ct28 sl28) (c28:zc K cd28 "_law_box" =true) (k28:zk K f28=true)
  (a29:zN K "_law_from" =zr f29) (l29:K.lookup f29=zl "_law_from" qY oc29 od29 kV29 dc29 pm29 an29 cd29 ct29 sl29) (c29:zc K cd29 "_law_from" =true) (k29:zk K f29=true)
  (a30:zN K "_law_coverings" =zr f30) (l30:K.lookup f30=zl "_law_coverings" sCovs oc30 od30 kV30 dc30 pm30 an30 cd30 ct30 sl30) (c30:zc K cd30 "_law_coverings" =true) (k30:zk K f30=true)
  (a31:zN K "_law_weight" =zr f31) (l31:K.lookup f31=zl "_law_weight" jBA oc31 od31 kV31 dc31 pm31 an31 cd31 ct31 sl31) (c31:zc K cd31 "_law_weight" =true) (k31:zk K f31=true)
  (a32:zN K "_law_order" =zr f32) (l32:K.lookup f32=zl "_law_order" jBB oc32 od32 kV32 dc32 pm32 an32 cd32 ct32 sl32) (c32:zc K cd32 "_law_order" =true) (k32:zk K f32=true)
  (a33:zN K "_law_back" =zr f33) (l33:K.lookup f33=zl "_law_back" jDR oc33 od33 kV33 dc33 pm33 an33 cd33 ct33 sl33) (c33:zc K cd33 "_law_back" =true) (k33:zk K f33=true)
  (a34:zN K "law" =zr f34) (l34:K.lookup f34=zl "law" sLaw oc34 od34 kV34 dc34 pm34 an34 cd34 ct34 sl34) (c34:zc K cd34 "law" =true) (k34:zk K f34=true)
  (g1:zN K "MOST_THINGS_WITH_BARS" =some (some (.int 9 u1))) (z1:zN K "len" =some none) (z2:zN K "range" =some none) (z3:zN K "tuple" =some none) (z4:zN K "sorted" =some none) (z5:zN K "set" =some none) (z6:zN K "list" =some none) (z7:zN K "int" =some none) (z8:zN K "isinstance" =some none) (z9:zN K "bool" =some none) (z10:zN K "str" =some none) (z11:zN K "all" =some none) (z12:zN K "zip" =some none) (z13:zN K "max" =some none) (z14:zN K "min" =some none) (z15:zN K "any" =some none) (z16:zN K "abs" =some none) (z17:zN K "sum" =some none) (z18:zN K "enumerate" =some none) (z19:zN K "dict" =some none) {tb1 cc1:Addr}(cde1:cd6= .ref cc1) (hcd1:codeHdIn K cc1 tb1=true) {tb2 cc2:Addr}(cde2:cd15= .ref cc2) (hcd2:codeHdIn K cc2 tb2=true) {tb3 cc3:Addr}(cde3:cd21= .ref cc3) (hcd3:codeHdIn K cc3 tb3=true) {tb4 cc4:Addr}(cde4:cd22= .ref cc4) (hcd4:codeHdIn K cc4 tb4=true) {tb5 cc5:Addr}(cde5:cd23= .ref cc5) (hcd5:codeHdIn K cc5 tb5=true) {bmA:Addr}(xb1:zN K "__builtins__" =zr bmA) (xb2:K.lookup bmA=some ⟨.type "module",some builtinsNs, .plain,#[]⟩) (xb3:bmA≠builtinsNs) (xb4:bmA≠mainGlobals):
  ∃ fd:FuncData,(∀ (s:Shared) (v:Value),BindsTo s fd ⟨[v],[]⟩ [("script",v)])/\∀ Aq:Heap,K.In Aq->Aq.Ns mainGlobals mg->FnOk l.prog w K mg Aq CX0 20 fa fd ["script"] (spLaw K tb1 tb2 tb3 tb4 tb5):=by
 have e:=hfa.symm.trans (g7 X G a34);cases e;have T:Txt mg:=⟨bv X G z1,bv X G z2,bv X G z3,bv X G z4,bv X G z5,bv X G z6,bv X G z7,bv X G z8,bv X G z9,bv X G z10,bv X G z11,bv X G z12,bv X G z13,bv X G z14,bv X G z15,bv X G z16,bv X G z17,bv X G z18,bv X G z19⟩;have F1:=jZ (st:=jCD) l1 c1 k1;have F2:=jZ (st:=jAK) l2 c2 k2;have F3:=jZ (st:=jDT) l3 c3 k3;have F4:=jZ (st:=sMask) l4 c4 k4;have F5:=jZ (st:=jDS) l5 c5 k5;have F6:=jZ (st:=y4) l6 c6 k6;have b6:Binds K _ ["box","things","pieces"] []:=zb3 F6;have F7:=jZ (st:=jAD) l7 c7 k7;have F8:=jZ (st:=sAnew) l8 c8 k8;have F9:=jZ (st:=sCov) l9 c9 k9;have F10:=jZ (st:=yJ) l10 c10 k10;have F11:=jZ (st:=sFull) l11 c11 k11;have F12:=jZ (st:=sAt) l12 c12 k12;have F13:=jZ (st:=sMet) l13 c13 k13;have F14:=jZ (st:=qX) l14 c14 k14;have F15:=jZ (st:=qT) l15 c15 k15;have b15:Binds K _ ["choices"] []:=zb1 F15;have F16:=jZ (st:=sMany) l16 c16 k16;have F17:=jZ (st:=jBC) l17 c17 k17;have F18:=jZ (st:=jAX) l18 c18 k18;have F19:=jZ (st:=sBar) l19 c19 k19;have F20:=jZ (st:=jB9) l20 c20 k20;have F21:=jZ (st:=yY) l21 c21 k21;have b21:Binds K _ ["things","holds"] []:=zb2 F21;have F22:=jZ (st:=yL) l22 c22 k22;have b22:Binds K _ ["box"] []:=zb1 F22;have F23:=jZ (st:=yX) l23 c23 k23;have b23:Binds K _ ["box"] []:=zb1 F23;have F24:=jZ (st:=sCell) l24 c24 k24;have F25:=jZ (st:=sPot) l25 c25 k25;have F26:=jZ (st:=sTake) l26 c26 k26;have F27:=jZ (st:=sLot) l27 c27 k27;have F28:=jZ (st:=sBox) l28 c28 k28;have F29:=jZ (st:=qY) l29 c29 k29;have F30:=jZ (st:=sCovs) l30 c30 k30;have F31:=jZ (st:=jBA) l31 c31 k31;have F32:=jZ (st:=jBB) l32 c32 k32;have F33:=jZ (st:=jDR) l33 c33 k33;have F34:=jZ (st:=sLaw) l34 c34 k34;refine⟨PySem.W.fnOf "law" "law" (y0 sLaw) (jD sLaw) (j7 sLaw) .none kV34 dc34 pm34 an34 cd34 ct34,fun s v=> .of_eq rfl,fun Aq KB _=>?_⟩;have M:=fun {x:Str}{f:Addr}(a:PySem.W.nsIn K mainGlobals x=some (some (.ref f)))=>g7 X G a;have M':=fun {x:Str}{v:Value}(a:PySem.W.nsIn K mainGlobals x=some (some v))=>g7 X G a;have CD1:PySem.W.CodeHd Aq cc1 tb1:=dO KB hcd1;have FC1:FunC K "picked" "picked" y4 f6 _ cc1:=⟨_,_,_,_,_,_,_,_,rfl,cde1 ▸ l6,cde1 ▸ c6⟩;have CD2:PySem.W.CodeHd Aq cc2 tb2:=dO KB hcd2;have FC2:FunC K "ways_of" "ways_of" qT f15 _ cc2:=⟨_,_,_,_,_,_,_,_,rfl,cde2 ▸ l15,cde2 ▸ c15⟩;have CD3:PySem.W.CodeHd Aq cc3 tb3:=dO KB hcd3;have FC3:FunC K "least_lots" "least_lots" yY f21 _ cc3:=⟨_,_,_,_,_,_,_,_,rfl,cde3 ▸ l21,cde3 ▸ c21⟩;have CD4:PySem.W.CodeHd Aq cc4 tb4:=dO KB hcd4;have FC4:FunC K "least_bars" "least_bars" yL f22 _ cc4:=⟨_,_,_,_,_,_,_,_,rfl,cde4 ▸ l22,cde4 ▸ c22⟩;have CD5:PySem.W.CodeHd Aq cc5 tb5:=dO KB hcd5;have FC5:FunC K "lightest" "lightest" yX f23 _ cc5:=⟨_,_,_,_,_,_,_,_,rfl,cde5 ▸ l23,cde5 ▸ c23⟩;have BM:qR Aq mg:=⟨bmA,_,g7 X G xb1,xb3,xb4,KB _ _ xb2,rfl,rfl,rfl⟩;have C1:Can l.prog w K mg Aq "is_whole" 1 f1 _ ["thing"] spWh:=⟨jNY F1 T,M a1,k1,(zb1 F1)⟩;have C2:Can l.prog w K mg Aq "is_rising" 2 f2 _ ["thing"] (spB risB):=⟨jO0 F2 T C1,M a2,k2,(zb1 F2)⟩;have C3:Can l.prog w K mg Aq "is_lot" 3 f3 _ ["thing","many"] (spB2 lotB):=⟨jRA F3 T C2,M a3,k3,(zb2 F3)⟩;have C4:Can l.prog w K mg Aq "mask_of" 1 f4 _ ["lot"] jHF:=⟨jUN F4 T,M a4,k4,(zb1 F4)⟩;have C5:Can l.prog w K mg Aq "lot_of" 1 f5 _ ["mask"] jG8:=⟨jR6 F5 T,M a5,k5,(zb1 F5)⟩;have C6:Can l.prog w K mg Aq "picked" 2 f6 _ ["box","things","pieces"] (jBT tb1):=⟨jO1 FC1 T CD1 BM,M a6,k6,b6⟩;have C7:Can l.prog w K mg Aq "is_order" 2 f7 _ ["thing","many"] spOrd:=⟨jM8 F7 T C1,M a7,k7,(zb2 F7)⟩;have C8:Can l.prog w K mg Aq "named_anew" 3 f8 _ ["box","things","pieces"] (jCS tb1):=⟨jUV F8 T C7 C6,M a8,k8,(zb3 F8)⟩;have C9:Can l.prog w K mg Aq "is_covering" 4 f9 _ ["box","thing"] jCQ:=⟨jUS F9 T C3,M a9,k9,(zb2 F9)⟩;have C10:Can l.prog w K mg Aq "choices_of" 2 f10 _ ["box"] jAP:=⟨jM9 F10 T C4,M a10,k10,(zb1 F10)⟩;have C11:Can l.prog w K mg Aq "full_mask" 1 f11 _ ["choices"] jFM:=⟨jUQ F11 T,M a11,k11,(zb1 F11)⟩;have C12:Can l.prog w K mg Aq "choices_at" 1 f12 _ ["choices","mask"] spAt:=⟨ok_at F12 T,M a12,k12,(zb2 F12)⟩;have C13:Can l.prog w K mg Aq "masks_met" 2 f13 _ ["choices"] spMet:=⟨jWU F13 T C11 C12,M a13,k13,(zb1 F13)⟩;have C14:Can l.prog w K mg Aq "gathered" 4 f14 _ ["choices","at_end","join"] jJ5:=⟨FnOk.ex fun x o=>(jO3 F14 T C11 C13 C12 ((jWX o T).mono Ac) ZT.st (zhW.ok _ _) (RWay.ok _) o).ok,M a14,k14,(zb3 F14)⟩;have C15:Can l.prog w K mg Aq "ways_of" 5 f15 _ ["choices"] (jKG tb2):=⟨jUL FC2 T CD2 BM C14,M a15,k15,b15⟩;have C16:Can l.prog w K mg Aq "many" 6 f16 _ ["box"] (qK tb2):=⟨jUO F16 T C10 C15,M a16,k16,(zb1 F16)⟩;have C17:Can l.prog w K mg Aq "have_common" 1 f17 _ ["one","other"] jE0:=⟨jO5 F17 T,M a17,k17,(zb2 F17)⟩;have C18:Can l.prog w K mg Aq "narrowed" 4 f18 _ ["box","lot"] (jDZ tb1):=⟨jO2 F18 T C3 C6 C17,M a18,k18,(zb2 F18)⟩;have C19:Can l.prog w K mg Aq "is_bar" 7 f19 _ ["box","lot"] (spBar tb1 tb2):=⟨jX0 F19 C18 C16,M a19,k19,(zb2 F19)⟩;have C20:Can l.prog w K mg Aq "is_within" 1 f20 _ ["lot","other"] jBS:=⟨jNX F20 T,M a20,k20,(zb2 F20)⟩;have C21:Can l.prog w K mg Aq "least_lots" 9 f21 _ ["things","holds"] (fun _ _ _ _=>False):=⟨FnOk.never,M a21,k21,b21⟩;have C22:Can l.prog w K mg Aq "least_bars" 10 f22 _ ["box"] (jAW tb1 tb2 tb3 tb4):=⟨jR9 FC4 T CD4 BM (M' g1) (fun cl i=>jR8 FC3 T CD3 BM C5 C20 (jUU C19 cl i) (ZC.st _ _ _) (HIb.ok tb1 tb2 cl i) fun H h=>h.1) (M a21) k21 b21,M a22,k22,b22⟩;have C23:Can l.prog w K mg Aq "lightest" 5 f23 _ ["box"] (jAV tb5):=⟨jR7 FC5 T CD5 BM C10 (fun cl i=>jO3 F14 T C11 C13 C12 ((jJE T cl i).mono Ac) (ZC.st _ _ _) (zhL.ok cl i) (RLt.ok _ _) (qH i.g)) (M a14) k14 (zb3 F14),M a23,k23,b23⟩;have C24:Can l.prog w K mg Aq "_law_cell_at" 1 f24 _ ["script","k"] (jCR K):=⟨jUT F24 T,M a24,k24,(zb2 F24)⟩;have C25:Can l.prog w K mg Aq "_law_pot" 1 f25 _ ["cell"] spPot:=⟨jWT F25 T,M a25,k25,(zb1 F25)⟩;have C26:Can l.prog w K mg Aq "_law_take" 1 f26 _ ["pot","wide"] yS:=⟨jUM F26,M a26,k26,(zb2 F26)⟩;have C27:Can l.prog w K mg Aq "_law_lot" 2 f27 _ ["pot","wide"] qS:=⟨jWV F27 T C26,M a27,k27,(zb2 F27)⟩;have C28:Can l.prog w K mg Aq "_law_box" 3 f28 _ ["pot","most_things","most_pieces"] spBox:=⟨jWZ F28 T C26 C27,M a28,k28,(zb3 F28)⟩;have C29:Can l.prog w K mg Aq "_law_from" 18 f29 _ ["box","thing","held"] (jFN 16):=⟨jO4 F29 T (M a29) k29 (zb3 F29) 16,M a29,k29,(zb3 F29)⟩;have C30:Can l.prog w K mg Aq "_law_coverings" 19 f30 _ ["box"] jCP:=⟨jUR F30 T C29,M a30,k30,(zb1 F30)⟩;have C31:Can l.prog w K mg Aq "_law_weight" 1 f31 _ ["box","covering"] jAB:=⟨jNZ F31 T,M a31,k31,(zb2 F31)⟩;have C32:Can l.prog w K mg Aq "_law_order" 2 f32 _ ["pot","wide"] jAC:=⟨jNW F32 T C26,M a32,k32,(zb2 F32)⟩;have C33:Can l.prog w K mg Aq "_law_back" 1 f33 _ ["order"] jAU:=⟨jR4 F33 T,M a33,k33,(zb1 F33)⟩;exact jWW T C24 C25 C28 C32 C8 C30 C16 C33 C9 C23 C31 C22 F34
theorem walk {l:PySem.W.OpenLaw}{q:Program}{loose:Am}{XP:(Ak)->Heap->Prop}{YP:World->Heap->Prop}{d:DefRec}{K:Params->W.Frag}(hn:l.most=some 63)(hdf:d.params.defaults=[]){tb1 tb2 tb3 tb4 tb5:Addr}{cc1 cc2 cc3 cc4 cc5:Addr}
  (hY:∀ (w:World) (h:Heap),YP w h->(K w.params).In h/\∀ T∈[tb1,tb2,tb3,tb4,tb5],h.get? T=some (tabObj #[])) (hcd:∀ w:World,codeHdIn (K w.params) cc1 tb1=true/\codeHdIn (K w.params) cc2 tb2=true/\codeHdIn (K w.params) cc3 tb3=true/\codeHdIn (K w.params) cc4 tb4=true/\codeHdIn (K w.params) cc5 tb5=true) (hKT:∀ w:World,∀ T∈[tb1,tb2,tb3,tb4,tb5],(K w.params).lookup T=none) (hnd:([tb1,tb2,tb3,tb4,tb5]:List Addr).Nodup)
  (F:∀ (w:World) (mg:Ak) (fa:Addr) (h:Heap),(K w.params).In h->h.Ns mainGlobals mg->mg d.name=some (.ref fa)->
   ∃ fd:FuncData,(∀ (s:Shared) (u:Value),BindsTo s fd ⟨[u],[]⟩ [("script",u)])/\∀ Aq:Heap,(K w.params).In Aq->Aq.Ns mainGlobals mg->FnOk l.prog w (K w.params) mg Aq CX0 20 fa fd ["script"] (spLaw (K w.params) tb1 tb2 tb3 tb4 tb5)):
  PySem.W.WalkO q loose XP YP l.row.toRowW d [] (fun f vs=>PySem.call f vs):=
 L2.walk_ofTs (cts:=[(cc1,tb1),(cc2,tb2),(cc3,tb3),(cc4,tb4),(cc5,tb5)]) (n:=63) (k:=20) (x:= "script") (CX:=fun _=>CX0) (sp:=fun w=>spLaw (K w.params) tb1 tb2 tb3 tb4 tb5) hn Ac hdf ⟨rfl,Ac,Ac⟩ hY (fun w p hp=>by
  obtain⟨_h0,_h1,_h2,_h3,_h4⟩:=hcd w;simp only [aE,bE,dD] at hp;rcases hp with rfl | rfl | rfl | rfl | rfl <;> assumption) hKT F (fun _ H a ns hl hT hS=>⟨a,ns,rfl,hS,hl, .inl (hT _ ai), .inl (hT _ (ag _ ai)), .inl (hT _ (ag _ (ag _ ai))), .inl (hT _ (ag _ (ag _ (ag _ ai)))), .inl (hT _ (ag _ (ag _ (ag _ (ag _ ai))))),(by rintro rfl; simp at hnd),(by rintro rfl; simp at hnd),(by rintro rfl; simp at hnd),(by rintro rfl; simp at hnd),(by rintro rfl; simp at hnd),(by rintro rfl; simp at hnd),(by rintro rfl; simp at hnd),(by rintro rfl; simp at hnd),(by rintro rfl; simp at hnd),(by rintro rfl; simp at hnd),fun _=>rfl⟩) fun _ _ _ _ _ z=>z
end Eo
open PySem PySem.W PyProof.Rows
set_option maxRecDepth 100000 in
set_option maxHeartbeats 0 in
theorem PySem.Challenge.cw_eachonce_k84_whole_named_anew_holds : PySem.Challenge.rw_eachonce_k84_whole_named_anew.Holds := by
 w_on
 refine holds_law Ab fun said=>?_;refine holds_open (q:=Eo.vw) (loose:=[]) (Xt:=fun s=>xlAt Eo.vw [] s&&recOk (RowW.records (OpenRow.toRowW PySem.Challenge.rw_eachonce_k84_whole_named_anew.row)) s) (XP:=XL Eo.vw []) (Yf:=Hook.obs Eo.kH) (Ya:=Hook.val Eo.kH) (YP:=Hook.says Eo.kH) (N:=4500) Eo.left (Hook.of Eo.kH) (Hook.keeps Eo.kH) (fun s e=>xl_of s (hV.mp e).1) XL.keeps (by rfl) (by rfl) (by rfl) (fun s e=>recFacts_of (hV.mp e).2) rfl said Ab ⟨rfl,rfl,rfl,rfl,rfl,Ab⟩ ?hw ?hc
 case hw=>w_witness2
 refine Eo.walk (l:=PySem.Challenge.rw_eachonce_k84_whole_named_anew) (K:=Eo.kK) rfl rfl (tb1:=45) (cc1:=47) (tb2:=145) (cc2:=149) (tb3:=181) (cc3:=183) (tb4:=186) (cc4:=190) (tb5:=193) (cc5:=197) (fun w h Y=>⟨PySem.W.km_in_of Y,PySem.W.km_tabs_of Y⟩) (fun w=>⟨by kernel_rfl,by kernel_rfl,by kernel_rfl,by kernel_rfl,by kernel_rfl⟩) (fun w T hm=>by
   simp only [aE,bE,dD] at hm;rcases hm with rfl | rfl | rfl | rfl | rfl <;> kernel_rfl) Ac ?F
 case F=>
  intro w mg fa h KX G hmg
  k_fill
  refine' Eo.all_mk KX G hmg _ _ _ _ _ _ _ _ _ _ _ _ _ _ _ _ _ _ _ _ _ _ _ _ _ _ _ _ _ _ _ _ _ _ _ _ _ _ _ _ _ _ _ _ _ _ _ _ _ _ _ _ _ _ _ _ _ _ _ _ _ _ _ _ _ _ _ _ _ _ _ _ _ _ _ _ _ _ _ _ _ _ _ _ _ _ _ _ _ _ _ _ _ _ _ _ _ _ _ _ _ _ _ _ _ _ _ _ _ _ _ _ _ _ _ _ _ _ _ _ _ _ _ _ _ _ _ _ _ _ _ _ _ _ _ _ _ _ _ _ _ _ _ _ _ _ _ _ _ _ _ _ _ _ _ _ (tb1:=45) rfl (by kernel_rfl) (tb2:=145) rfl (by kernel_rfl) (tb3:=181) rfl (by kernel_rfl) (tb4:=186) rfl (by kernel_rfl) (tb5:=193) rfl (by kernel_rfl) (bmA:=4) (by kernel_rfl) (by kernel_rfl) Ac Ac
  all_goals ((try delta Eo.zN); (try delta Eo.zr); (try delta Eo.zl); (try delta Eo.zc); (try delta Eo.zk); try k_is)
end
