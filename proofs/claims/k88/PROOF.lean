import PyProof.Rows.All
import Wide.All
import OpenK.AllK
import Wide.FinOn
import PyProof.EqAt
import PyProof.EqKinds
import PyProof.TupleCall
import Lean
import PySem.SetOps
import PyProof.SetKind
import PyProof.DictKinds
import PyProof.CompMap
import PyProof.WalksS
import PyProof.Walks
import PyProof.CollectWalk
import PyProof.FactsAll.set_1
import PyProof.SetNew
import PyProof.Rows.SetFrom
import PyProof.ZipIter
import PyProof.Rows.SortShell
import PyProof.Rows.SortWalk
import PyProof.NeKinds
import PyProof.SumWalkG
import PyProof.RangeIter
import PyProof.StationsW
import PyProof.ExcClass3
import PyProof.ExcBaseAll.ValueError
import PyProof.ExcAttrAll.ValueError
import PyProof.Rows.CatchOwn
import KE.KIsAll
import KE.KNestM
import PyProof.EnumMake
import KE.KDictOf
import PyProof.AttrMiss
import PyProof.IsiH_list
import PyProof.FactsAll.tuple_3
import PyProof.TupleOfStr
import PyProof.ListRange
import PyProof.NsDelKeeps
import PyProof.SeqI3
import KE.KLam
import PyProof.Rows.SortRuns
import PyProof.Rows.SortRev
import PyProof.Rows.RuleM_int
import KE.KSortTup
import PySem.Challenge.RW_eachonce_k88_whole_one_to_one
set_option Elab.async false
set_option linter.all false
set_option maxRecDepth 100000
theorem Aa {p:Prop}(h:p:=by lia):p:=h
theorem Ab {p:Prop}(h:p:=by decide+kernel):p:=h
theorem Ac {p:Prop}(h:p:=by decide):p:=h
theorem Ad {p:Prop}(h:p:=by simp):p:=h
abbrev Ae:=List (List Int×Int)
abbrev Af:=List (List Int)
abbrev Ag:=List Int
abbrev Ah:=PySem.Value->PySem.Shared->Prop
abbrev Ai:=List (PySem.Addr×PySem.Obj)
abbrev Aj:=List (PySem.Str×PySem.Addr)
abbrev Ak:=PySem.Str->Option PySem.Value
abbrev Al:=List PySem.Value
abbrev Am:=List PySem.Str
abbrev An:=Array PySem.Value
abbrev Ao:=Option PySem.Value
def ab:=@List.length_map
def ae:=@PySem.wpAny_bind
def af:=@PySem.Heap.get?_push_of_some
def ag:=@List.getD_eq_getElem?_getD
def ah:=@PySem.wpAny_pure
def ai:=@List.getElem?_eq_some_iff
def aj:=@Bool.false_ne_true
def ak:=@Nat.le_refl
def am:=@if_neg
def ao:=@if_pos
def aq:=@decide_eq_true
def ar:=@List.size_toArray
def aw:=@PySem.sizeLine_eq
def ax:=@PySem.Heap.get?_push_size
def ay:=@List.mem_of_getElem?
def az:=@List.mem_cons_self
def aA:=@List.getElem?_eq_getElem
def aB:=@List.mem_cons_of_mem
def aC:=@PySem.Heap.lt_size
def aE:=@of_decide_eq_true
def aF:=@List.length_append
def aG:=@List.mem_cons
def aH:=@PyProof.Rows.wpS_bind
def aI:=@List.mem_singleton
def aJ:=@decide_eq_false
def aK:=@List.map_append
def aL:=@List.getElem?_map
def aM:=@PyProof.Rows.wpS_pure
def aN:=@List.mem_append
def aO:=@List.mem_append_right
def aP:=@List.length_cons
def aQ:=@List.mem_map
def aR:=@Array.length_toList
def aS:=@List.mem_filter
def aU:=@Nat.ne_of_lt
def aV:=@List.take_add_one
def aW:=@decide_eq_true_iff
def aX:=@List.lookup_cons
def aY:=@List.append_assoc
def aZ:=@List.take_length
def ba:=@List.append_nil
def bb:=@List.length_filter_le
def be:=@Nat.le_trans
def bf:=@List.mem_append_left
def bg:=@Nat.lt_of_lt_of_le
def bh:=@List.getElem?_append_right
def bi:=@PySem.W.mg_none_of
def bo:=@List.mem_range
def bq:=@Option.some.inj
def br:=@List.length_take_le
def bu:=@Nat.zero_le
def bv:=@List.map_cons
def bw:=@List.filter_append
def bz:=@Array.toList_append
def bA:=@List.pairwise_map
def bB:=@List.length_take
def bC:=@List.all_eq_true
def bD:=@List.take_append_drop
def bE:=@Int.toNat_natCast
def bF:=@List.map_congr_left
def bG:=@Bool.and_eq_true
def bH:=@List.map_map
def bI:=@List.mem_of_mem_take
def bJ:=@Array.getElem?_toList
def bK:=@List.take_of_length_le
def bL:=@congrArg
def bM:=@PySem.Around.under_plainId
def bN:=@List.getElem?_of_mem
def bO:=@List.idxOf_lt_length_iff
def bP:=@Bool.eq_iff_iff
def bQ:=@Nat.testBit_or
def bR:=@decide_eq_false_iff_not
def bS:=@PySem.wpAny_holding
def bU:=@List.getElem?_append_left
def bV:=@List.pairwise_iff_getElem
def bW:=@PySem.codeAny_builtin
def bX:=@PySem.PassesOwn.never
def bY:=@Nat.lt_succ_of_lt
def bZ:=@PyProof.Rows.wpS_forRange
def b7:=@beq_eq_false_iff_ne
def b8:=@List.not_mem_nil
def b9:=@List.filter_cons
def ce:=@PySem.F.plainAttrs_list
def cf:=@PySem.wpAny_newObj_type
def cg:=@Bool.not_eq_true'
def ci:=@List.pairwise_append
def cj:=@Nat.lt_irrefl
def ck:=@List.getElem?_take_of_lt
def cm:=@List.getElem_mem
def cn:=@PySem.wpAny_call_entry
def cq:=@List.countP_cons
def cr:=@Nat.zero_testBit
def cw:=@PySem.mem_of_lookup
def cx:=@List.mem_map_of_mem
def cy:=@PySem.wpAny_mono
def cz:=@List.length_range
def cA:=@PySem.Heap.size_push
def cB:=@List.pairwise_cons
def cC:=@Bool.and_false
def cD:=@Array.toArray_toList
def cE:=@PySem.W.kia_one
def cF:=@List.nodup_cons
def cG:=@PySem.wpAny_loadPart'
def cH:=@List.length_nil
def cI:=@Int.le_of_lt
def cJ:=@Classical.byContradiction
def cK:=@Nat.testBit_two_pow
def cL:=@List.Perm.append_left
def cM:=@PySem.wpAny_Call_Name_kw
def cN:=@PySem.wpAny_setField_rec
def cO:=@List.mem_of_mem_drop
def cP:=@PySem.wpAny_callSpecial?_slot
def cQ:=@Int.le_refl
def cR:=@Nat.add_sub_cancel_left
def cS:=@Nat.pow_le_pow_right
def cU:=@Nat.testBit_two_pow_sub_one
def cV:=@PySem.wpAny_pyIter_list
def cW:=@PySem.Heap.get?_update_other
def cX:=@Int.le_trans
def cY:=@Array.perm_iff_toList_perm
def cZ:=@Nat.mod_two_eq_zero_or_one
def da:=@List.filter_sublist
def db:=@Nat.testBit_and
def de:=@List.getElem?_eq_none
def df:=@PySem.wpAny_rule
def dh:=@Nat.le_of_lt
def di:=@Nat.ne_of_gt
def dk:=@List.sum_cons
def dq:=@PyProof.Rows.wpS_mono
def dr:=@Array.toList_reverse
def dv:=@Nat.eq_of_testBit_eq
def dw:=@PySem.wpAny_truthy_bool
def dy:=@List.take_sublist
def dz:=@PySem.wpAny_setState_of
def dB:=@Nat.two_pow_pos
def dC:=@PyProof.Rows.callWith_type1
def dD:=@PySem.sizeLine_eq
def dE:=@Nat.le_succ
def dF:=@List.any_eq_true
def dG:=@PySem.Heap.get?_update_self
def dH:=@List.perm_append_comm
def dI:=@List.extract_eq_take_drop
def dJ:=@PySem.wpAny_passesOwn
def dL:=@List.of_mem_zip
def dM:=@Nat.not_lt_zero
def dN:=@List.find?_cons
def dO:=@PySem.codeAny_mono
def dP:=@Array.toList_push
def dQ:=@PySem.wpAny_field
def dR:=@List.nodup_append
def dS:=@PySem.plainId_quiet
def dU:=@List.Pairwise.imp_of_mem
def dW:=@List.filterMap_cons
def dX:=@List.getElem_of_mem
def dY:=@List.getElem?_range
def dZ:=@List.length_eq_zero_iff
def d0:=@Nat.lt_succ_self
def eg:=@PySem.F.plain_list_iadd
def eh:=@PySem.Around.in1_units
def ev:=@List.pairwise_singleton
def eB:=@List.map_id
def eC:=@List.zip_cons_cons
def eD:=@Nat.lt_trans
def eE:=@PyProof.Rows.wpS_modify
def eF:=@PySem.wpAny_standAt
def eG:=@List.all_cons
def eI:=@List.Pairwise.and_mem
def eJ:=@List.any_eq_false
def eL:=@Bool.eq_false_iff
def eM:=@Bool.false_and
def eN:=@PySem.Calls.evalArgs_plain
def eO:=@Array.toList_extract
def eQ:=@or_false
def eR:=@List.exists_cons_of_ne_nil
def eS:=@List.perm_ext_iff_of_nodup
def eU:=@beq_self_eq_true
def eV:=@PySem.wpAny_askSetting
def eW:=@Bool.or_true
def eX:=@Nat.testBit_zero
def eY:=@Nat.lt_or_ge
def eZ:=@List.mem_flatMap
def fb:=@PySem.Calls.call_function_entry
def fe:=@List.getLastD_eq_getLast?
def ff:=@List.getLast?_eq_getElem?
def fg:=@PySem.W.codeHd_of_K
def fh:=@List.reverse_append
def fj:=@PySem.Paired.length
def fk:=@PySem.F.args_tuple_add_2
def fo:=@PySem.wpAny_attempt
def fq:=@PySem.wpAny_newList
def fw:=@Ne.symm
def fz:=@List.nil_append
def fH:=@PySem.wpAny_load
def fJ:=@Int.natCast_nonneg
def fO:=@PySem.tupleKind_room_in1
def fQ:=@of_decide_eq_false
def fX:=@List.getElem_idxOf
def fY:=@PySem.F.entry_tuple_add
def fZ:=@PySem.W.cellsFrom_some
def ga:=@PySem.F.slot_tuple_add
def gc:=@if_true
def gd:=@Option.some.injEq
def gf:=@PySem.wpAny_runValue
def gh:=@List.Pairwise.and
def gj:=@List.all_map
def gm:=@Option.map_eq_some_iff
def gn:=@List.Perm.append_right
def gq:=@List.pairwise_lt_range
def gt:=@List.flatMap_cons
def gu:=@List.length_eq_one_iff
def gw:=@List.flatMap_singleton
def gx:=@PySem.F.slot_tuple_lt
def gy:=@PySem.builtinLookup_eq_fast
def gz:=@List.length_drop
def gA:=@PySem.call_meets
def gC:=@List.any_cons
def gE:=@PySem.W.mg_of
def gF:=@PyProof.Rows.wpS_get
def gG:=@Sum.inl.inj
def gH:=@Nat.pow_lt_pow_right
def gI:=@List.eq_nil_of_length_eq_zero
def gJ:=@Bool.and_eq_true_iff
def gK:=@Bool.or_eq_false_iff
def gL:=@PySem.wpAny_execs_nil
def gM:=@PyProof.Rows.entry_list_sort
def gN:=@List.range_succ
def gO:=@and_congr_right
def gP:=@PySem.Heap.SameBut.update
def gQ:=@PySem.W.callWith_of
def gR:=@PySem.wpAny_typeOf
def gS:=@PySem.F.plain_proto_collect
def gU:=@Nat.sub_self
def gW:=@PySem.Calls.Name_function_global
def gX:=@Int.fdiv_eq_ediv_of_nonneg
def gY:=@PySem.wpAny_newFunctionEnv_cells
def gZ:=@PySem.SeqAt.EqAt.int_int
def g0:=@PySem.Walks.list
def g4:=@List.nodup_nil
def g5:=@PyProof.Rows.slot_list_sort
def g6:=@List.drop_drop
def g7:=@List.getElem?_drop
def g8:=@beq_iff_eq
def g9:=@PyProof.Rows.wpS_lift
def hG:=@List.take_zero
def hV:=@Array.toList_setIfInBounds
def h9:=@List.find?_eq_none
def ic:=@List.mem_of_find?_eq_some
def ie:=@Nat.lt_trichotomy
def ig:=@List.drop_sublist
def ij:=@Option.isSome_map
def ik:=@Nat.or_lt_two_pow
def im:=@decide_eq_true_eq
def io:=@List.getElem?_inj
def iq:=@PySem.wpAny_comprehension_free
def ir:=@PyProof.Rows.listUpdate_at
def iu:=@Bool.false_or
def iw:=@Bool.true_and
def ix:=@PySem.F.slot_list_extend
def iy:=@PySem.F.type_list_extend
def iA:=@List.find?_range_eq_some
def iB:=@PySem.F.slot_list_append
def iC:=@PySem.F.type_list_append
def iE:=@forall_congr'
def iF:=@List.getElem?_replicate
def iG:=@PySem.F.args_tuple_lt_2
def iH:=@PySem.noFill_tuple_add
def iI:=@List.cons_append
def iJ:=@PySem.wpAny_isInstance
def iK:=@PySem.F.slot_list_count
def iL:=@PySem.F.type_list_count
def iM:=@List.getElem?_set_self
def iN:=@PySem.wpAny_call
def iO:=@PySem.F.entry_tuple_lt
def iP:=@List.map_nil
def iQ:=@List.drop_eq_nil_of_le
def iR:=@List.getElem_cons_drop
def iS:=@Nat.testBit_lt_two_pow
def iT:=@Int.zero_add
def iU:=@PySem.typeLookup_type
def iV:=@PySem.Heap.DictOf.new
def iW:=@PySem.pushCells_keeps
def iX:=@PySem.W.keeps_F
def iY:=@List.Perm.of_eq
def iZ:=@Bool.or_eq_true
def i4:=@List.filter_nil
def i5:=@List.find?_some
def i6:=@List.length_replicate
def i7:=@List.length_singleton
def i8:=@PySem.F.slot_set_iter
def i9:=@List.set_append_right
def ja:=@List.getElem?_set_ne
def jc:=@PySem.isSubtype_type
def jd:=@List.range_eq_range'
def jf:=@List.drop_zero
def jg:=@List.reverse_reverse
def jh:=@Array.getElem_toList
def ji:=@List.Pairwise.filter
def jk:=@Nat.mul_le_mul_left
def jl:=@List.flatMap_append
def jm:=@Bool.not_true
def jn:=@Bool.and_true
def jo:=@List.map_take
def jp:=@List.mem_filterMap
def jq:=@PySem.W.callWith_K
def jr:=@PySem.W.codeRec_of
def jt:=@Nat.lt_of_le_of_lt
def ju:=@Option.isSome_some
def jw:=@Array.empty_append
def jx:=@Int.emod_lt_of_pos
def jy:=@Nat.add_comm
def jz:=@Nat.zero_add
def ka:=@Nat.add_zero
def ke:=@getElem?_pos
def kf:=@if_false
def kg:=@not_or
open PySem.W (codeHdIn envX findIn fnMade instObj keepIn kitOne kitx_dict kitx_list kla_obj lookIn methodObj mg_of mroIn plainGet tabObj)
open List (any_map range')
open Nat (strongRecOn)
open Option (getD_none map_some)
namespace L2
open PySem PySem.Spec PyProof.Rows
def yE (s:Stmt):Arguments:=match s with
 | .FunctionDef _ a _ _ _ _ _ _ _ _=>a
 | _=> { posonlyargs:=[],args:=[],vararg:=none,kwonlyargs:=[],kw_defaults:=[],kwarg:=none,defaults:=[]}
def jE (s:Stmt):List Stmt:=match s with
 | .FunctionDef _ _ b _ _ _ _ _ _ _=>b
 | _=> []
def j8 (s:Stmt):Scope:=match s with
 | .FunctionDef _ _ _ _ _ _ sc _ _ _=>sc
 | _=> { kind:= .function,names:=[],isGenerator:=false,isCoroutine:=false}
end L2
namespace Eo
open PySem L2
def top (i:Nat):Stmt:=PySem.Challenge.pw_eachonce_k88_whole_one_to_one.main.body.getD i (.Pass ⟨0,0,0,0⟩)
abbrev jC4:Stmt:=top 1
abbrev jAS:Stmt:=top 2
abbrev jDN:Stmt:=top 3
abbrev sMask:Stmt:=top 4
abbrev jDK:Stmt:=top 6
abbrev yB:Stmt:=top 7
abbrev sCov:Stmt:=top 13
abbrev yN:Stmt:=top 14
abbrev sFull:Stmt:=top 15
abbrev sAt:Stmt:=top 16
abbrev sMet:Stmt:=top 17
abbrev xF:Stmt:=top 18
abbrev xD:Stmt:=top 19
abbrev sMany:Stmt:=top 20
abbrev jC2:Stmt:=top 22
abbrev jAT:Stmt:=top 23
abbrev xH:Stmt:=top 25
abbrev jDL:Stmt:=top 26
abbrev jB2:Stmt:=top 27
abbrev jBG:Stmt:=top 28
abbrev qA:Stmt:=top 29
abbrev jDM:Stmt:=top 30
abbrev jB3:Stmt:=top 31
abbrev qE:Stmt:=top 33
abbrev sCell:Stmt:=top 35
abbrev sPot:Stmt:=top 36
abbrev sTake:Stmt:=top 37
abbrev sLot:Stmt:=top 38
abbrev sBox:Stmt:=top 39
abbrev xG:Stmt:=top 40
abbrev sCovs:Stmt:=top 41
abbrev jBF:Stmt:=top 42
abbrev jDO:Stmt:=top 43
abbrev sLaw:Stmt:=top 44
def kC (x:Str)(t:Nat)(l n:Int)(a:Nat)(X Y:Value)(z:Nat)(u:Int)(v:Nat):Obj:=⟨.type "code",none, .fields #[.str x t, .str x (t+1), .str "/claim/cut.py" (t+2), .int l 0, .int n 0, .int 0 0, .int 0 0, .int 3 0, .ref a, .bool true, .int 181 0, .ref (a+1), .none,X,Y, .ref z, .int u 0, .int l 0, .str "/claim/cut.py" v],#[]⟩
def kF (x:Str)(s:Stmt)(m:Str)(t c:Nat):Obj:=⟨.type "function",none, .func (PySem.W.fnOf x x (yE s) (jE s) (j8 s) .none .none .none (.str m t) none (.ref c) .none),#[]⟩
def kM (P:Params):Obj:=
 let e (x:Str) (t:Nat) (v:Value):DictEntry:=⟨PyData.keyHash P x, .str x t,v⟩
 ⟨.type "dict",none, .dict #[e "__name__" 165 (.str "law_eachonce_k88_whole_one_to_one" 421),e "__doc__" 166 (.none),e "__package__" 167 (.none),e "__loader__" 168 (.builtin "__main__.__loader__#opaque"),e "__spec__" 169 (.none),e "__annotations__" 170 (.ref 6),e "__builtins__" 171 (.ref 4),e "__file__" 173 (.str "/claim/cut.py" 172),e "__cached__" 174 (.none),e "is_whole" 195 (.ref 21),e "is_rising" 201 (.ref 26),e "is_lot" 209 (.ref 33),e "mask_of" 215 (.ref 38),e "musts_of" 223 (.ref 43),e "picked" 229 (.ref 48),e "OnceError" 249 (.ref 58),e "NoCovering" 265 (.ref 71),e "NoPiece" 281 (.ref 83),e "is_covering" 289 (.ref 90),e "choices_of" 295 (.ref 95),e "full_mask" 302 (.ref 102),e "choices_at" 308 (.ref 107),e "masks_met" 321 (.ref 114),e "gathered" 327 (.ref 119),e "ways_of" 334 (.ref 126),e "many" 341 (.ref 133),e "forced_next" 349 (.ref 138),e "behind" 355 (.ref 143),e "is_idle" 363 (.ref 148),e "least_idle" 371 (.ref 155),e "step_of" 377 (.ref 160),e "traced" 383 (.ref 165),e "turned_smaller" 393 (.ref 172),e "led_back" 402 (.ref 179),e "led_there" 408 (.ref 184),e "lightest" 420 (.ref 191),e "_law_cell_at" 430 (.ref 198),e "_law_pot" 440 (.ref 205),e "_law_take" 449 (.ref 212),e "_law_lot" 455 (.ref 217),e "_law_box" 461 (.ref 222),e "_law_from" 467 (.ref 227),e "_law_coverings" 473 (.ref 232),e "_law_weight" 479 (.ref 237),e "_law_drawn" 490 (.ref 244),e "law" 496 (.ref 249)] 46,#[]⟩
def kK (P:Params):W.Frag:=(nat_lit 3,kM P)::(nat_lit 4,⟨.type "module",some 0, .plain,#[]⟩)::(nat_lit 20,kC "is_whole" 189 2 1 15 (.ref 17) (.ref 18) 19 193 194)::(nat_lit 21,kF "is_whole" jC4 "eachonce.kinds" 187 20)::(nat_lit 25,kC "is_rising" 196 4 1 22 (.none) (.none) 24 199 200)::(nat_lit 26,kF "is_rising" jAS "eachonce.kinds" 187 25)::(nat_lit 32,kC "is_lot" 202 10 2 27 (.ref 29) (.ref 30) 31 207 208)::(nat_lit 33,kF "is_lot" jDN "eachonce.kinds" 187 32)::(nat_lit 37,kC "mask_of" 210 14 1 34 (.none) (.none) 36 213 214)::(nat_lit 38,kF "mask_of" sMask "eachonce.kinds" 187 37)::(nat_lit 42,kC "musts_of" 218 17 1 39 (.none) (.none) 41 221 222)::(nat_lit 43,kF "musts_of" jDK "eachonce.boxes" 216 42)::(nat_lit 47,kC "picked" 224 20 3 44 (.none) (.none) 46 227 228)::(nat_lit 48,kF "picked" yB "eachonce.boxes" 216 47)::(nat_lit 89,kC "is_covering" 284 34 2 86 (.none) (.none) 88 287 288)::(nat_lit 90,kF "is_covering" sCov "eachonce.coverings" 282 89)::(nat_lit 94,kC "choices_of" 290 41 1 91 (.none) (.none) 93 293 294)::(nat_lit 95,kF "choices_of" yN "eachonce.coverings" 282 94)::(nat_lit 101,kC "full_mask" 296 46 1 96 (.ref 98) (.ref 99) 100 300 301)::(nat_lit 102,kF "full_mask" sFull "eachonce.coverings" 282 101)::(nat_lit 106,kC "choices_at" 303 48 2 103 (.none) (.none) 105 306 307)::(nat_lit 107,kF "choices_at" sAt "eachonce.coverings" 282 106)::(nat_lit 113,kC "masks_met" 309 51 1 108 (.ref 110) (.ref 111) 112 319 320)::(nat_lit 114,kF "masks_met" sMet "eachonce.coverings" 282 113)::(nat_lit 118,kC "gathered" 322 63 3 115 (.none) (.none) 117 325 326)::(nat_lit 119,kF "gathered" xF "eachonce.coverings" 282 118)::(nat_lit 125,kC "ways_of" 328 72 1 120 (.ref 122) (.ref 123) 124 332 333)::(nat_lit 126,kF "ways_of" xD "eachonce.coverings" 282 125)::(nat_lit 132,kC "many" 335 74 1 127 (.ref 129) (.ref 130) 131 339 340)::(nat_lit 133,kF "many" sMany "eachonce.coverings" 282 132)::(nat_lit 137,kC "forced_next" 344 77 2 134 (.none) (.none) 136 347 348)::(nat_lit 138,kF "forced_next" jC2 "eachonce.needs" 342 137)::(nat_lit 142,kC "behind" 350 84 2 139 (.none) (.none) 141 353 354)::(nat_lit 143,kF "behind" jAT "eachonce.needs" 342 142)::(nat_lit 147,kC "is_idle" 358 96 2 144 (.none) (.none) 146 361 362)::(nat_lit 148,kF "is_idle" xH "eachonce.smaller" 356 147)::(nat_lit 154,kC "least_idle" 364 103 1 149 (.ref 151) (.ref 152) 153 369 370)::(nat_lit 155,kF "least_idle" jDL "eachonce.smaller" 356 154)::(nat_lit 159,kC "step_of" 372 108 1 156 (.none) (.none) 158 375 376)::(nat_lit 160,kF "step_of" jB2 "eachonce.smaller" 356 159)::(nat_lit 164,kC "traced" 378 118 2 161 (.none) (.none) 163 381 382)::(nat_lit 165,kF "traced" jBG "eachonce.smaller" 356 164)::(nat_lit 171,kC "turned_smaller" 384 120 1 166 (.ref 168) (.ref 169) 170 391 392)::(nat_lit 172,kF "turned_smaller" qA "eachonce.smaller" 356 171)::(nat_lit 178,kC "led_back" 394 128 2 173 (.ref 175) (.ref 176) 177 400 401)::(nat_lit 179,kF "led_back" jDM "eachonce.smaller" 356 178)::(nat_lit 183,kC "led_there" 403 133 2 180 (.none) (.none) 182 406 407)::(nat_lit 184,kF "led_there" jB3 "eachonce.smaller" 356 183)::(nat_lit 190,kC "lightest" 411 138 1 185 (.ref 187) (.ref 188) 189 418 419)::(nat_lit 191,kF "lightest" qE "eachonce.lightest" 409 190)::(nat_lit 197,kC "_law_cell_at" 423 153 2 192 (.ref 194) (.ref 195) 196 428 429)::(nat_lit 198,kF "_law_cell_at" sCell "law_eachonce_k88_whole_one_to_one" 421 197)::(nat_lit 204,kC "_law_pot" 431 157 1 199 (.ref 201) (.ref 202) 203 438 439)::(nat_lit 205,kF "_law_pot" sPot "law_eachonce_k88_whole_one_to_one" 421 204)::(nat_lit 211,kC "_law_take" 441 166 2 206 (.ref 208) (.ref 209) 210 447 448)::(nat_lit 212,kF "_law_take" sTake "law_eachonce_k88_whole_one_to_one" 421 211)::(nat_lit 216,kC "_law_lot" 450 170 2 213 (.none) (.none) 215 453 454)::(nat_lit 217,kF "_law_lot" sLot "law_eachonce_k88_whole_one_to_one" 421 216)::(nat_lit 221,kC "_law_box" 456 179 3 218 (.none) (.none) 220 459 460)::(nat_lit 222,kF "_law_box" sBox "law_eachonce_k88_whole_one_to_one" 421 221)::(nat_lit 226,kC "_law_from" 462 197 3 223 (.none) (.none) 225 465 466)::(nat_lit 227,kF "_law_from" xG "law_eachonce_k88_whole_one_to_one" 421 226)::(nat_lit 231,kC "_law_coverings" 468 210 1 228 (.none) (.none) 230 471 472)::(nat_lit 232,kF "_law_coverings" sCovs "law_eachonce_k88_whole_one_to_one" 421 231)::(nat_lit 236,kC "_law_weight" 474 212 2 233 (.none) (.none) 235 477 478)::(nat_lit 237,kF "_law_weight" jBF "law_eachonce_k88_whole_one_to_one" 421 236)::(nat_lit 243,kC "_law_drawn" 480 214 4 238 (.ref 240) (.ref 241) 242 488 489)::(nat_lit 244,kF "_law_drawn" jDO "law_eachonce_k88_whole_one_to_one" 421 243)::(nat_lit 248,kC "law" 491 219 1 245 (.none) (.none) 247 494 495)::(nat_lit 249,kF "law" sLaw "law_eachonce_k88_whole_one_to_one" 421 248)::[]
def kA:List Addr:=[3,4,20,21,25,26,32,33,37,38,42,43,47,48,89,90,94,95,101,102,106,107,113,114,118,119,125,126,132,133,137,138,142,143,147,148,154,155,159,160,164,165,171,172,178,179,183,184,190,191,197,198,204,205,211,212,216,217,221,222,226,227,231,232,236,237,243,244,248,249]
def vw:Program:= { PySem.Challenge.pw_eachonce_k88_whole_one_to_one with main:= { PySem.Challenge.pw_eachonce_k88_whole_one_to_one.main with body:=[top 1,top 2,top 3,top 4,top 6,top 7,top 9,top 10,top 11,top 13,top 14,top 15,top 16,top 17,top 18,top 19,top 20,top 22,top 23,top 25,top 26,top 27,top 28,top 29,top 30,top 31,top 33,top 35,top 36,top 37,top 38,top 39,top 40,top 41,top 42,top 43,top 44]}}
theorem kA_eq:∀ P,kA=(kK P).map (·.1):=fun _=>by kernel_rfl
abbrev kH:PySem.W.Hook:=PySem.W.kmHook kK kA kA_eq [45,121,186]
set_option maxHeartbeats 0 in
theorem left:PySem.W.LeftO PySem.Challenge.rw_eachonce_k88_whole_one_to_one.prog vw [] (fun s=>PySem.W.xlAt vw [] s&&PySem.W.recOk (PySem.W.RowW.records (PySem.W.OpenRow.toRowW PySem.Challenge.rw_eachonce_k88_whole_one_to_one.row)) s) (PySem.W.Hook.obs kH) (PySem.W.Hook.val kH) 4100:=fun w=>by kernel_rfl
end Eo
section
namespace L2
open PySem PySem.Spec PyProof.Rows
abbrev Key:=Sum Int Str
def keyIs:Key->Value->Bool
 | .inl k,v=>Value.isInt k v
 | .inr x,v=>Value.isStrOf x v
def keyH (w:World):Key->Int
 | .inl k=>hashInt k
 | .inr x=>hashStr w x
theorem jA0:∀ {k:Key}{v:Value},keyIs k v=true->(∃ i t,k=Sum.inl i/\v=Value.int i t)\/(∃ x t,k=Sum.inr x/\v=Value.str x t)
 | .inl i,v,h=>by
  obtain⟨t,e⟩:=Value.isInt_shape (k:=i) (v:=v) h;exact .inl ⟨i,t,rfl,e⟩
 | .inr x,v,h=>by
  obtain⟨t,e⟩:=Value.isStrOf_shape (x:=x) (v:=v) h;exact .inr ⟨x,t,rfl,e⟩
theorem jOF (i:Int)(t:Tok):keyIs (.inl i) (.int i t)=true:=by simp [keyIs,Value.isInt]
theorem jOE (x:Str)(t:Tok):keyIs (.inr x) (.str x t)=true:=by simp [keyIs,Value.isStrOf]
theorem jXG (a b:Int):decide ((Sum.inl a:Key)=Sum.inl b)=(a==b):=by
 by_cases e:a=b
 ·subst e; simp
 ·have h:¬ (Sum.inl a:Key)=Sum.inl b:=fun q=>e (gG q);rw[aJ h];exact(b7.mpr e).symm
theorem jXD (a b:Str):decide ((Sum.inr a:Key)=Sum.inr b)=decide (a=b):=by
 by_cases e:a=b
 ·subst e; simp
 ·have h:¬ (Sum.inr a:Key)=Sum.inr b:=fun q=>e (Sum.inr.inj q);rw[aJ h,aJ e]
theorem jXF (a:Int)(b:Str):decide ((Sum.inl a:Key)=Sum.inr b)=false:=aJ (fun q=>nomatch q)
theorem jXE (a:Str)(b:Int):decide ((Sum.inr a:Key)=Sum.inl b)=false:=aJ (fun q=>nomatch q)
def y0 (prog:Program)(w:World):PySem.KeyKind prog w Key where
 is:=keyIs
 hash:=keyH w
 inj:=fun v a b ha hb=>by
  rcases jA0 ha with ⟨i,t,rfl,rfl⟩ | ⟨x,t,rfl,rfl⟩
  ·rcases jA0 hb with ⟨j,u,rfl,e⟩ | ⟨y,u,rfl,e⟩
   ·injection e with e1 _; rw[e1]
   ·exact nomatch e
  ·rcases jA0 hb with ⟨j,u,rfl,e⟩ | ⟨y,u,rfl,e⟩
   ·exact nomatch e
   ·injection e with e1 _; rw[e1]
 byValue:=fun k v h=>by
  rcases jA0 h with ⟨i,t,rfl,rfl⟩ | ⟨x,t,rfl,rfl⟩ <;> rfl
 pyHash:=fun hv h=>by
  rcases jA0 hv with ⟨i,t,rfl,rfl⟩ | ⟨x,t,rfl,rfl⟩
  ·exact wpAny_pyHash_int h
  ·exact wpAny_pyHash_str h
 eqBool:=fun hu hv h=>by
  rcases jA0 hu with ⟨i,t,rfl,rfl⟩ | ⟨x,t,rfl,rfl⟩
  ·rcases jA0 hv with ⟨j,u,rfl,rfl⟩ | ⟨y,u,rfl,rfl⟩
   ·rw[jXG] at h; exact wpAny_eqBool_int h
   ·rw[jXF] at h; exact SeqAt.EqAt.int_str i t y u _ _ _ _ h
  ·rcases jA0 hv with ⟨j,u,rfl,rfl⟩ | ⟨y,u,rfl,rfl⟩
   ·rw[jXE] at h; exact SeqAt.EqAt.str_int x t j u _ _ _ _ h
   ·rw[jXD] at h; exact wpAny_eqBool_str h
 «strs»:=fun k x t v h=>by
  rcases jA0 h with ⟨i,u,rfl,e⟩ | ⟨y,u,rfl,e⟩
  ·exact nomatch e
  ·injection e with e1 _;subst e1;cases v <;> rfl
theorem jJ3 (prog:Program)(w:World)(i:Int)(t:Tok):(y0 prog w).is (.inl i) (.int i t)=true:=jOF i t
theorem jJ2 (prog:Program)(w:World)(x:Str)(t:Tok):(y0 prog w).is (.inr x) (.str x t)=true:=jOE x t
inductive V where
 | non | bl (b:Bool) | int (i:Int) | str (x:Str) | byt (b:Array UInt8) | flt (b:UInt64) | ref (a:Addr) | ty (n:String)
 deriving DecidableEq
def RelV:V->Value->Prop
 | .non,u=>u=Value.none
 | .bl b,u=>u=Value.bool b
 | .int i,u=>∃ t,u=Value.int i t
 | .str x,u=>∃ t,u=Value.str x t
 | .byt b,u=>∃ t,u=Value.bytes b t
 | .flt b,u=>∃ t,u=Value.float b t
 | .ref a,u=>u=Value.ref a
 | .ty n,u=>u=Value.type n
abbrev Vals:List V->Al->Prop:=Paired RelV
theorem Vals.length {xs:List V}{us:Al}(r:Vals xs us):xs.length=us.length:=fj r
theorem Vals.get:∀ {xs:List V}{us:Al}{i:Nat}{x:V},Vals xs us->xs[i]?=some x->∃ u,us[i]?=some u/\RelV x u
 | _,_,_,_, .nil,e=>by simp at e
 | _,_,0,_, .cons r _,e=>by simp at e; subst e; exact⟨_,rfl,r⟩
 | _,_,i+1,x, .cons _ t,e=>by
  obtain⟨u,h1,h2⟩:=Vals.get (i:=i) (x:=x) t (by simpa using e);exact⟨u,by simpa using h1,h2⟩
theorem Vals.set {x:V}{u:Value}(r:RelV x u):∀ {xs:List V}{us:Al}(i:Nat),Vals xs us->Vals (xs.set i x) (us.set i u)
 | _,_,_, .nil=> .nil
 | _,_,0, .cons _ t=> .cons r t
 | _,_,i+1, .cons q t=> .cons q (Vals.set r i t)
theorem Vals.append:∀ {xs ys:List V}{us ws:Al},Vals xs us->Vals ys ws->Vals (xs++ys) (us++ws)
 | _,_,_,_, .nil,s=>s
 | _,_,_,_, .cons r t,s=> .cons r (Vals.append t s)
theorem Vals.take:∀ {xs:List V}{us:Al}(n:Nat),Vals xs us->Vals (xs.take n) (us.take n)
 | _,_,0,_=> .nil
 | _,_,_+1, .nil=> .nil
 | _,_,n+1, .cons r t=> .cons r (Vals.take n t)
theorem Vals.drop:∀ {xs:List V}{us:Al}(n:Nat),Vals xs us->Vals (xs.drop n) (us.drop n)
 | _,_,0,r=>r
 | _,_,_+1, .nil=> .nil
 | _,_,n+1, .cons _ t=>Vals.drop n t
def RelO:Option V->Ao->Prop
 | some v,some u=>RelV v u
 | none,none=>True
 | _,_=>False
def KV {κ:Type} :List (κ×V)->List (κ×Value)->Prop:=Paired fun (p:κ×V) (q:κ×Value)=>p.1=q.1/\RelV p.2 q.2
def kV:Key->V
 | .inl i=> .int i
 | .inr x=> .str x
def TupO (h:Heap)(a:Addr)(items:An):Prop:=∃ n,h.get? a=some { cls:= .type "tuple",data:= .seq items n}
theorem TupO.isTup {h:Heap}{a:Addr}{items:An}(x:TupO h a items):IsTup h a items:=let ⟨n,e⟩:=x; ⟨_,e,rfl,n,rfl⟩
theorem TupO.new (h:Heap)(items:An):TupO (h.push { cls:= .type "tuple",data:= .seq items}) h.objs.size items:=⟨0,ax _ rfl⟩
inductive HO where
  | lst (xs:List V)
  | tup (xs:List V)
  | dK (kvs:List (Key×V)) | dT (kvs:List (List Key×V))
  | set (S:Int->Bool) (n:Nat)
  | ins (C dx:Addr) (fs:List (Str×V))
  | own (x:Addr)
  | xd (fs:List (Str×V))
  | met (f x:Addr)
  | rng (lo hi:Int)
  | frz (o:Obj) (u:HO)
  | tbl (ps:An)
  | ext (φ:Heap->Prop)
abbrev Hp:=Addr->Option HO
def upd (H:Hp)(a:Addr)(o:HO):Hp:=fun b=>if b=a then some o else H b
theorem j6 {H:Hp}{a:Addr}{o:HO} :upd H a o a=some o:=by unfold upd; rw[ao rfl]
theorem jA {H:Hp}{a b:Addr}{o:HO}(h:b≠a):upd H a o b=H b:=by unfold upd; rw[am h]
theorem ne_of {H:Hp}{a b:Addr}{o u:HO}(h:H a=some o)(h':H b=some u)(d:o≠u):a≠b:=by
 intro e; subst e; rw[h] at h'; exact d (bq h')
theorem jB {H:Hp}{a b:Addr}{o:HO}(h:H a=some o)(h':H b=none):a≠b:=by
 intro e; subst e; rw[h] at h'; cases h'
section
variable (P:Program)(w:World)
def ObjOk (H:Hp)(h:Heap)(a:Addr):HO->Prop
 | .lst xs=>xs.length<=sizeLine/\∃ (its:Al) (n:Nat),Vals xs its/\h.get? a=some { cls:= .type "list",data:= .seq its.toArray n}
 | .tup xs=>xs.length<=sizeLine/\∃ its:Al,Vals xs its/\TupO h a its.toArray
 | .dK kvs=>kvs.length<=sizeLine/\(a==sysModules)=false/\∃ vs,KV kvs vs/\h.DictOf (y0 P w) a vs
 | .dT kvs=>kvs.length<=sizeLine/\(a==sysModules)=false/\∃ xs:List (List Key×Addr×Value),
   Paired (fun (p:List Key×V) (q:List Key×Addr×Value)=>p.1=q.1/\H q.2.1=some (.tup (p.1.map kV))/\RelV p.2 q.2.2) kvs xs/\
   ∃ o es ep,h.get? a=some o/\o.ExactDict/\o.data= .dict es ep/\es.toList=xs.map (entryOfKey (tupleKind (y0 P w)))/\(xs.map (·.1)).Nodup
 | .set S n=>h.SetOf (intKind P w) a S n
 | .ins C dx fs=>H dx=some (.own a)/\fs.length<=1000/\dx≠a/\h.get? a=some (instObj C dx)/\
   ∃ mA,h.Ns1 dx mA/\(∀ f,RelO (fs.lookup f) (mA f))/\PySem.Within mA (fs.map (·.1))
 | .own _=>∃ o,h.get? a=some o
 | .xd fs=>∃ mA,h.Ns1 a mA/\∀ f,RelO (fs.lookup f) (mA f)
 | .rng lo hi=>∃ t u v,h.get? a=some { cls:= .type "range",data:= .fields #[.int lo t, .int hi u, .int 1 v]}
 | .frz o u=>h.get? a=some o/\ObjOk H h a u
 | .tbl ps=>h.get? a=some { cls:= .none,data:= .fields ps}
 | .met f x=>h.get? a=some (methodObj (.ref f) (.ref x))
 | .ext φ=>φ h/\(∃ o,h.get? a=some o)/\∀ h1 h2:Heap,φ h1->(∀ o,h1.get? a=some o->h2.get? a=some o)->φ h2
def HOk (H:Hp)(h:Heap):Prop:=∀ a o,H a=some o->ObjOk P w H h a o
end
variable {P:Program}{w:World}{H H':Hp}{h h':Heap}{a:Addr}
section
variable {o:HO}
theorem ObjOk.lt (x:ObjOk P w H h a o):a<h.objs.size:=by
 cases o with
 | lst xs=>obtain⟨_,_,_,_,e⟩:=x; exact aC e
 | tup xs=>obtain⟨_,_,_,_,e⟩:=x; exact aC e
 | dK kvs=>obtain⟨_,_,_,_,o,_,_,e,_⟩:=x; exact aC e
 | dT kvs=>obtain⟨_,_,_,_,o,_,_,e,_⟩:=x; exact aC e
 | set S n=>obtain⟨o,_,_,_,e,_⟩:=x; exact aC e
 | ins C dx fs=>obtain⟨_,_,_,e,_⟩:=x; exact aC e
 | own y=>obtain⟨_,e⟩:=x; exact aC e
 | xd fs=>obtain⟨_,⟨_,_,_,e,_⟩,_⟩:=x; exact aC e
 | rng lo hi=>obtain⟨_,_,_,e⟩:=x; exact aC e
 | frz ob u=>obtain⟨e,_⟩:=x; exact aC e
 | tbl ps=>exact aC (show h.get? a=some _ from x)
 | met f y=>exact aC (show h.get? a=some _ from x)
 | ext φ=>obtain⟨_,⟨_,e⟩,_⟩:=x; exact aC e
theorem Paired.mapP {α β:Type}{F G:α->β->Prop} :∀ {l₁:List α}{l₂:List β},Paired F l₁ l₂->(∀ a b,F a b->G a b)->Paired G l₁ l₂
 | _,_, .nil,_=> .nil
 | _,_, .cons r t,f=> .cons (f _ _ r) (Paired.mapP t f)
theorem ObjOk.stay (x:ObjOk P w H h a o)(k:∀ b u,(b=a\/H b=some (.own a))->h.get? b=some u->h'.get? b=some u)
  (ho:∀ b,H b=some (.own a)->H' b=some (.own a)) (ht:∀ b xs,H b=some (.tup xs)->H' b=some (.tup xs)):ObjOk P w H' h' a o:=by
 induction o with
 | lst xs=>obtain⟨z,its,n,r,e⟩:=x; exact⟨z,its,n,r,k _ _ (.inl rfl) e⟩
 | tup xs=>obtain⟨z,its,r,n,e⟩:=x; exact⟨z,its,r,n,k _ _ (.inl rfl) e⟩
 | dK kvs=>obtain⟨z,y,vs,r,ob,es,ep,e,c⟩:=x; exact⟨z,y,vs,r,ob,es,ep,k _ _ (.inl rfl) e,c⟩
 | dT kvs=>
  obtain⟨z,y,xs,r,ob,es,ep,e,c⟩:=x;exact⟨z,y,xs,Paired.mapP r fun p q z=>⟨z.1,ht _ _ z.2.1,z.2.2⟩,ob,es,ep,k _ _ (.inl rfl) e,c⟩
 | set S n=>obtain⟨ob,es,ep,t,e,c⟩:=x; exact⟨ob,es,ep,t,k _ _ (.inl rfl) e,c⟩
 | ins C dx fs=>
  obtain⟨d,z,ne,e,mA,⟨od,es,ep,e2,c⟩,r⟩:=x;exact⟨ho _ d,z,ne,k _ _ (.inl rfl) e,mA,⟨od,es,ep,k _ _ (.inr d) e2,c⟩,r⟩
 | own y=>obtain⟨ob,e⟩:=x; exact⟨ob,k _ _ (.inl rfl) e⟩
 | xd fs=>obtain⟨mA,⟨od,es,ep,e,c⟩,r⟩:=x; exact⟨mA,⟨od,es,ep,k _ _ (.inl rfl) e,c⟩,r⟩
 | rng lo hi=>obtain⟨t,u,v,e⟩:=x; exact⟨t,u,v,k _ _ (.inl rfl) e⟩
 | frz ob u ih=>obtain⟨e,q⟩:=x; exact⟨k _ _ (.inl rfl) e,ih q⟩
 | tbl ps=>
  have e:h.get? a=some { cls:= .none,data:= .fields ps} :=x;show h'.get? a=some { cls:= .none,data:= .fields ps};exact k a _ (.inl rfl) e
 | met f y=>
  have e:h.get? a=some (methodObj (.ref f) (.ref y)):=x;show h'.get? a=some (methodObj (.ref f) (.ref y));exact k a _ (.inl rfl) e
 | ext φ=>obtain⟨p,⟨o,e⟩,st⟩:=x; exact⟨st _ _ p fun o q=>k _ _ (.inl rfl) q,⟨o,k _ _ (.inl rfl) e⟩,st⟩
theorem HOk.lt (x:HOk P w H h)(e:H a=some o):a<h.objs.size:=(x a o e).lt
theorem HOk.fresh (x:HOk P w H h)(e:h.objs.size<=a):H a=none:=by
 cases q:H a with
 | none=>rfl
 | some u=>exact absurd (bg (x.lt q) e) (cj _)
theorem HOk.kept (x:HOk P w H h)(k:∀ b u,h.get? b=some u->h'.get? b=some u):HOk P w H h':=fun a o e=>
 (x a o e).stay (fun b u _ q=>k b u q) (fun _ q=>q) fun _ _ q=>q
theorem HOk.laid (x:HOk P w H h)(k:∀ b u,h.get? b=some u->h'.get? b=some u)(hp:h.objs.size<=a)(new:ObjOk P w (upd H a o) h' a o):HOk P w (upd H a o) h':=fun b u e=>by
 have hn:=x.fresh hp;by_cases hb:b=a
 ·subst hb; rw[j6] at e; cases e; exact new
 ·rw[jA hb] at e;exact(x b u e).stay (fun c v _ q=>k c v q) (fun c q=>by rw[jA (jB q hn)]; exact q) fun c xs q=>by rw[jA (jB q hn)]; exact q
end
def Rd (H:Hp)(a:Addr)(u:HO):Prop:=H a=some u\/∃ o,H a=some (.frz o u)
theorem Rd.ok {P:Program}{w:World}{H:Hp}{h:Heap}{a:Addr}{u:HO}(r:Rd H a u)(x:HOk P w H h):ObjOk P w H h a u:=by
 rcases r with r | ⟨o,r⟩
 ·exact x a u r
 ·obtain⟨_,q⟩:=x a _ r;exact q
def Mut:Option HO->Prop
 | some (.lst _)=>True
 | some (.dK _)=>True
 | some (.dT _)=>True
 | some (.set _ _)=>True
 | some (.ins _ _ _)=>True
 | some (.ext _)=>True
 | _=>False
variable {x:Addr}
section
variable {e:Addr}{o':HO}
theorem HOk.write (ok:HOk P w H h)(mu:Mut (H x))(he:e=x\/H e=some (.own x))(k:∀ b u,b≠e->h.get? b=some u->h'.get? b=some u)(heo:∃ u,h'.get? e=some u)
  (new:ObjOk P w (upd H x o') h' x o'):HOk P w (upd H x o') h':=fun b u q=>by
 have nown:∀ c y,H c=some (.own y)->c≠x:=fun c y r z=>by subst z; rw[r] at mu; exact mu
 have ntup:∀ c xs,H c=some (.tup xs)->c≠x:=fun c xs r z=>by subst z; rw[r] at mu; exact mu
 by_cases hb:b=x
 ·subst hb; rw[j6] at q; cases q; exact new
 ·rw[jA hb] at q;by_cases hbe:b=e
  ·have q':H b=some (.own x):=by
    rcases he with z | z
    ·exact absurd (hbe.trans z) hb
    ·rw[hbe]; exact z
   rw[q] at q'; cases q';obtain⟨v,hv⟩:=heo;exact⟨v,by rw[hbe]; exact hv⟩
  ·refine(ok b u q).stay (fun c v hc r=>k c v ?_ r) (fun c r=>by rw[jA (nown c b r)]; exact r) fun c xs r=>by rw[jA (ntup c xs r)]; exact r
   rcases hc with rfl | hc
   ·exact hbe
   ·rintro rfl;rcases he with z | z
    ·exact nown c b hc z
    ·rw[hc] at z; cases z; exact hb rfl
end
structure Un (fs ex:List Addr)(H H':Hp)(h h':Heap):Prop where
 keep:∀ b o,h.get? b=some o->H b=none->b∉fs->b∉ex->h'.get? b=some o
 slot:∀ b o,h.get? b=some o->H b=none->b∈fs->b∉ex->∃ sl,h'.get? b=some { o with slots:=sl}
 free:∀ b o,h.get? b=some o->H b=none->b∉ex->H' b=none
 there:∀ b o,h.get? b=some o->b∉ex->∃ o',h'.get? b=some o'
 tups:∀ b xs,H b=some (.tup xs)->H' b=some (.tup xs)
 frzs:∀ b o u,H b=some (.frz o u)->H' b=some (.frz o u)
 tbls:∀ b ps,H b=some (.tbl ps)->∃ more,H' b=some (.tbl (ps++more))
section
variable {fs fs' ex ex':List Addr}{H1 H2:Hp}{h1 h2:Heap}{e:Addr}{o:HO}
theorem Un.any (u:Un fs ex H H1 h h1){b:Addr}{ob:Obj}(q:h.get? b=some ob)(n:H b=none)(hx:b∉ex):∃ sl,h1.get? b=some { ob with slots:=sl} :=by
 by_cases hb:b∈fs
 ·exact u.slot b ob q n hb hx
 ·exact⟨ob.slots,u.keep b ob q n hb hx⟩
theorem Un.kept (k:∀ b u,h.get? b=some u->h'.get? b=some u):Un fs ex H H h h':=
 ⟨fun b ob q _ _ _=>k b ob q,fun b ob q _ _ _=>⟨ob.slots,k b ob q⟩,fun _ _ _ n _=>n,fun b ob q _=>⟨ob,k b ob q⟩,fun _ _ q=>q,fun _ _ _ q=>q,fun _ ps q=>⟨#[],by rw[q]; simp⟩⟩
theorem Un.refl:Un fs ex H H h h:=Un.kept fun _ _ q=>q
theorem Un.laid (k:∀ b u,h.get? b=some u->h'.get? b=some u)(hp:h.objs.size<=a)(hn:H a=none):Un fs ex H (upd H a o) h h' where
 keep:=fun b u q _ _ _=>k b u q
 slot:=fun b u q _ _ _=>⟨u.slots,k b u q⟩
 free:=fun b u q n _=>by rw[jA (aU (bg (aC q) hp))]; exact n
 there:=fun b u q _=>⟨u,k b u q⟩
 tups:=fun b xs q=>by rw[jA (jB q hn)]; exact q
 frzs:=fun b u xs q=>by rw[jA (jB q hn)]; exact q
 tbls:=fun b ps q=>⟨#[],by rw[jA (jB q hn),q]; simp⟩
theorem Un.write (mu:Mut (H x))(he:e=x\/H e=some (.own x))(k:∀ b u,b≠e->h.get? b=some u->h'.get? b=some u)(heo:∃ u,h'.get? e=some u):Un fs ex H (upd H x o) h h':=by
 have hx:∀ b,H b=none->b≠x:=fun b n z=>by subst z; rw[n] at mu; exact mu
 have hb:∀ b,H b=none->b≠e:=fun b n z=>by
  subst z;rcases he with r | r
  ·exact hx b n r
  ·rw[n] at r; cases r
 have hm:∀ b u,H b=some u->¬ Mut (some u)->b≠x:=fun b u q nm z=>by subst z; rw[q] at mu; exact nm mu
 refine⟨fun b u q n _ _=>k b u (hb b n) q,fun b u q n _ _=>⟨u.slots,k b u (hb b n) q⟩,fun b u q n _=>by rw[jA (hx b n)]; exact n,fun b u q _=>?_,
  fun b xs q=>by rw[jA (hm b _ q fun z=>z)]; exact q,fun b u xs q=>by rw[jA (hm b _ q fun z=>z)]; exact q,fun b ps q=>⟨#[],by rw[jA (hm b _ q fun z=>z),q]; simp⟩⟩
 by_cases hbe:b=e
 ·subst hbe; exact heo
 ·exact⟨u,k b u hbe q⟩
end
def trk (h:Heap)(H:Hp):List Addr:=(List.range h.objs.size).filter fun a=>(H a).isSome
def hidT (h:Heap)(H:Hp):Heap:=PySem.W.hideAll h (trk h H)
theorem jOZ (h:Heap)(H:Hp):(hidT h H).objs.size=h.objs.size:=PySem.W.hideAll_size _ _
theorem jRV {h:Heap}{H:Hp}{b:Addr}{o:Obj}(e:h.get? b=some o)(n:H b=none):(hidT h H).get? b=some o:=
 PySem.W.hideAll_get _ e fun hm=>by
  have q:(H b).isSome=true:=(aS.mp hm).2;rw[n] at q; simp at q
theorem jUV {h:Heap}{H:Hp}{b:Addr}{o:Obj}(e:(hidT h H).get? b=some o):h.get? b=some o/\H b=none:=by
 have e':h.get? b=some o:=PySem.W.of_hideAll (trk h H) e;refine⟨e',?_⟩;cases q:H b with
 | none=>rfl
 | some x=>
  have hm:b∈trk h H:=aS.mpr ⟨bo.mpr (aC e'),by simp [q]⟩;have z:(hidT h H).get? b=none:=PySem.W.hideAll_none (trk h H) hm;rw[z] at e; cases e
structure Mod (K:W.Frag)(mg:Ak)(Aq:Heap):Prop where
 kin:K.In Aq
 glob:Aq.Ns mainGlobals mg
 blt:∃ mb,Aq.Ns builtinsNs mb/\∀ x:Str,x≠ "__name__" ->mb x=bootBuiltins x
 nolimit:Aq.NoLimit
structure Cx where
 prog:Program
 w:World
 K:W.Frag
 mg:Ak
 Aq:Heap
 A:Around
 N:Am
 s₀:Shared
 H₀:Hp
 env:Env
 Ap:List Env
 stack:List Env
 ex:List Addr
 fn:Str->Bool
 calm:Bool
 pn:Ai
 xe:Ah
def frs (l:List Env):List Addr:=l.filterMap (·.frame)
abbrev Cx.fs (X:Cx):List Addr:=frs X.Ap
def Vis (sc:Scope)(x:Str):Prop:=sc.names.lookup x=some .local\/sc.names.lookup x=some .cell\/sc.names.lookup x=some .free
def Loc (sc:Scope)(x:Str):Prop:=sc.names.lookup x=some .local\/sc.names.lookup x=some .cell
def Look (env:Env)(h:Heap)(m:Ak)(x:Str)(u:Value):Prop:=
 (env.kindOf x=some .local/\m x=some u)\/((env.kindOf x=some .cell\/env.kindOf x=some .free)/\∃ c,env.cells.lookup x=some c/\h.IsCell c (some u))
structure Cx.Ok (X:Cx):Prop where
 mod:Mod X.K X.mg X.Aq
 kind:X.env.scope.kind= .function
 glob:X.env.globals=mainGlobals
 blt:X.env.builtins=builtinsNs
 above:X.s₀.heap.objs.size<=X.env.locals
 inj:∀ x y c,X.env.cells.lookup x=some c->X.env.cells.lookup y=some c->x=y
 has:∀ x,(X.env.kindOf x=some .cell\/X.env.kindOf x=some .free)->∃ c,X.env.cells.lookup x=some c
 cab:∀ x c,X.fn x=true->X.env.cells.lookup x=some c->X.s₀.heap.objs.size<=c
 hd:X.calm=true->X.A.handled=none
 frames:X.A.frames=some X.stack
 stk:X.stack=X.Ap\/(X.stack=X.env::X.Ap/\X.env.frame=some X.env.locals)
 exf:∀ b∈X.ex,b≠X.env.locals/\∀ x c,X.env.cells.lookup x=some c->c≠b
 bs:∀ b o,X.Aq.get? b=some o->X.s₀.heap.get? b=some o/\X.H₀ b=none
 bsz:X.Aq.objs.size<=X.s₀.heap.objs.size
 noex:∀ b o,X.Aq.get? b=some o->b∉X.ex
 exfs:∀ b∈X.ex,b∉X.fs
 funs:X.s₀.heap.FunFrames X.Aq X.Ap
 frf:∀ b∈X.fs,X.H₀ b=none
structure Inv (X:Cx)(kh:Ai)(σ:List (Option V))(H:Hp)(s:Shared):Prop where
 ok:X.Ok
 os:s.os=X.s₀.os
 bare:AllBare s.gens
 Aq:Un X.fs X.ex X.H₀ H X.s₀.heap s.heap
 loc:∃ m,s.heap.Ns X.env.locals m/\∀ (i:Nat) (x:Str) (v:V),X.N[i]?=some x->σ[i]?=some (some v)->Vis X.env.scope x->∃ u,RelV v u/\Look X.env s.heap m x u
 cell:∀ x c,X.env.cells.lookup x=some c->∃ v,s.heap.IsCell c v
 free:H X.env.locals=none
 freeC:∀ x c,X.env.cells.lookup x=some c->H c=none
 pin:∀ p∈X.pn++kh,s.heap.get? p.1=some p.2/\H p.1=none/\p.1≠X.env.locals/\p.1∉X.fs/\∀ v,p.2.data≠ .cell v
 hok:HOk X.prog X.w H s.heap
 len:σ.length=X.N.length
variable {X:Cx}{kh:Ai}{s:Shared}
section
variable {σ:List (Option V)}
theorem Cx.Ok.nofr (ok:X.Ok){b:Addr}{o:Obj}(e:X.Aq.get? b=some o):b∉X.fs:=fun hb=>by
 have:=(ok.funs.mem hb).1;rw[e] at this; cases this
theorem Inv.bs (I:Inv X kh σ H s):∀ b o,X.Aq.get? b=some o->s.heap.get? b=some o/\H b=none:=fun b o e=>
 ⟨I.Aq.keep b o (I.ok.bs b o e).1 (I.ok.bs b o e).2 (I.ok.nofr e) (I.ok.noex b o e),I.Aq.free b o (I.ok.bs b o e).1 (I.ok.bs b o e).2 (I.ok.noex b o e)⟩
theorem Inv.bk (I:Inv X kh σ H s):∀ b o,X.Aq.get? b=some o->s.heap.get? b=some o:=fun b o e=>(I.bs b o e).1
theorem Inv.mod (I:Inv X kh σ H s):Mod X.K X.mg X.Aq:=I.ok.mod
theorem Inv.kIn (I:Inv X kh σ H s):X.K.In s.heap:=I.ok.mod.kin.keeps I.bk
theorem Inv.lt (I:Inv X kh σ H s):X.env.locals<s.heap.objs.size:=let ⟨_,hn,_⟩:=I.loc; hn.lt
theorem Inv.sz (I:Inv X kh σ H s):X.s₀.heap.objs.size<=s.heap.objs.size:=be I.ok.above (dh I.lt)
theorem Inv.nofs (I:Inv X kh σ H s){a:Addr}(h:s.heap.objs.size<=a):a∉X.fs:=fun hb=>by
 obtain⟨_,o,ho,_⟩:=I.ok.funs.mem hb;exact absurd (bg (aC ho) (be I.sz h)) (cj _)
theorem Inv.cne (I:Inv X kh σ H s):∀ x c,X.env.cells.lookup x=some c->c≠X.env.locals:=fun x c e z=>by
 obtain⟨v,o,ho,hd⟩:=I.cell x c e;obtain⟨m,⟨o',es,ep,ho',hd',_⟩,_⟩:=I.loc;rw[z,ho'] at ho; cases ho; rw[hd'] at hd; cases hd
theorem Inv.funs (I:Inv X kh σ H s):s.heap.FunFrames X.Aq X.Ap:=by
 have all:∀ (l:List Env),(∀ b∈frs l,b∈X.fs)->X.s₀.heap.FunFrames X.Aq l->s.heap.FunFrames X.Aq l:=by
  intro l
  induction l with
  | nil=>intro _ _; trivial
  | cons env r ih=>
   intro hs hl;obtain⟨hk,⟨L,o,hf,hn,ho,hd⟩,hr⟩:=hl;have hL:L∈X.fs:=hs L (by unfold frs; rw[dW,hf]; exact az);obtain⟨sl,e⟩:=I.Aq.slot L o ho (I.ok.frf L hL) hL fun z=>I.ok.exfs L z hL;exact⟨hk,⟨L,_,hf,hn,e,hd⟩,ih (fun b hb=>hs b (by unfold frs; rw[dW,hf]; exact aB _ hb)) hr⟩
 exact all X.Ap (fun _ hb=>hb) I.ok.funs
theorem Inv.stack (I:Inv X kh σ H s):s.heap.FunFrames X.Aq X.stack:=by
 rcases I.ok.stk with e | ⟨e,hf⟩
 ·rw[e]; exact I.funs
 ·rw[e];obtain⟨m,hn,_⟩:=I.loc;refine .cons (by rw[I.ok.kind]; decide) hf hn ?_ I.funs;exact Heap.get?_none_of_le (be I.ok.bsz I.ok.above)
theorem Inv.stkSub (I:Inv X kh σ H s):∀ b∈frs X.stack,b∈X.env.locals::X.fs:=fun b hb=>by
 rcases I.ok.stk with e | ⟨e,hf⟩
 ·rw[e] at hb; exact aB _ hb
 ·rw[e] at hb;unfold frs at hb;rw[dW,hf] at hb;exact hb
theorem Inv.stkFree (I:Inv X kh σ H s):∀ b∈frs X.stack,H b=none:=fun b hb=>by
 rcases aG.mp (I.stkSub b hb) with e | hb
 ·rw[e]; exact I.free
 ·obtain⟨_,o,ho,_⟩:=I.ok.funs.mem hb;exact I.Aq.free b o ho (I.ok.frf b hb) fun z=>I.ok.exfs b z hb
theorem Inv.step {g':Array GenState}{t':Nat}{d':Drawn}{ch:List Addr}(I:Inv X kh σ H s)
  (hch:∀ b∈ch,(b∈X.ex\/X.s₀.heap.objs.size<=b)/\b≠X.env.locals/\(∀ x c,X.env.cells.lookup x=some c->c≠b)/\∀ p∈X.pn++kh,p.1≠b)
  (keep:∀ b o,b≠X.env.locals->b∉X.fs->b∉ch->s.heap.get? b=some o->H b=none->h'.get? b=some o)
  (slot:∀ b o,b≠X.env.locals->b∈X.fs->b∉ch->s.heap.get? b=some o->H b=none->∃ sl,h'.get? b=some { o with slots:=sl}) (free:∀ b o,b∉ch->s.heap.get? b=some o->H b=none->H' b=none)
  (there:∀ b o,b∉ch->s.heap.get? b=some o->∃ o',h'.get? b=some o')
  (tups:∀ b xs,H b=some (.tup xs)->H' b=some (.tup xs)) (frzs:∀ b o u,H b=some (.frz o u)->H' b=some (.frz o u)) (tbls:∀ b ps,H b=some (.tbl ps)->∃ more,H' b=some (.tbl (ps++more)))
  (ns:∀ m,s.heap.Ns X.env.locals m->h'.Ns X.env.locals m) (hok:HOk X.prog X.w H' h') (hg:AllBare g'):
  Inv X kh σ H' { s with heap:=h',gens:=g',drawn:=d',toks:=t'} :=by
 have neL:∀ b o,X.s₀.heap.get? b=some o->b≠X.env.locals:=fun b o e=>aU (bg (aC e) I.ok.above);have neC:∀ b o,X.s₀.heap.get? b=some o->b∉X.ex->b∉ch:=fun b o e hx hb=>by
  rcases (hch b hb).1 with z | z
  ·exact hx z
  ·exact absurd (bg (aC e) z) (cj _)
 have cellK:∀ x c,X.env.cells.lookup x=some c->∀ v,s.heap.IsCell c v->h'.IsCell c v:=fun x c e v ⟨o,ho,hd⟩=>by
  have nch:c∉ch:=fun z=>(hch c z).2.2.1 x c e rfl;by_cases hc:c∈X.fs
  ·obtain⟨sl,q⟩:=slot c o (I.cne x c e) hc nch ho (I.freeC x c e);exact⟨_,q,hd⟩
  ·exact⟨o,keep c o (I.cne x c e) hc nch ho (I.freeC x c e),hd⟩
 refine⟨I.ok,I.os,hg,⟨fun b o e n hb hx=>?_,fun b o e n hb hx=>?_,fun b o e n hx=>?_,fun b o e hx=>?_,fun b xs e=>tups b xs (I.Aq.tups b xs e),fun b o xs e=>frzs b o xs (I.Aq.frzs b o xs e),fun b ps e=>?_⟩,?_,fun x c e=>?_,?_,fun x c e=>?_,fun p hp=>?_,hok,I.len⟩
 ·exact keep b o (neL b o e) hb (neC b o e hx) (I.Aq.keep b o e n hb hx) (I.Aq.free b o e n hx)
 ·obtain⟨sl,e1⟩:=I.Aq.slot b o e n hb hx;obtain⟨sl',e2⟩:=slot b _ (neL b o e) hb (neC b o e hx) e1 (I.Aq.free b o e n hx);exact⟨sl',e2⟩
 ·obtain⟨o',e1⟩:=I.Aq.there b o e hx;exact free b o' (neC b o e hx) e1 (I.Aq.free b o e n hx)
 ·obtain⟨o',e1⟩:=I.Aq.there b o e hx;exact there b o' (neC b o e hx) e1
 ·obtain⟨m1,e1⟩:=I.Aq.tbls b ps e;obtain⟨m2,e2⟩:=tbls b _ e1;exact⟨m1++m2,by rw[e2,Array.append_assoc]⟩
 ·obtain⟨m,hn,hl⟩:=I.loc;refine⟨m,ns m hn,fun i x v e1 e2 e3=>?_⟩;obtain⟨u,r,l⟩:=hl i x v e1 e2 e3;refine⟨u,r,?_⟩;rcases l with l | ⟨k,c,e,z⟩
  ·exact .inl l
  ·exact .inr ⟨k,c,e,cellK x c e _ z⟩
 ·obtain⟨v,z⟩:=I.cell x c e;exact⟨v,cellK x c e v z⟩
 ·obtain⟨m,⟨o,_,_,ho,_⟩,_⟩:=I.loc;exact free _ o (fun z=>(hch _ z).2.1 rfl) ho I.free
 ·obtain⟨v,o,ho,hd⟩:=I.cell x c e;exact free c o (fun z=>(hch c z).2.2.1 x c e rfl) ho (I.freeC x c e)
 ·obtain⟨e,n,ne,nf,d⟩:=I.pin p hp;have nch:p.1∉ch:=fun z=>(hch p.1 z).2.2.2 p hp rfl;exact⟨keep p.1 p.2 ne nf nch e n,free p.1 p.2 nch e n,ne,nf,d⟩
theorem Inv.un {t':Nat}(I:Inv X kh σ H s)(u:Un X.fs [] H H' s.heap h')(hok:HOk X.prog X.w H' h'):Inv X kh σ H' { s with heap:=h',toks:=t'} :=by
 obtain⟨m,⟨o,es,ep,ho,r⟩,_⟩:=id I.loc;obtain⟨sl,hL⟩:=u.any ho I.free Ad;exact I.step (g':=s.gens) (d':=s.drawn) (ch:=[]) (fun _ z=>nomatch z) (fun b o _ hb _ e n=>u.keep b o e n hb Ad) (fun b o _ hb _ e n=>u.slot b o e n hb Ad) (fun b o _ e n=>u.free b o e n Ad) (fun b o _ e=>u.there b o e Ad) u.tups u.frzs u.tbls (fun m' hm=>by
  obtain⟨o',es',ep',ho',r'⟩:=hm;rw[ho] at ho'; cases ho';exact⟨_,es',ep',hL,r'⟩) hok I.bare
theorem Inv.call {g':Array GenState}{t':Nat}{d':Drawn}{ch:List Addr}(I:Inv X kh σ H s)(u:Un (frs X.stack) ch H H' s.heap h')(hok:HOk X.prog X.w H' h')(hg:AllBare g')
  (hch:∀ b∈ch,(b∈X.ex\/X.s₀.heap.objs.size<=b)/\b≠X.env.locals/\(∀ x c,X.env.cells.lookup x=some c->c≠b)/\∀ p∈X.pn++kh,p.1≠b):
  Inv X kh σ H' { s with heap:=h',gens:=g',drawn:=d',toks:=t'} :=by
 obtain⟨m,⟨o,es,ep,ho,r⟩,_⟩:=id I.loc;obtain⟨sl,hL⟩:=u.any ho I.free fun z=>(hch _ z).2.1 rfl;exact I.step (ch:=ch) hch (fun b o hL hb hc e n=>u.keep b o e n (fun z=>(aG.mp (I.stkSub b z)).elim hL hb) hc) (fun b o _ _ hc e n=>u.any e n hc) (fun b o hc e n=>u.free b o e n hc) (fun b o hc e=>u.there b o e hc) u.tups u.frzs u.tbls (fun m' hm=>by
  obtain⟨o',es',ep',ho',r'⟩:=hm;rw[ho] at ho'; cases ho';exact⟨_,es',ep',hL,r'⟩) hok hg
theorem Inv.turned {t':Nat}{it:Addr}(I:Inv X kh σ H s)(k:∀ b o,b≠it->s.heap.get? b=some o->h'.get? b=some o)(hn:H it=none)(hL:it≠X.env.locals)
  (h1:it∈X.ex\/X.s₀.heap.objs.size<=it) (h2:∀ x c,X.env.cells.lookup x=some c->c≠it) (h3:∀ p∈X.pn++kh,p.1≠it):Inv X kh σ H { s with heap:=h',toks:=t'} :=by
 have nit:∀ b u,H b=some u->b≠it:=fun b u e z=>by rw[z,hn] at e; cases e
 refine I.step (g':=s.gens) (d':=s.drawn) (ch:=[it]) (fun b hb=>?_) (fun b o _ _ hc e _=>k b o (fun z=>hc (by simp [z])) e) (fun b o _ _ hc e _=>⟨o.slots,k b o (fun z=>hc (by simp [z])) e⟩) (fun _ _ _ _ n=>n)
  (fun b o hc e=>⟨o,k b o (fun z=>hc (by simp [z])) e⟩) (fun _ _ e=>e) (fun _ _ _ e=>e) (fun b ps e=>⟨#[],by rw[e]; simp⟩) (fun m hm=>?_) (fun b u e=>?_) I.bare
 ·have e:b=it:=by simpa using hb
  subst e;exact⟨h1,hL,h2,h3⟩
 ·obtain⟨o,es,ep,ho,r⟩:=hm;exact⟨o,es,ep,k _ o (fw hL) ho,r⟩
 ·refine(I.hok b u e).stay (fun c v hc q=>k c v ?_ q) (fun _ q=>q) fun _ _ q=>q;rcases hc with z | z
  ·rw[z]; exact nit b u e
  ·exact nit c _ z
theorem Inv.tok (I:Inv X kh σ H s)(t:Nat):Inv X kh σ H { s with toks:=t} :=I.un (h':=s.heap) (t':=t) Un.refl I.hok
theorem Inv.kept {t':Nat}(I:Inv X kh σ H s)(k:∀ b u,s.heap.get? b=some u->h'.get? b=some u):Inv X kh σ H { s with heap:=h',toks:=t'} :=I.un (Un.kept k) (I.hok.kept k)
theorem Inv.laid {a:Addr}{o:HO}{t':Nat}(I:Inv X kh σ H s)(k:∀ b u,s.heap.get? b=some u->h'.get? b=some u)(hp:s.heap.objs.size<=a)(new:ObjOk X.prog X.w (upd H a o) h' a o):
  Inv X kh σ (upd H a o) { s with heap:=h',toks:=t'} :=I.un (Un.laid k hp (I.hok.fresh hp)) (I.hok.laid k hp new)
theorem Inv.write {x e:Addr}{o:HO}{t':Nat}(I:Inv X kh σ H s)(mu:Mut (H x))(he:e=x\/H e=some (.own x))(k:∀ b u,b≠e->s.heap.get? b=some u->h'.get? b=some u)(heo:∃ u,h'.get? e=some u)
  (new:ObjOk X.prog X.w (upd H x o) h' x o):Inv X kh σ (upd H x o) { s with heap:=h',toks:=t'} :=I.un (Un.write mu he k heo) (I.hok.write mu he k heo new)
theorem Inv.pins_of {kh':Ai}(I:Inv X kh σ H s)(h:∀ p∈kh',s.heap.get? p.1=some p.2/\H p.1=none/\p.1≠X.env.locals/\p.1∉X.fs/\∀ v,p.2.data≠ .cell v):Inv X kh' σ H s:=
 ⟨I.ok,I.os,I.bare,I.Aq,I.loc,I.cell,I.free,I.freeC,fun p hp=>(aN.mp hp).elim (fun z=>I.pin p (bf _ z)) (h p),I.hok,I.len⟩
theorem jKG {N:Am}(hN:N.Nodup){i j:Nat}{x:Str}(a:N[i]?=some x)(b:N[j]?=some x):i=j:=by
 obtain⟨h1,e1⟩:=ai.mp a;obtain⟨h2,e2⟩:=ai.mp b;exact(List.getElem_inj hN).mp (e1.trans e2.symm)
theorem jHB {M:Model}{A:Around}{E:Ah}{i:Nat}{x:Str}{v:V}{u:Value}{Q:Unit->Shared->Prop}(I:Inv X kh σ H s)(hN:X.N.Nodup)(hi:X.N[i]?=some x)(hx:Loc X.env.scope x)(r:RelV v u)
  (h:∀ s',Inv X kh (σ.set i (some v)) H s'->(∃ a,Heap.SameBut a s.heap s'.heap/\(a=X.env.locals\/X.env.cells.lookup x=some a))->Q () s') (hf:X.fn x=true\/X.env.scope.names.lookup x=some .local:=by first | exact .inl rfl | exact .inr rfl | assumption):wpAny M A (storeName X.env x u) Q E s:=by
 obtain⟨m,hn,hl⟩:=id I.loc;have hcls:(X.env.scope.kind== .class || (X.env.scope.kind== .module&&X.env.locals != X.env.globals))=false:=by rw[I.ok.kind]; rfl
 have hiσ:i<σ.length:=by rw[I.len]; exact(ai.mp hi).1
 have cne:=I.cne;have tracked:∀ {a:Addr}{h':Heap},(∃ o,s.heap.get? a=some o/\H a=none)->Heap.SameBut a s.heap h'->HOk X.prog X.w H h':=fun {a h'} ha hs b ob e=>by
  obtain⟨_,_,hfree⟩:=ha;refine(I.hok b ob e).stay (fun c w' hc q=>(hs.2 c ?_).trans q) (fun _ q=>q) fun _ _ q=>q;rintro rfl;rcases hc with rfl | hc
  ·rw[hfree] at e; cases e
  ·rw[hfree] at hc; cases hc
 rcases hx with hk | hk
 ·refine wpAny_storeName_local hk hn (fun h' hn' hs=>?_) hcls;obtain⟨oL,_,_,hoL,_⟩:=id hn;refine h _ ⟨I.ok,I.os,I.bare,⟨fun b o e n hb hx=>?_,fun b o e n hb hx=>?_,I.Aq.free,fun b o e hx=>?_,I.Aq.tups,I.Aq.frzs,I.Aq.tbls⟩,⟨_,hn',fun j y v' e1 e2 e3=>?_⟩,fun y c e=>?_,I.free,I.freeC,fun p hp=>?_,tracked ⟨oL,hoL,I.free⟩ hs,by simpa using I.len⟩ ⟨_,hs, .inl rfl⟩
  ·exact(hs.2 b (aU (bg (aC e) I.ok.above))).trans (I.Aq.keep b o e n hb hx)
  ·obtain⟨sl,e1⟩:=I.Aq.slot b o e n hb hx;exact⟨sl,(hs.2 b (aU (bg (aC e) I.ok.above))).trans e1⟩
  ·obtain⟨o',e1⟩:=I.Aq.there b o e hx;exact⟨o',(hs.2 b (aU (bg (aC e) I.ok.above))).trans e1⟩
  ·by_cases hj:j=i
   ·subst hj;rw[hi] at e1; cases e1;rw[iM hiσ] at e2;cases e2;exact⟨u,r, .inl ⟨hk,Ad⟩⟩
   ·rw[ja (fw hj)] at e2;obtain⟨u',r',q⟩:=hl j y v' e1 e2 e3;refine⟨u',r',?_⟩;rcases q with ⟨k,e⟩ | ⟨k,c,e,z⟩
    ·refine .inl ⟨k,?_⟩;have:y≠x:=fun e=>hj (jKG hN e1 (e ▸ hi));simp [this,e]
    ·exact .inr ⟨k,c,e,z.sameBut hs (cne y c e)⟩
  ·obtain⟨w',z⟩:=I.cell y c e;exact⟨w',z.sameBut hs (cne y c e)⟩
  ·obtain⟨e,n,ne,nf,d⟩:=I.pin p hp;exact⟨(hs.2 p.1 ne).trans e,n,ne,nf,d⟩
 ·have hfn:X.fn x=true:=by
   rcases hf with z | z
   ·exact z
   ·rw[z] at hk; cases hk
  obtain⟨c,hc⟩:=I.ok.has x (.inl hk);obtain⟨w',z⟩:=I.cell x c hc;refine wpAny_storeName_cell I.ok.kind hk hc z (fun h' hc' hs=>?_);obtain⟨oc,hoc,hocd⟩:=id z;refine h { s with heap:=h'} ⟨I.ok,I.os,I.bare,⟨fun b o e n hb hx=>?_,fun b o e n hb hx=>?_,I.Aq.free,fun b o e hx=>?_,I.Aq.tups,I.Aq.frzs,I.Aq.tbls⟩,⟨m,hn.sameBut hs (fw (cne x c hc)),fun j y v' e1 e2 e3=>?_⟩,fun y c' e=>?_,I.free,I.freeC,fun p hp=>?_,tracked ⟨oc,hoc,I.freeC x c hc⟩ hs,by simpa using I.len⟩ ⟨c,hs, .inr hc⟩
  ·exact(hs.2 b (aU (bg (aC e) (I.ok.cab x c hfn hc)))).trans (I.Aq.keep b o e n hb hx)
  ·obtain⟨sl,e1⟩:=I.Aq.slot b o e n hb hx;exact⟨sl,(hs.2 b (aU (bg (aC e) (I.ok.cab x c hfn hc)))).trans e1⟩
  ·obtain⟨o',e1⟩:=I.Aq.there b o e hx;exact⟨o',(hs.2 b (aU (bg (aC e) (I.ok.cab x c hfn hc)))).trans e1⟩
  ·by_cases hj:j=i
   ·subst hj;rw[hi] at e1; cases e1;rw[iM hiσ] at e2;cases e2;exact⟨u,r, .inr ⟨.inl hk,c,hc,hc'⟩⟩
   ·rw[ja (fw hj)] at e2;obtain⟨u',r',q⟩:=hl j y v' e1 e2 e3;refine⟨u',r',?_⟩;rcases q with q | ⟨k,c',e,z'⟩
    ·exact .inl q
    ·refine .inr ⟨k,c',e,z'.sameBut hs ?_⟩;rintro rfl;exact hj (jKG hN e1 (I.ok.inj _ _ _ e hc ▸ hi))
  ·by_cases hcc:c'=c
   ·subst hcc; exact⟨_,hc'⟩
   ·obtain⟨w2,z2⟩:=I.cell y c' e;exact⟨w2,z2.sameBut hs hcc⟩
  ·obtain⟨e,n,ne,nf,d⟩:=I.pin p hp;refine⟨(hs.2 p.1 ?_).trans e,n,ne,nf,d⟩;intro q;rw[q,hoc] at e;have q':oc=p.2:=bq e;exact d w' (by rw[<- q']; exact hocd)
theorem jDV {M:Model}{A:Around}{E:Ah}{i:Nat}{x:Str}{v:V}{u:Value}{Q:Unit->Shared->Prop}(I:Inv X kh σ H s)(hN:X.N.Nodup)(hi:X.N[i]?=some x)(hx:Loc X.env.scope x)(r:RelV v u)
  (h:∀ s',Inv X kh (σ.set i (some v)) H s'->Q () s') (hf:X.fn x=true\/X.env.scope.names.lookup x=some .local:=by first | exact .inl rfl | exact .inr rfl | assumption):wpAny M A (storeName X.env x u) Q E s:=
 jHB I hN hi hx r (fun s' I' _=>h s' I') hf
theorem Inv.call' {s':Shared}{ch:List Addr}(I:Inv X kh σ H s)(ho:s'.os=s.os)(u:Un (frs X.stack) ch H H' s.heap s'.heap)(hok:HOk X.prog X.w H' s'.heap)(hg:AllBare s'.gens)
  (hch:∀ b∈ch,(b∈X.ex\/X.s₀.heap.objs.size<=b)/\b≠X.env.locals/\(∀ x c,X.env.cells.lookup x=some c->c≠b)/\∀ p∈X.pn++kh,p.1≠b):Inv X kh σ H' s':=by
 obtain⟨h',g',d',t',o'⟩:=s';have e:o'=s.os:=ho;subst e;exact I.call (g':=g') (t':=t') (d':=d') u hok hg hch
end
abbrev XK:=Value->Option Addr->Hp->Prop
abbrev St:=List (Option V)
abbrev VK:=V->Hp->Prop
abbrev TE:=St->Hp->VK->Prop
abbrev TT:=St->Hp->(Bool->Hp->Prop)->Prop
abbrev TA:=St->Hp->(List V->Hp->Prop)->Prop
structure Ends where
 nx:St->Hp->Prop
 rt:VK
 bk:St->Hp->Prop:=fun _ _=>False
 ct:St->Hp->Prop:=fun _ _=>False
abbrev TS:=Ends->St->Hp->Prop
def EP (X:Cx)(kh:Ai)(σ:St)(Q:VK)(u:Value)(s':Shared):Prop:=∃ v H',Inv X kh σ H' s'/\RelV v u/\Q v H'
def TP (X:Cx)(kh:Ai)(σ:St)(Q:Bool->Hp->Prop)(b:Bool)(s':Shared):Prop:=∃ H',Inv X kh σ H' s'/\Q b H'
def AP (X:Cx)(kh:Ai)(σ:St)(Q:List V->Hp->Prop)(us:Al)(s':Shared):Prop:=∃ vs H',Inv X kh σ H' s'/\Vals vs us/\Q vs H'
def SP (X:Cx)(kh:Ai)(D:Ends)(f:Flow)(s':Shared):Prop:=
 match f with
 | .next=>∃ σ' H',Inv X kh σ' H' s'/\D.nx σ' H'
 | .brk=>∃ σ' H',Inv X kh σ' H' s'/\D.bk σ' H'
 | .cont=>∃ σ' H',Inv X kh σ' H' s'/\D.ct σ' H'
 | .ret u=>∃ v σ' H',Inv X kh σ' H' s'/\RelV v u/\D.rt v H'
def PE (X:Cx)(e:Expr)(t:TE):Prop:=
 ∀ (kh:Ai) (s:Shared) (σ:St) (H:Hp) (Q:VK),Inv X kh σ H s->t σ H Q->wpAny (model X.prog X.w) X.A (eval e X.env) (EP X kh σ Q) X.xe s
def PT (X:Cx)(e:Expr)(t:TT):Prop:=
 ∀ (kh:Ai) (s:Shared) (σ:St) (H:Hp) (Q:Bool->Hp->Prop),Inv X kh σ H s->t σ H Q->wpAny (model X.prog X.w) X.A (isTrue e X.env (eval e X.env)) (TP X kh σ Q) X.xe s
def PW (X:Cx)(e:Expr)(t:TT):Prop:=
 ∀ (whole:Sem Value) (kh:Ai) (s:Shared) (σ:St) (H:Hp) (Q:Bool->Hp->Prop),Inv X kh σ H s->t σ H Q->wpAny (model X.prog X.w) X.A (isTrue e X.env whole) (TP X kh σ Q) X.xe s
theorem PW.pt {X:Cx}{e:Expr}{t:TT}(h:PW X e t):PT X e t:=h _
def PA (X:Cx)(es:List Expr)(t:TA):Prop:=
 ∀ (pos:Pos) (kh:Ai) (s:Shared) (σ:St) (H:Hp) (Q:List V->Hp->Prop),Inv X kh σ H s->t σ H Q->wpAny (model X.prog X.w) X.A (spliced (backTo pos (starEach es X.env))) (AP X kh σ Q) X.xe s
def PS (X:Cx)(st:Stmt)(t:TS):Prop:=
 ∀ (kh:Ai) (s:Shared) (σ:St) (H:Hp) (D:Ends),Inv X kh σ H s->t D σ H->wpAny (model X.prog X.w) X.A (exec st X.env) (SP X kh D) X.xe s
def PSs (X:Cx)(st:List Stmt)(t:TS):Prop:=
 ∀ (kh:Ai) (s:Shared) (σ:St) (H:Hp) (D:Ends),Inv X kh σ H s->t D σ H->wpAny (model X.prog X.w) X.A (execs st X.env) (SP X kh D) X.xe s
theorem kn {α:Type}{t:Sem α}{Q Q':α->Shared->Prop}{M:Model}{A:Around}{E:Ah}{s:Shared}(h:wpAny M A t Q E s)(hQ:∀ a s,Q a s->Q' a s):wpAny M A t Q' E s:=cy h hQ fun _ _ x=>x
variable {b:Expr}{ta tb:TE}{pos:Pos}
section
def tVar (i:Nat):TE:=fun σ H Q=>∃ v,σ[i]?=some (some v)/\Q v H
def tC (v:V):TE:=fun _ H Q=>Q v H
theorem jHK {i:Nat}{x:Str}{pos:Pos}(hN:X.N[i]?=some x)(hv:Vis X.env.scope x)(hd:(x==("__debug__" :Str))=false:=by decide)(hcd:(x==("__classdict__" :Str))=false:=by decide):PE X (.Name x pos) (tVar i):=by
 intro kh s σ H Q I h;obtain⟨v,e,h⟩:=h;obtain⟨m,hn,hl⟩:=I.loc;obtain⟨u,r,l⟩:=hl i x v hN e hv;have fin:EP X kh σ Q u s:=⟨v,H,I,r,h⟩;rcases l with ⟨hk,hm⟩ | ⟨hk,c,hc,hcell⟩
 ·exact wpAny_Name (wpAny_loadName_local I.ok.kind hk hn hm fin) hd
 ·rcases hk with hk | hk
  ·exact wpAny_Name (wpAny_loadName_cell I.ok.kind hk hc hcell fin) hd
  ·exact wpAny_Name (wpAny_loadName_free I.ok.kind hk hc hcell fin hcd) hd
theorem jX {i j pos} :PE X (.Constant (.int i) j pos) (tC (.int i)):=fun _ _ _ H _ I h=>wpAny_Constant_int ⟨.int i,H,I.tok _,⟨_,rfl⟩,h⟩
theorem pe_bl {b j pos} :PE X (.Constant (.bool b) j pos) (tC (.bl b)):=fun _ _ _ H _ I h=>Constant_bool ⟨.bl b,H,I,rfl,h⟩
theorem jWN {j pos} :PE X (.Constant .none j pos) (tC .non):=fun _ _ _ H _ I h=>Constant_none ⟨.non,H,I,rfl,h⟩
def Gl (X:Cx)(x:Str):Prop:=X.env.kindOf x=some .globalImplicit
theorem jOC {E:Ah}{kh:Ai}{s:Shared}{σ:St}{H:Hp}{x:Str}{u:Value}{pos:Pos}{Q:Ah}(I:Inv X kh σ H s)(hg:Gl X x)(hm:X.mg x=some u)(h:Q u s)
  (hd:(x==("__debug__" :Str))=false:=by decide):wpAny (model X.prog X.w) X.A (eval (.Name x pos) X.env) Q E s:=
 gW I.ok.kind hg (Calls.loadGlobal_global (by rw[I.ok.glob]; exact I.mod.glob.keeps I.bk) hm h) hd
theorem jEO {E:Ah}{kh:Ai}{s:Shared}{σ:St}{H:Hp}{x:Str}{u:Value}{pos:Pos}{Q:Ah}(I:Inv X kh σ H s)(hg:Gl X x)(hm:X.mg x=none)(hv:bootBuiltins x=some u)(h:Q u s)
  (hn:x≠ "__name__" :=by decide) (hd:(x==("__debug__" :Str))=false:=by decide):wpAny (model X.prog X.w) X.A (eval (.Name x pos) X.env) Q E s:=by
 obtain⟨mb,h1,h2⟩:=I.mod.blt;exact gW I.ok.kind hg (Calls.loadGlobal_builtin (by rw[I.ok.glob]; exact I.mod.glob.keeps I.bk) hm (by rw[I.ok.blt]; exact h1.keeps I.bk) ((h2 x hn).trans hv) h) hd
theorem jUG {x:Str}{v:V}{u:Value}{pos:Pos}(hg:Gl X x)(hm:X.mg x=none)(hv:bootBuiltins x=some u)(r:RelV v u)(hn:x≠ "__name__" :=by decide)(hd:(x==("__debug__" :Str))=false:=by decide):PE X (.Name x pos) (tC v):=
 fun _ _ _ H _ I h=>jEO I hg hm hv ⟨v,H,I,r,h⟩ hn hd
variable {a:Expr}
def PC (X:Cx)(op:CmpOp)(a b:Expr)(t:TE):Prop:=
 ∀ (kh:Ai) (s:Shared) (σ:St) (H:Hp) (Q:VK),Inv X kh σ H s->t σ H Q->
  wpAny (model X.prog X.w) X.A (eval a X.env) (fun v s₁=>wpAny (model X.prog X.w) X.A (eval b X.env) (fun u s₂=>wpAny (model X.prog X.w) X.A (compareOp op v u) (EP X kh σ Q) X.xe s₂) X.xe s₁) X.xe s
def tB (t:TE):TT:=fun σ H Q=>t σ H fun x H1=>∃ c,x= .bl c/\Q c H1
theorem jSS {op:CmpOp}{t:TE}(h:PC X op a b t)(h1:behindInMarks op b=false:=by first | exact nobehind _ Ac Ac | rfl):PT X (.Compare a [op] [b] pos) (tB t):=by
 intro kh s σ H Q I hw;refine wpAny_isTrue_Compare1 (kn (h kh s σ H _ I hw) fun v s1 h1=>kn h1 fun u s2 h2=>kn h2 fun c s3 ⟨x,H1,I1,r1,q1⟩=>?_) h1;obtain⟨d,rfl,q⟩:=q1;cases r1;exact dw ⟨H1,I1,q⟩
theorem jWD {e:Expr}{t:TE}(h:PE X e t)(he:∀ whole,isTrue e X.env whole=(do let v <- whole; standAt e.pos; holding [v] (truthy v)):=by intro _; rfl):PT X e (tB t):=by
 intro kh s σ H Q I hw;refine isTrue_plain (kn (h kh s σ H _ I hw) fun v s1 ⟨x,H1,I1,r1,q1⟩=>?_) (he _);obtain⟨d,rfl,q⟩:=q1;cases r1;exact dw ⟨H1,I1,q⟩
variable {tA tB':TT}{rest:List Expr}
def tAnd (t u:TT):TT:=fun σ H Q=>t σ H fun c H1=>if c=true then u σ H1 Q else Q false H1
def tOr (t u:TT):TT:=fun σ H Q=>t σ H fun c H1=>if c=true then Q true H1 else u σ H1 Q
def tNot (t:TT):TT:=fun σ H Q=>t σ H fun c H1=>Q (!c) H1
theorem jTV (ha:PT X a tA):PW X (.BoolOp .And [a] pos) tA:=by
 intro wh kh s σ H Q I h;refine isTrue_and (kn (ha kh s σ H Q I h) fun c s1 e=>?_);cases c with
 | true=>exact isTrue_and_nil e
 | false=>exact e
theorem jWB (ha:PT X a tA):PW X (.BoolOp .Or [a] pos) tA:=by
 intro wh kh s σ H Q I h;refine isTrue_or (kn (ha kh s σ H Q I h) fun c s1 e=>?_);cases c with
 | false=>exact isTrue_or_nil e
 | true=>exact e
theorem jWC (ha:PT X a tA)(hb:PW X (.BoolOp .And (b::rest) pos) tB'):PW X (.BoolOp .And (a::b::rest) pos) (tAnd tA tB'):=by
 intro wh kh s σ H Q I h;refine isTrue_and (kn (ha kh s σ H _ I h) fun c s1 ⟨H1,I1,q1⟩=>?_);cases c with
 | true=>exact hb wh kh s1 σ H1 Q I1 q1
 | false=>exact⟨H1,I1,q1⟩
theorem pw_or (ha:PT X a tA)(hb:PW X (.BoolOp .Or (b::rest) pos) tB'):PW X (.BoolOp .Or (a::b::rest) pos) (tOr tA tB'):=by
 intro wh kh s σ H Q I h;refine isTrue_or (kn (ha kh s σ H _ I h) fun c s1 ⟨H1,I1,q1⟩=>?_);cases c with
 | true=>exact⟨H1,I1,q1⟩
 | false=>exact hb wh kh s1 σ H1 Q I1 q1
theorem jWE (ha:PT X a tA):PT X (.UnaryOp .Not a pos) (tNot tA):=by
 intro kh s σ H Q I h;exact isTrue_not (ha kh s σ H (fun c H1=>Q (!c) H1) I h)
def tAndV (ta tb:TE):TE:=fun σ H Q=>ta σ H fun x H1=>∃ c,x= .bl c/\if c=true then tb σ H1 Q else Q (.bl false) H1
def tOrV (ta tb:TE):TE:=fun σ H Q=>ta σ H fun x H1=>∃ c,x= .bl c/\if c=true then Q (.bl true) H1 else tb σ H1 Q
def tNotV (ta:TE):TE:=fun σ H Q=>ta σ H fun x H1=>∃ c,x= .bl c/\Q (.bl (!c)) H1
theorem jWL {op}{t:TE}(h:PE X a t):PE X (.BoolOp op [a] pos) t:=fun kh s σ H Q I hw=>BoolOp_one (h kh s σ H Q I hw)
theorem jWQ (ha:PE X a ta)(hb:PE X (.BoolOp .And (b::rest) pos) tb):PE X (.BoolOp .And (a::b::rest) pos) (tAndV ta tb):=by
 intro kh s σ H Q I h;refine BoolOp_and (kn (ha kh s σ H _ I h) fun v s1 ⟨x,H1,I1,r1,q1⟩=>?_);obtain⟨c,rfl,q1⟩:=q1;cases r1;refine dw ?_;cases c with
 | true=>exact hb kh s1 σ H1 Q I1 q1
 | false=>exact⟨.bl false,H1,I1,rfl,q1⟩
theorem pe_or (ha:PE X a ta)(hb:PE X (.BoolOp .Or (b::rest) pos) tb):PE X (.BoolOp .Or (a::b::rest) pos) (tOrV ta tb):=by
 intro kh s σ H Q I h;refine BoolOp_or (kn (ha kh s σ H _ I h) fun v s1 ⟨x,H1,I1,r1,q1⟩=>?_);obtain⟨c,rfl,q1⟩:=q1;cases r1;refine dw ?_;cases c with
 | false=>exact hb kh s1 σ H1 Q I1 q1
 | true=>exact⟨.bl true,H1,I1,rfl,q1⟩
theorem jWM (ha:PE X a ta):PE X (.UnaryOp .Not a pos) (tNotV ta):=by
 intro kh s σ H Q I h;refine UnaryOp_ (kn (ha kh s σ H _ I h) fun v s1 ⟨x,H1,I1,r1,q1⟩=>?_);obtain⟨c,rfl,q1⟩:=q1;cases r1;exact not_of (dw ⟨.bl (!c),H1,I1,rfl,q1⟩)
def tIf (t:TT)(ta tb:TE):TE:=fun σ H Q=>t σ H fun c H1=>if c=true then ta σ H1 Q else tb σ H1 Q
theorem jQO {c:Expr}(hc:PT X c tA)(ha:PE X a ta)(hb:PE X b tb):PE X (.IfExp c a b pos) (tIf tA ta tb):=by
 intro kh s σ H Q I h;refine wpAny_IfExp (kn (hc kh s σ H _ I h) fun d s1 ⟨H1,I1,q1⟩=>?_);cases d with
 | true=>exact ha kh s1 σ H1 Q I1 q1
 | false=>exact hb kh s1 σ H1 Q I1 q1
end
def SqL (K:W.Frag)(H:Hp)(a:Addr)(xs:List V):Prop:=
 Rd H a (.lst xs)\/
  ∃ (o:Obj) (its:An) (n:Nat),K.lookup a=some o/\o.cls= .type "list" /\o.dict=none/\o.data= .seq its n/\its.size<=sizeLine/\Vals xs its.toList
def SqT (K:W.Frag)(H:Hp)(a:Addr)(xs:List V):Prop:=
 Rd H a (.tup xs)\/
  ∃ (o:Obj) (its:An) (n:Nat),K.lookup a=some o/\o.cls= .type "tuple" /\o.data= .seq its n/\its.size<=sizeLine/\Vals xs its.toList
def absV:Value->Option V
 | .none=>some .non
 | .bool b=>some (.bl b)
 | .int i _=>some (.int i)
 | .str x _=>some (.str x)
 | .bytes b _=>some (.byt b)
 | .float b _=>some (.flt b)
 | .ref a=>some (.ref a)
 | .type n=>some (.ty n)
 | _=>none
theorem RelV.abs {x:V}{u:Value}(r:RelV x u):absV u=some x:=by
 cases x with
 | non=>cases r; rfl
 | bl _=>cases r; rfl
 | int _=>obtain⟨t,rfl⟩:=r; rfl
 | str _=>obtain⟨t,rfl⟩:=r; rfl
 | byt _=>obtain⟨t,rfl⟩:=r; rfl
 | flt _=>obtain⟨t,rfl⟩:=r; rfl
 | ref _=>cases r; rfl
 | ty _=>cases r; rfl
theorem RelV.inj {x y:V}{u:Value}(r:RelV x u)(q:RelV y u):x=y:=bq (r.abs.symm.trans q.abs)
theorem Vals.inj:∀ {xs ys:List V}{us:Al},Vals xs us->Vals ys us->xs=ys
 | _,_,_, .nil, .nil=>rfl
 | _,_,_, .cons r t, .cons r' t'=>by rw[r.inj r',Vals.inj t t']
section
variable {σ:St}{xs ys:List V}
theorem SqL.of {K:W.Frag}(h:H a=some (.lst xs)):SqL K H a xs:= .inl (.inl h)
theorem SqT.of {K:W.Frag}(h:H a=some (.tup xs)):SqT K H a xs:= .inl (.inl h)
theorem Inv.list (I:Inv X kh σ H s)(h:SqL X.K H a xs):∃ its:Al,Vals xs its/\PlainL s.heap a its.toArray/\xs.length<=sizeLine:=by
 rcases h with h | ⟨o,its,n,hk,hc,hd,hs,hz,r⟩
 ·obtain⟨z,its,n,r,e⟩:=h.ok I.hok;exact⟨its,r,⟨_,n,e,rfl,rfl,rfl⟩,z⟩
 ·refine⟨its.toList,r,⟨o,n,I.kIn a o hk,hc,hd,by simpa using hs⟩,?_⟩;have e:=r.length;simp only [aR] at e;lia
theorem Inv.tuple (I:Inv X kh σ H s)(h:SqT X.K H a xs):∃ its:Al,Vals xs its/\IsTup s.heap a its.toArray/\xs.length<=sizeLine:=by
 rcases h with h | ⟨o,its,n,hk,hc,hs,hz,r⟩
 ·obtain⟨z,its,r,p⟩:=h.ok I.hok;exact⟨its,r,p.isTup,z⟩
 ·refine⟨its.toList,r,⟨o,I.kIn a o hk,hc,n,by simpa using hs⟩,?_⟩;have e:=r.length;simp only [aR] at e;lia
theorem Inv.list_inj (I:Inv X kh σ H s)(h:SqL X.K H a xs)(h':SqL X.K H a ys):xs=ys:=by
 obtain⟨its,r,⟨o,n,e,_,_,d⟩,_⟩:=I.list h;obtain⟨its',r',⟨o',n',e',_,_,d'⟩,_⟩:=I.list h';rw[e] at e'; cases e';rw[d] at d';injection d' with d1 _;have:its=its':=by simpa using bL Array.toList d1
 subst this;exact r.inj r'
theorem Inv.tuple_inj (I:Inv X kh σ H s)(h:SqT X.K H a xs)(h':SqT X.K H a ys):xs=ys:=by
 obtain⟨its,r,⟨o,e,_,n,d⟩,_⟩:=I.tuple h;obtain⟨its',r',⟨o',e',_,n',d'⟩,_⟩:=I.tuple h';rw[e] at e'; cases e';rw[d] at d';injection d' with d1 _;have:its=its':=by simpa using bL Array.toList d1
 subst this;exact r.inj r'
end
abbrev Cx.wish (X:Cx)(E:Ah):Cx:= { X with xe:=E}
abbrev Cx.nox (X:Cx):Cx:=X.wish fun _ _=>False
theorem Cx.Ok.wish {X:Cx}(ok:X.Ok)(E:Ah):(X.wish E).Ok:=
 ⟨ok.mod,ok.kind,ok.glob,ok.blt,ok.above,ok.inj,ok.has,ok.cab,ok.hd,ok.frames,ok.stk,ok.exf,ok.bs,ok.bsz,ok.noex,ok.exfs,ok.funs,ok.frf⟩
theorem Cx.Ok.unwish {X:Cx}{E:Ah}(ok:(X.wish E).Ok):X.Ok:=
 ⟨ok.mod,ok.kind,ok.glob,ok.blt,ok.above,ok.inj,ok.has,ok.cab,ok.hd,ok.frames,ok.stk,ok.exf,ok.bs,ok.bsz,ok.noex,ok.exfs,ok.funs,ok.frf⟩
variable {E:Ah}
section
variable {σ:St}
theorem Inv.wish (I:Inv X kh σ H s)(E:Ah):Inv (X.wish E) kh σ H s:=⟨I.ok.wish E,I.os,I.bare,I.Aq,I.loc,I.cell,I.free,I.freeC,I.pin,I.hok,I.len⟩
theorem Inv.unwish (I:Inv (X.wish E) kh σ H s):Inv X kh σ H s:=⟨I.ok.unwish,I.os,I.bare,I.Aq,I.loc,I.cell,I.free,I.freeC,I.pin,I.hok,I.len⟩
theorem SP.unwish {D:Ends}{f:Flow}{s':Shared}(h:SP (X.wish E) kh D f s'):SP X kh D f s':=by
 cases f with
 | next=>obtain⟨σ',H',I,q⟩:=h; exact⟨σ',H',I.unwish,q⟩
 | brk=>obtain⟨σ',H',I,q⟩:=h; exact⟨σ',H',I.unwish,q⟩
 | cont=>obtain⟨σ',H',I,q⟩:=h; exact⟨σ',H',I.unwish,q⟩
 | ret u=>obtain⟨v,σ',H',I,r,q⟩:=h; exact⟨v,σ',H',I.unwish,r,q⟩
theorem PSs.nox {st:List Stmt}{t:TS}(h:PSs X.nox st t):PSs X st t:=fun kh s σ H D I hw=>
 cy (h kh s σ H D (I.wish _) hw) (fun _ _ q=>q.unwish) fun _ _ z=>False.elim z
end
variable {e:Expr}{te:TE}
section
variable {st:Stmt}{rest:List Stmt}{t u:TS}
def tNext:TS:=fun D σ H=>D.nx σ H
def tSeq (t u:TS):TS:=fun D σ H=>t { D with nx:=u D} σ H
theorem jG5:PSs X [] tNext:=fun _ _ σ H _ I h=>gL ⟨σ,H,I,h⟩
theorem y9 (h1:PS X st t)(h2:PSs X rest u):PSs X (st::rest) (tSeq t u):=by
 intro kh s σ H D I h;refine wpAny_execs_cons (kn (h1 kh s σ H { D with nx:=u D} I h) fun f s1 q=>?_);cases f with
 | next=>
  obtain⟨σ',H',I',q⟩:=q;exact h2 kh s1 σ' H' D I' q
 | ret v=>exact q
 | brk=>exact q
 | cont=>exact q
theorem jB4 (h1:PS X st t):PSs X [st] t:=by
 intro kh s σ H D I h;refine wpAny_execs_cons (kn (h1 kh s σ H D I h) fun f s1 q=>?_);cases f with
 | next=>exact gL q
 | ret v=>exact q
 | brk=>exact q
 | cont=>exact q
theorem Inv.quiet {kh:Ai}{σ:St}{H:Hp}{s:Shared}(I:Inv X kh σ H s):interactive X.env=false:=by simp [interactive,I.ok.kind]
def tDrop (te:TE):TS:=fun D σ H=>te σ H fun _ H1=>D.nx σ H1
theorem jTY (he:PE X e te)(hs:swapsWith e none pos.line X.env=pure false:=by rfl):PS X (.Expr e pos) (tDrop te):=by
 intro kh s σ H D I h;exact wpAny_Expr_any (kn (he kh s σ H _ I h) fun v s1 ⟨x,H1,I1,r1,q1⟩=>⟨σ,H1,I1,q1⟩) I.quiet hs
def tRet (te:TE):TS:=fun D σ H=>te σ H D.rt
theorem jDP (he:PE X e te):PS X (.Return (some e) pos) (tRet te):=by
 intro kh s σ H D I h;exact wpAny_Return_some (kn (he kh s σ H _ I h) fun v s1 ⟨x,H1,I1,r1,q1⟩=>⟨x,σ,H1,I1,r1,q1⟩)
def tIfS (c:TT)(t u:TS):TS:=fun D σ H=>c σ H fun b H1=>if b=true then t D σ H1 else u D σ H1
theorem ps_if {c:Expr}{a b:List Stmt}{tc:TT}(hc:PT X c tc)(ha:PSs X a t)(hb:PSs X b u):PS X (.If c a b pos) (tIfS tc t u):=by
 intro kh s σ H D I h;refine wpAny_If (kn (hc kh s σ H _ I h) fun d s1 ⟨H1,I1,q1⟩=>?_);cases d with
 | true=>exact ha kh s1 σ H1 D I1 q1
 | false=>exact hb kh s1 σ H1 D I1 q1
end
abbrev TG:=V->St->Hp->(St->Hp->Prop)->Prop
abbrev TGs:=List V->St->Hp->(St->Hp->Prop)->Prop
def PG (X:Cx)(target:Expr)(t:TG):Prop:=
 ∀ (kh:Ai) (s:Shared) (σ:St) (H:Hp) (v:V) (u:Value) (Q:St->Hp->Prop),Inv X kh σ H s->RelV v u->t v σ H Q->
  wpAny (model X.prog X.w) X.A (assign target X.env u) (fun _ s'=>∃ σ' H',Inv X kh σ' H' s'/\Q σ' H') X.xe s
def PGs (X:Cx)(ts:List Expr)(t:TGs):Prop:=
 ∀ (kh:Ai) (s:Shared) (σ:St) (H:Hp) (vs:List V) (us:Al) (Q:St->Hp->Prop),Inv X kh σ H s->Vals vs us->t vs σ H Q->
  wpAny (model X.prog X.w) X.A (assignInOrder ((assignEach ts X.env).map (·.2)) us) (fun _ s'=>∃ σ' H',Inv X kh σ' H' s'/\Q σ' H') X.xe s
abbrev TSet:=V->V->V->Hp->(Hp->Prop)->Prop
def PSet (X:Cx)(t:TSet):Prop:=
 ∀ (kh:Ai) (s:Shared) (σ:St) (H:Hp) (o i v:V) (ov iv u:Value) (Q:Hp->Prop),Inv X kh σ H s->RelV o ov->RelV i iv->RelV v u->t o i v H Q->
  wpAny (model X.prog X.w) X.A (setItem ov iv u) (fun _ s'=>∃ H',Inv X kh σ H' s'/\Q H') X.xe s
def kJ (i:Nat):TG:=fun v σ H Q=>Q (σ.set i (some v)) H
theorem jG7 {i:Nat}{x:Str}(hN:X.N.Nodup)(hi:X.N[i]?=some x)(hx:Loc X.env.scope x)(hf:X.fn x=true\/X.env.scope.names.lookup x=some .local:=by first | exact .inl rfl | exact .inr rfl | assumption):PG X (.Name x pos) (kJ i):=by
 intro kh s σ H v u Q I r h;exact wpAny_assign_Name (jDV I hN hi hx r (fun s' I'=>⟨_,H,I',h⟩) hf)
def gNil:TGs:=fun vs σ H Q=>vs=[]/\Q σ H
def gCons (t:TG)(u:TGs):TGs:=fun vs σ H Q=>∃ v r,vs=v::r/\t v σ H fun σ' H'=>u r σ' H' Q
theorem jU8:PGs X [] gNil:=by
 intro kh s σ H vs us Q I r h;obtain⟨e,h⟩:=h;subst e;cases r;exact assignInOrder_nil ⟨σ,H,I,h⟩
theorem jQL {e:Expr}{es:List Expr}{t:TG}{u:TGs}(h1:PG X e t)(h2:PGs X es u)
  (hs:(assignEach (e::es) X.env).map (·.2)=assign e X.env::(assignEach es X.env).map (·.2):=by rfl):PGs X (e::es) (gCons t u):=by
 intro kh s σ H vs us Q I r h;obtain⟨v,vr,e1,h⟩:=h;subst e1;cases r with
 | cons r rr=>
  rw[hs];refine assignInOrder_cons (kn (h1 kh s σ H _ _ _ I r h) fun _ s1 ⟨σ1,H1,I1,q1⟩=>?_);exact h2 kh s1 σ1 H1 _ _ Q I1 rr q1
def gTup (K:W.Frag)(n:Nat)(t:TGs):TG:=fun v σ H Q=>∃ a xs,v= .ref a/\SqT K H a xs/\xs.length=n/\t xs σ H Q
theorem jWI {es:List Expr}{k:Nat}{t:TGs}{n:Nat}(hc:X.calm=true)(h:PGs X es t)
  (hn:(assignEach es X.env).length=n:=by rfl) (hst:(assignEach es X.env).findIdx? (·.1)=none:=by rfl):PG X (.Tuple es k pos) (gTup X.K n t):=by
 intro kh s σ H v u Q I r hw;obtain⟨a,xs,e1,hq,hl,hw⟩:=hw;subst e1;cases r;obtain⟨its,rv,ht,hz⟩:=I.tuple hq;refine assign_Tuple_tuple (I.ok.hd hc) ht (by simp [hn,<- hl,rv.length]) hst fun h' hx=>?_;have I1:Inv X kh σ H { s with heap:=h'} :=I.kept (t':=s.toks) fun b o e=>hx b o (aU (aC e)) e;exact h kh _ σ H xs _ Q I1 (by simpa using rv) hw
def gSub (to ti:TE)(t:TSet):TG:=fun v σ H Q=>to σ H fun o H1=>ti σ H1 fun i H2=>t o i v H2 fun H3=>Q σ H3
theorem jWJ {o i:Expr}{to ti:TE}{t:TSet}(ho:PE X o to)(hi:PE X i ti)(hs:PSet X t)
  (ha:∀ v,assign (.Subscript o i pos) X.env v=(do
   let ov <- holding [v] (eval o X.env)
   let iv <- holding [v,ov] (eval i X.env)
   standAt pos
   holding [v,ov,iv] (setItem ov iv v)
   release [v,ov,iv] []):=by intro _; rfl):PG X (.Subscript o i pos) (gSub to ti t):=by
 intro kh s σ H v u Q I r h;rw[ha];refine ae (bS (kn (ho kh s σ H _ I h) fun ov s1 ⟨x,H1,I1,r1,q1⟩=>?_));refine ae (bS (kn (hi kh s1 σ H1 _ I1 q1) fun iv s2 ⟨y,H2,I2,r2,q2⟩=>?_));refine ae (eF (ae (bS (kn (hs kh s2 σ H2 x y v ov iv u _ I2 r1 r2 r q2) fun _ s3 ⟨H3,I3,q3⟩=>?_))));exact wpAny_release ⟨σ,H3,I3,q3⟩
def tAsg (te:TE)(g:TG):TS:=fun D σ H=>te σ H fun x H1=>g x σ H1 D.nx
theorem jSU {tg e:Expr}{te:TE}{g:TG}(he:PE X e te)(hg:PG X tg g)(hs:swapsWithSole [tg] e pos.line X.env=pure false:=by rfl)(hw:swappedStores [tg] e X.env=pure none:=by rfl)
  (h1:(assignEach [tg] X.env).map (·.2)=[assign tg X.env]:=by rfl):PS X (.Assign [tg] e pos) (tAsg te g):=by
 intro kh s σ H D I h;refine wpAny_Assign_stores (kn (he kh s σ H _ I h) fun v s1 ⟨x,H1,I1,r1,q1⟩=>?_) hs hw;rw[h1];exact kn (hg kh s1 σ H1 x v _ I1 r1 q1) fun _ s2 q=>q
theorem qO {i:Nat}{x:Str}{e:Expr}{te:TE}{pos':Pos}(hN:X.N.Nodup)(hi:X.N[i]?=some x)(hx:Loc X.env.scope x)(he:PE X e te)(hs:swapsWith e (some (.Name x pos')) pos.line X.env=pure false:=by rfl)(hf:X.fn x=true\/X.env.scope.names.lookup x=some .local:=by first | exact .inl rfl | exact .inr rfl | assumption):
  PS X (.Assign [.Name x pos'] e pos) (tAsg te (kJ i)):=by
 intro kh s σ H D I h;refine wpAny_Assign_Name (kn (he kh s σ H _ I h) fun v s1 ⟨y,H1,I1,r1,q1⟩=>?_) hs;exact jDV I1 hN hi hx r1 (fun s2 I2=>⟨_,H1,I2,q1⟩) hf
def jSN (c:TT)(tb:TS):TS:=fun D σ H=>∃ W:Nat->St->Hp->Prop,(∃ m,W m σ H)/\∀ m σ H,W m σ H->
 c σ H fun b H1=>if b=true then ∃ N:St->Hp->Prop,(∀ σ' H',N σ' H'->∃ m',m'<m/\W m' σ' H')/\tb { D with nx:=N,ct:=N,bk:=D.nx} σ H1 else D.nx σ H1
theorem jQE {c:Expr}{body:List Stmt}{tc:TT}{tb:TS}(hp:PassesOwn (model X.prog X.w) X.A X.env X.xe)(hc:PT X c tc)(hb:PSs X body tb):PS X (.While c body [] pos) (jSN tc tb):=by
 intro kh s σ H D I h;obtain⟨W,⟨m0,w0⟩,turn⟩:=h;refine wpAny_While (codeAny_whileLoop (fun n s'=>∃ σ' H',Inv X kh σ' H' s'/\W n σ' H') ?_ m0 ⟨σ,H,I,w0⟩);rintro n s1 ⟨σ1,H1,I1,w1⟩;refine dJ hp (kn (hc kh s1 σ1 H1 _ I1 (turn n σ1 H1 w1)) fun b s2 ⟨H2,I2,q2⟩=>?_);cases b with
 | true=>
  obtain⟨N,hN,q2⟩:=q2;rw[ao rfl];refine dJ hp (kn (hb kh s2 σ1 H2 _ I2 q2) fun f s3 q3=>?_);cases f with
  | next=>
   obtain⟨σ3,H3,I3,n3⟩:=q3;obtain⟨m',hm,w3⟩:=hN σ3 H3 n3;exact⟨m',hm,σ3,H3,I3,w3⟩
  | cont=>
   obtain⟨σ3,H3,I3,n3⟩:=q3;obtain⟨m',hm,w3⟩:=hN σ3 H3 n3;exact⟨m',hm,σ3,H3,I3,w3⟩
  | brk=>exact q3
  | ret v=>exact q3
 | false=>
  rw[am aj];exact gL ⟨σ1,H2,I2,q2⟩
structure It where
 go:Nat->Hp->Prop
 yld:Nat->Hp->V->Hp->Prop
 stop:Nat->Hp->Prop
def FpOk (X:Cx)(kh:Ai)(H:Hp)(b:Addr):Prop:=
 H b=none/\b≠X.env.locals/\b∉X.fs/\(b∈X.ex\/X.s₀.heap.objs.size<=b)/\(∀ x c,X.env.cells.lookup x=some c->c≠b)/\∀ p∈X.pn++kh,p.1≠b
theorem Inv.fpOk {X:Cx}{kh:Ai}{σ:St}{H H':Hp}{s:Shared}{b:Addr}(I:Inv X kh σ H s)(hb:s.heap.objs.size<=b)(hn:H' b=none):FpOk X kh H' b:=by
 refine⟨hn,di (bg I.lt hb),I.nofs hb, .inr (be I.sz hb),fun x c e z=>?_,fun p hp z=>?_⟩
 ·obtain⟨v,q⟩:=I.cell x c e;exact absurd (bg q.lt (by rw[z]; exact hb)) (cj _)
 ·exact absurd (bg (aC (I.pin p hp).1) (by rw[z]; exact hb)) (cj _)
structure Turn (P:Program)(w:World)(K:W.Frag)(tg:Expr)(J:It)(fp:List Addr)(it:Addr)(tn:Nat->Heap->Prop):Prop where
 mem:it∈fp
 obj:∀ i h,tn i h->∀ b∈fp,∃ o,h.get? b=some o/\∀ v,o.data≠ .cell v
 keep:∀ i h h',tn i h->(∀ b∈fp,∀ o,h.get? b=some o->h'.get? b=some o)->tn i h'
 item:∀ (X:Cx),X.prog=P->X.w=w->X.K=K->X.calm=true->∀ (i:Nat) (kh:Ai) (s:Shared) (σ:St) (H:Hp) (E:Ah),Inv X kh σ H s->(∀ b∈fp,FpOk X kh H b)->tn i s.heap->J.go i H->
  wpAny (model P w) X.A (pyNext (.ref it)) (fun r s1=>∃ u,r=some u/\
   wpAny (model P w) X.A (letOwnedTupleGo tg (.ref it) u) (fun _ s2=>∃ x H',Inv X kh σ H' s2/\RelV x u/\J.yld i H x H'/\tn (i+1) s2.heap/\∀ b∈fp,H' b=none) E s1) E s
 done:∀ (X:Cx),X.prog=P->X.w=w->X.K=K->X.calm=true->∀ (i:Nat) (kh:Ai) (s:Shared) (σ:St) (H:Hp) (E:Ah),Inv X kh σ H s->(∀ b∈fp,FpOk X kh H b)->tn i s.heap->J.stop i H->
  wpAny (model P w) X.A (pyNext (.ref it)) (fun r s1=>r=none/\Inv X kh σ H s1) E s
 self:∀ (A:Around) (i:Nat) (s:Shared) (Q:Ah) (E:Ah),tn i s.heap->Q (.ref it) s->wpAny (model P w) A (pyIter (.ref it)) Q E s
abbrev TI:=St->Hp->(It->Hp->Prop)->Prop
def PIE (X:Cx)(kh:Ai)(σ:St)(tg:Expr)(R:It->Hp->Prop)(itv:Value)(s2:Shared):Prop:=
 ∃ (it:Addr) (fp:List Addr) (tn:Nat->Heap->Prop) (J:It) (H':Hp),itv= .ref it/\Inv X kh σ H' s2/\Turn X.prog X.w X.K tg J fp it tn/\tn 0 s2.heap/\(∀ b∈fp,FpOk X kh H' b)/\R J H'
def PI (X:Cx)(tg iter:Expr)(wi:TI):Prop:=
 ∀ (kh:Ai) (s:Shared) (σ:St) (H:Hp) (R:It->Hp->Prop),Inv X kh σ H s->wi σ H R->
  wpAny (model X.prog X.w) X.A (eval iter X.env) (fun v s1=>wpAny (model X.prog X.w) X.A (pyIter v) (PIE X kh σ tg R) X.xe s1) X.xe s
theorem go_of {M:Model}{A:Around}{E:Ah}{s:Shared}{tg:Expr}{it:Addr}{u:Value}{o:Obj}{n:String}{vs:An}{Q:Unit->Shared->Prop}(ho:s.heap.get? it=some o)(hc:o.cls= .type n)(hd:o.data= .fields vs)
  (hn: ["enumerate","zip","dict_itemiterator","dict_reverseitemiterator","odict_iterator","itertools.zip_longest","itertools.pairwise"].contains n=false) (hQ:Q () s):wpAny M A (letOwnedTupleGo tg (.ref it) u) Q E s:=by
 unfold letOwnedTupleGo;cases tg <;> first
  | exact ah hQ
  | (cases u <;> first
    | exact ah hQ
    | (refine ae (fH ho ?_)
       rw [hc, hd];show wpAny M A (if (["enumerate", "zip", "dict_itemiterator", "dict_reverseitemiterator", "odict_iterator", "itertools.zip_longest", "itertools.pairwise"].contains n && vs[0]? == some (rawInt _)) = true then _ else _) Q E s;rw [am (by intro h; rw [hn, eM] at h; cases h)];exact ah hQ))
def Itl (K:W.Frag)(a:Addr):It:=
 ⟨fun i H=>∃ xs x,SqL K H a xs/\xs[i]?=some x,fun i H x H'=>H'=H/\∀ xs,SqL K H a xs->xs[i]?=some x,fun i H=>∃ xs,SqL K H a xs/\xs.length<=i⟩
def Itt (K:W.Frag)(a:Addr):It:=
 ⟨fun i H=>∃ xs x,SqT K H a xs/\xs[i]?=some x,fun i H x H'=>H'=H/\∀ xs,SqT K H a xs->xs[i]?=some x,fun i H=>∃ xs,SqT K H a xs/\xs.length<=i⟩
def Itr (lo:Int)(n:Nat):It:=⟨fun i _=>i<n,fun i H x H'=>H'=H/\x= .int (lo+i),fun i _=>n<=i⟩
theorem jMJ {P:Program}{w:World}{K:W.Frag}{tg:Expr}(a it:Addr):Turn P w K tg (Itl K a) [it] it (fun i h=>h.IsListIter it a i) where
 mem:=by simp
 obj:=fun i h st b hb=>by
  have e:b=it:=by simpa using hb
  subst e;obtain⟨o,e,c,d⟩:=st;exact⟨o,e,fun v z=>by rw[d] at z; cases z⟩
 keep:=fun i h h' st k=>st.at fun o e=>k it Ad o e
 item:=by
  intro X hP hw hK hc i kh s σ H E I hf st hg;subst hP hw hK;obtain⟨xs,x,hq,hx⟩:=hg;obtain⟨its,rv,p,hz⟩:=I.list hq;obtain⟨u,hu,ru⟩:=rv.get hx;obtain⟨f0,f1,f2,f3,f4,f5⟩:=hf it Ad;refine wpAny_pyNext_list_item st p.isList (x:=u) (by simpa using hu) fun h' st' sb=>?_;have I1:Inv X kh σ H { s with heap:=h'} :=I.turned (t':=s.toks) (fun b o hb e=>(sb.2 b hb).trans e) f0 f1 f3 f4 f5;obtain⟨o,e,c,d⟩:=id st';exact⟨u,rfl,go_of (s:= { s with heap:=h'}) e c d Ac ⟨x,H,I1,ru,⟨rfl,fun ys hy=>by rw[I.list_inj hy hq]; exact hx⟩,st',fun b hb=>(hf b hb).1⟩⟩
 done:=by
  intro X hP hw hK hc i kh s σ H E I hf st hg;subst hP hw hK;obtain⟨xs,hq,hx⟩:=hg;obtain⟨its,rv,p,hz⟩:=I.list hq;obtain⟨f0,f1,f2,f3,f4,f5⟩:=hf it Ad;have hl:=rv.length;exact wpAny_pyNext_list_end (I.ok.hd hc) st p.isList (by simp; lia) fun h' eb=>⟨rfl,I.turned (t':=s.toks) (fun b o hb e=>eb b o hb e) f0 f1 f3 f4 f5⟩
 self:=fun _ _ _ _ _ st h=>wpAny_pyIter_listiter st h
theorem jLC {P:Program}{w:World}{K:W.Frag}{tg:Expr}(a it:Addr):Turn P w K tg (Itt K a) [it] it (fun i h=>h.IsTupleIter it a i) where
 mem:=by simp
 obj:=fun i h st b hb=>by
  have e:b=it:=by simpa using hb
  subst e;obtain⟨o,e,c,d⟩:=st;exact⟨o,e,fun v z=>by rw[d] at z; cases z⟩
 keep:=fun i h h' st k=>st.at fun o e=>k it Ad o e
 item:=by
  intro X hP hw hK hc i kh s σ H E I hf st hg;subst hP hw hK;obtain⟨xs,x,hq,hx⟩:=hg;obtain⟨its,rv,p,hz⟩:=I.tuple hq;obtain⟨u,hu,ru⟩:=rv.get hx;obtain⟨f0,f1,f2,f3,f4,f5⟩:=hf it Ad;refine wpAny_pyNext_tuple_item st (show s.heap.IsTuple a its.toArray from p) (x:=u) (by simpa using hu) fun h' st' sb=>?_;have I1:Inv X kh σ H { s with heap:=h'} :=I.turned (t':=s.toks) (fun b o hb e=>(sb.2 b hb).trans e) f0 f1 f3 f4 f5;obtain⟨o,e,c,d⟩:=id st';exact⟨u,rfl,go_of (s:= { s with heap:=h'}) e c d Ac ⟨x,H,I1,ru,⟨rfl,fun ys hy=>by rw[I.tuple_inj hy hq]; exact hx⟩,st',fun b hb=>(hf b hb).1⟩⟩
 done:=by
  intro X hP hw hK hc i kh s σ H E I hf st hg;subst hP hw hK;obtain⟨xs,hq,hx⟩:=hg;obtain⟨its,rv,p,hz⟩:=I.tuple hq;obtain⟨f0,f1,f2,f3,f4,f5⟩:=hf it Ad;have hl:=rv.length;exact wpAny_pyNext_tuple_end (I.ok.hd hc) st (show s.heap.IsTuple a its.toArray from p) (by simp; lia) fun h' eb=>⟨rfl,I.turned (t':=s.toks) (fun b o hb e=>eb b o hb e) f0 f1 f3 f4 f5⟩
 self:=fun _ _ _ _ _ st h=>wpAny_pyIter_tupleiter st h
theorem jLD {P:Program}{w:World}{K:W.Frag}{tg:Expr}(it:Addr)(lo:Int)(n:Nat):Turn P w K tg (Itr lo n) [it] it (fun i h=>IsRangeIter h it (lo+(i:Nat)*1) ((n:Int) - (i:Nat)) 1) where
 mem:=by simp
 obj:=fun i h st b hb=>by
  have e:b=it:=by simpa using hb
  subst e;exact⟨_,st,fun v z=>by
   have z':Data.fields _=Data.cell v:=z;cases z'⟩
 keep:=fun i h h' st k=>k it Ad _ st
 item:=by
  intro X hP hw hK hc i kh s σ H E I hf st hg;subst hP hw hK;obtain⟨f0,f1,f2,f3,f4,f5⟩:=hf it Ad;have W:=Walks.range (prog:=X.prog) (w:=X.w) (I.ok.hd hc) it lo 1 n;refine W.item i s _ _ hg st fun v h' tk hv st' kk=>?_;obtain⟨t,rfl⟩:=hv;have I1:Inv X kh σ H { s with heap:=h',toks:=tk} :=I.turned (fun b o hb e=>kk b o (by simpa using hb) e) f0 f1 f3 f4 f5;refine⟨_,rfl,go_of (s:= { s with heap:=h',toks:=tk}) (n:= "range_iterator") st' rfl rfl Ac ⟨.int (lo+i),H,I1,⟨t,?_⟩,⟨rfl,rfl⟩,st',fun b hb=>(hf b hb).1⟩⟩;rw[Int.mul_one]
 done:=by
  intro X hP hw hK hc i kh s σ H E I hf st hg;subst hP hw hK;obtain⟨f0,f1,f2,f3,f4,f5⟩:=hf it Ad;exact wpAny_pyNext_range_end (I.ok.hd hc) st (by have:n<=i:=hg; lia) fun h' eb=>⟨rfl,I.turned (t':=s.toks) (fun b o hb e=>eb b o hb e) f0 f1 f3 f4 f5⟩
 self:=fun _ _ _ _ _ st h=>wpAny_pyIter_rangeiter st h
section
variable {tg:Expr}
def iList (K:W.Frag)(tl:TE):TI:=fun σ H R=>tl σ H fun x H1=>∃ a,x= .ref a/\(∃ xs,SqL K H1 a xs)/\R (Itl K a) H1
def iTup (K:W.Frag)(tl:TE):TI:=fun σ H R=>tl σ H fun x H1=>∃ a,x= .ref a/\(∃ xs,SqT K H1 a xs)/\R (Itt K a) H1
theorem jU6 {l:Expr}{tl:TE}(hl:PE X l tl):PI X tg l (iList X.K tl):=by
 intro kh s σ H R I h;refine kn (hl kh s σ H _ I h) fun v s1 ⟨x,H1,I1,r1,q1⟩=>?_;obtain⟨a,e,⟨xs,hq⟩,q⟩:=q1;subst e;cases r1;obtain⟨its,rv,p,hz⟩:=I1.list hq;refine cV p.isList ?_;refine⟨s1.heap.objs.size,[s1.heap.objs.size],_,_,H1,rfl,I1.kept (t':=s1.toks) fun b o e=>af _ e,jMJ a _,⟨_,ax _ rfl,rfl,rfl⟩,fun b hb=>?_,q⟩;have e:b=s1.heap.objs.size:=by simpa using hb
 subst e;exact I1.fpOk (ak _) (I1.hok.fresh (ak _))
theorem jWH {l:Expr}{tl:TE}(hl:PE X l tl):PI X tg l (iTup X.K tl):=by
 intro kh s σ H R I h;refine kn (hl kh s σ H _ I h) fun v s1 ⟨x,H1,I1,r1,q1⟩=>?_;obtain⟨a,e,⟨xs,hq⟩,q⟩:=q1;subst e;cases r1;obtain⟨its,rv,p,hz⟩:=I1.tuple hq;refine wpAny_pyIter_tuple (show s1.heap.IsTuple a its.toArray from p) ?_;refine⟨s1.heap.objs.size,[s1.heap.objs.size],_,_,H1,rfl,I1.kept (t':=s1.toks) fun b o e=>af _ e,jLC a _,⟨_,ax _ rfl,rfl,rfl⟩,fun b hb=>?_,q⟩;have e:b=s1.heap.objs.size:=by simpa using hb
 subst e;exact I1.fpOk (ak _) (I1.hok.fresh (ak _))
theorem jK5 {kh:Ai}{σ:St}{H:Hp}{s:Shared}{R:It->Hp->Prop}{E:Ah}{lo hi:Int}{t u v:Tok}{tk:Nat}(I:Inv X kh σ H s)(h1: -(2 ^ 62)<=lo)(h2:lo<2 ^ 62)(h3: -(2 ^ 62)<=hi)(h4:hi<2 ^ 62)
  (q:R (Itr lo (hi - lo).toNat) H):wpAny (model X.prog X.w) X.A (pyIter (.ref s.heap.objs.size)) (PIE X kh σ tg R) E { s with heap:=s.heap.push { cls:= .type "range",data:= .fields #[.int lo t, .int hi u, .int 1 v]},toks:=tk} :=by
 refine wpAny_pyIter_range (IsRange.new ..) (small_one h1 h2 h3 h4) ?_;have I1:Inv X kh σ H { s with heap:=s.heap.push { cls:= .type "range",data:= .fields #[.int lo t, .int hi u, .int 1 v]},toks:=tk} :=I.kept fun b o e=>af _ e;refine⟨(s.heap.push { cls:= .type "range",data:= .fields #[.int lo t, .int hi u, .int 1 v]}).objs.size,[(s.heap.push { cls:= .type "range",data:= .fields #[.int lo t, .int hi u, .int 1 v]}).objs.size],_,_,H,rfl,
  I1.kept (t':=tk) fun b o e=>af _ e,jLD _ lo (hi - lo).toNat,?_,fun b hb=>?_,q⟩
 ·have e1:lo+((0:Nat):Int)*1=lo:=Ad;have e2:(((hi - lo).toNat:Nat):Int) - ((0:Nat):Int)=Builtin.Range.rangeSize lo hi 1:=by rw[rangeSize_one]; split <;> lia
  show IsRangeIter _ _ (lo+((0:Nat):Int)*1) ((((hi - lo).toNat:Nat):Int) - ((0:Nat):Int)) 1;rw[e1,e2];exact ax _ rfl
 ·have e:b=(s.heap.push { cls:= .type "range",data:= .fields #[.int lo t, .int hi u, .int 1 v]}).objs.size:=by simpa using hb
  subst e;exact I1.fpOk (ak _) (I1.hok.fresh (ak _))
def iRng1 (ta:TA):TI:=fun σ H R=>ta σ H fun vs H1=>∃ j:Int,vs=[.int j]/\ -(2 ^ 62)<=j/\j<2 ^ 62/\R (Itr 0 j.toNat) H1
def iRng2 (ta:TA):TI:=fun σ H R=>ta σ H fun vs H1=>∃ i j:Int,vs=[.int i, .int j]/\(-(2 ^ 62)<=i/\i<2 ^ 62/\ -(2 ^ 62)<=j/\j<2 ^ 62)/\R (Itr i (j - i).toNat) H1
theorem jCK {a:Expr}{ta:TA}{p pos:Pos}(hg:Gl X "range")(hm:X.mg "range" =none)(ha:PA X [a] ta)(hs:starEach [a] X.env=[(false,eval a X.env)]:=by rfl):PI X tg (.Call (.Name "range" p) [a] [] pos) (iRng1 ta):=by
 intro kh s σ H R I h;refine Call_ (jEO I hg hm boot_range (dC (kn (ha pos kh s σ H _ I h) fun us s1 ⟨vs,H1,I1,r1,q1⟩=>?_) hs rfl));obtain⟨j,e,q1,q2,q⟩:=q1;subst e;cases r1 with
 | cons r rr=>
  cases rr;obtain⟨t,rfl⟩:=r;exact call_range_1 (jK5 I1 Aa Aa q1 q2 (by simpa using q))
theorem jNB {a b:Expr}{ta:TA}{p pos:Pos}(hg:Gl X "range")(hm:X.mg "range" =none)(ha:PA X [a,b] ta)(hs:starEach [a,b] X.env=[(false,eval a X.env),(false,eval b X.env)]:=by rfl)(hs2:starEach [b] X.env=[(false,eval b X.env)]:=by rfl):
  PI X tg (.Call (.Name "range" p) [a,b] [] pos) (iRng2 ta):=by
 intro kh s σ H R I h;refine Call_ (jEO I hg hm boot_range (dC (kn (ha pos kh s σ H _ I h) fun us s1 ⟨vs,H1,I1,r1,q1⟩=>?_) (by rw[hs,hs2]) (by rw[hs2]; rfl)));obtain⟨i,j,e,⟨q1,q2,q3,q4⟩,q⟩:=q1;subst e;cases r1 with
 | cons r rr=>
  cases rr with
  | cons r' rr=>
   cases rr;obtain⟨t,rfl⟩:=r;obtain⟨t',rfl⟩:=r';exact call_range_2 (jK5 I1 q1 q2 q3 q4 q)
def tFor (wi:TI)(g:TG)(tb:TS):TS:=fun D σ H=>wi σ H fun J H1=>∃ W:Nat->Nat->St->Hp->Prop,(∃ m,W 0 m σ H1)/\∀ i m σ H,W i m σ H->
 (J.stop i H/\D.nx σ H)\/(J.go i H/\∃ N:St->Hp->Prop,(∀ σ' H',N σ' H'->∃ m',m'<m/\W (i+1) m' σ' H')/\∀ x H',J.yld i H x H'->g x σ H' fun σ2 H2=>tb { D with nx:=N,ct:=N,bk:=D.nx} σ2 H2)
def jFH (fp:List Addr)(h:Heap):Ai:=fp.filterMap fun b=>(h.get? b).map fun o=>(b,o)
theorem jAH {fp:List Addr}{h:Heap}{b:Addr}{o:Obj}(hb:b∈fp)(e:h.get? b=some o):(b,o)∈jFH fp h:=jp.mpr ⟨b,hb,by rw[e]; rfl⟩
theorem jNR {fp:List Addr}{h:Heap}{p:Addr×Obj}(hp:p∈jFH fp h):p.1∈fp/\h.get? p.1=some p.2:=by
 obtain⟨b,hb,e⟩:=jp.mp hp;cases q:h.get? b with
 | none=>rw[q] at e; cases e
 | some o=>
  rw[q] at e;have e':(b,o)=p:=bq e;subst e';exact⟨hb,q⟩
theorem Inv.pinned {kh:Ai}{σ:St}{H:Hp}{s:Shared}{fp:List Addr}(I:Inv X kh σ H s)(hf:∀ b∈fp,FpOk X kh H b)(ho:∀ b∈fp,∃ o,s.heap.get? b=some o/\∀ v,o.data≠ .cell v):Inv X (kh++jFH fp s.heap) σ H s:=
 I.pins_of fun p hp=>(aN.mp hp).elim (fun z=>I.pin p (aO _ z)) fun z=>by
  obtain⟨hb,e⟩:=jNR z;obtain⟨f0,f1,f2,_⟩:=hf p.1 hb;obtain⟨o,e',d⟩:=ho p.1 hb;rw[e] at e'; cases e';exact⟨e,f0,f1,f2,d⟩
theorem Inv.unpinned {kh pl:Ai}{σ:St}{H:Hp}{s:Shared}(I:Inv X (kh++pl) σ H s):Inv X kh σ H s:=I.pins_of fun p hp=>I.pin p (aO _ (bf _ hp))
theorem jST {iter:Expr}{body:List Stmt}{wi:TI}{g:TG}{tb:TS}{pos:Pos}(hp:PassesOwn (model X.prog X.w) X.A X.env X.xe)(hc:X.calm=true)(hi:PI X tg iter wi)(hg:PG X tg g)(hb:PSs X body tb)
  (hs:∀ x,foldedSetIterable iter X.env x=pure x:=by intro _; rfl):PS X (.For tg iter body [] pos) (tFor wi g tb):=by
 intro kh s σ H D I h;refine wpAny_For (kn (hi kh s σ H _ I h) fun v s1 h1=>kn h1 fun itv s2 h2=>?_) hs;obtain⟨it,fp,tn,J,H2,e,I2,T,st2,f2,W,⟨m0,w0⟩,turn⟩:=h2;subst e;have stat:∀ {H':Hp},(∀ b∈fp,H' b=none)->∀ b∈fp,FpOk X kh H' b:=fun hn b hb=>⟨hn b hb,(f2 b hb).2⟩;refine codeAny_forLoop_any (fun n s'=>∃ i σ' H',Inv X kh σ' H' s'/\tn i s'.heap/\(∀ b∈fp,H' b=none)/\W i n σ' H') ?_ m0 ⟨0,σ,H2,I2,st2,fun b hb=>(f2 b hb).1,w0⟩;rintro n s3 ⟨i,σ3,H3,I3,st3,fr3,w3⟩;rcases turn i n σ3 H3 w3 with ⟨stop,qn⟩ | ⟨go,N,hN,step⟩
 ·refine dJ hp (kn (T.done X rfl rfl rfl hc i kh s3 σ3 H3 X.xe I3 (stat fr3) st3 stop) fun r s4 ⟨hr,I4⟩=>?_);subst hr;exact gL ⟨σ3,H3,I4,qn⟩
 ·refine dJ hp (kn (T.item X rfl rfl rfl hc i kh s3 σ3 H3 X.xe I3 (stat fr3) st3 go) fun r s4 ⟨u,hr,h4⟩=>?_);subst hr;refine dJ hp (kn h4 fun _ s5 ⟨x,H5,I5,r5,y5,st5,fr5⟩=>?_);have I5':=I5.pinned (stat fr5) (T.obj _ _ st5);refine dJ hp (kn (hg _ s5 σ3 H5 x u _ I5' r5 (step x H5 y5)) fun _ s6 ⟨σ6,H6,I6,q6⟩=>?_);refine dJ hp (kn (hb _ s6 σ6 H6 _ I6 q6) fun f s7 q7=>?_);have again:∀ {σ7:St}{H7:Hp},Inv X (kh++jFH fp s5.heap) σ7 H7 s7->N σ7 H7->∃ m,m<n/\∃ i σ' H',Inv X kh σ' H' s7/\tn i s7.heap/\(∀ b∈fp,H' b=none)/\W i m σ' H':=fun {σ7 H7} I7 n7=>by
   obtain⟨m',hm,w7⟩:=hN σ7 H7 n7;refine⟨m',hm,i+1,σ7,H7,I7.unpinned,T.keep _ _ _ st5 fun b hb o e=>(I7.pin (b,o) (aO _ (aO _ (jAH hb e)))).1,fun b hb=>?_,w7⟩;obtain⟨o,e,d⟩:=T.obj _ _ st5 b hb;exact(I7.pin (b,o) (aO _ (aO _ (jAH hb e)))).2.1
  cases f with
  | next=>obtain⟨σ7,H7,I7,n7⟩:=q7; exact again I7 n7
  | cont=>obtain⟨σ7,H7,I7,n7⟩:=q7; exact again I7 n7
  | brk=>obtain⟨σ7,H7,I7,q7⟩:=q7; exact⟨σ7,H7,I7.unpinned,q7⟩
  | ret v=>obtain⟨x7,σ7,H7,I7,r7,q7⟩:=q7; exact⟨x7,σ7,H7,I7.unpinned,r7,q7⟩
end
theorem jCT {K:W.Frag}{a:Addr}{xs:List V}{g:TG}{tb:TS}{D:Ends}{σ:St}{H:Hp}(Pv:Nat->St->Hp->Prop)(h0:Pv 0 σ H)(hl:∀ i σ H,i<=xs.length->Pv i σ H->SqL K H a xs)
  (hs:∀ i x σ H,xs[i]?=some x->Pv i σ H->g x σ H fun σ2 H2=>tb { D with nx:=Pv (i+1),ct:=Pv (i+1),bk:=D.nx} σ2 H2) (hd:∀ σ H,Pv xs.length σ H->D.nx σ H):
  ∃ W:Nat->Nat->St->Hp->Prop,(∃ m,W 0 m σ H)/\∀ i m σ H,W i m σ H->
   ((Itl K a).stop i H/\D.nx σ H)\/((Itl K a).go i H/\∃ N:St->Hp->Prop,(∀ σ' H',N σ' H'->∃ m',m'<m/\W (i+1) m' σ' H')/\∀ x H',(Itl K a).yld i H x H'->g x σ H' fun σ2 H2=>tb { D with nx:=N,ct:=N,bk:=D.nx} σ2 H2):=by
 refine⟨fun i m σ H=>m=xs.length - i/\i<=xs.length/\Pv i σ H,⟨xs.length,Ad,bu _,h0⟩,?_⟩;rintro i m σ H ⟨rfl,hi,p⟩;have q:=hl i σ H hi p;by_cases hlt:i<xs.length
 ·refine .inr ⟨⟨xs,xs[i],q,by simp [hlt]⟩,Pv (i+1),fun σ' H' p'=>⟨xs.length - (i+1),Aa,rfl,hlt,p'⟩,fun x H' y=>?_⟩;obtain⟨e,y⟩:=y;subst e;exact hs i x σ _ (y xs q) p
 ·have e:i=xs.length:=Aa;subst e;exact .inl ⟨⟨xs,q,ak _⟩,hd σ H p⟩
theorem jP4 {K:W.Frag}{a:Addr}{xs:List V}{g:TG}{tb:TS}{D:Ends}{σ:St}{H:Hp}(Pv:Nat->St->Hp->Prop)(h0:Pv 0 σ H)(hl:∀ i σ H,i<=xs.length->Pv i σ H->SqT K H a xs)
  (hs:∀ i x σ H,xs[i]?=some x->Pv i σ H->g x σ H fun σ2 H2=>tb { D with nx:=Pv (i+1),ct:=Pv (i+1),bk:=D.nx} σ2 H2) (hd:∀ σ H,Pv xs.length σ H->D.nx σ H):
  ∃ W:Nat->Nat->St->Hp->Prop,(∃ m,W 0 m σ H)/\∀ i m σ H,W i m σ H->
   ((Itt K a).stop i H/\D.nx σ H)\/((Itt K a).go i H/\∃ N:St->Hp->Prop,(∀ σ' H',N σ' H'->∃ m',m'<m/\W (i+1) m' σ' H')/\∀ x H',(Itt K a).yld i H x H'->g x σ H' fun σ2 H2=>tb { D with nx:=N,ct:=N,bk:=D.nx} σ2 H2):=by
 refine⟨fun i m σ H=>m=xs.length - i/\i<=xs.length/\Pv i σ H,⟨xs.length,Ad,bu _,h0⟩,?_⟩;rintro i m σ H ⟨rfl,hi,p⟩;have q:=hl i σ H hi p;by_cases hlt:i<xs.length
 ·refine .inr ⟨⟨xs,xs[i],q,by simp [hlt]⟩,Pv (i+1),fun σ' H' p'=>⟨xs.length - (i+1),Aa,rfl,hlt,p'⟩,fun x H' y=>?_⟩;obtain⟨e,y⟩:=y;subst e;exact hs i x σ _ (y xs q) p
 ·have e:i=xs.length:=Aa;subst e;exact .inl ⟨⟨xs,q,ak _⟩,hd σ H p⟩
theorem jCS {lo:Int}{n:Nat}{g:TG}{tb:TS}{D:Ends}{σ:St}{H:Hp}(Pv:Nat->St->Hp->Prop)(h0:Pv 0 σ H)
  (hs:∀ i σ H,i<n->Pv i σ H->g (.int (lo+i)) σ H fun σ2 H2=>tb { D with nx:=Pv (i+1),ct:=Pv (i+1),bk:=D.nx} σ2 H2) (hd:∀ σ H,Pv n σ H->D.nx σ H):
  ∃ W:Nat->Nat->St->Hp->Prop,(∃ m,W 0 m σ H)/\∀ i m σ H,W i m σ H->
   ((Itr lo n).stop i H/\D.nx σ H)\/((Itr lo n).go i H/\∃ N:St->Hp->Prop,(∀ σ' H',N σ' H'->∃ m',m'<m/\W (i+1) m' σ' H')/\∀ x H',(Itr lo n).yld i H x H'->g x σ H' fun σ2 H2=>tb { D with nx:=N,ct:=N,bk:=D.nx} σ2 H2):=by
 refine⟨fun i m σ H=>m=n - i/\i<=n/\Pv i σ H,⟨n,Ad,bu _,h0⟩,?_⟩;rintro i m σ H ⟨rfl,hi,p⟩;by_cases hlt:i<n
 ·refine .inr ⟨hlt,Pv (i+1),fun σ' H' p'=>⟨n - (i+1),Aa,rfl,hlt,p'⟩,fun x H' y=>?_⟩;obtain⟨e,y⟩:=y;subst e y;exact hs i σ _ hlt p
 ·have e:i=n:=Aa;subst e;exact .inl ⟨ak _,hd σ H p⟩
abbrev R2:=V->V->Hp->VK->Prop
def OpR (X:Cx)(f:Value->Value->Sem Value)(r:R2):Prop:=
 ∀ (kh:Ai) (s:Shared) (σ:St) (H:Hp) (x y:V) (v u:Value) (Q:VK),Inv X kh σ H s->RelV x v->RelV y u->r x y H Q->
  wpAny (model X.prog X.w) X.A (f v u) (EP X kh σ Q) X.xe s
def UnR (X:Cx)(f:Value->Sem Value)(r:V->Hp->VK->Prop):Prop:=
 ∀ (kh:Ai) (s:Shared) (σ:St) (H:Hp) (x:V) (v:Value) (Q:VK),Inv X kh σ H s->RelV x v->r x H Q->
  wpAny (model X.prog X.w) X.A (f v) (EP X kh σ Q) X.xe s
def yJ (X:Cx)(f:Value)(r:List V->Hp->VK->Prop):Prop:=
 ∀ (kh:Ai) (s:Shared) (σ:St) (H:Hp) (xs:List V) (us:Al) (Q:VK),Inv X kh σ H s->Vals xs us->r xs H Q->
  wpAny (model X.prog X.w) X.A (call f us) (EP X kh σ Q) X.xe s
def tOp (r:R2)(ta tb:TE):TE:=fun σ H Q=>ta σ H fun x H1=>tb σ H1 fun y H2=>r x y H2 Q
def tUn (r:V->Hp->VK->Prop)(ta:TE):TE:=fun σ H Q=>ta σ H fun x H1=>r x H1 Q
def rI (C:Int->Int->Prop)(g:Int->Int->V):R2:=fun x y H Q=>∃ i j,x= .int i/\y= .int j/\C i j/\Q (g i j) H
def rI0 (g:Int->Int->V):R2:=fun x y H Q=>∃ i j,x= .int i/\y= .int j/\Q (g i j) H
def rU (g:Int->V):V->Hp->VK->Prop:=fun x H Q=>∃ i,x= .int i/\Q (g i) H
variable {c:Expr}{tc:TE}
section
variable {a:Expr}
theorem binT (ha:PE X a ta)(hb:PE X b tb){kh:Ai}{s:Shared}{σ:St}{H:Hp}{R:V->V->Hp->Prop}(I:Inv X kh σ H s)
  (h:ta σ H fun x H1=>tb σ H1 fun y H2=>R x y H2) {Q:Ah}{f:Value->Value->Sem Value}
  (hf:∀ v u s2 x y H2,Inv X kh σ H2 s2->RelV x v->RelV y u->R x y H2->wpAny (model X.prog X.w) X.A (f v u) Q X.xe s2):
  wpAny (model X.prog X.w) X.A (eval a X.env) (fun v s₁=>wpAny (model X.prog X.w) X.A (eval b X.env) (fun u s₂=>wpAny (model X.prog X.w) X.A (f v u) Q X.xe s₂) X.xe s₁) X.xe s:=by
 refine kn (ha kh s σ H _ I h) fun v s1 ⟨x,H1,I1,r1,q1⟩=>?_;refine kn (hb kh s1 σ H1 _ I1 q1) fun u s2 ⟨y,H2,I2,r2,q2⟩=>?_;exact hf v u s2 x y H2 I2 r1 r2 q2
theorem kX {op:Operator}{r:R2}(ho:OpR X (binaryOp op) r)(ha:PE X a ta)(hb:PE X b tb):PE X (.BinOp a op b pos) (tOp r ta tb):=by
 intro kh s σ H Q I h;exact wpAny_BinOp (binT ha hb I h fun v u s2 x y H2 I2 rx ry q=>ho kh s2 σ H2 x y v u Q I2 rx ry q)
theorem pe_un {op:UnaryOp}{r:V->Hp->VK->Prop}(ho:UnR X (unaryOp op) r)(ha:PE X a ta):PE X (.UnaryOp op a pos) (tUn r ta):=by
 intro kh s σ H Q I h;exact UnaryOp_ (kn (ha kh s σ H _ I h) fun v s1 ⟨x,H1,I1,r1,q1⟩=>ho kh s1 σ H1 x v Q I1 r1 q1)
theorem opI {f:Value->Value->Sem Value}{C:Int->Int->Prop}{g:Int->Int->Int}
  (rule:∀ (i j:Int) (t u:Tok) (s:Shared) (Q:Ah) (E:Ah),C i j->Q (.int (g i j) s.toks) { s with toks:=s.toks+1} ->wpAny (model X.prog X.w) X.A (f (.int i t) (.int j u)) Q E s):
  OpR X f (rI C fun i j=> .int (g i j)):=by
 intro kh s σ H x y v u Q I rx ry h;obtain⟨i,j,rfl,rfl,hc,q⟩:=h;obtain⟨t,rfl⟩:=rx;obtain⟨t',rfl⟩:=ry;exact rule i j t t' s _ _ hc ⟨.int (g i j),H,I.tok _,⟨_,rfl⟩,q⟩
theorem opI0 {f:Value->Value->Sem Value}{g:Int->Int->Int}
  (rule:∀ (i j:Int) (t u:Tok) (s:Shared) (Q:Ah) (E:Ah),Q (.int (g i j) s.toks) { s with toks:=s.toks+1} ->wpAny (model X.prog X.w) X.A (f (.int i t) (.int j u)) Q E s):
  OpR X f (rI0 fun i j=> .int (g i j)):=by
 intro kh s σ H x y v u Q I rx ry h;obtain⟨i,j,rfl,rfl,q⟩:=h;obtain⟨t,rfl⟩:=rx;obtain⟨t',rfl⟩:=ry;exact rule i j t t' s _ _ ⟨.int (g i j),H,I.tok _,⟨_,rfl⟩,q⟩
theorem opB0 {f:Value->Value->Sem Value}{g:Int->Int->Bool}
  (rule:∀ (i j:Int) (t u:Tok) (s:Shared) (Q:Ah) (E:Ah),Q (.bool (g i j)) s->wpAny (model X.prog X.w) X.A (f (.int i t) (.int j u)) Q E s):
  OpR X f (rI0 fun i j=> .bl (g i j)):=by
 intro kh s σ H x y v u Q I rx ry h;obtain⟨i,j,rfl,rfl,q⟩:=h;obtain⟨t,rfl⟩:=rx;obtain⟨t',rfl⟩:=ry;exact rule i j t t' s _ _ ⟨.bl (g i j),H,I,rfl,q⟩
def CPow (i j:Int):Prop:=0<=j/\j<=1000000/\i.natAbs<2 ^ 64
def CMul (i j:Int):Prop:=(-(2 ^ 64)<i/\i<2 ^ 64)\/(-(2 ^ 64)<j/\j<2 ^ 64)
theorem CMul.ok {i j:Int}(h:CMul i j):IntMulOk i j:=by
 rcases h with ⟨h1,h2⟩ | ⟨h1,h2⟩
 ·exact .of_left (intBits_le_64 h1 h2)
 ·exact .of_right (intBits_le_64 h1 h2)
theorem jLB (k:Nat):(0:Int)<=2 ^ k:=by
 rw[two_pow_cast];exact fJ _
theorem yF:OpR X (binaryOp .Add) (rI0 fun i j=> .int (i+j)):=opI0 fun _ _ _ _ _ _ _ q=>add_int q
theorem jEB:OpR X (binaryOp .Sub) (rI0 fun i j=> .int (i - j)):=opI0 fun _ _ _ _ _ _ _ q=>sub_int q
theorem jDR:OpR X (binaryOp .Mult) (rI CMul fun i j=> .int (i*j)):=opI fun _ _ _ _ _ _ _ hc q=>mul_int q hc.ok
theorem jHO:OpR X (binaryOp .Mod) (rI (fun _ j=>0<j) fun i j=> .int (i % j)):=opI fun i j _ _ _ _ _ hc q=>by
 have h1:(0:Int)<j:=hc;exact mod_int' Aa (by rw[Int.fmod_eq_emod_of_nonneg i Aa]; exact q)
theorem jNE:OpR X (binaryOp .Pow) (rI CPow fun i j=> .int (i ^ j.toNat)):=opI fun _ _ _ _ _ _ _ hc q=>pow_int_small hc.1 hc.2.1 hc.2.2 q
theorem jKC:OpR X (binaryOp .LShift) (rI CPow fun i j=> .int (i*2 ^ j.toNat)):=opI fun _ _ _ _ _ _ _ hc q=>lshift_int_small hc.1 hc.2.1 hc.2.2 q
theorem jWT:OpR X (binaryOp .RShift) (rI (fun _ j=>0<=j) fun i j=> .int (i / 2 ^ j.toNat)):=opI fun i j _ _ _ _ _ hc q=>
 rshift_int hc (by rw[gX i (jLB _)]; exact q)
theorem jKE:OpR X (binaryOp .BitAnd) (rI0 fun i j=> .int (Builtin.bitAnd i j)):=opI0 fun _ _ _ _ _ _ _ q=>and_int q
theorem op_or:OpR X (binaryOp .BitOr) (rI0 fun i j=> .int (Builtin.bitOr i j)):=opI0 fun _ _ _ _ _ _ _ q=>or_int q
theorem unI {f:Value->Sem Value}{g:Int->Int}
  (rule:∀ (i:Int) (t:Tok) (s:Shared) (Q:Ah) (E:Ah),Q (.int (g i) s.toks) { s with toks:=s.toks+1} ->wpAny (model X.prog X.w) X.A (f (.int i t)) Q E s):
  UnR X f (rU fun i=> .int (g i)):=by
 intro kh s σ H x v Q I rx h;obtain⟨i,rfl,q⟩:=h;obtain⟨t,rfl⟩:=rx;exact rule i t s _ _ ⟨.int (g i),H,I.tok _,⟨_,rfl⟩,q⟩
theorem jSH:UnR X (unaryOp .USub) (rU fun i=> .int (-i)):=unI fun _ _ _ _ _ q=>neg_int q
theorem jW0:UnR X (unaryOp .Invert) (rU fun i=> .int (Builtin.bitNot i)):=unI fun _ _ _ _ _ q=>invert_int q
end
def scal:V->V->Bool
 | .non, .non=>true | .non, .int _=>true | .int _, .non=>true | .non, .bl _=>true | .bl _, .non=>true | .non, .str _=>true | .str _, .non=>true
 | .int _, .int _=>true | .bl _, .bl _=>true | .str _, .str _=>true | .byt _, .byt _=>true
 | .int _, .str _=>true | .str _, .int _=>true | .bl _, .str _=>true | .str _, .bl _=>true
 | _,_=>false
def rEq:R2:=fun x y H Q=>scal x y=true/\Q (.bl (decide (x=y))) H
def rNe:R2:=fun x y H Q=>scal x y=true/\Q (.bl (!decide (x=y))) H
theorem jEY {i j:Int} :decide (V.int i=V.int j)=(i==j):=by
 rw[bP];simp
theorem jT9 {i j:Bool} :decide (V.bl i=V.bl j)=(i==j):=by
 rw[bP];simp
theorem jPB {i j:Str} :decide (V.str i=V.str j)=(i==j):=by
 rw[bP];simp
theorem jPC {i j:Array UInt8} :decide (V.byt i=V.byt j)=(i.toList==j.toList):=by
 rw[bP];cases i;cases j;simp
section
variable {a:Expr}
theorem kL {kh:Ai}{σ:St}{H:Hp}{s:Shared}{Q:VK}{k k':Bool}(I:Inv X kh σ H s)(q:Q (.bl k) H)(e:k=k'):EP X kh σ Q (.bool k') s:=by
 subst e;exact⟨.bl k,H,I,rfl,q⟩
theorem qX:OpR X (compareOp .Eq) rEq:=by
 intro kh s σ H x y v u Q I rx ry h;obtain⟨hs,q⟩:=h;cases x with
 | non=>
  cases rx;cases y with
  | non=>cases ry; exact PySem.EqNone.eq_none_none (kL I q Ad)
  | bl j=>cases ry; exact PySem.EqNone.eq_none_bool (kL I q Ad)
  | int j=>obtain⟨t',rfl⟩:=ry; exact PySem.EqNone.eq_none_int (kL I q Ad)
  | str j=>obtain⟨t',rfl⟩:=ry; exact PySem.EqNone.eq_none_str (kL I q Ad)
  | _=>exact absurd (show false=true from hs) aj
 | bl i=>
  cases rx;cases y with
  | non=>cases ry; exact PySem.EqNone.eq_bool_none (kL I q Ad)
  | bl j=>cases ry; exact eq_bool (kL I q jT9)
  | str j=>obtain⟨t',rfl⟩:=ry; exact PySem.EqMixed.eq_bool_str (kL I q Ad)
  | _=>exact absurd (show false=true from hs) aj
 | int i=>
  obtain⟨t,rfl⟩:=rx;cases y with
  | non=>cases ry; exact PySem.EqNone.eq_int_none (kL I q Ad)
  | int j=>obtain⟨t',rfl⟩:=ry; exact eq_int (kL I q jEY)
  | str j=>obtain⟨t',rfl⟩:=ry; exact PySem.EqMixed.eq_int_str (kL I q Ad)
  | _=>exact absurd (show false=true from hs) aj
 | str i=>
  obtain⟨t,rfl⟩:=rx;cases y with
  | non=>cases ry; exact PySem.EqNone.eq_str_none (kL I q Ad)
  | bl j=>cases ry; exact PySem.EqMixed.eq_str_bool (kL I q Ad)
  | int j=>obtain⟨t',rfl⟩:=ry; exact PySem.EqMixed.eq_str_int (kL I q Ad)
  | str j=>obtain⟨t',rfl⟩:=ry; exact eq_str (kL I q jPB)
  | _=>exact absurd (show false=true from hs) aj
 | byt i=>
  obtain⟨t,rfl⟩:=rx;cases y with
  | byt j=>obtain⟨t',rfl⟩:=ry; exact PySem.W.eq_bytes (kL I q jPC)
  | _=>exact absurd (show false=true from hs) aj
 | _=>cases y <;> exact absurd (show false=true from hs) aj
theorem op_ne:OpR X (compareOp .NotEq) rNe:=by
 intro kh s σ H x y v u Q I rx ry h;obtain⟨hs,q⟩:=h;cases x with
 | non=>
  cases rx;cases y with
  | non=>cases ry; exact PySem.EqNone.ne_none_none (kL I q Ad)
  | bl j=>cases ry; exact PySem.EqNone.ne_none_bool (kL I q Ad)
  | int j=>obtain⟨t',rfl⟩:=ry; exact PySem.EqNone.ne_none_int (kL I q Ad)
  | str j=>obtain⟨t',rfl⟩:=ry; exact PySem.EqNone.ne_none_str (kL I q Ad)
  | _=>exact absurd (show false=true from hs) aj
 | bl i=>
  cases rx;cases y with
  | non=>cases ry; exact PySem.EqNone.ne_bool_none (kL I q Ad)
  | bl j=>cases ry; exact ne_bool (kL I q (bL not jT9))
  | str j=>obtain⟨t',rfl⟩:=ry; exact PySem.EqMixed.ne_bool_str (kL I q Ad)
  | _=>exact absurd (show false=true from hs) aj
 | int i=>
  obtain⟨t,rfl⟩:=rx;cases y with
  | non=>cases ry; exact PySem.EqNone.ne_int_none (kL I q Ad)
  | int j=>obtain⟨t',rfl⟩:=ry; exact ne_int (kL I q (bL not jEY))
  | str j=>obtain⟨t',rfl⟩:=ry; exact PySem.EqMixed.ne_int_str (kL I q Ad)
  | _=>exact absurd (show false=true from hs) aj
 | str i=>
  obtain⟨t,rfl⟩:=rx;cases y with
  | non=>cases ry; exact PySem.EqNone.ne_str_none (kL I q Ad)
  | bl j=>cases ry; exact PySem.EqMixed.ne_str_bool (kL I q Ad)
  | int j=>obtain⟨t',rfl⟩:=ry; exact PySem.EqMixed.ne_str_int (kL I q Ad)
  | str j=>obtain⟨t',rfl⟩:=ry; exact ne_str (kL I q (bL not jPB))
  | _=>exact absurd (show false=true from hs) aj
 | byt i=>
  obtain⟨t,rfl⟩:=rx;cases y with
  | byt j=>obtain⟨t',rfl⟩:=ry; exact PySem.W.ne_bytes (kL I q (bL not jPC))
  | _=>exact absurd (show false=true from hs) aj
 | _=>cases y <;> exact absurd (show false=true from hs) aj
theorem op_lt:OpR X (compareOp .Lt) (rI0 fun i j=> .bl (decide (i<j))):=opB0 fun _ _ _ _ _ _ _ q=>lt_int q
theorem op_le:OpR X (compareOp .LtE) (rI0 fun i j=> .bl (decide (i<=j))):=opB0 fun _ _ _ _ _ _ _ q=>le_int q
theorem op_gt:OpR X (compareOp .Gt) (rI0 fun i j=> .bl (decide (j<i))):=opB0 fun _ _ _ _ _ _ _ q=>gt_int q
theorem op_ge:OpR X (compareOp .GtE) (rI0 fun i j=> .bl (decide (j<=i))):=opB0 fun _ _ _ _ _ _ _ q=>ge_int q
theorem jNF:OpR X (compareOp .Is) (fun x y H Q=>y= .non/\Q (.bl (decide (x= .non))) H):=by
 intro kh s σ H x y v u Q I rx ry h;obtain⟨rfl,q⟩:=h;cases ry;refine is_none_gen (kL I q ?_);cases x <;> first
  | (cases rx; rfl)
  | (obtain⟨t,rfl⟩:=rx; rfl)
theorem jG9:OpR X (compareOp .IsNot) (fun x y H Q=>y= .non/\Q (.bl (!decide (x= .non))) H):=by
 intro kh s σ H x y v u Q I rx ry h;obtain⟨rfl,q⟩:=h;cases ry;refine isnot_none_gen (kL I q ?_);cases x <;> first
  | (cases rx; rfl)
  | (obtain⟨t,rfl⟩:=rx; rfl)
theorem jV (b:Expr){op:CmpOp}(h:op≠ .In:=by decide)(h2:op≠ .NotIn:=by decide):behindInMarks op b=false:=by
 have e1:(op==CmpOp.In)=false:=by cases op <;> first | rfl | exact absurd rfl h
 have e2:(op==CmpOp.NotIn)=false:=by cases op <;> first | rfl | exact absurd rfl h2
 cases b <;> simp [behindInMarks,e1,e2]
theorem jUD {op:CmpOp}{r:R2}(ho:OpR X (compareOp op) r)(ha:PE X a ta)(hb:PE X b tb)(hm:behindInMarks op b=false):PE X (.Compare a [op] [b] pos) (tOp r ta tb):=by
 intro kh s σ H Q I h;exact wpAny_Compare1 (binT ha hb I h fun v u s2 x y H2 I2 rx ry q=>ho kh s2 σ H2 x y v u Q I2 rx ry q) hm
def tTest (t:TE):TT:=fun σ H Q=>t σ H fun x H'=>∃ k,x= .bl k/\Q k H'
theorem jE8 {op:CmpOp}{r:R2}(ho:OpR X (compareOp op) r)(ha:PE X a ta)(hb:PE X b tb)(hm:behindInMarks op b=false):PT X (.Compare a [op] [b] pos) (tTest (tOp r ta tb)):=by
 intro kh s σ H Q I h;refine wpAny_isTrue_Compare1 (kn (ha kh s σ H _ I h) fun v s1 ⟨x,H1,I1,r1,q1⟩=>kn (hb kh s1 σ H1 _ I1 q1) fun u s2 ⟨y,H2,I2,r2,q2⟩=>
  kn (ho kh s2 σ H2 x y v u _ I2 r1 r2 q2) fun c s3 ⟨z,H3,I3,r3,k,e,q3⟩=>?_) hm
 subst e;cases r3;exact dw ⟨H3,I3,q3⟩
theorem jHX:(sizeLine:Nat)<2 ^ 63:=by rw[dD]; decide
theorem vals1 {x:V}{us:Al}(r:Vals [x] us):∃ u,us=[u]/\RelV x u:=by
 cases r with
 | cons r1 r2=>cases r2; exact⟨_,rfl,r1⟩
theorem jPT:yJ X (.type "int") (fun xs H Q=>(∃ i,xs=[.int i]/\Q (.int i) H)\/∃ k,xs=[.bl k]/\Q (.int (if k then 1 else 0)) H):=by
 intro kh s σ H xs us Q I r h;rcases h with ⟨i,rfl,q⟩ | ⟨k,rfl,q⟩
 ·obtain⟨u,rfl,t,rfl⟩:=vals1 r;exact call_int_int ⟨.int i,H,I,⟨_,rfl⟩,q⟩
 ·obtain⟨u,rfl,r1⟩:=vals1 r;cases r1;exact call_int_bool ⟨.int (if k then 1 else 0),H,I.tok _,⟨_,rfl⟩,q⟩
end
structure ObjM (h:Heap)(x dx C:Addr)(mA:Ak):Prop where
 obj:h.get? x=some (instObj C dx)
 ns:h.Ns1 dx mA
 ne:dx≠x
theorem jO9 {h:Heap}{dx:Addr}{mA:Ak}(n:h.Ns1 dx mA):∃ od,h.get? dx=some od/\∀ name,lookIn name od=some (mA name):=by
 obtain⟨o,es,ep,ho,hd,hk,_,hm⟩:=n;refine⟨o,ho,fun name=>?_⟩;have e:=hm name;unfold nsFind findBy at e;rw[<- Array.find?_toList] at e;unfold lookIn;rw[hd];dsimp only;split
 ·rename_i y q;rw[q] at e;exact bL some e
 ·rename_i q;rw[q] at e;have a:es.toList.any (·.refKey)=false:=by
   rw[eJ];intro y hy;obtain⟨z,t,hkey⟩:=hk y (Array.mem_toList_iff.mp hy);simp [DictEntry.refKey,hkey]
  have a':¬ es.toList.any (·.refKey)=true:=by rw[a]; exact aj
  rw[am a'];exact bL some e
theorem ObjM.look {h:Heap}{x dx C:Addr}{mA:Ak}(I:ObjM h x dx C mA):∃ od,PySem.W.InstAt h x (instObj C dx) C (some od)/\∀ name,lookIn name od=some (mA name):=
 let ⟨od,ho,hl⟩:=jO9 I.ns
 ⟨od,⟨I.obj,rfl,rfl,ho⟩,hl⟩
variable {A:Around}{dx C f:Addr}
section
variable {prog:Program}{K:W.Frag}{mA:Ak}{name:Str}{v:Value}
end
theorem RelO.some_of {v:V}{o:Ao}(r:RelO (some v) o):∃ u,o=some u/\RelV v u:=by
 cases o with
 | none=>exact(show False from r).elim
 | some u=>exact⟨u,rfl,r⟩
section
variable {fs fs':List (Str×V)}
theorem jVC (hok:HOk P w H h)(e:H a=some (.ins C dx fs)):∃ mA,ObjM h a dx C mA/\(∀ f,RelO (fs.lookup f) (mA f))/\PySem.Within mA (fs.map (·.1))/\fs.length<=1000/\H dx=some (.own a):=by
 obtain⟨d,z,ne,ob,mA,n,r,q⟩:=(show ObjOk P w H h a (.ins C dx fs) from hok a _ e);exact⟨mA,⟨ob,n,ne⟩,r,q,z,d⟩
end
structure Cls (K:W.Frag)(C:Addr):Prop where
 pg:plainGet K C Str.empty=true
 hd:PySem.W.hasDictIn K C=true
 po:PySem.W.plainOver K C=true
 sa:findIn K (.ref C) "__setattr__" =some (some (.builtin "object.__setattr__"))
theorem Cls.get {K:W.Frag}{C:Addr}(c:Cls K C)(f:Str):plainGet K C f=true:=c.pg
section
variable {σ:St}{fs:List (Str×V)}{f:Str}{v:V}
end
variable {o:Expr}
section
variable {value:Expr}{f:Str}{pos' tpos:Pos}{tv:TE}
end
section
variable {σ:St}{Q:Ah}{c:Value}{b:Bool}
inductive TyOf (K:W.Frag) (H:Hp):V->Value->Prop where
 | non:TyOf K H .non (.type "NoneType")
 | bl (x:Bool):TyOf K H (.bl x) (.type "bool")
 | int (i:Int):TyOf K H (.int i) (.type "int")
 | str (x:Str):TyOf K H (.str x) (.type "str")
 | flt (x:UInt64):TyOf K H (.flt x) (.type "float")
 | lst {a:Addr}{xs:List V}(e:H a=some (.lst xs)):TyOf K H (.ref a) (.type "list")
 | frz {a:Addr}{o:Obj}{xs:List V}(e:H a=some (.frz o (.lst xs))):TyOf K H (.ref a) (.type "list")
 | tup {a:Addr}{xs:List V}(e:H a=some (.tup xs)):TyOf K H (.ref a) (.type "tuple")
 | dK {a:Addr}{kvs:List (Key×V)}(e:H a=some (.dK kvs)):TyOf K H (.ref a) (.type "dict")
 | dT {a:Addr}{kvs:List (List Key×V)}(e:H a=some (.dT kvs)):TyOf K H (.ref a) (.type "dict")
 | ins {a C dx:Addr}{fs:List (Str×V)}(e:H a=some (.ins C dx fs)) (cl:Cls K C) (ha:findIn K (.ref C) "__class__" =some (some (.builtin "object.__class__")))
   (hn:PySem.W.specialIn K (.builtin "object.__class__") "__get__" =some (some (.builtin "getset_descriptor.__get__"))) (htk:PySem.W.takesIn K (.builtin "object.__class__")=some true)
   (hm:mroIn K C (.type "object")=some true):TyOf K H (.ref a) (.ref C)
theorem jOT {x:V}{u t:Value}(I:Inv X kh σ H s)(rx:RelV x u)(ty:TyOf X.K H x t)(e:kitOne X.K t c=some b)(h:∀ tk,Q (.bool b) { s with toks:=tk}):
  wpAny (model X.prog X.w) A (call (.builtin "isinstance") [u,c]) Q E s:=by
 cases ty with
 | non=>cases (show u=Value.none from rx); exact cE PySem.W.kitx_none I.kIn True.intro e (fun z=>nomatch z) h
 | bl y=>cases (show u=Value.bool y from rx); exact cE PySem.W.kitx_bool I.kIn True.intro e (fun z=>nomatch z) h
 | int i=>obtain⟨t,q⟩:=(show ∃ t,u=Value.int i t from rx); cases q; exact cE PySem.W.kitx_int I.kIn True.intro e (fun z=>nomatch z) h
 | str y=>obtain⟨t,q⟩:=(show ∃ t,u=Value.str y t from rx); cases q; exact cE PySem.W.kitx_str I.kIn True.intro e (fun z=>nomatch z) h
 | flt y=>obtain⟨t,q⟩:=(show ∃ t,u=Value.float y t from rx); cases q; exact cE PySem.W.kitx_float I.kIn True.intro e (fun z=>nomatch z) h
 | @lst a xs ea=>
  cases (show u=Value.ref a from rx);obtain⟨_,_,n,_,h1⟩:=(show ObjOk X.prog X.w H s.heap a (.lst xs) from I.hok a _ ea);exact cE kitx_list I.kIn ⟨_,h1,rfl⟩ e (fun z=>nomatch z) h
 | @frz a ob xs ea=>
  cases (show u=Value.ref a from rx);obtain⟨_,_,_,n,_,h1⟩:=(show ObjOk X.prog X.w H s.heap a (.frz ob (.lst xs)) from I.hok a _ ea);exact cE kitx_list I.kIn ⟨_,h1,rfl⟩ e (fun z=>nomatch z) h
 | @tup a xs ea=>
  cases (show u=Value.ref a from rx);obtain⟨_,_,_,p⟩:=(show ObjOk X.prog X.w H s.heap a (.tup xs) from I.hok a _ ea);obtain⟨o,h1,h2,_⟩:=p.isTup;exact cE PySem.W.kitx_tuple I.kIn ⟨o,h1,h2⟩ e (fun z=>nomatch z) h
 | @dK a kvs ea=>
  cases (show u=Value.ref a from rx);obtain⟨_,_,vs,_,p⟩:=(show ObjOk X.prog X.w H s.heap a (.dK kvs) from I.hok a _ ea);obtain⟨o,es,ep,h1,h2,_⟩:=p;exact cE kitx_dict I.kIn ⟨o,h1,h2.1⟩ e (fun z=>nomatch z) h
 | @dT a kvs ea=>
  cases (show u=Value.ref a from rx);obtain⟨_,_,xs,_,o,es,ep,h1,h2,_⟩:=(show ObjOk X.prog X.w H s.heap a (.dT kvs) from I.hok a _ ea);exact cE kitx_dict I.kIn ⟨o,h1,h2.1⟩ e (fun z=>nomatch z) h
 | @ins a C dx fs ea cl ha hn htk hm=>
  cases (show u=Value.ref a from rx);obtain⟨mA,O,_⟩:=jVC I.hok ea;obtain⟨od,J,_⟩:=O.look;exact cE (PySem.W.kitx_own (cl.get _) cl.hd ha hn htk hm) I.kIn J e (fun z=>nomatch z) h
end
structure Room (k:Nat)(A:Around):Prop where
 hd:A.handled=none
 dp:A.depth+3*k+5<recursionLimit
 un:A.units+16*k+200<cLine
theorem Room.mono {j k:Nat}{A:Around}(r:Room k A)(h:j<=k):Room j A:=⟨r.hd,by have:=r.dp; lia,by have:=r.un; lia⟩
theorem Room.deeper {k:Nat}{A:Around}(r:Room (k+1) A)(env:Env):Room k (A.deeper env):=
 ⟨r.hd,by have:=r.dp; show A.depth+1+3*k+5<_; lia,by have:=r.un; show A.units+3+16*k+200<_; lia⟩
theorem Room.depth {k:Nat}{A:Around}(r:Room k A):A.depth<recursionLimit:=by have:=r.dp; lia
theorem Room.units {k:Nat}{A:Around}(r:Room k A):A.units+64<cLine:=by have:=r.un; lia
theorem Room.units0 {k:Nat}{A:Around}(r:Room k A):A.units<cLine:=by have:=r.un; lia
def tNil:TA:=fun _ H Q=>Q [] H
def tCons (ta:TE)(tr:TA):TA:=fun σ H Q=>ta σ H fun x H1=>tr σ H1 fun xs H2=>Q (x::xs) H2
variable {es:List Expr}{t:TA}
theorem yS:PA X [] tNil:=fun _ _ _ _ H Q I h=>Calls.spliced_nil ⟨[],H,I, .nil,h⟩
theorem kO (ha:PE X e te)(hr:PA X es t)(hs:starEach (e::es) X.env=(false,eval e X.env)::starEach es X.env:=by rfl):PA X (e::es) (tCons te t):=by
 intro pos kh s σ H Q I h;rw[hs];show wpAny _ _ (spliced ((false,eval e X.env)::backTo pos (starEach es X.env))) _ _ s;refine Calls.spliced_cons (kn (ha kh s σ H _ I h) fun u s1 ⟨x,H1,I1,r1,q1⟩=>?_);exact kn (hr pos kh s1 σ H1 _ I1 q1) fun us s2 ⟨xs,H2,I2,r2,q2⟩=>⟨x::xs,H2,I2, .cons r1 r2,q2⟩
def tTup (t:TA):TE:=fun σ H Q=>t σ H fun xs H1=>xs.length<=sizeLine/\∀ p,H1 p=none->Q (.ref p) (upd H1 p (.tup xs))
def tLst (t:TA):TE:=fun σ H Q=>t σ H fun xs H1=>xs.length<=sizeLine/\∀ p,H1 p=none->Q (.ref p) (upd H1 p (.lst xs))
theorem jWK {x1}(h:PA X es t):PE X (.Tuple es x1 pos) (tTup t):=by
 intro kh s σ H Q I hq;refine wpAny_Tuple_spliced (kn (h pos kh s σ H _ I hq) fun us s1 ⟨xs,H1,I1,r,z,q⟩=>⟨by rw[<- r.length]; exact z,?_⟩);have hf:H1 s1.heap.objs.size=none:=I1.hok.fresh (ak _);refine⟨.ref s1.heap.objs.size,upd H1 s1.heap.objs.size (.tup xs),I1.laid (t':=s1.toks) (fun b u e=>af _ e) (ak _) ?_,rfl,q _ hf⟩;exact⟨z,us,r,TupO.new _ _⟩
theorem jKA (h:PA X es t):PE X (.List es pos) (tLst t):=by
 intro kh s σ H Q I hq;refine wpAny_List_spliced (kn (h pos kh s σ H _ I hq) fun us s1 ⟨xs,H1,I1,r,z,q⟩=>⟨by rw[<- r.length]; exact z,?_⟩);have hf:H1 s1.heap.objs.size=none:=I1.hok.fresh (ak _);refine⟨.ref s1.heap.objs.size,upd H1 s1.heap.objs.size (.lst xs),I1.laid (t':=s1.toks) (fun b u e=>af _ e) (ak _) ?_,rfl,q _ hf⟩;exact⟨z,us,0,r,ax _ rfl⟩
abbrev Sp:=List V->Hp->VK->XK->Prop
abbrev CXT:=List Env->Hp->Shared->XK->Ah
structure Env0 (P:Program)(w:World)(K:W.Frag)(mg:Ak)(Aq:Heap)(A:Around)(Ap:List Env)(s:Shared)(H:Hp):Prop where
 frames:A.frames=some Ap
 mod:Mod K mg Aq
 bs:∀ b o,Aq.get? b=some o->s.heap.get? b=some o/\H b=none
 bsz:Aq.objs.size<=s.heap.objs.size
 funs:s.heap.FunFrames Aq Ap
 frf:∀ b∈frs Ap,H b=none
 hok:HOk P w H s.heap
 bare:AllBare s.gens
def CE (Ap:List Env)(P:Program)(w:World)(H:Hp)(s:Shared)(Q:VK)(u:Value)(s':Shared):Prop:=
 ∃ v H',s'.os=s.os/\AllBare s'.gens/\Un (frs Ap) [] H H' s.heap s'.heap/\HOk P w H' s'.heap/\RelV v u/\Q v H'
def CR (CX:CXT)(Ap:List Env)(P:Program)(w:World)(H:Hp)(s:Shared)(Q:VK)(E:XK)(r:Result)(s':Shared):Prop:=
 match r with
 | .ok (.ret u)=>CE Ap P w H s Q u s'
 | .ok _=>False
 | .error e=>CX Ap H s E e s'
structure FnOk (P:Program)(w:World)(K:W.Frag)(mg:Ak)(Aq:Heap)(CX:CXT)(k:Nat)(f:Addr)(fd:FuncData)(ps:Am)(sp:Sp):Prop where
 len:∀ vs H Q E,sp vs H Q E->vs.length=ps.length
 run:∀ (A:Around) (Ap:List Env) (s:Shared) (H:Hp) (args:Args) (us:Al) (vs:List V) (Q:VK) (E:XK),Room k A->Env0 P w K mg Aq A Ap s H->BindsTo s fd args (ps.zip us)->Vals vs us->sp vs H Q E->
  codeAny (model P w) A (.call (.ref f) args) (CR CX Ap P w H s Q E) s
section
variable {σ:St}{s':Shared}
theorem Inv.env0 (I:Inv X kh σ H s):Env0 X.prog X.w X.K X.mg X.Aq X.A X.stack s H:=
 ⟨I.ok.frames,I.ok.mod,I.bs,be I.ok.bsz I.sz,I.stack,I.stkFree,I.hok,I.bare⟩
theorem Inv.after {Q:VK}{u:Value}(I:Inv X kh σ H s)(h:CE X.stack X.prog X.w H s Q u s'):EP X kh σ Q u s':=by
 obtain⟨v,H',os,bare,un,hok,r,q⟩:=h;obtain⟨hh,g,d,t,os'⟩:=s';obtain rfl:os'=s.os:=os;exact⟨v,H',I.call (h':=hh) (g':=g) (d':=d) (t':=t) (ch:=[]) un hok bare (fun b z=>absurd z Ad),r,q⟩
end
def tCall (sp:Sp)(dvs:List V)(E:XK)(t:TA):TE:=fun σ H Q=>t σ H fun vs H1=>sp (vs++dvs) H1 Q E
def Binds (K:W.Frag)(fd:FuncData)(ps:Am)(ds:Al):Prop:=
 ∀ (s:Shared) (us:Al),K.In s.heap->(us++ds).length=ps.length->BindsTo s fd ⟨us,[]⟩ (ps.zip (us++ds))
theorem Binds.all {K:W.Frag}{fd:FuncData}{ps:Am}(h:∀ us:Al,us.length=ps.length->bindArgs fd ⟨us,[]⟩=pure (ps.zip us)):Binds K fd ps []:=fun s us _ hl=>by
 rw[ba] at hl ⊢;exact .of_eq (h us hl)
def jQ1 (CX:CXT)(X:Cx)(E:XK):Prop:=∀ (kh:Ai) (σ:St) (H:Hp) (s:Shared) (e:Value) (s':Shared),Inv X kh σ H s->CX X.stack H s E e s'->X.xe e s'
variable {CX:CXT}{fd:FuncData}{ps:Am}{sp:Sp}{m:Str}{p apos:Pos}
section
variable {k:Nat}{dvs:List V}{ds:Al}{E:XK}{x:Str}
theorem jW9 {kh:Ai}{σ:St}{H:Hp}{s:Shared}{Q:VK}{us:Al}{vs:List V}(F:FnOk X.prog X.w X.K X.mg X.Aq CX k f fd ps sp)(hr:Room k X.A)(hb:Binds X.K fd ps ds)(hd:Vals dvs ds)(hx:jQ1 CX X E)
  (I:Inv X kh σ H s) (r:Vals vs us) (h:sp (vs++dvs) H Q E):wpAny (model X.prog X.w) X.A (call (.ref f) us) (EP X kh σ Q) X.xe s:=by
 have r2:Vals (vs++dvs) (us++ds):=r.append hd;have hl:(us++ds).length=ps.length:=by rw[<- r2.length]; exact F.len _ _ _ _ h
 refine iN (dO (F.run X.A X.stack s H ⟨us,[]⟩ (us++ds) (vs++dvs) Q E hr I.env0 (hb s us I.kIn hl) r2 h) fun r s' hq=>?_);cases r with
 | error e=>exact hx kh σ H s e s' I hq
 | ok fl=>
  cases fl with
  | ret u=>exact I.after hq
  | next=>exact False.elim hq
  | brk=>exact False.elim hq
  | cont=>exact False.elim hq
theorem jUE (F:FnOk X.prog X.w X.K X.mg X.Aq CX k f fd ps sp)(hr:Room k X.A)(hg:Gl X x)(hm:X.mg x=some (.ref f))(hk:keepIn X.K (.ref f)=true)(hb:Binds X.K fd ps ds)(hd:Vals dvs ds)(hx:jQ1 CX X E)
  (ha:PA X (e::es) t) (hdb:(x==("__debug__" :Str))=false:=by decide) (he:starEach (e::es) X.env=(false,eval e X.env)::starEach es X.env:=by rfl) (hpl:(backTo pos (starEach es X.env)).any (·.1)=false:=by rfl):
  PE X (.Call (.Name x p) (e::es) [] pos) (tCall sp dvs E t):=by
 intro kh s σ H Q I h;refine cM (jOC I hg hm ?_ hdb);refine jq (h₀:=X.Aq) I.ok.mod.kin hk (kn (ha pos kh s σ H _ I h) fun us s1 ⟨vs,H1,I1,r,q⟩=>⟨I1.kIn,?_⟩) he hpl;exact jW9 F hr hb hd hx I1 r q
end
def PK (X:Cx)(kws:List Keyword)(t:TA):Prop:=
 ∀ (pos:Pos) (kh:Ai) (s:Shared) (σ:St) (H:Hp) (Q:List V->Hp->Prop),Inv X kh σ H s->t σ H Q->wpAny (model X.prog X.w) X.A (evalAll ((backToKw pos (keywordEach kws X.env)).map (·.2))) (AP X kh σ Q) X.xe s
section
variable {k:Nat}{ks:Am}{E:XK}{x:Str}{kpos:Pos}{kws:List Keyword}{tk:TA}{nm:Option Str}
theorem jWG:PK X [] tNil:=fun _ _ _ _ H Q I h=>wpAny_evalAll_nil ⟨[],H,I, .nil,h⟩
theorem jU3 (ha:PE X e te)(hr:PK X kws t):PK X (⟨nm,e,kpos⟩::kws) (tCons te t):=by
 intro pos kh s σ H Q I h;show wpAny _ _ (evalAll ((do let v <- eval e X.env; standAt pos; pure v)::(backToKw pos (keywordEach kws X.env)).map (·.2))) _ _ s;refine wpAny_evalAll_cons (ae (kn (ha kh s σ H _ I h) fun u s1 ⟨x,H1,I1,r1,q1⟩=>ae (eF (ah ?_))));exact kn (hr pos kh s1 σ H1 _ I1 q1) fun us s2 ⟨xs,H2,I2,r2,q2⟩=>⟨x::xs,H2,I2, .cons r1 r2,q2⟩
variable {g:Al->Al->Al}{gV:List V->List V->List V}
end
structure FnScope (N P:Am)(sc:Scope):Prop where
 kind:sc.kind= .function:=by rfl
 co:sc.isCoroutine=false:=by rfl
 gen:sc.isGenerator=false:=by rfl
 nd:N.Nodup:=by decide+kernel
 pre:N.take P.length=P:=by rfl
 par:∀ x∈P,sc.names.lookup x=some .local\/sc.names.lookup x=some .cell:=by decide+kernel
 nofree:∀ y∈sc.names,y.2≠ .free:=by decide+kernel
theorem jIH {kindOf:Str->Option NameKind}{x:Str} :∀ {binds:List (Str×Value)}{m:Ak},(∀ v,(x,v)∉binds)->bindL kindOf binds m x=m x
 | [],_,_=>rfl
 | (n,v)::r,m,h=>by
  unfold bindL;rw[jIH fun w hw=>h w (aB _ hw)];split
  ·have:x≠n:=by rintro rfl; exact h v az
   simp [this]
  ·rfl
theorem jIJ {kindOf:Str->Option NameKind}{x:Str} :∀ {binds:List (Str×Value)}{m:Ak},(∀ v,(x,v)∉binds)->bindC kindOf binds m x=m x
 | [],_,_=>rfl
 | (n,v)::r,m,h=>by
  unfold bindC;rw[jIJ fun w hw=>h w (aB _ hw)];split
  ·rfl
  ·have:x≠n:=by rintro rfl; exact h v az
   simp [this]
theorem jII {kindOf:Str->Option NameKind}{x:Str}{v:Value} :∀ {P:Am}{vs:Al}{i:Nat}{m:Ak},P.Nodup->P[i]?=some x->vs[i]?=some v->kindOf x=some .local->
  bindL kindOf (P.zip vs) m x=some v
 | [],_,_,_,_,h,_,_=>by simp at h
 | _::_,[],_,_,_,_,h,_=>by simp at h
 | p::P,w::vs,0,m,nd,h1,h2,hk=>by
  simp at h1 h2; subst h1; subst h2;show bindL kindOf ((p,w)::P.zip vs) m p=_;unfold bindL;rw[jIH fun v hv=>(cF.mp nd).1 (dL hv).1,ao hk];simp
 | p::P,w::vs,i+1,m,nd,h1,h2,hk=>by
  show bindL kindOf ((p,w)::P.zip vs) m x=_;unfold bindL;exact jII (i:=i) (cF.mp nd).2 (by simpa using h1) (by simpa using h2) hk
theorem jIK {kindOf:Str->Option NameKind}{x:Str}{v:Value} :∀ {P:Am}{vs:Al}{i:Nat}{m:Ak},P.Nodup->P[i]?=some x->vs[i]?=some v->kindOf x≠some .local->
  bindC kindOf (P.zip vs) m x=some v
 | [],_,_,_,_,h,_,_=>by simp at h
 | _::_,[],_,_,_,_,h,_=>by simp at h
 | p::P,w::vs,0,m,nd,h1,h2,hk=>by
  simp at h1 h2; subst h1; subst h2;show bindC kindOf ((p,w)::P.zip vs) m p=_;unfold bindC;rw[jIJ fun v hv=>(cF.mp nd).1 (dL hv).1,am hk];simp
 | p::P,w::vs,i+1,m,nd,h1,h2,hk=>by
  show bindC kindOf ((p,w)::P.zip vs) m x=_;unfold bindC;exact jIK (i:=i) (cF.mp nd).2 (by simpa using h1) (by simpa using h2) hk
def yH (N:Am)(vs:List V):St:=vs.map some++List.replicate (N.length - vs.length) none
def cxOf (CX:CXT)(P:Program)(w:World)(K:W.Frag)(mg:Ak)(Aq:Heap)(N:Am)(qual:Str)(scope:Scope)(f:Addr)(cd:Value)(A:Around)(Ap:List Env)(s:Shared)(H:Hp)(E:XK):Cx where
 prog:=P
 w:=w
 K:=K
 mg:=mg
 Aq:=Aq
 A:=A.deeper (envOfC qual scope s.heap.objs.size f cd)
 N:=N
 s₀:=s
 H₀:=H
 env:=envOfC qual scope s.heap.objs.size f cd
 Ap:=Ap
 stack:=envOfC qual scope s.heap.objs.size f cd::Ap
 ex:=[]
 calm:=true
 fn:=fun _=>true
 pn:=[]
 xe:=fun e s'=>wpAny (model P w) (A.deeper (envOfC qual scope s.heap.objs.size f cd)) (leaving (envOfC qual scope s.heap.objs.size f cd) e) (fun _ s''=>CX Ap H s E e s'') (fun e' s''=>CX Ap H s E e' s'') s'
theorem jL7 {sc:Scope}{n:Nat}{x:Str}(h:sc.names.lookup x=some .cell):∃ c,(cellsFrom n sc.names []).lookup x=some c:=by
 have q:=fZ sc.names n [] (.inl h);exact Option.isSome_iff_exists.mp q
theorem jI1 {CX:CXT}{P:Program}{w:World}{K:W.Frag}{mg:Ak}{Aq:Heap}{N ps:Am}{qual:Str}{scope:Scope}{f:Addr}{cd:Value}{A:Around}{Ap:List Env}{s s1:Shared}{H:Hp}{E:XK}{us:Al}{vs:List V}
  (S:FnScope N ps scope) (hd:A.handled=none) (e0:Env0 P w K mg Aq A Ap s H) (hl:vs.length=ps.length) (r:Vals vs us)
  (x:InCallC s s.heap.objs.size (bindL (envOfC qual scope s.heap.objs.size f cd).kindOf (ps.zip us) fun _=>none) (cellsFrom (s.heap.objs.size+1) scope.names []) (bindC (envOfC qual scope s.heap.objs.size f cd).kindOf (ps.zip us) fun _=>none) s1):
  Inv (cxOf CX P w K mg Aq N qual scope f cd A Ap s H E) [] (yH N vs) H s1:=by
 have hpl:ps.length<=N.length:=by have:=bL List.length S.pre; rw[bB] at this; lia
 obtain⟨h1,tk,rfl,hk⟩:=x.done;have noA:∀ b:Addr,b∉(cxOf CX P w K mg Aq N qual scope f cd A Ap s H E).ex:=fun b z=>absurd (show b∈([]:List Addr) from z) Ad;refine⟨⟨e0.mod,S.kind,rfl,rfl,ak _,fun y z c h1 h2=>?_,fun y hy=>?_,fun y c _ h=>?_,fun _=>hd,Around.frames_deeper e0.frames, .inr ⟨rfl,rfl⟩,fun b z=>absurd z (noA b),e0.bs,e0.bsz,fun b _ _=>noA b,fun b z=>absurd z (noA b),e0.funs,e0.frf⟩,
  rfl,e0.bare,Un.kept hk,⟨_,x.toInCall.ns,fun i y v h1 h2 h3=>?_⟩,fun y c h=>⟨_,x.cell y c h⟩,e0.hok.fresh (ak _),fun y c h=>?_,fun p hp=>absurd (show p∈([]:Ai) from hp) Ad,e0.hok.kept hk,?_⟩
 ·exact name_of_addr x.apart (cw h1) (cw h2)
 ·have hy:scope.names.lookup y=some .cell\/scope.names.lookup y=some .free:=hy;rcases hy with hy | hy
  ·exact jL7 hy
  ·exact absurd rfl (S.nofree _ (cw hy))
 ·exact dh (x.above y c (cw h))
 ·have hi:i<vs.length:=by
   unfold yH at h2;by_cases hi:i<vs.length
   ·exact hi
   ·rw[bh (by simpa using hi)] at h2;rw[iF] at h2;split at h2 <;> cases h2
  have ha:vs[i]?=some v:=by
   unfold yH at h2;rw[bU (by simpa using hi),aL] at h2;cases e:vs[i]? with
   | none=>rw[e] at h2; cases h2
   | some a=>rw[e] at h2; cases h2; rfl
  obtain⟨u,hu,rv⟩:=r.get ha;have hp:ps[i]?=some y:=by
   rw[<- S.pre,ck Aa]; exact h1
  have ndP:ps.Nodup:=by rw[<- S.pre]; exact S.nd.sublist (dy _ _)
  refine⟨u,rv,?_⟩;rcases S.par y (ay hp) with k | k
  ·exact .inl ⟨k,jII ndP hp hu k⟩
  ·obtain⟨c,e⟩:=jL7 (n:=s.heap.objs.size+1) k;refine .inr ⟨.inl k,c,e,?_⟩;have q:=x.cell y c e;rw[jIK ndP hp hu (by show scope.names.lookup y≠_; rw[k]; decide)] at q;exact q
 ·exact e0.hok.fresh (dh (x.above y c (cw h)))
 ·unfold yH;show _=N.length;rw[aF,ab,i6];lia
theorem fn_of {CX:CXT}{P:Program}{w:World}{K:W.Frag}{mg:Ak}{Aq:Heap}{k:Nat}{f:Addr}{name qual:Str}{params:Arguments}{body:List Stmt}{scope:Scope}{dV kV doc pm ki ct oc:Value}{an od:Option Addr}
  {osl:Array (Ao)}{N ps:Am}{sp:Sp}(lk:K.lookup f=some ⟨oc,od, .func (PySem.W.fnOf name qual params body scope dV kV doc pm an ki ct),osl⟩) (hcd:PySem.W.codeIn K ki qual=true) (S:FnScope N ps scope)
  (len:∀ vs H Q E,sp vs H Q E->vs.length=ps.length)
  (hbody:∀ (A:Around) (Ap:List Env) (s:Shared) (H:Hp) (vs:List V) (Q:VK) (E:XK),Room k (A.deeper (envOfC qual scope s.heap.objs.size f ki))->sp vs H Q E->
   ∃ t,PSs (cxOf CX P w K mg Aq N qual scope f ki A Ap s H E) body t/\t { nx:=fun _ H'=>Q .non H',rt:=Q} (yH N vs) H):
  FnOk P w K mg Aq CX (k+1) f (PySem.W.fnOf name qual params body scope dV kV doc pm an ki ct) ps sp:=by
 refine⟨len,fun A Ap s H args us vs Q E hr e0 hb r hsp=>?_⟩;have hl:=len _ _ _ _ hsp;have KX:K.In s.heap:=e0.mod.kin.keeps fun b o e=>(e0.bs b o e).1;have lim:s.heap.NoLimit:=e0.mod.nolimit.keeps fun b o e=>(e0.bs b o e).1;have hkind:∀ y∈ps.zip us,scope.names.lookup y.1=some .local\/(scope.names.lookup y.1=some .cell/\((cellsFrom (s.heap.objs.size+1) scope.names []).lookup y.1).isSome=true):=fun ⟨n,v⟩ hy=>by
  rcases S.par n (dL hy).1 with q | q
  ·exact .inl q
  ·exact .inr ⟨q,fZ _ _ _ (.inl q)⟩
 refine codeAny_call_function hr.depth (KX _ _ lk) rfl S.co S.gen rfl (jr KX hcd) (hb _ _ _ _ ?_);refine gY S.kind hkind fun env he s1 x=>?_;subst he;refine⟨lim.keeps x.toInCall.keep,codeAny_func ?_⟩;obtain⟨t,ht,hq⟩:=hbody A Ap s H vs Q E (hr.deeper _) hsp;have I:Inv (cxOf CX P w K mg Aq N qual scope f ki A Ap s H E) [] (yH N vs) H s1:=jI1 S hr.hd e0 hl r x;refine cy (ht [] s1 (yH N vs) H _ I hq) (fun fl s' hs=>?_) fun e s' hs=>hs;have fin:∀ {σ':St}{H':Hp}{v:V}{u:Value},Inv (cxOf CX P w K mg Aq N qual scope f ki A Ap s H E) [] σ' H' s'->RelV v u->Q v H'->CE Ap P w H s Q u s':=
  fun {σ' H' v u} J rv q=>⟨v,H',J.os,J.bare,J.Aq,J.hok,rv,q⟩
 cases fl with
 | ret u=>
  obtain⟨v,σ',H',J,rv,q⟩:=hs;exact fin J rv q
 | next=>
  obtain⟨σ',H',J,q⟩:=hs;exact fin (v:=V.non) (u:=Value.none) J rfl q
 | brk=>
  obtain⟨_,_,_,q⟩:=hs;exact False.elim q
 | cont=>
  obtain⟨_,_,_,q⟩:=hs;exact False.elim q
section
variable {x:Str}{id T:String}{r:List V->Hp->VK->Prop}
def tCB (r:List V->Hp->VK->Prop)(t:TA):TE:=fun σ H Q=>t σ H fun vs H1=>r vs H1 Q
theorem jG8 (hc:yJ X (.builtin id) r)(hg:Gl X x)(hm:X.mg x=none)(hv:bootBuiltins x=some (.builtin id))(ha:PA X (e::es) t)(hn:x≠ "__name__" :=by decide)(hdb:(x==("__debug__" :Str))=false:=by decide)
  (he:starEach (e::es) X.env=(false,eval e X.env)::starEach es X.env:=by rfl) (hpl:(backTo pos (starEach es X.env)).any (·.1)=false:=by rfl):PE X (.Call (.Name x p) (e::es) [] pos) (tCB r t):=by
 intro kh s σ H Q I h;refine cM (jEO I hg hm hv ?_ hn hdb);exact PyProof.Rows.callWith_builtin1 (kn (ha pos kh s σ H _ I h) fun us s1 ⟨vs,H1,I1,r1,q1⟩=>hc kh s1 σ H1 vs us Q I1 r1 q1) he hpl
theorem jCL (hc:yJ X (.type T) r)(hg:Gl X x)(hm:X.mg x=none)(hv:bootBuiltins x=some (.type T))(ha:PA X (e::es) t)(hn:x≠ "__name__" :=by decide)(hdb:(x==("__debug__" :Str))=false:=by decide)
  (he:starEach (e::es) X.env=(false,eval e X.env)::starEach es X.env:=by rfl) (hpl:(backTo pos (starEach es X.env)).any (·.1)=false:=by rfl):PE X (.Call (.Name x p) (e::es) [] pos) (tCB r t):=by
 intro kh s σ H Q I h;refine cM (jEO I hg hm hv ?_ hn hdb);exact dC (kn (ha pos kh s σ H _ I h) fun us s1 ⟨vs,H1,I1,r1,q1⟩=>hc kh s1 σ H1 vs us Q I1 r1 q1) he hpl
end
end L2
namespace HT
open PySem PyProof.Rows
def lexLt:Ag->Ag->Bool
 | [],[]=>false
 | [],_::_=>true
 | _::_,[]=>false
 | x::xs,y::ys=>if x=y then lexLt xs ys else decide (x<y)
theorem jAI (x y:Int)(xs ys:Ag):lexLt (x::xs) (y::ys)=if x=y then lexLt xs ys else decide (x<y):=rfl
theorem jGL:lexLt [] []=false:=rfl
theorem jF3 (y:Int)(ys:Ag):lexLt [] (y::ys)=true:=rfl
theorem jF4 (x:Int)(xs:Ag):lexLt (x::xs) []=false:=rfl
theorem jS1 (A:Around)(s:Shared)(a:Int)(t:Tok)(c:Int)(u:Tok):∃ e,SeqAt.EqAt A s (.int a t) (.int c u) e/\(e=true↔a=c):=
 ⟨(a==c),gZ a t c u,Ad⟩
theorem rcLt_int (A:Around)(s:Shared)(a:Int)(t:Tok)(c:Int)(u:Tok)(prog:Program)(w:World)(E:Ah)(Q:Ah)(h:Q (.bool (decide (a<c))) s):
  wpAny (model prog w) A (richCompare .Lt (.int a t) (.int c u)) Q E s:=
 (PyProof.Rows.lt_int h:wpAny (model prog w) A (compareOp .Lt (.int a t) (.int c u)) Q E s)
section
open PySem.SeqAt
open PySem.AutoSeq1 (wpAny_loadPart')
open PySem.MeetsSeq PySem.MeetsSeq2 PySem.MeetsSeq3
theorem tuple_lt_ints (l b:Addr)(items items2:An)(n n2:Nat)(dd dd2:Option Addr)(sl sl2:Array (Ao))(ns ms:Ag)(hi:IntsAre items.toList ns)(hj:IntsAre items2.toList ms):
  Meets (Builtin.«tuple.__lt__» ⟨[.ref l, .ref b],[]⟩)
   (fun _ R s=>s.heap.get? l=some { cls:= .type "tuple",dict:=dd,data:= .seq items n,slots:=sl} /\s.heap.get? b=some { cls:= .type "tuple",dict:=dd2,data:= .seq items2 n2,slots:=sl2} /\
    R (.ok (.ret (.bool (lexLt ns ms)))) s):=
 .of_wp fun prog w A R s h=>by
  obtain⟨hp,g,d,tk,os⟩:=s; obtain⟨hl,hb,h⟩:=h;have f2:=AutoSeq1.sub_tuple_tuple;have z1:items.size=ns.length:=by rw[<- hi.length]; simp
  have z2:items2.size=ms.length:=by rw[<- hj.length]; simp
  wp_walk using cG hl,cG hb,wpAny_forIn_list _ (fun rest b s'=>b.1=none/\s'=⟨hp,g,d,tk,os⟩/\∃ (vs ws:Al) (ns' ms':Ag),rest=vs.zip ws/\
   IntsAre vs ns'/\IntsAre ws ms'/\ns'.length+items2.size=ms'.length+items.size/\R (.ok (.ret (.bool (lexLt ns' ms')))) ⟨hp,g,d,tk,os⟩) _
  case turn=>
   rintro ⟨y,x⟩ rest b s' ⟨hb',rfl,vs,ws,ns',ms',hz,hvi,hwi,hlen,hR⟩;cases hvi with
   | nil=>rw[List.zip_nil_left] at hz; cases hz
   | cons a t hvi'=>
    cases hwi with
    | nil=>rw[List.zip_nil_right] at hz; cases hz
    | cons c u hwi'=>
     rw[eC] at hz;injection hz with hyx hrest;injection hyx with hy hx;subst hy hx;rw[jAI] at hR;simp only [aP] at hlen;obtain⟨e,he,hiff⟩:=jS1 A.in1 ⟨hp,g,d,tk,os⟩ a t c u;refine ae (he prog w _ _ ?_);cases e with
     | true=>
      rw[ao (hiff.mp rfl)] at hR
      wp_walk
      exact⟨rfl,rfl,_,_,_,_,hrest,hvi',hwi',Aa,hR⟩
     | false=>
      rw[am (fun q=>absurd (hiff.mpr q) aj)] at hR;have hri:=rcLt_int A.in1 ⟨hp,g,d,tk,os⟩ a t c u prog w
      wp_walk using hri
      exact⟨_,rfl,by simpa using hR⟩
  case fin=>
   rintro ⟨b1,b2⟩ s' ⟨hb',rfl,vs,ws,ns',ms',hz,hvi,hwi,hlen,hR⟩;simp only at hb';subst hb';have hv:lexLt ns' ms'=decide (items.size<items2.size):=by
    cases hvi with
    | nil=>
     cases hwi with
     | nil=>
      simp only [cH] at hlen;rw[jGL];exact(aJ Aa).symm
     | cons c u hw=>
      simp only [cH,aP] at hlen;rw[jF3];exact(aq Aa).symm
    | cons a t hv=>
     cases hwi with
     | nil=>
      simp only [cH,aP] at hlen;rw[jF4];exact(aJ Aa).symm
     | cons c u hw=>
      rw[eC] at hz;cases hz
   rw[hv] at hR
   wp_walk
   exact⟨_,rfl,by simpa [Builtin.Tuple.tupleCompareSizes] using hR⟩
  case h=>
   exact⟨rfl,rfl,items.toList,items2.toList,ns,ms,rfl,hi,hj,Aa,h⟩
end
section
variable {prog:Program}{w:World}{A:Around}{E:Ah}{s:Shared}
theorem lt_tupInts {l b:Addr}{items items2:An}{ns ms:Ag}{Q:Ah}(hl:IsTup s.heap l items)(hb:IsTup s.heap b items2)(hi:IntsAre items.toList ns)(hj:IntsAre items2.toList ms)
  (hu:A.units<cLine) (h:Q (.bool (lexLt ns ms)) s):wpAny (model prog w) A (compareOp .Lt (.ref l) (.ref b)) Q E s:=by
 obtain⟨⟨cls,dd,data,sl⟩,ho,hc,n,hd⟩:=id hl;obtain⟨⟨cls2,dd2,data2,sl2⟩,ho2,hc2,n2,hd2⟩:=id hb;simp only at hc hd hc2 hd2;subst hc hd hc2 hd2;exact richCompare_meets_room (op:= .Lt) ⟨_,ho,rfl⟩ ⟨_,ho2,rfl⟩ gx iO (iG _ _) (tuple_lt_ints l b items items2 n n2 dd dd2 sl sl2 ns ms hi hj)
  ⟨ho,ho2,show Value.bool (lexLt ns ms)≠Value.notImplemented/\Q (.bool (lexLt ns ms)) s from ⟨(fun x=>nomatch x),h⟩⟩ hu
theorem cat_tup {t b:Addr}{vs ws:Al}{Q:Ah}(ht:IsTup s.heap t vs.toArray)(hb:IsTup s.heap b ws.toArray)(hv:vs≠ [])
  (h1:ws=[]->Q (.ref t) s) (h2:ws≠ []->Q (.ref s.heap.objs.size) { s with heap:=s.heap.push { cls:= .type "tuple",data:= .seq (vs++ws).toArray}})
  (hsz:vs.length+ws.length<=sizeLine):wpAny (model prog w) A (binaryOp .Add (.ref t) (.ref b)) Q E s:=by
 obtain⟨⟨cls,dd,data,sl⟩,ho,hc,n,hd⟩:=id ht;obtain⟨⟨cls2,dd2,data2,sl2⟩,ho2,hc2,n2,hd2⟩:=id hb;simp only at hc hd hc2 hd2;subst hc hd hc2 hd2;have e:vs.toArray++ws.toArray=(vs++ws).toArray:=Ad;by_cases hw:ws=[]
 ·exact concat_meets ⟨_,ho,rfl⟩ ⟨_,ho2,rfl⟩ iH seq_tuple_add ga fY (fk _ _)
   (tuple_addW1 t b vs.toArray ws.toArray n n2 dd dd2 sl sl2 (by simpa using hv) (by simp [hw])) ⟨ho,ho2,h1 hw⟩
 ·refine concat_meets ⟨_,ho,rfl⟩ ⟨_,ho2,rfl⟩ iH seq_tuple_add ga fY (fk _ _)
   (tuple_addW2 t b vs.toArray ws.toArray n n2 dd dd2 sl sl2 (by simpa using hv) (by simpa using hw) (by rw[ar,ar]; exact hsz)) ⟨ho,ho2,?_⟩
  rw[e];exact h2 hw
def sIx (n d:Nat):Option Int->Nat
 | none=>d
 | some v=>if v<0 then (v+(n:Int)).toNat else min v.toNat n
end
end HT
namespace L2
open PySem PySem.Spec PyProof.Rows
abbrev TO:=St->Hp->(Option Int->Hp->Prop)->Prop
def PO (X:Cx)(e:Option Expr)(t:TO):Prop:=
 ∀ (kh:Ai) (s:Shared) (σ:St) (H:Hp) (Q:Option Int->Hp->Prop),Inv X kh σ H s->t σ H Q->
  wpAny (model X.prog X.w) X.A (evalPart e X.env) (fun u s'=>∃ o H',Inv X kh σ H' s'/\IsPart u o/\Q o H') X.xe s
def jMP:TO:=fun _ H Q=>Q none H
def tPart (t:TE):TO:=fun σ H Q=>t σ H fun x H1=>∃ i,x= .int i/\Q (some i) H1
theorem jM1 {ns:Ag} :∀ {us:Al},Vals (ns.map V.int) us->IntsAre us ns:=by
 induction ns with
 | nil=>intro us r; rw[iP] at r; cases r; exact .nil
 | cons n ns ih=>
  intro us r;rw[bv] at r;cases r with
  | cons r1 r2=>
   obtain⟨t,e⟩:=r1;subst e;exact .cons n t (ih r2)
variable {X:Cx}{e:Expr}{pos:Pos}
section
variable {te:TE}{lo hi:Option Expr}{tl th:TO}{p2:Pos}
theorem jU2:PO X none jMP:=by
 intro kh s σ H Q I h;rw[evalPart_none];exact ah ⟨none,H,I, .none,h⟩
theorem jU1 (h:PE X e te):PO X (some e) (tPart te):=by
 intro kh s σ H Q I hw;rw[evalPart_some];refine kn (h kh s σ H _ I hw) fun u s1 ⟨x,H1,I1,r1,q1⟩=>?_;obtain⟨i,rfl,q⟩:=q1;obtain⟨t,rfl⟩:=r1;exact⟨some i,H1,I1, .int i t,q⟩
def SlR (X:Cx)(r:V->Option Int->Option Int->Hp->VK->Prop):Prop:=
 ∀ (kh:Ai) (s:Shared) (σ:St) (H:Hp) (x:V) (v vl vu:Value) (lo hi:Option Int) (sl:Addr) (Q:VK),Inv X kh σ H s->RelV x v->s.heap.IsSliceOf sl vl vu .none->IsPart vl lo->IsPart vu hi->r x lo hi H Q->
  ∃ T id,typeLookup (.type T) "__getitem__" =pure (some (.builtin id))/\s.TypeIs v T/\wpAny (model X.prog X.w) X.A (getItem v (.ref sl)) (EP X kh σ Q) X.xe s
def tSl (r:V->Option Int->Option Int->Hp->VK->Prop)(te:TE)(tl th:TO):TE:=fun σ H Q=>te σ H fun x H1=>tl σ H1 fun l H2=>th σ H2 fun u H3=>r x l u H3 Q
theorem jQN {r:V->Option Int->Option Int->Hp->VK->Prop}(hr:SlR X r)(he:PE X e te)(hl:PO X lo tl)(hu:PO X hi th):PE X (.Subscript e (.Slice lo hi none p2) pos) (tSl r te tl th):=by
 intro kh s σ H Q I h;refine Subscript_ (kn (he kh s σ H _ I h) fun v s1 ⟨x,H1,I1,r1,q1⟩=>?_);refine wpAny_Slice (kn (hl kh s1 σ H1 _ I1 q1) fun vl s2 ⟨l,H2,I2,pl,q2⟩=>kn (hu kh s2 σ H2 _ I2 q2) fun vu s3 ⟨u,H3,I3,pu,q3⟩=>?_);rw[evalPart_none];refine ah ?_;have I4:Inv X kh σ H3 { s3 with heap:=s3.heap.push { cls:= .type "slice",data:= .fields #[vl,vu, .none]}} :=I3.kept (t':=s3.toks) fun b ob q=>af _ q;obtain⟨T,id,hT,ht,hg⟩:=hr kh { s3 with heap:=s3.heap.push { cls:= .type "slice",data:= .fields #[vl,vu, .none]}} σ H3 x v vl vu l u s3.heap.objs.size Q I4 r1 (Heap.IsSliceOf.new ..) pl pu q3;show wpAny (model X.prog X.w) X.A (subscriptTail e (.Slice lo hi none p2) v (.ref s3.heap.objs.size)) (EP X kh σ Q) X.xe { s3 with heap:=s3.heap.push { cls:= .type "slice",data:= .fields #[vl,vu, .none]}};exact tail_any (ops:=[.ref s3.heap.objs.size,v]) ht hT hg (by with_unfolding_all rfl)
def cutV (xs:List V)(lo hi:Option Int):List V:=(xs.drop (HT.sIx xs.length 0 lo)).take (HT.sIx xs.length xs.length hi - HT.sIx xs.length 0 lo)
theorem jJE (xs:List V)(lo hi:Option Int):(cutV xs lo hi).length<=xs.length:=by
 unfold cutV;rw[bB,gz];lia
def rCatT (K:W.Frag):R2:=fun x y H Q=>∃ a b xs ys,x= .ref a/\y= .ref b/\SqT K H a xs/\SqT K H b ys/\xs≠ []/\xs.length+ys.length<=sizeLine/\
 (ys=[]->Q (.ref a) H)/\(ys≠ []->∀ p,H p=none->Q (.ref p) (upd H p (.tup (xs++ys))))
theorem Vals.nil_iff {xs:List V}{us:Al}(r:Vals xs us):us=[]↔xs=[]:=by
 cases r with
 | nil=>simp
 | cons _ _=>simp
theorem jUI:OpR X (binaryOp .Add) (rCatT X.K):=by
 intro kh s σ H x y v u Q I rx ry h;obtain⟨a,b,xs,ys,rfl,rfl,ha,hb,hx,hz,q1,q2⟩:=h;cases rx;cases ry;obtain⟨its,r1,p1,_⟩:=I.tuple ha;obtain⟨its2,r2,p2,_⟩:=I.tuple hb;refine HT.cat_tup p1 p2 (fun z=>hx (r1.nil_iff.mp z)) (fun z=>⟨.ref a,H,I,rfl,q1 (r2.nil_iff.mp z)⟩) (fun z=>?_) (by rw[<- r1.length,<- r2.length]; exact hz);refine⟨.ref s.heap.objs.size,_,I.laid (t':=s.toks) (o:= .tup (xs++ys)) (fun b ob q=>af _ q) (ak _) ?_,rfl,q2 (fun w=>z (r2.nil_iff.mpr w)) _ (I.hok.fresh (ak _))⟩;exact⟨by rw[aF]; exact hz,_,r1.append r2,TupO.new _ _⟩
end
def ixN (n:Nat)(i:Int):Option Nat:=if 0<=i then (if i<n then some i.toNat else none) else if -(n:Int)<=i then some (i+n).toNat else none
def atI {α:Type}(xs:List α)(i:Int):Option α:=(ixN xs.length i).bind fun j=>xs[j]?
theorem jOR {n:Nat}{i:Int}{j:Nat}(h:ixN n i=some j):seqIndex? i n=some j/\j<n/\ -(n:Int)<=i/\i<n:=by
 unfold ixN at h;by_cases h0:0<=i
 ·rw[ao h0] at h;by_cases h1:i<n
  ·rw[ao h1] at h;have e:i.toNat=j:=bq h;exact⟨by rw[seqIndex_of h0 h1,e],Aa,Aa,h1⟩
  ·rw[am h1] at h; cases h
 ·rw[am h0] at h;by_cases h1: -(n:Int)<=i
  ·rw[ao h1] at h;have e:(i+n).toNat=j:=bq h;exact⟨by rw[seqIndex_neg Aa h1,e],Aa,h1,Aa⟩
  ·rw[am h1] at h; cases h
theorem jPX {α:Type}{xs:List α}{i:Int}{v:α}(h:atI xs i=some v):∃ j,seqIndex? i xs.length=some j/\xs[j]?=some v/\j<xs.length/\ -(xs.length:Int)<=i/\i<xs.length:=by
 unfold atI at h;cases e:ixN xs.length i with
 | none=>rw[e] at h; cases h
 | some j=>
  rw[e] at h;obtain⟨h1,h2,h3,h4⟩:=jOR e;exact⟨j,h1,h,h2,h3,h4⟩
theorem yQ {α:Type}{xs:List α}{j:Nat}{v:α}(h:xs[j]?=some v):atI xs (j:Int)=some v:=by
 have hj:j<xs.length:=(ai.mp h).1;have e:ixN xs.length (j:Int)=some j:=by
  unfold ixN;rw[ao Aa,ao Aa]; simp
 unfold atI; rw[e]; exact h
def jB8 (b:Expr):Prop:=∀ o i,subscripted b false o i=operate [o,i] (getItem o i)
def IxR (X:Cx)(r:R2):Prop:=
 ∀ (value slice:Expr) (kh:Ai) (s:Shared) (σ:St) (H:Hp) (x y:V) (v u:Value) (Q:VK),Inv X kh σ H s->RelV x v->RelV y u->r x y H Q->
  subscripted slice false v u=operate [v,u] (getItem v u)->wpAny (model X.prog X.w) X.A (subscriptTail value slice v u) (EP X kh σ Q) X.xe s
def MtR (X:Cx)(id:String)(r:V->List V->Hp->VK->Prop):Prop:=
 ∀ (kh:Ai) (s:Shared) (σ:St) (H:Hp) (x:V) (xs:List V) (v:Value) (us:Al) (Q:VK),Inv X kh σ H s->RelV x v->Vals xs us->r x xs H Q->
  wpAny (model X.prog X.w) X.A (call (.builtin id) (v::us)) (EP X kh σ Q) X.xe s
section
variable {a b:Expr}{ta tb:TE}
theorem pe_ix {r:R2}(hr:IxR X r)(ha:PE X a ta)(hb:PE X b tb)(hs:jB8 b):PE X (.Subscript a b pos) (tOp r ta tb):=by
 intro kh s σ H Q I h;exact Subscript_ (binT ha hb I h fun v u s2 x y H2 I2 rx ry q=>hr a b kh s2 σ H2 x y v u Q I2 rx ry q (hs _ _))
def rIxL (K:W.Frag):R2:=fun x y H Q=>∃ p xs i v,x= .ref p/\y= .int i/\SqL K H p xs/\atI xs i=some v/\Q v H
def rIxT (K:W.Frag):R2:=fun x y H Q=>∃ p xs i v,x= .ref p/\y= .int i/\SqT K H p xs/\atI xs i=some v/\Q v H
theorem jBL:IxR X (rIxL X.K):=by
 intro value slice kh s σ H x y v u Q I rx ry h hs;obtain⟨p,xs,i,z,rfl,rfl,hq,he,q⟩:=h;cases rx;obtain⟨t,rfl⟩:=ry;obtain⟨its,r,pl,hz⟩:=I.list hq;obtain⟨j,h1,h2,h3,h4,h5⟩:=jPX he;obtain⟨w,ew,rw'⟩:=r.get h2;have hl:=r.length;have hn:=jHX;have fin:EP X kh σ Q w s:=⟨z,H,I,rw',q⟩;by_cases h0:0<=i
 ·have hj:i.toNat=j:=by
   rw[seqIndex_of h0 h5] at h1;exact bq h1
  exact item_listR pl.isList h0 Aa (by rw[hj]; simpa using ew) fin hs
 ·have hj:(i+(its.toArray.size:Int)).toNat=j:=by
   rw[seqIndex_neg Aa h4] at h1;rw[ar,<- hl];exact bq h1
  exact subscriptTail_builtinR (x:=w) pl.isList.typeIs slot_list_getitem.lookup
   (wpAny_getItem_list_neg (Q:=fun r s'=>r=w/\EP X kh σ Q r s') pl.isList Aa (by rw[ar] <;> lia) Aa (by rw[hj]; simpa using ew) ⟨rfl,fin⟩) hs
theorem jI:IxR X (rIxT X.K):=by
 intro value slice kh s σ H x y v u Q I rx ry h hs;obtain⟨p,xs,i,z,rfl,rfl,hq,he,q⟩:=h;cases rx;obtain⟨t,rfl⟩:=ry;obtain⟨its,r,pl,hz⟩:=I.tuple hq;obtain⟨j,h1,h2,h3,h4,h5⟩:=jPX he;obtain⟨w,ew,rw'⟩:=r.get h2;have hl:=r.length;have hn:=jHX;have fin:EP X kh σ Q w s:=⟨z,H,I,rw',q⟩;exact subscriptTail_builtinR (x:=w) pl.typeIs slot_tuple_getitem.lookup
  (getItem_tuple (j:=j) (Q:=fun r s'=>r=w/\EP X kh σ Q r s') pl Aa Aa (by rw[ar,<- hl]; exact h1) (by simpa using ew) ⟨rfl,fin⟩) hs
theorem jLS (its:Al)(n j:Nat)(u:Value):Obj.mapSeq (·.setIfInBounds j u) { cls:= .type "list",data:= .seq its.toArray n} = { cls:= .type "list",data:= .seq (its.set j u).toArray n} :=by
 simp [Obj.mapSeq]
theorem Inv.lst {kh:Ai}{σ:St}{H:Hp}{s:Shared}{p:Addr}{xs:List V}(I:Inv X kh σ H s)(h:H p=some (.lst xs)):
  ∃ (its:Al) (n:Nat),Vals xs its/\s.heap.get? p=some { cls:= .type "list",data:= .seq its.toArray n} /\xs.length<=sizeLine:=by
 obtain⟨z,its,n,r,e⟩:=I.hok p _ h;exact⟨its,n,r,e,z⟩
theorem Inv.lstUpd {kh:Ai}{σ:St}{H:Hp}{s:Shared}{p:Addr}{xs ys:List V}{its its':Al}{n n':Nat}{f:Obj->Obj}(I:Inv X kh σ H s)(h:H p=some (.lst xs))
  (ho:s.heap.get? p=some { cls:= .type "list",data:= .seq its.toArray n}) (hf:f { cls:= .type "list",data:= .seq its.toArray n} = { cls:= .type "list",data:= .seq its'.toArray n'}) (r:Vals ys its') (hz:ys.length<=sizeLine) (t:Nat):
  Inv X kh σ (upd H p (.lst ys)) { s with heap:=s.heap.update p f,toks:=t} :=by
 have e:(s.heap.update p f).get? p=some { cls:= .type "list",data:= .seq its'.toArray n'} :=by
  rw[dG f ho (by rw[hf] <;> rfl),hf]
 refine I.write (x:=p) (e:=p) (by rw[h]; trivial) (.inl rfl) (fun b u hb q=>(cW _ _ (fw hb)).trans q) ⟨_,e⟩ ?_;exact⟨hz,its',n',r,e⟩
def rSetL:V->V->V->Hp->(Hp->Prop)->Prop:=fun o i v H Q=>∃ p xs k j,o= .ref p/\i= .int k/\H p=some (.lst xs)/\ixN xs.length k=some j/\Q (upd H p (.lst (xs.set j v)))
theorem jQB:PSet X rSetL:=by
 intro kh s σ H o i v ov iv u Q I ro ri rv h;obtain⟨p,xs,k,j,rfl,rfl,hp,hj,q⟩:=h;cases ro;obtain⟨t,rfl⟩:=ri;obtain⟨its,n,r,ho,hz⟩:=I.lst hp;obtain⟨h1,h2,h3,h4⟩:=jOR hj;have hl:=r.length;have hn:=jHX;have I':Inv X kh σ (upd H p (.lst (xs.set j v))) { s with heap:=s.heap.update p (Obj.mapSeq (·.setIfInBounds j u))} :=
  I.lstUpd hp ho (jLS its n j u) (r.set rv j) (by rw[List.length_set]; exact hz) s.toks
 by_cases h0:0<=k
 ·have hk:k.toNat=j:=by
   rw[seqIndex_of h0 h4] at h1;exact bq h1
  exact PySem.W.ki_setAt ho h0 Aa (by rw[ar,<- hl]; exact h4) (by rw[hk]; exact⟨_,I',q⟩)
 ·have hk:(k+(its.toArray.size:Int)).toNat=j:=by
   rw[seqIndex_neg Aa h3] at h1;rw[ar,<- hl];exact bq h1
  exact PySem.W.ki_setBack ho Aa (by rw[ar,<- hl]; exact h3) Aa (by rw[hk]; exact⟨_,I',q⟩)
theorem jHG (lo hi:Option Int)(n:Nat):(sliceBounds lo hi none n).1=((HT.sIx n 0 lo:Nat):Int)/\(sliceBounds lo hi none n).2.1=((HT.sIx n n hi:Nat):Int)/\(sliceBounds lo hi none n).2.2=1:=by
 refine⟨?_,?_,rfl⟩
 ·cases lo with
  | none=>simp [sliceBounds,HT.sIx]
  | some i=>
   simp only [sliceBounds,HT.sIx,getD_none,show (1:Int)>0 by decide,gc];by_cases h:i<0
   ·simp only [h,gc] <;> lia
   ·simp only [h,kf] <;> lia
 ·cases hi with
  | none=>simp [sliceBounds,HT.sIx]
  | some i=>
   simp only [sliceBounds,HT.sIx,getD_none,show (1:Int)>0 by decide,gc];by_cases h:i<0
   ·simp only [h,gc] <;> lia
   ·simp only [h,kf] <;> lia
theorem jG2 (its:Al)(lo hi:Option Int):slicePick its.toArray lo hi none=((its.drop (HT.sIx its.length 0 lo)).take (HT.sIx its.length its.length hi - HT.sIx its.length 0 lo)).toArray:=by
 obtain⟨h1,h2,h3⟩:=jHG lo hi its.toArray.size;unfold slicePick;rw[h1,h2,h3];simp only [sliceRange_one,pick_run,ar] <;> rfl
def rSlL (K:W.Frag):V->Option Int->Option Int->Hp->VK->Prop:=fun x lo hi H Q=>∃ a xs,x= .ref a/\SqL K H a xs/\∀ p,H p=none->Q (.ref p) (upd H p (.lst (cutV xs lo hi)))
theorem jMY:SlR X (rSlL X.K):=by
 intro kh s σ H x v vl vu lo hi sl Q I rx hs pl pu h;obtain⟨a,xs,rfl,hx,q⟩:=h;cases rx;obtain⟨its,r,ht,hz⟩:=I.list hx;have hlen:=r.length;refine⟨"list",_,slot_list_getitem.lookup,ht.isList.typeIs,?_⟩;refine wpAny_getItem_list_slice ht.isList hs pl pu .none Ad ?_ (by rw[ar] <;> lia);rw[jG2,<- hlen];refine⟨.ref s.heap.objs.size,_,I.laid (t':=s.toks) (o:= .lst (cutV xs lo hi)) (fun b ob q=>af _ q) (ak _) ?_,rfl,q _ (I.hok.fresh (ak _))⟩;exact⟨be (jJE xs lo hi) hz,_,0,(r.drop (HT.sIx xs.length 0 lo)).take (HT.sIx xs.length xs.length hi - HT.sIx xs.length 0 lo),ax _ rfl⟩
def xE:V->Bool
 | .non=>true
 | .bl _=>true
 | .int _=>true
 | .str _=>true
 | _=>false
def eqV:V->V->Bool
 | .non, .non=>true
 | .bl a, .bl b=>a==b
 | .bl a, .int b=>(if a then 1 else 0)==b
 | .int a, .bl b=>a==(if b then 1 else 0)
 | .int a, .int b=>a==b
 | .str a, .str b=>a==b
 | _,_=>false
theorem jT7 {A:Around}{s:Shared}{y x:V}{u v:Value}(ry:RelV y u)(rx:RelV x v)(fy:xE y=true)(fx:xE x=true):SeqAt.EqAt A s u v (eqV y x):=by
 cases y with
 | non=>
  cases ry;cases x with
  | non=>cases rx; exact SeqAt.EqAt.same _
  | bl b=>cases rx; exact SeqAt.EqAt.none_bool b
  | int b=>obtain⟨t,rfl⟩:=rx; exact SeqAt.EqAt.none_int b t
  | str b=>obtain⟨t,rfl⟩:=rx; exact SeqAt.EqAt.none_str b t
  | _=>exact absurd (show false=true from fx) aj
 | bl a=>
  cases ry;cases x with
  | non=>cases rx; exact SeqAt.EqAt.bool_none a
  | bl b=>cases rx; exact SeqAt.EqAt.bool_bool a b
  | int b=>obtain⟨t,rfl⟩:=rx; exact SeqAt.EqAt.bool_int a b t
  | str b=>obtain⟨t,rfl⟩:=rx; exact SeqAt.EqAt.bool_str a b t
  | _=>exact absurd (show false=true from fx) aj
 | int a=>
  obtain⟨t',rfl⟩:=ry;cases x with
  | non=>cases rx; exact SeqAt.EqAt.int_none a t'
  | bl b=>cases rx; exact SeqAt.EqAt.int_bool a t' b
  | int b=>obtain⟨t,rfl⟩:=rx; exact gZ a t' b t
  | str b=>obtain⟨t,rfl⟩:=rx; exact SeqAt.EqAt.int_str a t' b t
  | _=>exact absurd (show false=true from fx) aj
 | str a=>
  obtain⟨t',rfl⟩:=ry;cases x with
  | non=>cases rx; exact SeqAt.EqAt.str_none a t'
  | bl b=>cases rx; exact SeqAt.EqAt.str_bool a t' b
  | int b=>obtain⟨t,rfl⟩:=rx; exact SeqAt.EqAt.str_int a t' b t
  | str b=>obtain⟨t,rfl⟩:=rx; exact SeqAt.EqAt.str_str a t' b t
  | _=>exact absurd (show false=true from fx) aj
 | _=>exact absurd (show false=true from fy) aj
def eqU (x:V)(u:Value):Bool:=match u with
 | .none=>eqV .non x
 | .bool b=>eqV (.bl b) x
 | .int i _=>eqV (.int i) x
 | .str z _=>eqV (.str z) x
 | _=>false
theorem jPA {x y:V}{u:Value}(r:RelV y u)(f:xE y=true):eqU x u=eqV y x:=by
 cases y with
 | non=>cases r; rfl
 | bl b=>cases r; rfl
 | int i=>obtain⟨t,rfl⟩:=r; rfl
 | str z=>obtain⟨t,rfl⟩:=r; rfl
 | _=>exact absurd (show false=true from f) aj
theorem jF2 {x:V} :∀ {xs:List V}{us:Al},Vals xs us->xs.all xE=true->us.any (eqU x)=xs.any fun y=>eqV y x
 | _,_, .nil,_=>rfl
 | y::xs,u::us, .cons r t,f=>by
  rw[eG,bG] at f;rw[gC,gC,jPA r f.1,jF2 t f.2]
theorem jBU {A:Around}{s:Shared}{x:V}{v:Value}(rx:RelV x v)(fx:xE x=true):∀ {xs:List V}{us:Al},Vals xs us->xs.all xE=true->∀ u∈us,SeqAt.EqAt A s u v (eqU x u)
 | _,_, .nil,_=>fun u hu=>by cases hu
 | y::xs,u::us, .cons r t,f=>fun u' hu=>by
  rw[eG,bG] at f;rcases aG.mp hu with rfl | hu
  ·rw[jPA r f.1]; exact jT7 r rx f.1 fx
  ·exact jBU rx fx t f.2 u' hu
def inV (x:V)(xs:List V):Bool:=xs.any fun y=>eqV y x
def rIn (K:W.Frag)(neg:Bool):R2:=fun x y H Q=>∃ p xs,y= .ref p/\(SqL K H p xs\/SqT K H p xs)/\xE x=true/\xs.all xE=true/\Q (.bl (if neg then !inV x xs else inV x xs)) H
theorem jBH:OpR X (compareOp .In) (rIn X.K false):=by
 intro kh s σ H x y v u Q I rx ry h;obtain⟨p,xs,rfl,hq,fx,fs,q⟩:=h;cases ry;rcases hq with hq | hq
 ·obtain⟨its,r,pl,hz⟩:=I.list hq;refine SeqAt.in_listAt (eqU x) pl.isList (fun w hw=>jBU rx fx r fs w (by simpa using hw)) ⟨.bl _,H,I,rfl,?_⟩;rw[show its.toArray.any (eqU x)=its.any (eqU x) by simp,jF2 r fs];exact q
 ·obtain⟨its,r,pl,hz⟩:=I.tuple hq;refine SeqAt.in_tupleAt (eqU x) pl (fun w hw=>jBU rx fx r fs w (by simpa using hw)) ⟨.bl _,H,I,rfl,?_⟩;rw[show its.toArray.any (eqU x)=its.any (eqU x) by simp,jF2 r fs];exact q
theorem jHN:OpR X (compareOp .NotIn) (rIn X.K true):=by
 intro kh s σ H x y v u Q I rx ry h;obtain⟨p,xs,rfl,hq,fx,fs,q⟩:=h;cases ry;rcases hq with hq | hq
 ·obtain⟨its,r,pl,hz⟩:=I.list hq;refine SeqAt.notIn_listAt (eqU x) pl.isList (fun w hw=>jBU rx fx r fs w (by simpa using hw)) ⟨.bl _,H,I,rfl,?_⟩;rw[show its.toArray.any (eqU x)=its.any (eqU x) by simp,jF2 r fs];exact q
 ·obtain⟨its,r,pl,hz⟩:=I.tuple hq;refine SeqAt.notIn_tupleAt (eqU x) pl (fun w hw=>jBU rx fx r fs w (by simpa using hw)) ⟨.bl _,H,I,rfl,?_⟩;rw[show its.toArray.any (eqU x)=its.any (eqU x) by simp,jF2 r fs];exact q
theorem jW:yJ X (.builtin "len") (fun xs H Q=>∃ p ys,xs=[.ref p]/\(SqL X.K H p ys\/SqT X.K H p ys)/\Q (.int ys.length) H):=by
 intro kh s σ H xs us Q I r h;obtain⟨p,ys,rfl,hq,q⟩:=h;obtain⟨u,rfl,rx⟩:=vals1 r;cases rx;have hn:=jHX;rcases hq with hq | hq
 ·obtain⟨its,r',pl,hz⟩:=I.list hq;have hlen:=r'.length;exact Calls.call_len_list pl.isList (by simp only [ar] <;> lia) ⟨.int ys.length,H,I.tok _,⟨s.toks+1,by rw[ar,hlen]⟩,q⟩
 ·obtain⟨its,r',pl,hz⟩:=I.tuple hq;have hlen:=r'.length;exact len_tuple pl (by simp only [ar] <;> lia) ⟨.int ys.length,H,I.tok _,⟨s.toks+1,by rw[ar,hlen]⟩,q⟩
theorem jT:yJ X (.type "tuple") (fun xs H Q=>∃ p ys,xs=[.ref p]/\((SqL X.K H p ys/\∀ l,H l=none->Q (.ref l) (upd H l (.tup ys)))\/(SqT X.K H p ys/\Q (.ref p) H))):=by
 intro kh s σ H xs us Q I r h;obtain⟨p,ys,rfl,h⟩:=h;obtain⟨u,rfl,rx⟩:=vals1 r;cases rx;rcases h with ⟨hq,q⟩ | ⟨hq,q⟩
 ·obtain⟨its,r',pl,hz⟩:=I.list hq;have hlen:=r'.length;refine call_tuple_list pl.isList (fun h' kp=>?_) (by simp only [ar] <;> lia);have I1:Inv X kh σ H { s with heap:=h'} :=I.kept (t':=s.toks) kp;have I2:Inv X kh σ (upd H h'.objs.size (.tup ys)) { s with heap:=h'.push { cls:= .type "tuple",data:= .seq its.toArray}} :=
   I1.laid (t':=s.toks) (fun b o e=>af _ e) (ak _) (show ObjOk X.prog X.w _ _ _ (.tup ys) from ⟨hz,its,r',TupO.new _ _⟩)
  exact⟨.ref h'.objs.size,_,I2,rfl,q _ (I1.hok.fresh (ak _))⟩
 ·obtain⟨its,r',pl,hz⟩:=I.tuple hq;exact call_tuple_same pl ⟨.ref p,H,I,rfl,q⟩
def tyV (K:W.Frag)(T:String)(x:V)(H:Hp):Prop:=match x with
 | .str _=>T= "str"
 | .int _=>T= "int"
 | .ref p=>(T= "list" /\∃ xs,SqL K H p xs)\/(T= "tuple" /\∃ o,K.lookup p=some o/\o.cls= .type "tuple" /\o.dict=none)\/
   (T= "dict" /\((∃ kvs,H p=some (.dK kvs))\/∃ kvs,H p=some (.dT kvs)))\/(T= "set" /\∃ S n,H p=some (.set S n))
 | _=>False
theorem jSI {kh:Ai}{σ:St}{H:Hp}{s:Shared}{T:String}{x:V}{v:Value}(I:Inv X kh σ H s)(r:RelV x v)(ty:tyV X.K T x H):
  s.TypeIs v T/\∀ a,v= .ref a->∃ ob,s.heap.get? a=some ob/\ob.dict=none:=by
 cases x with
 | str z=>
  obtain⟨t,rfl⟩:=r;cases (show T= "str" from ty);exact⟨typeIs_str s z t,fun _ e=>nomatch e⟩
 | int i=>
  obtain⟨t,rfl⟩:=r;cases (show T= "int" from ty);exact⟨typeIs_int s i t,fun _ e=>nomatch e⟩
 | ref p=>
  cases r;rcases ty with ⟨rfl,xs,hq⟩ | ⟨rfl,o,hk,hc,hd⟩ | ⟨rfl,hk⟩ | ⟨rfl,S,n,hk⟩
  ·obtain⟨its,_,pl,_⟩:=I.list hq;refine⟨pl.isList.typeIs,fun a e=>?_⟩;cases e;obtain⟨o,n,e,c,hd,_⟩:=pl;exact⟨o,e,hd⟩
  ·refine⟨⟨o,I.kIn p o hk,hc⟩,fun a e=>?_⟩;cases e;exact⟨o,I.kIn _ o hk,hd⟩
  ·have z:∃ o,s.heap.get? p=some o/\o.ExactDict:=by
    rcases hk with ⟨kvs,hk⟩ | ⟨kvs,hk⟩
    ·obtain⟨_,_,_,_,o,_,_,e,ex,_⟩:=I.hok p _ hk;exact⟨o,e,ex⟩
    ·obtain⟨_,_,_,_,o,_,_,e,ex,_⟩:=I.hok p _ hk;exact⟨o,e,ex⟩
   obtain⟨o,e,ex⟩:=z;refine⟨⟨o,e,ex.1⟩,fun a e2=>?_⟩;cases e2;exact⟨o,e,ex.2.1⟩
  ·obtain⟨o,_,_,_,e,ex,_⟩:=I.hok p _ hk;refine⟨⟨o,e,ex.1⟩,fun a e2=>?_⟩;cases e2;exact⟨o,e,ex.2.1⟩
 | _=>exact False.elim ty
def tBM0 (K:W.Frag)(T:String)(r:V->List V->Hp->VK->Prop)(to:TE):TE:=fun σ H Q=>to σ H fun x H1=>tyV K T x H1/\r x [] H1 Q
def tBM (K:W.Frag)(T:String)(r:V->List V->Hp->VK->Prop)(to:TE)(t:TA):TE:=fun σ H Q=>to σ H fun x H1=>tyV K T x H1/\t σ H1 fun xs H2=>r x xs H2 Q
variable {o:Expr}{es:List Expr}{to:TE}{t:TA}{name:Str}{apos cpos:Pos}{T id:String}{r:V->List V->Hp->VK->Prop}
theorem jWO (pa:PlainAttrs T)(slot:Slot T name id)(hty:typeOf (.builtin id)=pure (.type "method_descriptor"))(hm:MtR X id r)(ho:PE X o to)
  (hbase:attributeBase o name X.env (eval o X.env)=eval o X.env:=by rfl) (hline:(apos.endLine==cpos.line)=true:=by rfl):PE X (.Call (.Attribute o name apos) [] [] cpos) (tBM0 X.K T r to):=by
 intro kh s σ H Q I h;refine wpAny_Call_method0_late hbase hline (kn (ho kh s σ H _ I h) fun v s1 ⟨x,H1,I1,r1,ty,q1⟩=>?_);obtain⟨h1,h2⟩:=jSI I1 r1 ty;exact⟨T,id,pa,slot,hty,h1,h2,Calls.callWith_builtin rfl (PySem.evalArgs_none (hm kh s1 σ H1 x [] v [] Q I1 r1 .nil q1))⟩
theorem pe_bm (pa:PlainAttrs T)(slot:Slot T name id)(hty:typeOf (.builtin id)=pure (.type "method_descriptor"))(hm:MtR X id r)(ho:PE X o to)(ha:PA X (e::es) t)
  (hbase:attributeBase o name X.env (eval o X.env)=eval o X.env:=by rfl)
  (hfew:((backTo cpos (starEach (e::es) X.env)).all (fun x=>!x.1)&&(backToKw cpos (keywordEach [] X.env)).all (fun x=>x.1.isSome)
   &&decide ((e::es).length+([]:List Keyword).length+(if ([]:List Keyword).isEmpty then 0 else 1)<30))=true:=by rfl)
  (hline:(apos.endLine==cpos.line)=true:=by rfl) (hs:starEach (e::es) X.env=(false,eval e X.env)::starEach es X.env:=by rfl) (hplain:(backTo cpos (starEach es X.env)).any (·.1)=false:=by rfl):
  PE X (.Call (.Attribute o name apos) (e::es) [] cpos) (tBM X.K T r to t):=by
 intro kh s σ H Q I h;refine wpAny_Call_method_late hbase hfew hline rfl (kn (ho kh s σ H _ I h) fun v s1 ⟨x,H1,I1,r1,ty,q1⟩=>?_);obtain⟨h1,h2⟩:=jSI I1 r1 ty;refine⟨T,id,pa,slot,hty,h1,h2,?_⟩;have hA:=ha cpos kh s1 σ H1 _ I1 q1;rw[hs] at hA ⊢;refine Calls.callWith_builtin (by show (false || (backTo cpos (starEach es X.env)).any (·.1))=false; rw[hplain] <;> rfl) (eN ?_);exact kn hA fun us s2 ⟨vs,H2,I2,r2,q2⟩=>hm kh s2 σ H2 x vs v us Q I2 r1 r2 q2
/- xs.append(e),list.index on a module's tuple .. are MtR facts of 06m -/
end
def MtM (X:Cx)(id:String)(r:V->List V->Hp->VK->Prop):Prop:=
 ∀ (kh:Ai) (s:Shared) (σ:St) (H:Hp) (x:V) (xs:List V) (v:Value) (us:Al) (Q:VK),Inv X kh σ H s->RelV x v->Vals xs us->r x xs H Q->
  wpAny (model X.prog X.w) X.A (call (.builtin id) (v::us)) (EP X kh σ Q) X.xe s
theorem Vals.one:∀ {x:V}{us:Al},Vals [x] us->∃ u,us=[u]/\RelV x u
 | _,_, .cons r .nil=>⟨_,rfl,r⟩
theorem Vals.two:∀ {x y:V}{us:Al},Vals [x,y] us->∃ u v,us=[u,v]/\RelV x u/\RelV y v
 | _,_,_, .cons r (.cons q .nil)=>⟨_,_,rfl,r,q⟩
theorem Vals.zero:∀ {us:Al},Vals [] us->us=[]
 | _, .nil=>rfl
theorem Vals.dropLast {xs:List V}{us:Al}(h:Vals xs us):Vals xs.dropLast us.dropLast:=by
 induction h with
 | nil=>exact .nil
 | cons r t ih=>
  cases t with
  | nil=>exact .nil
  | cons q t'=>exact .cons r ih
theorem jM6 {α:Type}(l:List α):l.eraseIdx (l.length - 1)=l.dropLast:=by
 induction l with
 | nil=>rfl
 | cons a r ih=>
  cases r with
  | nil=>rfl
  | cons b r=>
   have e:(a::b::r).length - 1=((b::r).length - 1)+1:=by
    have h1:(a::b::r).length=r.length+2:=rfl;have h2:(b::r).length=r.length+1:=rfl;lia
   rw[e,List.eraseIdx_cons_succ,ih]
   all_goals rfl
variable {s:Shared}
section
variable {kh:Ai}{σ:St}{H:Hp}{l b:Addr}{xs ys zs:List V}
theorem Inv.lset {its its':Al}{n:Nat}{f:An->An}{t':Nat}(I:Inv X kh σ H s)(hH:H l=some (.lst xs))
  (e:s.heap.get? l=some { cls:= .type "list",data:= .seq its.toArray n}) (hf:f its.toArray=its'.toArray) (hv:Vals ys its') (hz:ys.length<=sizeLine):
  Inv X kh σ (upd H l (.lst ys)) { s with heap:=s.heap.update l (Obj.mapSeq f),toks:=t'} :=by
 have q:=PySem.IsL.update e f;rw[hf] at q;refine I.write (x:=l) (e:=l) (by rw[hH]; exact trivial) (.inl rfl) (fun b' u hb hu=>(cW s.heap (Obj.mapSeq f) (fw hb)).trans hu) ⟨_,q⟩ ?_;exact⟨hz,its',_,hv,q⟩
theorem Inv.lnew {its:Al}{t':Nat}(I:Inv X kh σ H s)(hv:Vals ys its)(hz:ys.length<=sizeLine):
  Inv X kh σ (upd H s.heap.objs.size (.lst ys)) { s with heap:=s.heap.push { cls:= .type "list",data:= .seq its.toArray},toks:=t'} :=
 I.laid (fun _ _ q=>af _ q) (ak _) ⟨hz,its,0,hv,ax _ rfl⟩
theorem Inv.fresh (I:Inv X kh σ H s):H s.heap.objs.size=none:=I.hok.fresh (ak _)
theorem Inv.lstM (I:Inv X kh σ H s)(hH:H l=some (.lst xs)):xs.length<=sizeLine/\∃ (its:Al) (n:Nat),Vals xs its/\xs.length=its.length/\s.heap.get? l=some { cls:= .type "list",data:= .seq its.toArray n} :=by
 obtain⟨z,its,n,r,e⟩:=I.hok l _ hH;exact⟨z,its,n,r,r.length,e⟩
theorem jR5 {n:Nat}(h:n<=sizeLine):Builtin.List.listTooLong n=false:=by
 unfold Builtin.List.listTooLong;exact aJ Aa
end
def jTT:V->List V->Hp->VK->Prop:=fun x vs H Q=>∃ l xs y,x= .ref l/\vs=[y]/\H l=some (.lst xs)/\xs.length<sizeLine/\Q .non (upd H l (.lst (xs++[y])))
theorem jCM:MtM X "list.append" jTT:=by
 intro kh s σ H x vs v us Q I rx rv h;obtain⟨l,xs,y,rfl,rfl,hH,hz,q⟩:=h;cases rx;obtain⟨u,rfl,ru⟩:=rv.one;obtain⟨z,its,n,r,hl,e⟩:=I.lstM hH;refine gA F.slot_list_append ⟨_,e,rfl⟩ F.entry_list_append (F.args_list_append_2 _ _) (PySem.list_append l its.toArray n u (by rw[ar]; lia)) ⟨e,?_⟩;refine⟨.non,_,I.lset (its':=its++[u]) hH e Ad (r.append (.cons ru .nil)) ?_,rfl,q⟩;rw[aF,i7];lia
def rPop:V->List V->Hp->VK->Prop:=fun x vs H Q=>∃ l xs y,x= .ref l/\vs=[]/\H l=some (.lst xs)/\xs[xs.length - 1]?=some y/\Q y (upd H l (.lst xs.dropLast))
theorem jX6:MtM X "list.pop" rPop:=by
 intro kh s σ H x vs v us Q I rx rv h;obtain⟨l,xs,y,rfl,rfl,hH,hy,q⟩:=h;cases rx;have hus:=rv.zero;subst hus;obtain⟨z,its,n,r,hl,e⟩:=I.lstM hH;obtain⟨u,hu,ru⟩:=r.get hy;have hy':its.toArray[its.toArray.size - 1]?=some u:=by
  show its.toArray[its.length - 1]?=some u;rw[<- bJ,<- hl];exact hu
 refine gA F.slot_list_pop ⟨_,e,rfl⟩ F.entry_list_pop (F.args_list_pop_1 _) (MeetsSeq.list_pop_last l its.toArray n u hy' (by rw[ar]; lia)) ⟨e,?_⟩;refine⟨y,_,I.lset (its':=its.dropLast) hH e ?_ r.dropLast ?_,ru,q⟩
 ·show its.toArray.eraseIdxIfInBounds (its.toArray.size - 1)=its.dropLast.toArray;rw[ar,List.eraseIdxIfInBounds_toArray,jM6]
 ·rw[List.length_dropLast];lia
def rCat:R2:=fun x y H Q=>∃ l b xs zs,x= .ref l/\y= .ref b/\H l=some (.lst xs)/\H b=some (.lst zs)/\xs.length+zs.length<=sizeLine/\∀ p,H p=none->Q (.ref p) (upd H p (.lst (xs++zs)))
theorem jWV:OpR X (binaryOp .Add) rCat:=by
 intro kh s σ H x y v u Q I rx ry h;obtain⟨l,b,xs,zs,rfl,rfl,hH,hB,hz,q⟩:=h;cases rx;cases ry;obtain⟨z,its,n,r,hl,e⟩:=I.lstM hH;obtain⟨z2,its2,n2,r2,hl2,e2⟩:=I.lstM hB;refine PySem.P.add_list e e2 ?_ (by rw[ar,ar]; lia);have ea:its.toArray++its2.toArray=(its++its2).toArray:=Ad;rw[ea];exact⟨.ref _,_,I.lnew (t':=s.toks) (r.append r2) (by rw[aF]; lia),rfl,q _ I.fresh⟩
section
variable {prog:Program}{w:World}{A:Around}{E:Ah}
set_option maxRecDepth 100000 in
end
end L2
namespace Att
open PySem PySem.W PySem.Calls PyProof.Rows
theorem jER {P:Params}{h:Heap} :∀ (ns:Ag) (vs:Al),WellAll P h vs (ns.map WData.int)->IntsAre vs ns:=by
 intro ns
 induction ns with
 | nil=>
  intro vs w;rw[iP] at w;cases w;exact .nil
 | cons n ns ih=>
  intro vs w;rw[bv] at w;cases w with
  | cons a b=>
   cases a;exact .cons _ _ (ih _ b)
theorem jN0 {l:OpenLaw}{n:Nat}(hn:l.most=some n){P:Params}{h:Heap}{args:List WData}{vals:Al}
  (hpre:l.row.toRowW.claim.pre args=true) (hwl:WellAll P h vals args):
  ∃ a vs ns,vals=[Value.ref a]/\args=[WData.list (ns.map WData.int)]/\h.get? a=some { cls:= .type "list",data:= .seq vs.toArray} /\IntsAre vs ns/\ns.length<=n:=by
 have hsh:WShape.hasAll [] args [.list .int]=true:=(pre_splitW hpre).1;have hc:l.pre.holds [] { args:=args} =true:=(pre_splitW hpre).2;obtain⟨d,r,rfl,h1,h2⟩:=hasAllW_cons hsh;obtain rfl:=hasAllW_nil h2;obtain⟨xs,rfl,h3⟩:=hasW_list h1;obtain⟨ns,rfl⟩:=items_int h3;have hlen:ns.length<=n:=by
  unfold OpenLaw.pre at hc;have h4:(WTm.not (.lt (.lit (.int (n:Int))) (.len (.arg 0)))).holds [] { args:=[.list (ns.map .int)]} =true:=by
   have h4:=(holds_andW hc).1;rw[hn] at h4;exact h4
  have h5:=condW_of h4 (w_not (w_lt w_lit (w_len_list (w_arg rfl))));rw[ab] at h5;refine Nat.le_of_not_lt fun q=>?_;have q':(n:Int)<((ns.length:Nat):Int):=Aa
  first
   | (rw[aq q'] at h5; exact absurd h5 Ac)
   | (simp at h5; lia)
 cases hwl with
 | cons w1 w2=>
  cases w2;cases w1 with
  | list ho hall=>exact⟨_,_,ns,rfl,rfl,ho,jER ns _ hall,hlen⟩
theorem jN8 (l:OpenLaw)(args:List WData):l.row.toRowW.claim.post args (.bool true) args=true:=
 postW_of (r:=l.row.toRowW) (X:=(true==true))
  (show WShape.has [] (.bool true) .bool=true by first | rfl | decide | simp [WShape.has,WShape.arms,WShape.armsAll])
  (show (WTm.eq .res (.lit (.bool true))).value [] { args:=args,res:=some (.bool true),after:=args} =some (.bool (true==true)) from w_eq_bool (w_res rfl) w_lit) rfl
theorem attach_call {l:OpenLaw}{n:Nat}{q:Program}{loose:Am}{XP:(Ak)->Heap->Prop}{YP:World->Heap->Prop}{d:DefRec}
  (hn:l.most=some n) (hdf:d.params.defaults=[])
  (call:∀ (w:World) (s₀ s₁:Shared) (mg mb:Ak) (fa:Addr) (o:Obj) (pm cd doc:Value) (a:Addr) (vs:Al) (ns:Ag),
   Ground q loose [] XP w s₀ mg mb s₁.heap->YP w s₁.heap->
   s₁.heap.get? fa=some o->o.data= .func (docDef d.name d.params d.body d.scope pm cd doc)->s₁.heap.CodeRec cd d.name->mg d.name=some (.ref fa)->
   s₁.heap.get? a=some { cls:= .type "list",data:= .seq vs.toArray} ->IntsAre vs ns->ns.length<=n->s₁.gens=#[]->
   codeAny (model l.prog w) callerA (.call (.ref fa) ⟨[.ref a],[]⟩) (fun r s'=>r= .ok (.ret (.bool true))/\OldK s₁.heap s'.heap/\s'.os=s₁.os/\AllBare s'.gens) s₁):
  WalkO q loose XP YP l.row.toRowW d [] (fun f vs=>PySem.call f vs):=by
 intro w s₀ s₁ mg mb G Y fa o pm cd doc dV kV ho hd hcd hD hmg hg args vals as hpre hlay hrd hwl hlo;obtain rfl:dV= .none:=Dflts.none hD hdf;obtain rfl:kV= .none:=Dflts.noKw hD;obtain⟨a,vs,ns,rfl,rfl,hobj,hints,hlen⟩:=jN0 hn hpre hwl;refine enter_call (dO (call w s₀ s₁ mg mb fa o pm cd doc a vs ns G Y ho (fd_plain hd) hcd hmg hobj hints hlen hg) fun r s' hq=>?_);obtain⟨rfl,h2,h3,h4⟩:=hq;exact⟨.inl ⟨.bool true, .bool true,[],rfl,fun _=>rfl, .bool true,jN8 l _,fun _=>⟨List.Pairwise.nil,fun _ hm=>(nomatch hm)⟩⟩,h2,h3,h4⟩
section
variable {prog:Program}{w:World}{A:Around}{E:Ah}{s:Shared}{K:Frag}
end
end Att
namespace L2
open PySem PySem.Spec PyProof.Rows
theorem jH8:∀ {vs:Al}{ns:Ag},IntsAre vs ns->Vals (ns.map V.int) vs
 | _,_, .nil=> .nil
 | _,_, .cons n t h=> .cons ⟨t,rfl⟩ (jH8 h)
end L2
/- THE LAST THEOREM (shape; LID,My.* are yours):
  My.Adr:a structure of the addresses that your layer names (classes,functions); My.Txt K t:a structure (Prop) of the equations over K;
  My.txt_mk: {K} {implicit addresses ..} (e1:nsIn K mainGlobals "law" =some (some (.ref f))) (e2:K.lookup f=some ⟨oc,od, .func (fnOf "law" "law" params body scope dV kV doc pm an ki ct),sl⟩) (e3:codeIn K ki "law" =true) .. :∃ t,My.Txt K t
set_option maxRecDepth 100000 in
set_option maxHeartbeats 0 in
theorem PySem.Challenge.cw_LID_holds : PySem.Challenge.rw_LID.Holds := by
 w_on; o_law; k_head; (case hw=>w_witness2)
 k_fill
 refine L2.walk_of (l:=PySem.Challenge.rw_LID) (n:=63) (k:=40) (x:= "script") (CX:=fun w=> ..) (sp:=fun _=>My.sp_law) rfl Ac rfl ⟨rfl,Ac,Ac⟩ (fun w h Y=>PySem.W.kIn_of Y) ?F ?S ?C
 case F=>
  intro w mg fa h KX G hmg;have T:∃ t,My.Txt (L2.KOf KX) t:=by
   dsimp only [L2.KOf] -- K must stand as «<heap const>w.params» for k_is
   refine' My.txt_mk ?e1 ?e2 ?e3 ..
   (case e1=>PySem.W.k_is) -- in the order:a name->its address->its object->its parts
   (case e2=>PySem.W.k_is)
   ..
  obtain⟨t,T⟩:=T;have e0:=hmg.symm.trans (gE KX G T.law);cases e0 -- fa is the law's own address;exact⟨_,fun s u=> .of_eq rfl,fun Aq kb nb=>My.law_fn T kb nb⟩ -- if «.of_eq rfl» comes too early:refine' ⟨_,?b,fun Aq kb nb=>My.law_fn T kb nb⟩; exact fun s u=> .of_eq rfl
 case S=>exact fun w H a ns hl hO hS=> ..
 case C=>exact ..
(the tactic k_is has no namespace:write k_is) -/
namespace L2
open PySem PySem.Spec PyProof.Rows
abbrev CX0:CXT:=fun _ _ _ _ _ _=>False
abbrev E0:XK:=fun _ _ _=>False
theorem pass0 {X:Cx} :jQ1 CX0 X E0:=fun _ _ _ _ _ _ _ h=>h.elim
structure Fun (K:W.Frag)(x qual:Str)(st:Stmt)(f:Addr)(fd:FuncData):Prop where
 ex:∃ (oc:Value) (od:Option Addr) (kV doc pm:Value) (an:Option Addr) (ki ct:Value) (osl:Array (Ao)),
  fd=PySem.W.fnOf x qual (yE st) (jE st) (j8 st) .none kV doc pm an ki ct/\K.lookup f=some ⟨oc,od, .func fd,osl⟩/\PySem.W.codeIn K ki qual=true
 kp:keepIn K (.ref f)=true
variable {w:World}
section
variable {P:Program}{K:W.Frag}{mg:Ak}{Aq:Heap}
theorem Fun.ok {x qual:Str}{st:Stmt}{f:Addr}{fd:FuncData}{N ps:Am}{k:Nat}{sp:Sp}(F:Fun K x qual st f fd)(S:FnScope N ps (j8 st))(len:∀ vs H Q E,sp vs H Q E->vs.length=ps.length)
  (hbody:∀ (ki:Value) (A:Around) (Ap:List Env) (s:Shared) (H:Hp) (vs:List V) (Q:VK) (E:XK),Room k (A.deeper (envOfC qual (j8 st) s.heap.objs.size f ki))->sp vs H Q E->
   ∃ t,PSs (cxOf CX0 P w K mg Aq N qual (j8 st) f ki A Ap s H E).nox (jE st) t/\t { nx:=fun _ H'=>Q .non H',rt:=Q} (yH N vs) H):FnOk P w K mg Aq CX0 (k+1) f fd ps sp:=by
 obtain⟨oc,od,kV,doc,pm,an,ki,ct,osl,rfl,lk,hcd⟩:=F.ex;refine fn_of lk hcd S len fun A Ap s H vs Q E hr hsp=>?_;obtain⟨t,h,q⟩:=hbody ki A Ap s H vs Q E hr hsp;exact⟨t,h.nox,q⟩
theorem Fun.binds {x qual:Str}{st:Stmt}{f:Addr}{fd:FuncData}{ps:Am}(F:Fun K x qual st f fd)
  (h:∀ (kV doc pm:Value) (an:Option Addr) (ki ct:Value) (us:Al),us.length=ps.length->bindArgs (PySem.W.fnOf x qual (yE st) (jE st) (j8 st) .none kV doc pm an ki ct) ⟨us,[]⟩=pure (ps.zip us)):Binds K fd ps []:=by
 obtain⟨oc,od,kV,doc,pm,an,ki,ct,osl,rfl,lk,hcd⟩:=F.ex;exact .all (h kV doc pm an ki ct)
theorem kE {x qual:Str}{st:Stmt}{f:Addr}{oc:Value}{od an:Option Addr}{osl:Array (Ao)}{kV doc pm ki ct:Value}(l:K.lookup f=some ⟨oc,od, .func (PySem.W.fnOf x qual (yE st) (jE st) (j8 st) .none kV doc pm an ki ct),osl⟩)
  (c:PySem.W.codeIn K ki qual=true) (k:keepIn K (.ref f)=true):Fun K x qual st f (PySem.W.fnOf x qual (yE st) (jE st) (j8 st) .none kV doc pm an ki ct):=⟨⟨oc,od,kV,doc,pm,an,ki,ct,osl,rfl,l,c⟩,k⟩
end
theorem hu_of {A:Around}{k:Nat}(hr:Room k A):A.units+1<cLine:=jt (Nat.add_le_add_left (by decide:1<=64) _) hr.units
variable {X:Cx}
theorem pv (i:Nat){x:Str}{pos:Pos}(hN:X.N[i]?=some x:=by rfl)(hv:Vis X.env.scope x:=by first | exact Or.inl rfl | exact Or.inr (Or.inl rfl) | exact Or.inr (Or.inr rfl))(hd:(x==("__debug__" :Str))=false:=by decide)
  (hcd:(x==("__classdict__" :Str))=false:=by decide):PE X (.Name x pos) (tVar i):=jHK hN hv hd hcd
theorem iteF {A B:Prop}(h:B):if false=true then A else B:=by
 rw[am aj];exact h
theorem iteT {A B:Prop}(h:A):if true=true then A else B:=by
 rw[ao rfl];exact h
theorem ite2 {c A B:Prop} [Decidable c](h1:c->A)(h2:¬ c->B):if c then A else B:=by
 by_cases h:c
 ·rw[ao h];exact h1 h
 ·rw[am h];exact h2 h
def jS (cells:Aj):List (Str×NameKind)->Aj->Aj
 | [],acc=>acc
 | (n,k)::r,acc=>if k= .free then jS cells r ((n,(cells.lookup n).getD 0)::acc) else jS cells r acc
theorem jDE {env:Env} :∀ (l:List (Str×NameKind)) (acc:Aj),(∀ y∈l,y.2= .free->∃ c,env.cells.lookup y.1=some c)->
  (forIn l acc fun (x:Str×NameKind) (cs:Aj)=>(if (x.2==NameKind.free)=true then (do let a <- cellOf env x.1; pure (ForInStep.yield ((x.1,a)::cs))) else pure (ForInStep.yield cs):Sem (ForInStep (Aj))))=pure (jS env.cells l acc)
 | [],acc,_=>rfl
 | (n,k)::r,acc,h=>by
  have hr:∀ y∈r,y.2= .free->∃ c,env.cells.lookup y.1=some c:=fun y hy=>h y (aB _ hy);rw[List.forIn_cons];by_cases hk:k= .free
  ·subst hk;obtain⟨c,hc⟩:=h (n, .free) az rfl;have e:cellOf env n=pure c:=by unfold cellOf; rw[hc]
   have e2:jS env.cells ((n,NameKind.free)::r) acc=jS env.cells r ((n,c)::acc):=by
    show (if NameKind.free=NameKind.free then jS env.cells r ((n,(env.cells.lookup n).getD 0)::acc) else _)=_;rw[ao rfl,hc]; rfl
   rw[e2,<- jDE r ((n,c)::acc) hr];show ((do let a <- cellOf env n; pure (ForInStep.yield ((n,a)::acc))) >>= _)=_;rw[e]; rfl
  ·have hb:(k==NameKind.free)=false:=by cases k <;> first | rfl | exact absurd rfl hk
   have e2:jS env.cells ((n,k)::r) acc=jS env.cells r acc:=by
    show (if k=NameKind.free then _ else jS env.cells r acc)=_;rw[am hk]
   rw[e2,<- jDE r acc hr];show ((if (k==NameKind.free)=true then _ else pure (ForInStep.yield acc)) >>= _)=_;rw[hb]; rfl
theorem jH1 {env:Env}{sc:Scope}(h:∀ y∈sc.names,y.2= .free->∃ c,env.cells.lookup y.1=some c):closureFor sc env=pure (jS env.cells sc.names []):=by
 unfold closureFor;show (forIn sc.names [] _ >>= fun cs=>pure cs)=_;rw[show (forIn sc.names ([]:Aj) _:Sem _)=_ from jDE sc.names [] h];rfl
theorem jAA {cells:Aj} :∀ (l:List (Str×NameKind)) (acc:Aj),(∀ y∈l,y.2= .free->∃ c,cells.lookup y.1=some c)->
  (∀ x c,acc.lookup x=some c->cells.lookup x=some c)->∀ x c,(jS cells l acc).lookup x=some c->cells.lookup x=some c
 | [],acc,_,ha=>ha
 | (n,k)::r,acc,h,ha=>by
  have hr:∀ y∈r,y.2= .free->∃ c,cells.lookup y.1=some c:=fun y hy=>h y (aB _ hy);unfold jS;by_cases hk:k= .free
  ·rw[ao hk];obtain⟨c0,hc⟩:=h (n,k) az hk;refine jAA r _ hr fun x c e=>?_;rw[aX] at e;cases hx:x==n with
   | true=>
    rw[hx] at e;have exn:x=n:=eq_of_beq hx;subst exn;have hc':cells.lookup x=some c0:=hc;rw[hc'] at e ⊢;exact e
   | false=>rw[hx] at e; exact ha x c e
  ·rw[am hk]; exact jAA r acc hr ha
theorem jAB {cells:Aj}{x:Str} :∀ (l:List (Str×NameKind)) (acc:Aj),((x,NameKind.free)∈l\/∃ c,acc.lookup x=some c)->∃ c,(jS cells l acc).lookup x=some c
 | [],acc,h=>by
  rcases h with h | h
  ·cases h
  ·exact h
 | (n,k)::r,acc,h=>by
  unfold jS;by_cases hk:k= .free
  ·rw[ao hk];refine jAB r _ ?_;by_cases e:x=n
   ·subst e;exact .inr ⟨_,by rw[aX,eU]⟩
   ·rcases h with h | ⟨c,h⟩
    ·rcases aG.mp h with q | q
     ·cases q; exact absurd rfl e
     ·exact .inl q
    ·refine .inr ⟨c,?_⟩;rw[aX,b7.mpr e];exact h
  ·rw[am hk];refine jAB r _ ?_;rcases h with h | h
   ·rcases aG.mp h with q | q
    ·cases q; exact absurd rfl hk
    ·exact .inl q
   ·exact .inr h
theorem jA4 {x:Str}{k:NameKind} :∀ {l:List (Str×NameKind)},l.lookup x=some k->(x,k)∈l
 | [],h=>by cases h
 | (n,k')::r,h=>by
  rw[aX] at h;cases hx:x==n with
  | true=>rw[hx] at h; cases h; rw[eq_of_beq hx]; exact az
  | false=>rw[hx] at h; exact aB _ (jA4 h)
theorem jD3 {env:Env}{x:Str}{k:NameKind}(hk:k= .cell\/k= .free):∀ {l:List (Str×NameKind)},(∀ y∈l,y.2≠ .cell)->
  (l.map fun (n,k)=>if (k==NameKind.free&&env.scope.kind== .function&&env.kindOf n==some .cell) then (n,NameKind.cell) else (n,k)).lookup x=some k->l.lookup x=some .free
 | [],_,h=>by simp at h
 | (n,k')::r,hc,h=>by
  have ih:= @jD3 env x k hk r (fun y hy=>hc y (aB _ hy));have hc0:k'≠ .cell:=hc (n,k') az;rw[aX];rw[bv] at h;dsimp only at h;by_cases hb:(k'==NameKind.free&&env.scope.kind== .function&&env.kindOf n==some .cell)=true
  ·rw[ao hb,aX] at h;cases hx:x==n with
   | true=>
    have:k'= .free:=by
     simp only [bG] at hb;exact eq_of_beq hb.1.1
    rw[this]
   | false=>rw[hx] at h; exact ih h
  ·rw[am hb,aX] at h;cases hx:x==n with
   | true=>
    rw[hx] at h;have e:k'=k:=bq h;rcases hk with q | q
    ·exact absurd (e.trans q) hc0
    ·rw[e,q]
   | false=>rw[hx] at h; exact ih h
theorem jA9 {env:Env}{x:Str} :∀ {l:List (Str×NameKind)},l.lookup x=some .free->
  (l.map fun (n,k)=>if (k==NameKind.free&&env.scope.kind== .function&&env.kindOf n==some .cell) then (n,NameKind.cell) else (n,k)).lookup x=some .cell\/
  (l.map fun (n,k)=>if (k==NameKind.free&&env.scope.kind== .function&&env.kindOf n==some .cell) then (n,NameKind.cell) else (n,k)).lookup x=some .free
 | [],h=>by cases h
 | (n,k')::r,h=>by
  have ih:= @jA9 env x r;rw[aX] at h;rw[bv];dsimp only;by_cases hb:(k'==NameKind.free&&env.scope.kind== .function&&env.kindOf n==some .cell)=true
  ·rw[ao hb,aX];cases hx:x==n with
   | true=>exact .inl rfl
   | false=>rw[hx] at h; exact ih h
  ·rw[am hb,aX];cases hx:x==n with
   | true=>rw[hx] at h; exact .inr h
   | false=>rw[hx] at h; exact ih h
section
variable {prog:Program}{A:Around}{R:Result->Shared->Prop}{s:Shared}
abbrev jMM (ifs:List Expr)(env:Env):Sem Bool:=forIn ifs true fun c r=>if r=true then do let ok <- isTrue c env (eval c env); pure (ForInStep.yield ok) else pure (ForInStep.yield r)
theorem jFQ {elt tg iter:Expr}{ifs:List Expr}{sc:Scope}{pos:Pos}{it acc:Value}{env:Env}(J:Nat->Shared->Prop)
  (turn:∀ n z,J n z->wpAny (model prog w) A (pyNext it) (fun r z1=>match r with
   | none=>R (.ok .next) z1
   | some v=>wpAny (model prog w) A (letOwnedTupleGo tg it v) (fun _ z2=>wpAny (model prog w) A (assign tg env v) (fun _ z3=>wpAny (model prog w) A (jMM ifs env) (fun ok z4=>
     if ok=true then wpAny (model prog w) A (eval elt env) (fun x z5=>wpAny (model prog w) A (call (.builtin "list.append") [acc,x]) (fun _ z6=>∃ k,k<n/\J k z6) (fun _ _=>False) z5) (fun _ _=>False) z4
     else ∃ k,k<n/\J k z4) (fun _ _=>False) z3) (fun _ _=>False) z2) (fun _ _=>False) z1) (fun _ _=>False) z)
  (n:Nat) (h:J n s):codeAny (model prog w) A (.compLoop (.ListComp elt [⟨tg,iter,ifs,0⟩] sc pos) 0 it acc env) R s:=by
 refine codeAny_loop rfl J (fun k z hJ=>?_) n h;have noE:∀ {α:Type}{t:Sem α}{Q:α->Shared->Prop}{E:Ah}{z:Shared},wpAny (model prog w) A t Q (fun _ _=>False) z->wpAny (model prog w) A t Q E z:=
  fun q=>cy q (fun _ _ a=>a) fun _ _ f=>f.elim
 show wpAny _ A ((compTurn (.ListComp elt [⟨tg,iter,ifs,0⟩] sc pos) 0 it acc env).onRaise (fun x=>do noteFrame x env; theTreesLotGoes x)) _ _ z;refine wpAny_noted ?_;rw[compTurn_list];refine ae (eF (ae (cy (turn k z hJ) (fun r z1 q1=>?_) fun _ _ f=>f.elim)));cases r with
 | none=>exact ah q1
 | some v=>
  refine ae (cy q1 (fun _ z2 q2=>?_) fun _ _ f=>f.elim);refine ae (cy q2 (fun _ z3 q3=>?_) fun _ _ f=>f.elim);refine ae (cy q3 (fun ok z4 q4=>?_) fun _ _ f=>f.elim);cases ok with
  | false=>exact ah ⟨rfl,q4⟩
  | true=>
   refine ae (ae (cy q4 (fun x z5 q5=>?_) fun _ _ f=>f.elim));exact ae (cy q5 (fun _ z6 q6=>ah (ah ⟨rfl,q6⟩)) fun _ _ f=>f.elim)
end
def blk (X:Cx)(sc:Scope)(cl:Aj)(C:Addr)(Nc:Am)(fp:List Addr)(s:Shared)(H:Hp):Cx where
 prog:=X.prog
 w:=X.w
 K:=X.K
 mg:=X.mg
 Aq:=X.Aq
 A:=X.A
 N:=Nc
 s₀:=s
 H₀:=H
 env:=compEnvC sc cl C X.env
 Ap:=X.stack
 stack:=X.stack
 ex:=fp
 fn:=fun _=>false
 calm:=X.calm
 pn:=[]
 xe:=fun _ _=>False
def blkσ (m:List (Option Nat))(σ:St):St:=m.map fun o=>match o with
 | none=>none
 | some i=>(σ[i]?).getD none
def PTs (X:Cx)(ifs:List Expr)(t:TT):Prop:=
 ∀ (kh:Ai) (s:Shared) (σ:St) (H:Hp) (Q:Bool->Hp->Prop),Inv X kh σ H s->t σ H Q->wpAny (model X.prog X.w) X.A (jMM ifs X.env) (TP X kh σ Q) X.xe s
def yL:TT:=fun _ H Q=>Q true H
theorem jN5 {X:Cx} :PTs X [] yL:=fun _ _ _ H _ I h=>wpAny_tests_nil ⟨H,I,h⟩
theorem jN4 {X:Cx}{c:Expr}{t:TT}(h:PT X c t):PTs X [c] t:=fun kh s σ H Q I q=>wpAny_tests_one (h kh s σ H Q I q)
def qJ (m:List (Option Nat))(g:TG)(tt:TT)(te:TE)(σ:St)(Q:VK)(J:It)(H1:Hp):Prop:=∀ D,H1 D=none->∃ W:Nat->Nat->St->Hp->List V->Prop,
  (∃ n,W 0 n (blkσ m σ) (upd H1 D (.lst [])) [])/\∀ i n σ' H' ys,W i n σ' H' ys->H' D=some (.lst ys)/\ys.length<sizeLine/\
   ((J.stop i H'/\Q (.ref D) H')\/(J.go i H'/\∃ N:St->Hp->List V->Prop,(∀ σ2 H2 zs,N σ2 H2 zs->∃ n',n'<n/\W (i+1) n' σ2 H2 zs)/\∀ x H'',J.yld i H' x H''->g x σ' H'' fun σ2 H2=>tt σ2 H2 fun b H3=>
    if b=true then te σ2 H3 fun v H4=>H4 D=some (.lst ys)/\N σ2 (upd H4 D (.lst (ys++[v]))) (ys++[v])
    else N σ2 H3 ys))
def tComp (m:List (Option Nat))(wi:TI)(g:TG)(tt:TT)(te:TE):TE:=fun σ H Q=>wi σ H (qJ m g tt te σ Q)
theorem Un.sameBut {fs ex:List Addr}{H H':Hp}{h h1 h2:Heap}{C:Addr}(u:Un fs ex H H' h h1)(sb:Heap.SameBut C h1 h2)(hC:h.objs.size<=C):Un fs ex H H' h h2:=by
 have ne:∀ {b:Addr}{o:Obj},h.get? b=some o->b≠C:=fun e=>aU (bg (aC e) hC);refine⟨fun b o e n hf hx=>(sb.2 b (ne e)).trans (u.keep b o e n hf hx),fun b o e n hf hx=>?_,u.free,fun b o e hx=>?_,u.tups,u.frzs,u.tbls⟩
 ·obtain⟨sl,q⟩:=u.slot b o e n hf hx;exact⟨sl,(sb.2 b (ne e)).trans q⟩
 ·obtain⟨o',q⟩:=u.there b o e hx;exact⟨o',(sb.2 b (ne e)).trans q⟩
theorem HOk.sameBut {P:Program}{w:World}{H:Hp}{h1 h2:Heap}{C:Addr}(x:HOk P w H h1)(sb:Heap.SameBut C h1 h2)(hC:H C=none):HOk P w H h2:=fun a o e=>
 (x a o e).stay (fun b u hb q=>(sb.2 b (by
  rintro rfl;rcases hb with rfl | hb
  ·rw[hC] at e; cases e
  ·rw[hC] at hb; cases hb)).trans q) (fun _ q=>q) fun _ _ q=>q
variable {g:TG}{tt:TT}{te:TE}{m:List (Option Nat)}
section
variable {tg iter elt:Expr}{ifs:List Expr}{sc:Scope}{pos:Pos}{wi:TI}{Nc:Am}
def qK (X:Cx)(sc:Scope)(Nc:Am)(m:List (Option Nat)):Prop:=
 m.length=Nc.length/\∀ (k i:Nat),m[k]?=some (some i)->∃ x,Nc[k]?=some x/\X.N[i]?=some x/\sc.names.lookup x=some .free
theorem jPW {kh:Ai}{s:Shared}{σ:St}{H:Hp}{fp:List Addr}(I:Inv X kh σ H s)(hkind:sc.kind= .function)(hcell:∀ y∈sc.names,y.2≠ .cell)
  (hfree:∀ y∈sc.names,y.2= .free->X.env.scope.names.lookup y.1=some .cell\/X.env.scope.names.lookup y.1=some .free) (hm:qK X sc Nc m) (hfp:∀ b∈fp,FpOk X kh H b) (hlt:∀ b∈fp,b<s.heap.objs.size)
  {h1:Heap}{tk:Nat}{md:Ak}(hns:h1.Ns s.heap.objs.size md) (old:∀ b o,s.heap.get? b=some o->h1.get? b=some o):
  Inv (blk X sc (jS X.env.cells sc.names []) s.heap.objs.size Nc fp s H) [] (blkσ m σ) H { s with heap:=h1,toks:=tk} :=by
 have hcl:∀ y∈sc.names,y.2= .free->∃ c,X.env.cells.lookup y.1=some c:=fun y hy hf=>I.ok.has y.1 (hfree y hy hf);have sub:∀ x c,(jS X.env.cells sc.names []).lookup x=some c->X.env.cells.lookup x=some c:=jAA sc.names [] hcl (fun x c e=>by cases e);have isfree:∀ x,(compEnvC sc (jS X.env.cells sc.names []) s.heap.objs.size X.env).kindOf x=some .cell\/(compEnvC sc (jS X.env.cells sc.names []) s.heap.objs.size X.env).kindOf x=some .free->sc.names.lookup x=some .free:=fun x h=>by
  rcases h with h | h
  ·exact jD3 (.inl rfl) hcell h
  ·exact jD3 (.inr rfl) hcell h
 refine⟨⟨I.ok.mod,hkind,I.ok.glob,I.ok.blt,ak _,fun x y c h1 h2=>I.ok.inj x y c (sub x c h1) (sub y c h2),fun x hx=>?_,fun x c hf _=>?_,I.ok.hd,I.ok.frames, .inl rfl,fun b hb=>?_,I.bs,be I.ok.bsz I.sz,fun b o e hb=>?_,fun b hb hz=>?_,I.stack,I.stkFree⟩,
  rfl,I.bare,Un.kept old,⟨md,hns,fun k x v e1 e2 e3=>?_⟩,fun x c e=>?_,I.hok.fresh (ak _),fun x c e=>I.freeC x c (sub x c e),fun p hp=>absurd (show p∈([]:Ai) from hp) Ad,I.hok.kept old,?_⟩
 ·exact jAB sc.names [] (.inl (jA4 (isfree x hx)))
 ·exact absurd (show false=true from hf) aj
 ·obtain⟨f0,f1,f2,f3,f4,f5⟩:=hfp b hb;exact⟨aU (hlt b hb),fun x c e=>f4 x c (sub x c e)⟩
 ·obtain⟨f0,f1,f2,f3,f4,f5⟩:=hfp b hb;rcases f3 with q | q
  ·exact I.ok.noex b o e q
  ·exact absurd (bg (aC (I.ok.bs b o e).1) q) (cj _)
 ·obtain⟨f0,f1,f2,f3,f4,f5⟩:=hfp b hb;rcases aG.mp (I.stkSub b hz) with q | q
  ·exact f1 q
  ·exact f2 q
 ·have e2':∃ i,m[k]?=some (some i)/\σ[i]?=some (some v):=by
   unfold blkσ at e2;rw[aL] at e2;cases q:m[k]? with
   | none=>rw[q] at e2; cases e2
   | some o=>
    rw[q] at e2;cases o with
    | none=>cases e2
    | some i=>
     refine⟨i,rfl,?_⟩;have e2:(σ[i]?).getD none=some v:=bq e2;cases r:σ[i]? with
     | none=>rw[r] at e2; cases e2
     | some z=>rw[r] at e2; exact bL some e2
  obtain⟨i,q1,q2⟩:=e2';obtain⟨x',a1,a2,a3⟩:=hm.2 k i q1;have e1':Nc[k]?=some x:=e1;rw[e1'] at a1;cases a1;have vis:=hfree (x, .free) (jA4 a3) rfl;obtain⟨m0,hn0,hl0⟩:=I.loc;obtain⟨u,r,l⟩:=hl0 i x v a2 q2 (.inr vis);refine⟨u,r, .inr ⟨jA9 a3,?_⟩⟩;obtain⟨c,hc⟩:=jAB (cells:=X.env.cells) (x:=x) sc.names [] (.inl (jA4 a3));rcases l with ⟨lk,_⟩ | ⟨_,c',hc',o,ho,hd⟩
  ·have lk':X.env.scope.names.lookup x=some .local:=lk;rcases vis with z | z
   ·rw[lk'] at z; cases z
   ·rw[lk'] at z; cases z
  ·have:=sub x c hc;rw[hc'] at this;cases this;exact⟨c,hc,o,old _ _ ho,hd⟩
 ·obtain⟨v,o,ho,hd⟩:=I.cell x c (sub x c e);exact⟨v,o,old _ _ ho,hd⟩
 ·show (blkσ m σ).length=Nc.length;unfold blkσ;rw[ab];exact hm.1
theorem jH0 {tf:St->TE}(hc:X.calm=true)(hi:PI X tg iter wi)(hkind:sc.kind= .function)(hcell:∀ y∈sc.names,y.2≠ .cell)(hnames:∀ y∈sc.names,y.2= .local->sc.names.lookup y.1=some .local)
  (hfree:∀ y∈sc.names,y.2= .free->X.env.scope.names.lookup y.1=some .cell\/X.env.scope.names.lookup y.1=some .free) (hm:qK X sc Nc m)
  (hg:∀ cl C fp s H,PG (blk X sc cl C Nc fp s H) tg g) (ht:∀ cl C fp s H,PTs (blk X sc cl C Nc fp s H) ifs tt) (he:∀ cl C fp s H kh σ,Inv X kh σ H s->(∀ b∈fp,FpOk X kh H b)->PE (blk X sc cl C Nc fp s H) elt (tf σ))
  (hs:∀ x,foldedSetIterable iter X.env x=pure x) {fpos:Pos}{use:Option (Value->Sem Unit)}{R:Ah}{kh:Ai}{s:Shared}{σ:St}{H:Hp}{Q:VK}(I:Inv X kh σ H s) (h:tComp m wi g tt (tf σ) σ H Q)
  (fin:∀ (D C:Addr) (H5:Hp) (z1:Shared) (r:Flow),(∃ mm,z1.heap.Ns C mm)->FpOk X kh H5 C->(∀ h',Heap.SameBut C z1.heap h'->Inv X kh σ H5 { z1 with heap:=h'})->Q (.ref D) H5->compPost (model X.prog X.w) X.A X.xe use R (.ref D) C (.ok r) z1):
  wpAny (model X.prog X.w) X.A (comprehension (.ListComp elt [⟨tg,iter,ifs,0⟩] sc pos) sc X.env fpos (newList []) false (eval iter X.env) use) R X.xe s:=by
 have hcl:∀ y∈sc.names,y.2= .free->∃ c,X.env.cells.lookup y.1=some c:=fun y hy hf=>I.ok.has y.1 (hfree y hy hf);refine iq (use:=use) rfl hs (jH1 hcl) hkind hnames (kn (hi kh s σ H _ I h) fun v s1 h1=>kn h1 fun itv s2 h2=>?_);obtain⟨it,fp,tn,J,H2,e,I2,T,st2,f2,hQ⟩:=h2;subst e;have hlt:∀ b∈fp,b<s2.heap.objs.size:=fun b hb=>by
  obtain⟨o,e,_⟩:=T.obj 0 _ st2 b hb;exact aC e
 refine cf (wpAny_newFunctionEnv hcell (by intro y hy; simp at hy) (fun h₁ hns₁ hsb₁=>?_) hkind);have I3:Inv X kh σ (upd H2 s2.heap.objs.size (.lst [])) { s2 with heap:=s2.heap.push { cls:= .type "list",data:= .seq ([]:Al).toArray}} :=I2.lnew (t':=s2.toks) .nil (bu _);obtain⟨W,⟨n0,w0⟩,turn⟩:=hQ s2.heap.objs.size I2.fresh;have hD3:∀ b∈fp,b≠s2.heap.objs.size:=fun b hb=>aU (hlt b hb);have f3:∀ b∈fp,FpOk X kh (upd H2 s2.heap.objs.size (.lst [])) b:=fun b hb=>by
  obtain⟨a0,a1⟩:=f2 b hb;exact⟨by rw[jA (hD3 b hb)]; exact a0,a1⟩
 generalize hE:({ s2 with heap:=s2.heap.push { cls:= .type "list",data:= .seq ([]:Al).toArray}} :Shared)=s3 at I3 hns₁ hsb₁ ⊢;generalize hH3:upd H2 s2.heap.objs.size (.lst [])=H3 at I3 f3 w0;have hsz3:s3.heap.objs.size=s2.heap.objs.size+1:=by rw[<- hE]; exact cA _ _
 have old:∀ b o,s3.heap.get? b=some o->h₁.get? b=some o:=fun b o e=>hsb₁.extBut b o (aU (aC e)) (af _ e);have old2:∀ b o,s2.heap.get? b=some o->h₁.get? b=some o:=fun b o e=>old b o (by rw[<- hE]; exact af _ e);have I4:=jPW (fp:=fp) (tk:=s3.toks+([]:List (Str×Value)).length) I3 hkind hcell hfree hm f3 (fun b hb=>show b<s3.heap.objs.size by rw[hsz3]; exact bY (hlt b hb)) hns₁ old;have st4:tn 0 h₁:=T.keep _ _ _ st2 fun b hb o e=>old2 b o e;have loop:codeAny (model X.prog X.w) X.A (.compLoop (.ListComp elt [⟨tg,iter,ifs,0⟩] sc pos) 0 (.ref it) (.ref s2.heap.objs.size) (compEnvC sc (jS X.env.cells sc.names []) s3.heap.objs.size X.env))
   (compPost (model X.prog X.w) X.A X.xe use R (.ref s2.heap.objs.size) s3.heap.objs.size) { s3 with heap:=h₁,toks:=s3.toks+([]:List (Str×Value)).length} :=by
  generalize hX:blk X sc (jS X.env.cells sc.names []) s3.heap.objs.size Nc fp s3 H3=Xb at I4;have eP:Xb.prog=X.prog:=by rw[<- hX]; rfl
  have ew:Xb.w=X.w:=by rw[<- hX]; rfl
  have eK:Xb.K=X.K:=by rw[<- hX]; rfl
  have eA:Xb.A=X.A:=by rw[<- hX]; rfl
  have ec:Xb.calm=true:=by rw[<- hX]; exact hc
  have ee:Xb.env=compEnvC sc (jS X.env.cells sc.names []) s3.heap.objs.size X.env:=by rw[<- hX]; rfl
  have ex:Xb.xe=fun _ _=>False:=by rw[<- hX]; rfl
  have hgb:PG Xb tg g:=by rw[<- hX]; exact hg _ _ _ _ _
  have htb:PTs Xb ifs tt:=by rw[<- hX]; exact ht _ _ _ _ _
  have heb:PE Xb elt (tf σ):=by rw[<- hX]; exact he _ _ _ _ _ _ _ I3 f3
  have stat:∀ {H':Hp},(∀ b∈fp,H' b=none)->∀ b∈fp,FpOk Xb [] H' b:=fun {H'} hn b hb=>by
   obtain⟨o,eo,_⟩:=T.obj _ _ st4 b hb;have q:=I4.ok.exf b (by rw[<- hX]; exact hb);exact⟨hn b hb,q.1,I4.ok.exfs b (by rw[<- hX]; exact hb), .inl (by rw[<- hX]; exact hb),q.2,fun p hp=>absurd hp (by rw[<- hX]; simp [blk])⟩
  have fr4:∀ b∈fp,H3 b=none:=fun b hb=>(f3 b hb).1;unfold PG at hgb;unfold PTs at htb;unfold PE at heb;rw[eP,ew,eA,ee,ex] at hgb htb heb;refine jFQ (fun n z=>∃ i σ' H' ys,Inv Xb [] σ' H' z/\tn i z.heap/\(∀ b∈fp,H' b=none)/\W i n σ' H' ys) ?_ n0 ⟨0,_,H3,[],I4,st4,fr4,w0⟩;rintro n z ⟨i,σ5,H5,ys,I5,st5,fr5,w5⟩;obtain⟨hD,hlen,way⟩:=turn i n σ5 H5 ys w5;rcases way with ⟨stop,q⟩ | ⟨go,N,hN,step⟩
  ·have RR:=T.done Xb eP ew eK ec i [] z σ5 H5 (fun _ _=>False) I5 (stat fr5) st5 stop;rw[eA] at RR;refine kn RR fun r z1 ⟨hr,I6⟩=>?_;subst hr;obtain⟨mm,hn6,_⟩:=I6.loc;rw[ee] at hn6;have u6:Un (frs X.stack) fp H3 H5 s3.heap z1.heap:=by
    have:=I6.Aq;rw[<- hX] at this;exact this
   have fC:H5 s3.heap.objs.size=none:=by
    have:=I6.free;rw[ee] at this;exact this
   have hok6:HOk X.prog X.w H5 z1.heap:=by
    have:=I6.hok;rw[eP,ew] at this;exact this
   have os6:z1.os=s3.os:=by
    have:=I6.os;rw[<- hX] at this;exact this
   refine fin s2.heap.objs.size s3.heap.objs.size H5 z1 .next ⟨mm,hn6⟩ (I3.fpOk (ak _) fC) (fun h' sb=>?_) q;refine I3.call' (s':= { z1 with heap:=h'}) (ch:=fp) os6 (u6.sameBut sb (ak _)) (hok6.sameBut sb fC) I6.bare (fun b hb=>?_);obtain⟨a0,a1,a2,a3,a4,a5⟩:=f3 b hb;exact⟨a3,a1,a4,a5⟩
  ·have RR:=T.item Xb eP ew eK ec i [] z σ5 H5 (fun _ _=>False) I5 (stat fr5) st5 go;rw[eA] at RR;refine kn RR fun r z1 ⟨u,hr,h6⟩=>?_;subst hr;refine kn h6 fun _ z2 ⟨x,H7,I7,r7,y7,st7,fr7⟩=>?_;have I7':=I7.pinned (stat fr7) (T.obj _ _ st7);refine kn (hgb _ z2 σ5 H7 x u _ I7' r7 (step x H7 y7)) fun _ z3 ⟨σ8,H8,I8,q8⟩=>?_;refine kn (htb _ z3 σ8 H8 _ I8 q8) fun ok z4 ⟨H9,I9,q9⟩=>?_;have again:∀ {σ7:St}{Hz:Hp}{zz:Shared}{yy:List V}{n':Nat},Inv Xb ([]++jFH fp z2.heap) σ7 Hz zz->n'<n->W (i+1) n' σ7 Hz yy->∃ k,k<n/\∃ i σ' H' ys,Inv Xb [] σ' H' zz/\tn i zz.heap/\(∀ b∈fp,H' b=none)/\W i k σ' H' ys:=fun {σ7 Hz zz yy n'} Iz hn wz=>by
    refine⟨n',hn,i+1,σ7,Hz,yy,Iz.unpinned,T.keep _ _ _ st7 fun b hb o e=>(Iz.pin (b,o) (aO _ (aO _ (jAH hb e)))).1,fun b hb=>?_,wz⟩;obtain⟨o,e,d⟩:=T.obj _ _ st7 b hb;exact(Iz.pin (b,o) (aO _ (aO _ (jAH hb e)))).2.1
   cases ok with
   | false=>
    obtain⟨n',hn,w9⟩:=hN _ _ _ (show N σ8 H9 ys from q9);exact again I9 hn w9
   | true=>
    refine kn (heb _ z4 σ8 H9 _ I9 q9) fun xv z5 ⟨vv,H10,I10,r10,hD10,n10⟩=>?_;obtain⟨n',hn,w10⟩:=hN _ _ _ n10;have RR:=jCM (X:=Xb) _ z5 σ8 H10 (.ref s2.heap.objs.size) [vv] (.ref s2.heap.objs.size) [xv] (fun _ H'=>H'=upd H10 s2.heap.objs.size (.lst (ys++[vv]))) I10 rfl (.cons r10 .nil) ⟨_,ys,vv,rfl,rfl,hD10,hlen,rfl⟩;rw[eP,ew,eA,ex] at RR;refine kn RR fun _ z6 ⟨_,H11,I11,_,e11⟩=>?_;subst e11;exact again I11 hn w10
 exact codeAny_compStart_list loop (T.self _ 0 _ _ _ st4 loop)
theorem jIW (hc:X.calm=true)(hi:PI X tg iter wi)(hkind:sc.kind= .function)(hcell:∀ y∈sc.names,y.2≠ .cell)(hnames:∀ y∈sc.names,y.2= .local->sc.names.lookup y.1=some .local)
  (hfree:∀ y∈sc.names,y.2= .free->X.env.scope.names.lookup y.1=some .cell\/X.env.scope.names.lookup y.1=some .free) (hm:qK X sc Nc m)
  (hg:∀ cl C fp s H,PG (blk X sc cl C Nc fp s H) tg g) (ht:∀ cl C fp s H,PTs (blk X sc cl C Nc fp s H) ifs tt) (he:∀ cl C fp s H,PE (blk X sc cl C Nc fp s H) elt te)
  (hs:∀ x,foldedSetIterable iter X.env x=pure x:=by intro _; rfl):PE X (.ListComp elt [⟨tg,iter,ifs,0⟩] sc pos) (tComp m wi g tt te):=by
 intro kh s σ H Q I h;rw[eval_ListComp];exact jH0 (tf:=fun _=>te) (use:=none) hc hi hkind hcell hnames hfree hm hg ht (fun cl C fp s H _ _ _ _=>he cl C fp s H) hs I h (fun D C H5 z1 r ⟨mm,hn⟩ fC sb q=>⟨mm,hn,fun h' s2=>⟨.ref D,H5,sb h' s2,rfl,q⟩⟩)
end
theorem jQ {X:Cx}{sc psc:Scope}(h:(sc.names.all fun y=>decide (y.2= .free->psc.names.lookup y.1=some .cell\/psc.names.lookup y.1=some .free))=true:=by decide+kernel)(e:X.env.scope=psc:=by rfl):
  ∀ y∈sc.names,y.2= .free->X.env.scope.names.lookup y.1=some .cell\/X.env.scope.names.lookup y.1=some .free:=by
 rw[e];intro y hy;exact aE (bC.mp h y hy)
def jP3 (sc:Scope)(N Nc:Am)(m:List (Option Nat))(k:Nat):Bool:=match m[k]? with
 | some (some i)=>match Nc[k]? with
  | some x=>decide (N[i]?=some x)&&decide (sc.names.lookup x=some .free)
  | none=>false
 | _=>true
theorem jJ {X:Cx}{sc:Scope}{N Nc:Am}{m:List (Option Nat)}(e:X.N=N)(hl:m.length=Nc.length)(h:((List.range m.length).all (jP3 sc N Nc m))=true):qK X sc Nc m:=by
 refine⟨hl,fun k i hk=>?_⟩;have hlt:k<m.length:=(ai.mp hk).1;have q:=bC.mp h k (bo.mpr hlt);unfold jP3 at q;rw[hk] at q;cases e2:Nc[k]? with
 | none=>rw[e2] at q; cases q
 | some x=>
  rw[e2] at q;have q:(decide (N[i]?=some x)&&decide (sc.names.lookup x=some .free))=true:=q;rw[bG] at q;exact⟨x,rfl,by rw[e]; exact aE q.1,aE q.2⟩
section
variable {σ:St}{H1:Hp}{Q:VK}
theorem jAP {lo:Int}{n:Nat}(hn:n<sizeLine)(Pv:Addr->Nat->St->Hp->List V->Prop)(h0:∀ D,H1 D=none->Pv D 0 (blkσ m σ) (upd H1 D (.lst [])) [])
  (hD:∀ D i σ' H' ys,H1 D=none->i<=n->Pv D i σ' H' ys->H' D=some (.lst ys)/\ys.length<=i)
  (hs:∀ D i σ' H' ys,H1 D=none->i<n->Pv D i σ' H' ys->g (.int (lo+i)) σ' H' fun σ2 H2=>tt σ2 H2 fun b H3=>if b=true then te σ2 H3 fun v H4=>H4 D=some (.lst ys)/\Pv D (i+1) σ2 (upd H4 D (.lst (ys++[v]))) (ys++[v]) else Pv D (i+1) σ2 H3 ys)
  (hd:∀ D σ' H' ys,H1 D=none->Pv D n σ' H' ys->Q (.ref D) H'):qJ m g tt te σ Q (Itr lo n) H1:=by
 intro D hDn;refine⟨fun i k σ' H' ys=>k=n - i/\i<=n/\Pv D i σ' H' ys,⟨n,rfl,bu _,h0 D hDn⟩,?_⟩;rintro i k σ' H' ys ⟨rfl,hi,p⟩;obtain⟨q1,q2⟩:=hD D i σ' H' ys hDn hi p;refine⟨q1,Aa,?_⟩;by_cases hlt:i<n
 ·refine .inr ⟨hlt,Pv D (i+1),fun σ2 H2 zs z=>⟨n - (i+1),Aa,rfl,hlt,z⟩,fun x H'' y=>?_⟩;obtain⟨e1,e2⟩:=y;subst e1 e2;exact hs D i σ' _ ys hDn hlt p
 ·have e:i=n:=Aa;subst e;exact .inl ⟨ak _,hd D σ' H' ys hDn p⟩
end
end L2
end
namespace SS
open PySem PySem.SetTable
abbrev Ris (xs:Array Nat):Prop:=xs.toList.Pairwise (· < ·)
theorem jD2 {xs:Array Nat}(h:Ris xs){a b:Nat}(hab:a<b)(hb:b<xs.size):xs.getD a 0<xs.getD b 0:=by
 have h1:a<xs.size:=eD hab hb;have:=bV.mp h a b (by simpa using h1) (by simpa using hb) hab;simpa [Array.getD,h1,hb] using this
theorem jVH {xs:Array Nat}{j:Nat}(hr:Ris xs):∀ (fuel lo hi:Nat),hi - lo<=fuel->lo<=hi->hi<=xs.size->(∀ a,a<lo->xs.getD a 0<j)->(∀ a,hi<=a->a<xs.size->j<=xs.getD a 0)->
  (below.go xs j fuel lo hi<=xs.size/\(∀ a,a<below.go xs j fuel lo hi->xs.getD a 0<j)/\(∀ a,below.go xs j fuel lo hi<=a->a<xs.size->j<=xs.getD a 0)):=by
 intro fuel
 induction fuel with
 | zero=>
  intro lo hi h1 h2 h3 h4 h5;have e:lo=hi:=Aa;subst e;exact⟨h3,h4,h5⟩
 | succ fuel ih=>
  intro lo hi h1 h2 h3 h4 h5;unfold below.go;by_cases hlt:lo<hi
  ·rw[ao hlt];have hm:(lo+hi) / 2<xs.size:=Aa;have e:xs.getD ((lo+hi) / 2) j=xs.getD ((lo+hi) / 2) 0:=by simp [Array.getD,hm]
   dsimp only;rw[e];by_cases hc:xs.getD ((lo+hi) / 2) 0<j
   ·rw[ao hc];refine ih _ _ Aa Aa h3 (fun a ha=>?_) h5;by_cases e2:a=(lo+hi) / 2
    ·rw[e2]; exact hc
    ·exact eD (jD2 hr Aa hm) hc
   ·rw[am hc];refine ih _ _ Aa Aa Aa h4 (fun a ha hs=>?_);by_cases e2:a=(lo+hi) / 2
    ·rw[e2]; lia
    ·have:=jD2 hr (show (lo+hi) / 2<a by lia) hs;lia
  ·rw[am hlt];have e:lo=hi:=Aa;subst e;exact⟨h3,h4,h5⟩
theorem jFT {xs:Array Nat}(hr:Ris xs)(j:Nat):below xs j<=xs.size/\(∀ a,a<below xs j->xs.getD a 0<j)/\(∀ a,below xs j<=a->a<xs.size->j<=xs.getD a 0):=
 jVH hr xs.size 0 xs.size Aa (bu _) (ak _) (fun a h=>absurd h (dM _)) (fun a h1 h2=>absurd h2 Aa)
theorem jH4 {xs:Array Nat}(hr:Ris xs){j i:Nat}(hi:i<=xs.size)(h1:∀ a,a<i->xs.getD a 0<j)(h2:∀ a,i<=a->a<xs.size->j<=xs.getD a 0):below xs j=i:=by
 obtain⟨b1,b2,b3⟩:=jFT hr j;rcases ie (below xs j) i with h | h | h
 ·have q1:=h1 _ h;have q2:=b3 _ (ak _) Aa;lia
 ·exact h
 ·have q1:=b2 _ h;have q2:=h2 _ (ak _) Aa;lia
theorem jAJ {α:Type}(xs:Array α)(p:Nat)(x:α):(insertAt xs p x).toList=xs.toList.take p++x::xs.toList.drop p:=by
 unfold insertAt;simp [eO,List.extract];rw[bK Ad]
theorem jCH {α:Type}(xs:Array α)(p:Nat)(x:α):(insertAt xs p x).size=xs.size+1:=by
 rw[<- aR,jAJ];simp;lia
theorem jLL {xs:Array Nat}{j:Nat}(hr:Ris xs)(hj:j∉xs.toList):Ris (insertAt xs (below xs j) j):=by
 obtain⟨b1,b2,b3⟩:=jFT hr j;show (insertAt xs (below xs j) j).toList.Pairwise (· < ·);rw[jAJ,ci,cB];have hl:∀ a∈xs.toList.take (below xs j),a<j:=by
  intro a ha;obtain⟨i,hi,e⟩:=List.mem_take_iff_getElem.mp ha;have:=b2 i Aa;have hs:i<xs.size:=by simp at hi; lia
  simp [Array.getD,hs] at this;simp at e;lia
 have hg:∀ a∈xs.toList.drop (below xs j),j<a:=by
  intro a ha;obtain⟨i,hi,e⟩:=List.mem_drop_iff_getElem.mp ha;have hs:i+below xs j<xs.size:=by simpa [jy] using hi
  have:=b3 (i+below xs j) Aa hs;simp [Array.getD,hs] at this;have e':xs[i+below xs j]=a:=by simpa [jy] using e
  have hne:a≠j:=by
   intro z;apply hj;rw[<- z];exact cO ha
  lia
 refine⟨hr.sublist (dy _ _),⟨hg,hr.sublist (ig _ _)⟩,?_⟩;intro a ha b hb;rcases aG.mp hb with rfl | hb
 ·exact hl a ha
 ·exact eD (hl a ha) (hg b hb)
theorem jEC {t:SetTable}{j:Nat}(hr:Ris t.place)(h:t.slot j= .empty):j∉t.place.toList:=by
 intro hm;obtain⟨i,hi,e⟩:=dX hm;have hs:i<t.place.size:=by simpa using hi
 have e0:t.place[i]=j:=by simpa using e
 have eb:below t.place j=i:=by
  refine jH4 hr (dh hs) (fun a ha=>?_) (fun a h1 h2=>?_)
  ·have:=jD2 hr ha hs;simp only [Array.getD,hs] at this ⊢;simp [e0] at this ⊢;exact this
  ·by_cases e2:a=i
   ·subst e2;simp [Array.getD,hs,e0]
   ·have:=jD2 hr (show i<a by lia) h2;simp only [Array.getD,hs] at this;simp [e0] at this;simp [Array.getD];lia
 unfold SetTable.slot at h;dsimp only at h;rw[eb] at h;rw[ao (by simp [hs,e0])] at h;cases h
theorem jJ8 (j:Nat):has #[] j=false:=by
 unfold has;simp
theorem jK8 {t:SetTable}(hd:t.dummies=#[]){f:Nat->Int}{h:Int} :∀ (fuel:Nat) (p:Probe) (m:Met),p.dummy=none->probe.go t f h fuel p=some m->
  (∃ j,m= .empty j none/\t.slot j= .empty)\/(∃ j i n,m= .candidate j i n):=by
 intro fuel
 induction fuel with
 | zero=>intro p m _ e; simp [probe.go] at e
 | succ fuel ih=>
  intro p m hp e;unfold probe.go at e;cases hs:t.slot p.j with
  | empty=>
   rw[hs] at e;simp only [gd] at e;subst e;exact .inl ⟨p.j,by rw[hp],hs⟩
  | dummy=>
   unfold SetTable.slot at hs;dsimp only at hs;rw[hd,jJ8] at hs;split at hs
   ·cases hs
   ·simp at hs
  | live i=>
   rw[hs] at e;dsimp only at e;split at e
   ·simp only [gd] at e;subst e;exact .inr ⟨_,_,_,rfl⟩
   ·refine ih _ _ ?_ e;unfold advance;split
    ·exact hp
    ·exact hp
theorem jGU {t:SetTable}(hr:Ris t.place)(hd:t.dummies=#[]){h:Int}{slot:Nat}{d:Bool}(e:t.freeSlot h=some (slot,d)):slot∉t.place.toList:=by
 unfold SetTable.freeSlot at e;split at e
 ·rename_i j dummy hp;simp only [gd,Prod.mk.injEq] at e;have hp':probe.go t (fun _=>h+1) h (10*turns t.mask) (t.probeStart h)=some (.empty j dummy):=hp;rcases jK8 hd _ _ _ (by unfold probeStart; rfl) hp' with ⟨j',em,hs⟩ | ⟨_,_,_,em⟩
  ·cases em;have:slot=j:=by rw[<- e.1]; rfl
   rw[this];exact jEC hr hs
  ·cases em
 ·cases e
theorem jLK {t:SetTable}{j:Nat}(hd:t.dummies=#[])(h:t.slot j≠ .empty):(∃ i,t.slot j= .live i)/\j∈t.place.toList:=by
 unfold SetTable.slot at h ⊢;dsimp only at h ⊢;by_cases q:(t.place[below t.place j]?==some j)=true
 ·rw[ao q];refine⟨⟨_,rfl⟩,?_⟩;have e:t.place[below t.place j]?=some j:=eq_of_beq q;obtain⟨hi,e⟩:=Array.getElem?_eq_some_iff.mp e;rw[<- e];exact Array.getElem_mem_toList hi
 ·rw[am q,hd,jJ8] at h;exact absurd rfl h
theorem run7 (i:Nat):runEnd 7 i=i:=by unfold runEnd; rw[am Aa]
theorem jN6 {t:SetTable}(hm:t.mask=7)(hd:t.dummies=#[]){h:Int} :∀ (k fuel:Nat) (p:Probe),p.j=p.i->p.more=0->p.i<8->p.perturb<32->k<=fuel->
  probe.go t (fun _=>h+1) h fuel p=none->∀ r,r<k->Nat.repeat (fun i=>(i*5+1) % 8) r p.i∈t.place.toList:=by
 intro k
 induction k with
 | zero=>intro fuel p _ _ _ _ _ _ r hr; lia
 | succ k ih=>
  intro fuel p h1 h2 h3 h4 h5 h6 r hr;obtain⟨f,rfl⟩:∃ f,fuel=f+1:=⟨fuel - 1,Aa⟩;unfold probe.go at h6;by_cases he:t.slot p.j= .empty
  ·rw[he] at h6; cases h6
  ·obtain⟨⟨i,hl⟩,hmem⟩:=jLK hd he;rw[hl] at h6;dsimp only at h6;rw[am (by simp; lia)] at h6;have hz:p.perturb / 32=0:=Aa;have ea:t.advance p= { p with j:=(p.i*5+1) % 8,more:=0,i:=(p.i*5+1) % 8,perturb:=0} :=by
    unfold advance leap;rw[am Aa,hm,hz];simp [run7]
   rw[ea] at h6;cases r with
   | zero=>show p.i∈_; rw[<- h1]; exact hmem
   | succ r=>
    have q:=ih f _ (by rfl) (by rfl) (by show (p.i*5+1) % 8<8; lia) (by show 0<32; lia) Aa h6 r Aa;have e:∀ (r i:Nat),Nat.repeat (fun i=>(i*5+1) % 8) (r+1) i=Nat.repeat (fun i=>(i*5+1) % 8) r ((i*5+1) % 8):=by
     intro r
     induction r with
     | zero=>intro i; rfl
     | succ r ihr=>
      intro i;show ((Nat.repeat _ (r+1) i)*5+1) % 8=((Nat.repeat _ r ((i*5+1) % 8))*5+1) % 8;rw[ihr]
    rw[e];exact q
theorem jPY:∀ i,i<8->∀ j,j<8->∃ r,r<8/\Nat.repeat (fun i=>(i*5+1) % 8) r i=j:=by decide+kernel
theorem jGT {t:SetTable}(hm:t.mask=7)(hd:t.dummies=#[])(hz:t.place.size<8){h:Int}(h0:0<=h)(h1:h<32):∃ q,t.freeSlot h=some q:=by
 unfold SetTable.freeSlot;have hb:bits h<32:=by unfold bits; lia
 have hps:t.probeStart h= { j:=bits h % 8,more:=0,i:=bits h % 8,perturb:=bits h,dummy:=none} :=by
  unfold probeStart;rw[hm];simp [run7]
 cases e:t.probe (fun _=>h+1) h (t.probeStart h) with
 | none=>
  exfalso;have e':probe.go t (fun _=>h+1) h (10*turns t.mask) (t.probeStart h)=none:=e;rw[hps] at e';have q:=jN6 hm hd 8 _ _ (by rfl) (by rfl) (by show bits h % 8<8; lia) (by exact hb) (by rw[hm]; decide) e';have sub:List.range 8 ⊆ t.place.toList:=by
   intro j hj;obtain⟨r,hr,er⟩:=jPY (bits h % 8) Aa j (bo.mp hj);rw[<- er];exact q r hr
  have:=List.Nodup.length_le_of_subset (List.nodup_range (n:=8)) sub;simp at this;lia
 | some m=>
  rcases jK8 hd _ _ _ (by rw[hps]) (show probe.go t (fun _=>h+1) h (10*turns t.mask) (t.probeStart h)=some m from e) with ⟨j,rfl,_⟩ | ⟨j,i,n,rfl⟩
  ·exact⟨_,rfl⟩
  ·exfalso;have nc:∀ (fuel:Nat) (p:Probe) (j i:Nat) (n:Probe),probe.go t (fun _=>h+1) h fuel p≠some (.candidate j i n):=by
    intro fuel
    induction fuel with
    | zero=>intro p j i n; simp [probe.go]
    | succ f ih=>
     intro p j i n;unfold probe.go;cases t.slot p.j with
     | empty=>simp
     | dummy=>exact ih _ _ _ _
     | live i'=>
      dsimp only;rw[am (by simp; lia)];exact ih _ _ _ _
   exact nc _ _ _ _ _ e
structure Tab (t:SetTable)(n:Nat)(led:Bool):Prop where
 ris:Ris t.place
 sz:t.place.size=n
 dm:t.dummies=#[]
 msk:t.mask=7
 pl:t.plain=true
 ld:t.led=led
theorem Tab.fits {t:SetTable}{n:Nat}{led:Bool}(T:Tab t n led)(hn:n<=4):t.fits n=true:=by
 unfold SetTable.fits fill;simp [T.sz,T.dm,T.msk];lia
theorem Tab.full {t:SetTable}{n:Nat}{led:Bool}(T:Tab t n led)(hn:n<=4):t.tooFull=false:=by
 unfold tooFull fill;simp [T.sz,T.dm,T.msk];lia
theorem jMN (led:Bool):Tab (fresh 0 0 led) 0 led:=⟨List.Pairwise.nil,rfl,rfl,rfl,rfl,rfl⟩
theorem jLX {t:SetTable}{n:Nat}{led:Bool}(T:Tab t n led)(hn:n+1<=4)(es:Array (Int×Value))(he:es.size=n){h:Int}(h0:0<=h)(h1:h<32)(x:Value):
  Tab (layNew t es h x).2.1 (n+1) led/\∃ p,(layNew t es h x).1.toList=es.toList.take p++(h,x)::es.toList.drop p:=by
 obtain⟨⟨slot,d⟩,hf⟩:=jGT T.msk T.dm (by rw[T.sz]; lia) h0 h1;unfold layNew;rw[hf];dsimp only [SetTable.put];have hnm:=jGU T.ris T.dm hf;have T2:Tab { t with place:=insertAt t.place (below t.place slot) slot,dummies:=if has t.dummies slot then eraseAt t.dummies (below t.dummies slot) else t.dummies} (n+1) led:=by
  refine⟨jLL T.ris hnm,by rw[jCH,T.sz],?_,T.msk,T.pl,T.ld⟩;rw[T.dm,jJ8];rfl
 refine⟨?_,_,jAJ _ _ _⟩;unfold SetTable.orStandIn;rw[jCH,he,T2.fits hn];exact T2
def jK2 (xs:Array Nat):Nat->Nat
 | 0=>0
 | i+1=>xs.getD i 0+1
theorem jIL {xs:Array Nat}(hr:Ris xs){i:Nat}(hi:i<=xs.size):below xs (jK2 xs i)=i:=by
 cases i with
 | zero=>exact jH4 hr (bu _) (fun a h=>absurd h (dM _)) (fun a _ _=>bu _)
 | succ i=>
  refine jH4 hr hi (fun a ha=>?_) (fun a h1 h2=>?_)
  ·show _<xs.getD i 0+1;by_cases e:a=i
   ·rw[e]; lia
   ·have:=jD2 hr (show a<i by lia) (show i<xs.size by lia);lia
  ·show xs.getD i 0+1<=_;exact jD2 hr (show i<a by lia) h2
theorem jM5 {α:Type}{l:List α}{i:Nat}(h:i<l.length):(l[i]::l.eraseIdx i).Perm l:=by
 rw[List.eraseIdx_eq_take_drop_succ];have e:l=l.take i++l[i]::l.drop (i+1):=by rw[<- List.drop_eq_getElem_cons h,bD]
 conv=>rhs; rw[e]
 exact List.perm_middle.symm
theorem jU5 {α:Type}(next:Nat->Nat):∀ (fuel k:Nat) (left:List α) (out:Array α),fuel=left.length->(pickOrder.go next fuel k left out).toList.Perm (out.toList++left):=by
 intro fuel
 induction fuel with
 | zero=>
  intro k left out h;have:left=[]:=dZ.mp h.symm;subst this;simp [pickOrder.go]
 | succ f ih=>
  intro k left out h;have hl:next k % left.length<left.length:=Nat.mod_lt _ Aa;unfold pickOrder.go;rw[aA hl];dsimp only;refine(ih _ _ _ (by rw[List.length_eraseIdx_of_lt hl]; lia)).trans ?_;rw[dP,aY];exact cL _ (jM5 hl)
theorem jHJ {α:Type}(next:Nat->Nat)(xs:Array α):(pickOrder next xs).toList.Perm xs.toList:=by
 unfold pickOrder;have:=jU5 next xs.size 0 xs.toList #[] Ad;simpa using this
end SS
namespace SS
open PySem
abbrev ledW (w:World):Bool:=!(w.params.followText "set-order")
def El (e:Int×Value)(k:Int):Prop:=e.1=hashInt k/\∃ t,e.2= .int k t
theorem jC5 {α β:Type}{F:α->β->Prop} :∀ {l:List α}{r:List β},Paired F l r->∀ a∈l,∃ b∈r,F a b
 | _,_, .nil=>fun a h=>by cases h
 | _,_, .cons f t=>fun a h=>by
  rcases aG.mp h with rfl | h
  ·exact⟨_,az,f⟩
  ·obtain⟨b,hb,q⟩:=jC5 t a h;exact⟨b,aB _ hb,q⟩
theorem jDQ {α β:Type}{F:α->β->Prop} :∀ {l:List α}{r:List β},Paired F l r->∀ b∈r,∃ a∈l,F a b
 | _,_, .nil=>fun a h=>by cases h
 | _,_, .cons f t=>fun b h=>by
  rcases aG.mp h with rfl | h
  ·exact⟨_,az,f⟩
  ·obtain⟨a,ha,q⟩:=jDQ t b h;exact⟨a,aB _ ha,q⟩
theorem jFJ {α β:Type}{F:α->β->Prop}{a:α}{b:β}(f:F a b):∀ {l:List α}{r:List β}(p:Nat),Paired F l r->Paired F (l.take p++a::l.drop p) (r.take p++b::r.drop p)
 | _,_,0,q=>by simpa using Paired.cons f q
 | _,_,p+1, .nil=>by simpa using Paired.cons f .nil
 | _,_,p+1, .cons g t=>by
  simp only [List.take_succ_cons,List.drop_succ_cons,iI];exact .cons g (jFJ f p t)
theorem jTW {α:Type}(l:List α)(p:Nat)(x z:α):z∈l.take p++x::l.drop p↔z=x\/z∈l:=by
 conv=>rhs; rw[<- bD p l]
 simp only [aN,aG];constructor
 ·rintro (h | h | h)
  ·exact .inr (.inl h)
  ·exact .inl h
  ·exact .inr (.inr h)
 ·rintro (h | h | h)
  ·exact .inr (.inl h)
  ·exact .inl h
  ·exact .inr (.inr h)
theorem jG4 {α:Type}(l:List α)(p:Nat)(x:α):(l.take p++x::l.drop p).Perm (x::l):=by
 have h:(l.take p++x::l.drop p).Perm (x::(l.take p++l.drop p)):=List.perm_middle;rw[bD] at h;exact h
structure SetG (w:World)(h:Heap)(a:Addr)(ks:Ag):Prop where
 ex:∃ o es ep t,h.get? a=some o/\o.ExactSet/\o.data= .set es ep t/\Paired El es.toList ks/\Tab t es.size (ledW w)
 nd:ks.Nodup
 len:ks.length<=4
variable {prog:Program}{w:World}{A:Around}{E:Ah}{s:Shared}{a:Addr}
section
variable {ks:Ag}{k:Int}{tk:Tok}
theorem elems {es:List (Int×Value)}(h:Paired El es ks):ElemsOf (intKind prog w) es:=fun e he=>by
 obtain⟨k,_,h1,t,h2⟩:=jC5 h e he;rw[h2];exact⟨⟨k,by show Value.isInt k (.int k t)=true; simp [Value.isInt],h1⟩,rfl⟩
theorem SetG.at {h h':Heap}(S:SetG w h a ks)(e:∀ o,h.get? a=some o->h'.get? a=some o):SetG w h' a ks:=by
 obtain⟨⟨o,es,ep,t,ho,r⟩,nd,len⟩:=S;exact⟨⟨o,es,ep,t,e _ ho,r⟩,nd,len⟩
theorem jCR (k0:0<=k)(k1:k<32):hashInt k=k:=by
 obtain⟨n,rfl⟩:=Int.eq_ofNat_of_zero_le k0;have e:∀ n:Nat,n<32->hashInt (n:Int)=(n:Int):=Ab;exact e n Aa
theorem jY3 {Q:Bool->Shared->Prop}(S:SetG w s.heap a ks)(hl:ks.length+1<=4)(k0:0<=k)(k1:k<32)
  (h:∀ b h' ks',Heap.SameBut a s.heap h'->SetG w h' a ks'->(∀ z,z∈ks'↔z=k\/z∈ks)->ks'.length<=ks.length+1->Q b { s with heap:=h'}):
  wpAny (model prog w) A (setAddHashed a (.int k tk) (hashInt k)) Q E s:=by
 obtain⟨o,es,ep,t,ho,hex,hd,hp,T⟩:=id S.ex;have hn:es.size=ks.length:=by rw[<- aR]; exact fj hp
 have hf:=T.fits Aa;have hel:ElemsOf (intKind prog w) es.toList:=elems hp;have hb:es.size<scanBound:=by unfold scanBound; lia
 have hi:∀ (j:Int) (t:Tok),Value.isInt k (.int j t)=true->j=k:=fun j t e=>by simpa [Value.isInt] using e
 unfold setAddHashed setAddHashedIn;refine bS (ae (dz ho hd hf ?_));dsimp only;rw[byScan_of (knd:=intKind prog w) rfl hb hel,ao rfl];unfold setAddByScan;refine ae (ae (df (ae ?_)));refine wpAny_setScan_of (knd:=intKind prog w) (k:=k) (by show Value.isInt k (.int k tk)=true; simp [Value.isInt]) ho hd hf hel ?_;have es0:s= { s with heap:=s.heap} :=by cases s; rfl
 cases hr:List.findIdx? (fun e=>(intKind prog w).is k e.2) es.toList with
 | some j=>
  obtain⟨hj,hpj,_⟩:=List.findIdx?_eq_some_iff_getElem.mp hr;obtain⟨k',hk',_,t',e'⟩:=jC5 hp _ (cm hj);have hkk:k'=k:=hi k' t' (by rw[<- e']; exact hpj);subst hkk;refine ah (ah ?_);rw[es0];exact h false s.heap ks (Heap.SameBut.refl a s.heap) S (fun z=>⟨.inr,fun q=>q.elim (fun e=>e ▸ hk') id⟩) Aa
 | none=>
  have hnk:k∉ks:=fun hm=>by
   obtain⟨e,he,_,t',e'⟩:=jDQ hp k hm;have q:=List.findIdx?_eq_none_iff.mp hr e he;rw[e'] at q;have q':Value.isInt k (.int k t')=false:=q;simp [Value.isInt] at q'
  obtain⟨T1,p,hp1⟩:=jLX T Aa es rfl (h:=hashInt k) (by rw[jCR k0 k1]; exact k0) (by rw[jCR k0 k1]; exact k1) (.int k tk);dsimp only;show wpAny _ A (match layNew t es (hashInt k) (Value.int k tk) with | (es,t,wasDummy,gave)=>_) _ E s;generalize layNew t es (hashInt k) (Value.int k tk)=L at T1 hp1 ⊢;obtain⟨es1,t1,wd,gv⟩:=L;dsimp only at T1 hp1 ⊢;have hp2:Paired El es1.toList (ks.take p++k::ks.drop p):=by
   rw[hp1];exact jFJ ⟨rfl,tk,rfl⟩ p hp
  have hz1:es1.size=es.size+1:=by
   rw[<- aR,hp1,(jG4 es.toList p (hashInt k,Value.int k tk)).length_eq];simp
  have hlen:(ks.take p++k::ks.drop p).length=ks.length+1:=(jG4 ks p k).length_eq;have T1':Tab t1 es1.size (ledW w):=by rw[hz1]; exact T1
  have hg:(s.heap.update a (Obj.putSet es1 t1)).get? a=some { o with data:= .set es1 (ep+1) t1} :=by
   have q:=dG (Obj.putSet es1 t1) ho (by rw[putSet_of es1 t1 hd]; rfl);rw[putSet_of es1 t1 hd] at q;exact q
  have fin:Q true { s with heap:=s.heap.update a (Obj.putSet es1 t1)} :=
   h true _ _ (gP ..) ⟨⟨_,es1,ep+1,t1,hg,hex,rfl,hp2,T1'⟩,(jG4 ks p k).nodup_iff.mpr (cF.mpr ⟨hnk,S.nd⟩),Aa⟩ (fun z=>jTW ks p k z) Aa
  have hfull:t1.tooFull=false:=T1'.full Aa;refine ae (show wpAny _ A (match gv with | true=>rule "set.scan.the-table-gave-way" | false=>pure ()) _ E s from ?_);have hzl:es1.size<=sizeLine:=by rw[hz1,show sizeLine=2 ^ 24 from rfl]; lia
  cases gv with
  | true=>
   refine df ?_;split
   all_goals
    refine ae (show wpAny _ A (pure true:Sem Bool) _ E s from ah ?_);simp only [gc];refine ae (wpAny_storeSet_of ho hd ?_ hzl);rw[hfull,cC,am aj];exact ah (ah fin)
  | false=>
   refine ah ?_;split
   all_goals
    refine ae (show wpAny _ A (pure true:Sem Bool) _ E s from ah ?_);simp only [gc];refine ae (wpAny_storeSet_of ho hd ?_ hzl);rw[hfull,cC,am aj];exact ah (ah fin)
end
theorem jC3:entryFor table "set.update.loop" =some Builtin.«set.update.loop»:=entryFor_of_fast (by kernel_rfl)
theorem jAU:plainId "set.update.loop" =true:=by decide+kernel
variable {I:Addr}
section
variable {R:Result->Shared->Prop}{fp wr:List Addr}{n:Nat}{P:Nat->Value->Prop}{St:Nat->Shared->Prop}
theorem jQ7 (W:WalksS prog w A.in1 I fp wr (fun a b=>b=a) n P St)(S:Addr)(hSf:S∉fp)(val:Nat->Int)(hval:∀ i v,P i v->∃ t,v= .int (val i) t)(hv:∀ i,i<n->0<=val i/\val i<32)(hn:n<=4):
  ∀ (k i:Nat) (s:Shared) (ks:Ag),n - i=k->i<=n->St i s->SetG w s.heap S ks->ks.length<=i->(∀ z,z∈ks↔∃ j,j<i/\val j=z)->
   (∀ s' ks',Moved (S::wr) (fun a b=>b=a) s s'->SetG w s'.heap S ks'->(∀ z,z∈ks'↔∃ j,j<n/\val j=z)->R (.ok (.ret .none)) s')->
   codeAny (model prog w) A (.builtin "set.update.loop" ⟨[.ref S, .ref I],[]⟩) R s:=by
 have hSw:S∉wr:=fun h=>hSf (W.sub _ h);have sub1:∀ b∈wr,b∈S::wr:=fun b hb=>aB _ hb;intro k
 induction k with
 | zero=>
  intro i s ks hk hi hst hS hl hm hR;obtain rfl:i=n:=by lia
  refine bW jC3 ?_;rw[bM jAU _];show wpAny _ A.in1 (pyNext (.ref I) >>= _) _ _ s;refine ae (W.done s _ _ hst fun s' mv=>?_);show wpAny _ A.in1 (ret Value.none) _ _ s';exact ah (hR s' ks (mv.mono sub1) (hS.at fun o e=>mv.heap S o hSw e) hm)
 | succ k ih=>
  intro i s ks hk hi hst hS hl hm hR;have hlt:i<n:=Aa;refine bW jC3 ?_;rw[bM jAU _];show wpAny _ A.in1 (pyNext (.ref I) >>= _) _ _ s;refine ae (W.item i s _ _ hlt hst fun v s' hP hst' mv=>?_);obtain⟨t,rfl⟩:=hval i v hP;have hS':=hS.at (h':=s'.heap) fun o e=>mv.heap S o hSw e;show wpAny _ A.in1 (holding [Value.int (val i) t] (setAdd S (.int (val i) t)) >>= _) _ _ s';refine ae (bS ?_);unfold setAdd;refine bS (ae (wpAny_pyHash_int ?_));refine jY3 (s:= { s' with toks:=s'.toks+1}) hS' Aa (hv i hlt).1 (hv i hlt).2 fun b h' ks' sb hS2 hm2 hl2=>?_;refine ah ⟨dS jAU _,ih (i+1) _ ks' Aa hlt (W.frame _ s' _ _ hst' (dE _) fun b hb o e=>?_) hS2 Aa (fun z=>?_) fun s'' ks'' mv2 hS3 hm3=>?_⟩
  ·rw[sb.2 b (fun h:b=S=>hSf (by rw[<- h]; exact hb))];exact e
  ·rw[hm2,hm];constructor
   ·rintro (h | ⟨j,hj,e⟩)
    ·exact⟨i,Aa,h.symm⟩
    ·exact⟨j,Aa,e⟩
   ·rintro ⟨j,hj,e⟩;by_cases hji:j=i
    ·exact .inl (by rw[<- e,hji])
    ·exact .inr ⟨j,Aa,e⟩
  ·refine hR s'' ks'' (Moved.trans W.gtrans ((mv.mono sub1).then_heap (dE _) fun b o hb e=>?_) mv2) hS3 hm3;rw[sb.2 b (fun h:b=S=>hb (by rw[h]; exact az))];exact e
end
section
theorem jUW (a:Value){Q:Ah}
  (h:Q (.ref s.heap.objs.size) { s with heap:=s.heap.push { cls:= .type "set",dict:=none,data:= .set #[] 0 (.fresh 0 0 (ledW w))}}):
  codeAny (model prog w) A (.call (.builtin "set.__new__") ⟨[.type "set",a],[]⟩) (wants Q E) s:=by
 refine codeAny_of_tree (show wpAny _ A.in1 (do checkBuiltinCall "set.__new__" ⟨[.type "set",a],[]⟩; again (.builtin "set.__new__" ⟨[.type "set",a],[]⟩)) _ _ s from ?_);refine ae (wpAny_of_eq (F.newCall_set_1 a) (ah ⟨dS F.plain_set_new _,bW F.entry_set_new ?_⟩));rw[bM F.plain_set_new _];unfold Builtin.«set.__new__» Builtin.Frozenset.newClass;have q:=sub_set_self;obtain⟨hp,g,d,tk,os⟩:=s;dsimp only
 wp_walk
 refine eV (ah ?_);dsimp only;simp only [newObj];exact ae (wpAny_alloc (ah (ah h)))
set_option maxHeartbeats 3200000 in
theorem set_of_list {l:Addr}{items:An}{ns:Ag}{Q:Ah}(hh:A.handled=none)(hl:s.heap.IsList l items)(hi:PyProof.Rows.IntsAre items.toList ns)
  (hn:items.size<=4) (hv:∀ z∈ns,0<=z/\z<32)
  (h:∀ (h':Heap) (tk:Nat) (ks:Ag),SetG w h' s.heap.objs.size ks->(∀ z,z∈ks↔z∈ns)->(∀ b o,s.heap.get? b=some o->h'.get? b=some o)->Q (.ref s.heap.objs.size) { s with heap:=h',toks:=tk}):
  wpAny (model prog w) A (call (.type "set") [.ref l]) Q E s:=by
 obtain⟨c,tl,hmro⟩:=F.called_set.mro;have hmade:=F.called_set.made;have hsub:=F.called_set.sub;have g1:=F.called_set.notType;have g2:=F.called_set.canCreate;have g3:=F.typeCall_set_1 (.ref l);refine iN (codeAny_of_tree (show wpAny _ _ (callAny (.type "set") _) _ _ _ from ?_));refine ah ⟨Code.quiet_builtin _ Ab,bW F.entry_type_call ?_⟩;rw[Around.under_plain (weight_type_call_type "set" [.ref l] []) rfl]
 repeat (any_goals (first | assumption | wp_step))
 have hlen:items.size=ns.length:=by rw[<- aR]; exact hi.length
 refine dO (jUW (.ref l) (E:=E) (Q:=fun obj z=>obj= .ref s.heap.objs.size/\z= { s with heap:=s.heap.push { cls:= .type "set",dict:=none,data:= .set #[] 0 (.fresh 0 0 (ledW w))}}) ⟨rfl,rfl⟩) fun r z hr=>?_;cases r with
 | error e=>exact hr
 | ok fl=>
  cases fl with
  | ret obj=>
   obtain⟨rfl,rfl⟩:=hr;generalize hO:({ cls:= .type "set",dict:=none,data:= .set #[] 0 (.fresh 0 0 (ledW w))} :Obj)=oS;have hS:(s.heap.push oS).get? s.heap.objs.size=some oS:=ax _ (by rw[<- hO]; rfl);have hT:Shared.TypeIs { s with heap:=s.heap.push oS} (.ref s.heap.objs.size) "set" :=⟨_,hS,by rw[<- hO]⟩;have hli:=F.called_set.init.lookup;have hbi:=F.called_set.init.bind (.ref s.heap.objs.size)
   repeat (any_goals (first | assumption | wp_step))
   refine dO (codeAny_call_builtin (R:=wants (fun r z2=>r= .none/\∃ h' tk ks,z2= { s with heap:=h',toks:=tk} /\SetG w h' s.heap.objs.size ks/\(∀ z,z∈ks↔z∈ns)/\(∀ b o,s.heap.get? b=some o->h'.get? b=some o)) E)
    F.called_set.init.plain F.entry_set_init (check_set_init_1 hT ?_)) fun r2 z2 hr2=>?_
   ·obtain⟨ol,hol,hcl,nl,hdl⟩:=hl;obtain⟨ocls,odict,odata,oslots⟩:=ol;simp only at hcl hdl;subst hcl; subst hdl;have hol':(s.heap.push oS).get? l=some { cls:= .type "list",dict:=odict,data:= .seq items nl,slots:=oslots} :=af _ hol;have y1:=F.sub_list_set;have y2:=F.sub_list_frozenset;have y3:(Value.type "list" ==Value.type "dict")=false:=Ac;have hl1:(s.heap.push oS).IsList l items:=⟨_,hol',rfl,nl,rfl⟩;subst hO;unfold Builtin.«set.__init__» noKeywords Builtin.Frozenset.updateFrom;generalize hPI:pyIter=PI
    wp_walk
    subst hPI;refine cV hl1 (ae (gf ?_));have hlS:l<s.heap.objs.size:=aC hol;have hz1:(s.heap.push { cls:= .type "set",dict:=none,data:= .set #[] 0 (.fresh 0 0 (ledW w))}).objs.size=s.heap.objs.size+1:=cA _ _;have nI:l≠(s.heap.push { cls:= .type "set",dict:=none,data:= .set #[] 0 (.fresh 0 0 (ledW w))}).objs.size:=by
     rw[hz1];exact aU (bY hlS)
    have nS:s.heap.objs.size∉ [(s.heap.push { cls:= .type "set",dict:=none,data:= .set #[] 0 (.fresh 0 0 (ledW w))}).objs.size,l]:=by
     rw[hz1];simp only [aG,b8,eQ,kg];exact⟨aU (d0 _),di hlS⟩
    have hget:((s.heap.push { cls:= .type "set",dict:=none,data:= .set #[] 0 (.fresh 0 0 (ledW w))}).push { cls:= .type "list_iterator",data:= .fields #[.ref l, .int 0 0]}).get? s.heap.objs.size
      =some { cls:= .type "set",dict:=none,data:= .set #[] 0 (.fresh 0 0 (ledW w))} :=af _ hS
    refine jQ7 ((g0 (by simp [hh]) _ l nI items).toS) s.heap.objs.size nS (fun i=>ns.getD i 0) (fun i v q=>PyProof.Rows.IntsAre.int_at hi i v (by rw[bJ]; exact q))
     (fun i q=>hv _ ?_) hn (items.size - 0) 0 _ [] rfl (bu _) ⟨⟨_,ax _ rfl,rfl,rfl⟩,hl1.push _⟩ ⟨⟨_,#[],0,_,hget,⟨rfl,rfl,rfl⟩,rfl, .nil,jMN _⟩,g4,bu _⟩ (ak _) (fun z=>⟨fun q=>by(cases q),fun ⟨j,q,_⟩=>absurd q (dM _)⟩) ?_
    ·have q':i<ns.length:=by rw[<- hlen]; exact q
     simp [List.getD,q']
    ·intro s' ks mv S' hm;obtain⟨h',g',d',tk',os'⟩:=s';have e1:g'=s.gens:=mv.gens;have e2:d'=s.drawn:=mv.drawn;have e3:os'=s.os:=mv.os;subst e1; subst e2; subst e3;refine ah (ah ⟨rfl,h',tk',ks,rfl,S',fun z=>?_,fun b o e=>?_⟩)
     ·rw[hm];constructor
      ·rintro ⟨j,hj,e⟩;have hj':j<ns.length:=by rw[<- hlen]; exact hj
       rw[<- e];simp [List.getD,hj']
      ·intro hz;obtain⟨j,hj,e⟩:=dX hz;exact⟨j,by rw[hlen]; exact hj,by simp [List.getD,hj,e]⟩
     ·have hb:=aC e;refine mv.heap b o ?_ (af _ (af _ e));rw[hz1];simp only [aG,b8,eQ,kg];exact⟨aU hb,aU (bY hb)⟩
   ·cases r2 with
    | error e=>exact hr2
    | ok fl2=>
     cases fl2 with
     | ret r=>
      obtain⟨rfl,h',tk,ks,rfl,hS',hm,hk⟩:=hr2
      repeat (any_goals (first | assumption | wp_step))
      exact h _ _ _ hS' hm hk
     | _=>exact hr2.elim
  | _=>exact hr.elim
end
theorem slot_si_next:Slot "set_iterator" "__next__" "set_iterator.__next__" :=
 .of (owner:= "set_iterator") (n:= "__next__") (by
   rw[iU,gy]
   kernel_rfl) Ab Ab
  Ab
  (by first
   | exact .inl Ab
   | exact .inr Ab)
  (by
   rw[jc]
   kernel_rfl)
theorem jDJ:Slot "set_iterator" "__iter__" "set_iterator.__iter__" :=
 .of (owner:= "set_iterator") (n:= "__iter__") (by
   rw[iU,gy]
   kernel_rfl) Ab Ab
  Ab
  (by first
   | exact .inl Ab
   | exact .inr Ab)
  (by
   rw[jc]
   kernel_rfl)
theorem jCU:entryFor table "set_iterator.__next__" =some Builtin.«set_iterator.__next__»:=entryFor_of_tree (by kernel_rfl)
theorem jF5:entryFor table "set.__iter__" =some Builtin.«frozenset.__iter__»:=
 entryFor_alias (id':= "frozenset.__iter__") (by kernel_rfl) rfl Ab (by kernel_rfl)
theorem jGX:entryFor table "set_iterator.__iter__" =some Builtin.«dict_keyiterator.__iter__»:=
 entryFor_alias (id':= "dict_keyiterator.__iter__") (by kernel_rfl) (by first | rfl | decide+kernel | (unfold String.splitOn; simp+decide [String.splitOnAux])) Ab
  (by kernel_rfl)
theorem jDT (a:Value):argsOk "set_iterator.__next__" ⟨[a],[]⟩:=by unfold argsOk; kernel_rfl
theorem jIM (a:Value):argsOk "set_iterator.__iter__" ⟨[a],[]⟩:=by unfold argsOk; kernel_rfl
theorem jH5 (a:Value):argsOk "set.__iter__" ⟨[a],[]⟩:=by unfold argsOk; kernel_rfl
abbrev byTxt (w:World):Bool:=w.params.followText "set-order"
abbrev IsSI (h:Heap)(I:Addr)(slot i:Nat)(a:Addr)(n ep:Nat):Prop:=
 h.get? I=some { cls:= .type "set_iterator",dict:=none,data:= .fields #[rawInt slot,rawInt i, .ref a,rawInt n,rawInt ep],slots:=#[]}
def qT (w:World)(t:SetTable)(i:Nat):Nat:=if byTxt w=true then 0 else jK2 t.place i
def told (w:World)(a:Addr)(ep:Nat)(es:Array (Int×Value)):Al:=(if byTxt w=true then (pickOrder (w.params.setOrder a ep) es).toList else es.toList).map (·.2)
theorem jB0 (w:World)(a:Addr)(ep:Nat)(es:Array (Int×Value)):(told w a ep es).length=es.size:=by
 unfold told;rw[ab];split
 ·rw[(jHJ _ es).length_eq]; simp
 ·simp
theorem jML (w:World)(a:Addr)(ep:Nat)(es:Array (Int×Value)):(told w a ep es).Perm (es.toList.map (·.2)):=by
 unfold told;split
 ·exact(jHJ _ es).map _
 ·exact .refl _
variable {o:Obj}{es:Array (Int×Value)}{ep:Nat}{t:SetTable}
theorem jNW {i:Nat}{Q:Option (Value×Nat)->Shared->Prop}(ho:s.heap.get? a=some o)(hd:o.data= .set es ep t)(T:Tab t es.size (ledW w))(hn:es.size<=4)(hi:i<=es.size)
  (h:Q ((told w a ep es)[i]?.map fun v=>(v,qT w t (i+1))) s):wpAny (model prog w) A (setNext a (qT w t i) i ep) Q E s:=by
 unfold setNext;refine ae (dz ho hd (T.fits hn) ?_);dsimp only;unfold setsByText;refine ae (ae (eV (ah ?_)));show wpAny _ A (if byTxt w=true then _ else _) Q E s;have hl:=jB0 w a ep es;by_cases hb:byTxt w=true
 ·rw[ao hb,am Ad];unfold setWalk;refine ae (ae (dz ho hd (T.fits hn) ?_));dsimp only;unfold setsByText;refine ae (ae (eV (ah ?_)));show wpAny _ A (if byTxt w=true then _ else _) _ E s;rw[ao hb];refine ae (eV (ah (ah ?_)));have e:(told w a ep es)[i]?.map (fun v=>(v,qT w t (i+1)))=(pickOrder (w.params.setOrder a ep) es)[i]?.map (fun e=>(e.snd,qT w t i)):=by
   unfold told qT;rw[ao hb,ao hb,ao hb,aL,bJ,Option.map_map];rfl
  rw[e] at h;exact h
 ·rw[am hb];have hb':byTxt w=false:=by simpa using hb
  have hld:t.led=true:=by rw[T.ld]; show (!byTxt w)=true; rw[hb']; rfl
  show wpAny _ A (if (!t.plain&&decide (es.size>1))=true then _ else _) Q E s;rw[T.pl,jm,eM,am aj];refine ae ?_;show wpAny _ A (if (!t.led&&!es.isEmpty)=true then _ else pure ()) _ E s;rw[hld,jm,eM,am aj];refine ah (ah ?_);have eb:SetTable.below t.place (qT w t i)=i:=by
   unfold qT;rw[am hb];exact jIL T.ris (by rw[T.sz]; exact hi)
  rw[eb];have et:(told w a ep es)[i]?=es[i]?.map (·.2):=by
   unfold told;rw[am hb,aL,bJ]
  rw[et] at h;by_cases hlt:i<es.size
  ·have h1:es[i]?=some es[i]:=by simp [hlt]
   have hlt2:i<t.place.size:=by rw[T.sz]; exact hlt
   have h2:t.place[i]?=some t.place[i]:=by simp [hlt2]
   have h3:qT w t (i+1)=t.place[i]+1:=by
    unfold qT jK2;rw[am hb];simp [Array.getD,hlt2]
   rw[h1,h3] at h;rw[h1,h2];exact h
  ·have h1:es[i]?=none:=by simp; lia
   rw[h1] at h;rw[h1];exact h
theorem jHH {i:Nat}{v:Value}{Q:Ao->Shared->Prop}(ho:s.heap.get? a=some o)(hd:o.data= .set es ep t)(T:Tab t es.size (ledW w))(hn:es.size<=4)
  (hit:IsSI s.heap I (qT w t i) i a es.size ep) (hv:(told w a ep es)[i]?=some v)
  (hQ:∀ h',IsSI h' I (qT w t (i+1)) (i+1) a es.size ep->Heap.SameBut I s.heap h'->Q (some v) { s with heap:=h'}):wpAny (model prog w) A (pyNext (.ref I)) Q E s:=by
 have hT:s.TypeIs (.ref I) "set_iterator" :=⟨_,hit,rfl⟩;have hi:i<es.size:=by
  rw[<- jB0 w a ep es];exact(ai.mp hv).1
 unfold pyNext;refine ae (fo (cP (name:=Str.ofString "__next__") hT slot_si_next (cn slot_si_next hT jCU ?_ (jDT _))));unfold Builtin.«set_iterator.__next__»;refine ae (m:=slotArgs "__next__" 0 _) (ah ?_);dsimp only;unfold fieldsOf;refine ae (ae (fH hit ?_));refine ah ?_;dsimp only [rawInt];unfold setEntries;refine ae (ae (dz ho hd (T.fits hn) (ah ?_)));rw[am Ad];simp only [bE];refine ae (jNW ho hd T hn (dh hi) ?_);rw[hv];dsimp only [Option.map];refine ae (cN hit Ad fun h1 hit1 sb1=>?_);refine ae (cN hit1 Ad fun h2 hit2 sb2=>?_);refine ah ⟨v,rfl,ah (hQ h2 ?_ (sb1.trans sb2))⟩;show h2.get? I=_;rw[hit2];simp [rawInt]
theorem jIU {Q:Ao->Shared->Prop}(hh:A.handled=none)(ho:s.heap.get? a=some o)(hd:o.data= .set es ep t)(T:Tab t es.size (ledW w))(hn:es.size<=4)
  (hit:IsSI s.heap I (qT w t es.size) es.size a es.size ep)
  (hQ:∀ h',Heap.ExtBut I s.heap h'->Q none { s with heap:=h'}):wpAny (model prog w) A (pyNext (.ref I)) Q E s:=by
 have hT:s.TypeIs (.ref I) "set_iterator" :=⟨_,hit,rfl⟩;unfold pyNext;refine ae (fo (cP (name:=Str.ofString "__next__") hT slot_si_next (cn slot_si_next hT jCU ?_ (jDT _))));unfold Builtin.«set_iterator.__next__»;refine ae (m:=slotArgs "__next__" 0 _) (ah ?_);dsimp only;unfold fieldsOf;refine ae (ae (fH hit ?_));refine ah ?_;dsimp only [rawInt];unfold setEntries;refine ae (ae (dz ho hd (T.fits hn) (ah ?_)));rw[am Ad];simp only [bE];refine ae (jNW ho hd T hn (ak _) ?_);rw[de (by rw[jB0]; exact ak _)];dsimp only [Option.map];refine ae (cN hit Ad fun h1 hit1 sb1=>?_);refine ae ?_;simp only [newExc,newTuple];refine ae (cf ?_ (by size_fits));refine ae (m:=firstArgMember _ _) (wpAny_of_eq (a:=Value.none) (by first | rfl | (simp only [firstArgMember]; rfl)) ?_);refine cf ?_ (by size_fits);simp only [raiseNew];refine ae (wpAny_handled ?_);rw[show A.in1.handled=none from hh];refine ae (ah (wpAny_throw ?_));refine ae (iJ (T:= "StopIteration") (b:=true) ⟨_,ax _ rfl,rfl⟩ isSubtype_stop ?_);exact ah (hQ _ ((sb1.extBut.push _).push _))
theorem jTP {i:Nat}{slot n:Nat}{Q:Ah}(hit:IsSI s.heap I slot i a n ep)(h:Q (.ref I) s):wpAny (model prog w) A (pyIter (.ref I)) Q E s:=by
 have hT:s.TypeIs (.ref I) "set_iterator" :=⟨_,hit,rfl⟩;refine wpAny_pyIter_slot hT jDJ (cn jDJ hT jGX ?_ (jIM _));show wpAny _ _ (ret (.ref I)) _ _ s;exact ah ⟨_,rfl,"set_iterator",_,hT,slot_si_next.lookup,h⟩
theorem jQC {Q:Ah}(hx:o.ExactSet)(ho:s.heap.get? a=some o)(hd:o.data= .set es ep t)(T:Tab t es.size (ledW w))(hn:es.size<=4)
  (hQ:∀ h',h'.get? s.heap.objs.size=some { cls:= .type "set_iterator",dict:=none,data:= .fields #[rawInt (qT w t 0),rawInt 0, .ref a,rawInt es.size,rawInt ep],slots:=#[]} ->(∀ b u,s.heap.get? b=some u->h'.get? b=some u)->
   h'.objs.size=s.heap.objs.size+1->Q (.ref s.heap.objs.size) { s with heap:=h'}):wpAny (model prog w) A (pyIter (.ref a)) Q E s:=by
 have hT:s.TypeIs (.ref a) "set" :=⟨o,ho,hx.1⟩;refine wpAny_pyIter_slot hT i8 (cn i8 hT jF5 ?_ (jH5 _));unfold Builtin.«frozenset.__iter__»;refine ae (show wpAny _ _ (pure a:Sem Addr) _ _ s from ah ?_);unfold Builtin.Frozenset.sizeOf setEntries;refine ae (ae (ae (dz ho hd (T.fits hn) (ah (ah ?_)))));dsimp only;unfold setDrawn;refine ae (ae (dz ho hd (T.fits hn) ?_));dsimp only;unfold setsByText;refine ae (ae (eV (ah (ah ?_))));show wpAny _ _ (if (!byTxt w&&(!t.plain&&decide (es.size>1)))=true then _ else _) _ _ s;rw[T.pl,jm,eM,cC,am aj];refine ae (ah ?_);refine ae (wpAny_setEpoch_of ho hd (T.fits hn) ?_);refine ae (cf (ah ⟨_,rfl,"set_iterator",_,⟨_,ax _ rfl,rfl⟩,slot_si_next.lookup,hQ _ ?_ (fun b u e=>af _ e) (cA _ _)⟩) (by size_fits));have e0:qT w t 0=0:=by unfold qT jK2; split <;> rfl
 rw[e0];exact ax _ rfl
theorem jMF (hh:A.handled=none)(hne:a≠I)(hd:o.data= .set es ep t)(T:Tab t es.size (ledW w))(hn:es.size<=4):
  Walks prog w A I [I,a] [I] es.size (fun i v=>(told w a ep es)[i]?=some v) (fun i h=>IsSI h I (qT w t i) i a es.size ep/\h.get? a=some o) where
 sub:=fun b hb=>by simp at hb; simp [hb]
 frame:=fun _ _ _ st hk=>⟨hk I Ad _ st.1,hk a Ad _ st.2⟩
 item:=fun i s Q E hi st hQ=>by
  obtain⟨v,hv⟩:∃ v,(told w a ep es)[i]?=some v:=⟨_,aA (by rw[jB0]; exact hi)⟩;exact jHH st.2 hd T hn st.1 hv fun h' hit' sb=>hQ v h' s.toks hv ⟨hit',(sb.2 a hne).trans st.2⟩ fun b o hb e=>(sb.2 b (fun z=>hb (by simp [z]))).trans e
 done:=fun s Q E st hQ=>jIU hh st.2 hd T hn st.1 fun h' eb=>hQ h' s.toks fun b o hb e=>eb b o (fun z=>hb (by simp [z])) e
 self:=fun _ _ _ _ st hQ=>jTP st.1 hQ
theorem jHF:typeLookup (.type "set") "__len__" =pure (some (.builtin "set.__len__")):=by rw[iU,gy]; kernel_rfl
theorem jRU {Q:Bool->Shared->Prop}(hT:s.TypeIs (.ref a) "set")(h:Q false s):wpAny (model prog w) A (Builtin.List.listLengthHint (.ref a)) Q E s:=by
 unfold Builtin.List.listLengthHint;refine ae (wpAny_specialOf hT jHF ?_);generalize hid:("set.__len__" :String)=id0
 wp_delta
 rw[show splitId id0=some ("set","__len__") from by subst hid; decide+kernel];subst hid;refine ae (iJ (b:=true) hT (by rw[jc]; kernel_rfl) ?_);refine wpAny_ite_split (fun q=>absurd q Ac) (fun _=>?_);refine wpAny_ite_split (fun _=>?_) (fun q=>absurd Ab q);exact ae (gR hT (ah h))
theorem jJH {Q:Al->Shared->Prop}(hh:A.handled=none)(hx:o.ExactSet)(ho:s.heap.get? a=some o)(hd:o.data= .set es ep t)(T:Tab t es.size (ledW w))(hn:es.size<=4)
  (hQ:∀ s',(∀ b u,s.heap.get? b=some u->s'.heap.get? b=some u)->s'.gens=s.gens->s'.drawn=s.drawn->s'.os=s.os->s.heap.objs.size<s'.heap.objs.size->Q (told w a ep es) s'):wpAny (model prog w) A (collect (.ref a)) Q E s:=by
 have ha:a<s.heap.objs.size:=aC ho;have hSa:s.heap.objs.size≠a:=di ha;unfold collect;refine ae (gf (bW PySem.F.entry_proto_collect ?_));rw[bM gS _];show wpAny _ A.in1 (newList [] >>= fun l=>again (.builtin "list.__iadd__" ⟨[l, .ref a],[]⟩)) _ _ s;refine ae (cf (ah ⟨dS eg _,bW PySem.F.entry_list_iadd ?_⟩));rw[bM eg _];generalize hE:({ s with heap:=s.heap.push { cls:= .type "list",dict:=none,data:= .seq ([]:Al).toArray}} :Shared)=s1;have ho1:s1.heap.get? a=some o:=by rw[<- hE]; exact af _ ho
 have hL1:s1.heap.get? s.heap.objs.size=some { cls:= .type "list",dict:=none,data:= .seq ([]:Al).toArray} :=by rw[<- hE]; exact ax _ rfl
 have hz1:s1.heap.objs.size=s.heap.objs.size+1:=by rw[<- hE]; exact cA _ _
 have hT1:s1.TypeIs (.ref a) "set" :=⟨o,ho1,hx.1⟩;show wpAny _ A.in1 (Builtin.List.listExtendWith (.ref s.heap.objs.size) (.ref a) (.ref s.heap.objs.size)) _ _ _;unfold Builtin.List.listExtendWith;refine ae (gR hT1 ?_);have q1:Builtin.List.listSameRef (.ref s.heap.objs.size) (.ref a)=false:=by simp [Builtin.List.listSameRef,hSa]
 rw[am (by rw[q1]; decide)];refine ae (jQC hx ho1 hd T hn fun h2 hI2 k2 z2=>?_);refine ae (bS ?_);have ho2:h2.get? a=some o:=k2 _ _ ho1;have hT2:Shared.TypeIs { s1 with heap:=h2} (.ref a) "set" :=⟨o,ho2,hx.1⟩;have hL2:=k2 _ _ hL1;refine jRU hT2 ?_;rw[ao Ab];refine ae (df ?_);have hne:s.heap.objs.size≠s1.heap.objs.size:=Aa;refine ae ?_;show wpAny _ A.in1 (updateSeq s.heap.objs.size (·.push .none) >>= fun _=>updateSeq s.heap.objs.size (·.pop)) _ _ _;refine ae (wpAny_updateSeq hL2 rfl ?_);have hL3:=dG (Obj.mapSeq (·.push Value.none)) hL2 rfl;refine wpAny_updateSeq hL3 rfl ?_;have hL4:=dG (Obj.mapSeq (·.pop)) hL3 rfl;have oth:∀ b u,b≠s.heap.objs.size->h2.get? b=some u->((h2.update s.heap.objs.size (Obj.mapSeq (·.push Value.none))).update s.heap.objs.size (Obj.mapSeq (·.pop))).get? b=some u:=
  fun b u hb e=>(cW _ _ (fw hb)).trans ((cW _ _ (fw hb)).trans e)
 have W:=(jMF (prog:=prog) (A:=A.in1) (a:=a) (I:=s1.heap.objs.size) hh (aU (show a<s1.heap.objs.size by rw[hz1]; exact bY ha)) hd T hn).toS;have z24:es.size<=sizeLine:=by rw[show sizeLine=2 ^ 24 from rfl]; lia
 refine ah ⟨dS PySem.F.plain_extend_loop _,codeAny_extend_loopS W z24 s.heap.objs.size (by simp [hne,hSa]) _ es.size 0 _ _ _ rfl (bu _) ⟨oth _ _ (fw hne) hI2,oth _ _ (fw hSa) ho2⟩ hL4 (ItemsOf.nil _) fun s' acc' c' hm hS' hacc=>?_⟩;show wpAny _ A (load s.heap.objs.size >>= _) _ _ s';refine ae (fH hS' ?_);have eacc:acc'.toList=told w a ep es:=by
  apply List.ext_getElem?;intro i;by_cases hi:i<es.size
  ·have hi':i<acc'.size:=by rw[hacc.1]; exact hi
   have:=hacc.2 i acc'[i] (by simp [hi']);rw[this];simp [hi']
  ·rw[de (by rw[aR,hacc.1]; lia),de (by rw[jB0]; lia)]
 refine ah ?_;rw[eacc];refine hQ s' (fun b u e=>?_) ?_ ?_ ?_ (aC hS')
 ·have hb:b≠s.heap.objs.size:=aU (aC e);have hb1:b≠s1.heap.objs.size:=aU (show b<s1.heap.objs.size by rw[hz1]; exact bY (aC e));exact hm.heap b u (by simp [hb,hb1]) (oth b u hb (k2 b u (by rw[<- hE]; exact af _ e)))
 ·have:=hm.gens; rw[<- hE] at this; exact this
 ·have:=hm.drawn; rw[<- hE] at this; exact this
 ·have:=hm.os; rw[<- hE] at this; exact this
end SS
namespace SS
open PySem PyProof.Rows
section
variable {prog:Program}{w:World}{A:Around}{E:Ah}{s:Shared}{a:Addr}{ks:Ag}
theorem jOU:∀ {vs:Al}{ks:Ag},Paired (fun v k=>∃ t,v=Value.int k t) vs ks->IntsAre vs ks
 | _,_, .nil=> .nil
 | _,_, .cons ⟨t,e⟩ r=>by subst e; exact .cons _ t (jOU r)
theorem jFK {es:List (Int×Value)} :∀ {ks:Ag},Paired El es ks->Paired (fun v k=>∃ t,v=Value.int k t) (es.map (·.2)) ks
 | _, .nil=> .nil
 | _, .cons ⟨_,q⟩ r=> .cons q (jFK r)
theorem jIX {α β:Type}{F:α->β->Prop}{l l':List α}(p:l'.Perm l):∀ {r:List β},Paired F l r->∃ r',Paired F l' r'/\r'.Perm r:=by
 induction p with
 | nil=>intro r h; cases h; exact⟨[], .nil, .nil⟩
 | cons x _ ih=>
  intro r h;cases h with
  | cons f t=>
   obtain⟨r',h1,h2⟩:=ih t;exact⟨_::r', .cons f h1,h2.cons _⟩
 | swap x y l=>
  intro r h;cases h with
  | cons f t=>
   cases t with
   | cons g t=>exact⟨_, .cons g (.cons f t), .swap _ _ _⟩
 | trans _ _ ih1 ih2=>
  intro r h;obtain⟨r1,h1,h2⟩:=ih2 h;obtain⟨r2,h3,h4⟩:=ih1 h1;exact⟨r2,h3,h4.trans h2⟩
theorem sorted_set {Q:Ah}(hh:A.handled=none)(S:SetG w s.heap a ks)
  (h:∀ (s':Shared) (l:Addr) (vs:Al) (ns:Ag) (e:Nat),s.heap.objs.size<=l->(∀ b u,s.heap.get? b=some u->s'.heap.get? b=some u)->s'.gens=s.gens->s'.drawn=s.drawn->s'.os=s.os->
   s'.heap.get? l=some { cls:= .type "list",data:= .seq vs.toArray e} ->IntsAre vs ns->ns.Perm ks->ns.Pairwise (· <= ·)->Q (.ref l) s'):
  wpAny (model prog w) A (call (.builtin "sorted") [.ref a]) Q E s:=by
 obtain⟨o,es,ep,t,ho,hex,hd,hp,T⟩:=S.ex;have hn:es.size<=4:=by
  have:=fj hp;rw[aR] at this;have:=S.len;lia
 refine fb kind_sorted plain_sorted entry_sorted (args_sorted1 _) ?_;unfold Builtin.«sorted»;refine ae (m:=checkCount "sorted" 1 1 _) (ah ?_);refine ae (jJH (A:=A.in1) hh hex ho hd T hn fun s1 k1 g1 d1 o1 z1=>?_);refine ae (fq ?_ (by rw[jB0,show sizeLine=2 ^ 24 from rfl]; lia));obtain⟨ks1,hp1,pm1⟩:=jIX (jML w a ep es) (jFK hp);have hI:=jOU hp1;have hl:(told w a ep es).length<64:=by rw[jB0]; lia
 have hL:(s1.heap.push (seqObj "list" (told w a ep es).toArray 0)).get? s1.heap.objs.size=some (seqObj "list" (told w a ep es).toArray 0):=ax _ rfl;show wpAny _ _ _ _ _ { s1 with heap:=s1.heap.push (seqObj "list" (told w a ep es).toArray 0)};refine ae (bS (cn g5 ⟨_,hL,rfl⟩ gM (list_sort_tree hL hI hl fun out ns' a1 a2 a3=>⟨_,rfl,?_⟩) (args_list_sort _)));obtain⟨e,he⟩:=sortedHeap_at (out:=out) hL;have kept:∀ b u,s.heap.get? b=some u->(sortedHeap (s1.heap.push (seqObj "list" (told w a ep es).toArray 0)) s1.heap.objs.size (told w a ep es) out).get? b=some u:=fun b u q=>by
  have q1:=k1 b u q;have hb:b<s1.heap.objs.size:=aC q1;rw[sortedHeap_old (aU hb) (by rw[size_push']; exact bY hb)];exact af _ q1
 generalize sortedHeap (s1.heap.push (seqObj "list" (told w a ep es).toArray 0)) s1.heap.objs.size (told w a ep es) out=hf at he kept ⊢;exact ah ⟨_,rfl,h { s1 with heap:=hf} s1.heap.objs.size out.toList ns' e (dh z1) kept g1 d1 o1 (by rw[cD]; exact he) a1 (a2.trans pm1) a3⟩
end
end SS
namespace L2
open PySem PySem.Spec PyProof.Rows
variable {es xs:List Expr}{env:Env}{a b:Expr}{pos:Pos}
section
variable {ys:List Expr}
theorem yP {op:Operator} :starEach (.BinOp a op b pos::es) env=(false,eval (.BinOp a op b pos) env)::starEach es env:=rfl
theorem se_un {op:UnaryOp} :starEach (.UnaryOp op a pos::es) env=(false,eval (.UnaryOp op a pos) env)::starEach es env:=rfl
theorem jSQ {ops:List CmpOp} :starEach (.Compare a ops xs pos::es) env=(false,eval (.Compare a ops xs pos) env)::starEach es env:=rfl
theorem jG {kw:List Keyword} :starEach (.Call a xs kw pos::es) env=(false,eval (.Call a xs kw pos) env)::starEach es env:=rfl
theorem jF:starEach (.Subscript a b pos::es) env=(false,eval (.Subscript a b pos) env)::starEach es env:=rfl
theorem jN {gs sc} :starEach (.ListComp a gs sc pos::es) env=(false,eval (.ListComp a gs sc pos) env)::starEach es env:=rfl
theorem qN {x1} :starEach (.Tuple xs x1 pos::es) env=(false,eval (.Tuple xs x1 pos) env)::starEach es env:=rfl
theorem kN {c k} :starEach (.Constant c k pos::es) env=(false,eval (.Constant c k pos) env)::starEach es env:=rfl
theorem j4 {x:Str} :starEach (.Name x pos::es) env=(false,eval (.Name x pos) env)::starEach es env:=rfl
end
variable {X:Cx}
def CDivL (i j:Int):Prop:=0<j/\j<2 ^ 64
theorem jKD:OpR X (binaryOp .FloorDiv) (rI CDivL fun i j=> .int (i / j)):=opI fun i j _ _ _ _ _ hc q=>by
 have h1:(0:Int)<j:=hc.1;have h2:j<2 ^ 64:=hc.2;refine floordiv_int Aa (by rw[gX i Aa]; exact q) (.inl (PyProof.noPylong_of_log2 ?_));have h3:j.natAbs<2 ^ 64:=Aa;have h4:j.natAbs≠0:=Aa;have:=(Nat.log2_lt h4).mpr h3;lia
theorem jCC:yJ X (.builtin "isinstance") (fun xs H Q=>∃ x T t b,xs=[x, .ty T]/\TyOf X.K H x t/\kitOne X.K t (.type T)=some b/\Q (.bl b) H):=by
 intro kh s σ H xs us Q I r h;obtain⟨x,T,t,b,rfl,ty,e,q⟩:=h;obtain⟨u,v,rfl,ru,rv⟩:=r.two;cases rv;exact jOT I ru ty e fun tk=>⟨.bl b,H,I.tok tk,rfl,q⟩
def jTR:V->List V->Hp->VK->Prop:=fun x vs H Q=>∃ l xs i y,x= .ref l/\vs=[.int i,y]/\H l=some (.lst xs)/\0<=i/\i<=xs.length/\xs.length<sizeLine/\Q .non (upd H l (.lst (xs.take i.toNat++y::xs.drop i.toNat)))
theorem Vals.put {y:V}{v:Value}(r:RelV y v){xs:List V}{us:Al}(h:Vals xs us)(k:Nat):Vals (xs.take k++y::xs.drop k) (us.take k++v::us.drop k):=(h.take k).append (.cons r (h.drop k))
theorem jO4:MtM X "list.insert" jTR:=by
 intro kh s σ H x vs v us Q I rx rv h;obtain⟨l,xs,i,y,rfl,rfl,hH,h0,h1,hz,q⟩:=h;cases rx;obtain⟨a,b,rfl,ra,rb⟩:=rv.two;obtain⟨t,rfl⟩:=ra;obtain⟨z,its,n,r,hl,e⟩:=I.lstM hH;have line:=jHX;have hf:Builtin.List.listFitsIndex i=true:=fitsIndex_both Aa Aa;refine gA F.slot_list_insert ⟨_,e,rfl⟩ F.entry_list_insert (F.args_list_insert_3 _ _ _) (AutoSeq1.list_insert_list_int_val_1 l its.toArray n i t b (by simp [hf]) (by rw[ar]; lia)) ⟨e,?_⟩;refine⟨.non,_,I.lset (its':=its.take i.toNat++b::its.drop i.toNat) hH e ?_ (Vals.put rb r i.toNat) ?_,rfl,q⟩
 ·have hk:(if i<0 then (i+(its.toArray.size:Int)).toNat else min i.toNat its.toArray.size)=i.toNat:=by
   rw[am Aa,ar];lia
  show (its.toArray.extract 0 (if i<0 then (i+(its.toArray.size:Int)).toNat else min i.toNat its.toArray.size)).push b++its.toArray.extract (if i<0 then (i+(its.toArray.size:Int)).toNat else min i.toNat its.toArray.size)=_;rw[hk];apply Array.ext';simp [dI,bK]
 ·rw[aF,aP,bB,gz];lia
theorem jFP {x:V} :∀ {xs:List V}{us:Al},Vals xs us->xs.all xE=true->us.countP (eqU x)=xs.countP fun y=>eqV y x
 | _,_, .nil,_=>rfl
 | y::xs,u::us, .cons r t,f=>by
  rw[eG,bG] at f;rw[cq,cq,jPA r f.1,jFP t f.2]
def rEqE (K:W.Frag):R2:=fun x y H Q=>∃ p q xs,x= .ref p/\y= .ref q/\SqT K H p xs/\SqT K H q []/\Q (.bl (decide (xs=[]))) H
theorem jWU (hu:X.A.units<cLine):OpR X (compareOp .Eq) (rEqE X.K):=by
 intro kh s σ H x y v u Q I rx ry h;obtain⟨p,q,xs,rfl,rfl,hp,hq,k⟩:=h;cases rx;cases ry;obtain⟨its,r,t1,_⟩:=I.tuple hp;obtain⟨its2,r2,t2,_⟩:=I.tuple hq;have e2:its2=[]:=r2.zero;subst e2;refine SeqAt.eq_tupleAt (e:=fun _=>true) (show s.heap.IsTuple p its.toArray from t1) (show s.heap.IsTuple q ([]:Al).toArray from t2) hu (fun j h1 h2=>absurd h2 Ad) ⟨.bl _,H,I,rfl,?_⟩;have hl:=r.length;have e:((List.range (min its.toArray.size ([]:Al).toArray.size)).all (fun _=>true)&&its.toArray.size==([]:Al).toArray.size)=decide (xs=[]):=by
  cases xs with
  | nil=>
   have:its=[]:=by simpa using hl.symm
   subst this;rfl
  | cons a b=>
   have:its.length≠0:=by rw[<- hl]; simp
   simp [this]
 rw[e];exact k
theorem jBM (hc:X.calm=true):yJ X (.builtin "all") (fun xs H Q=>∃ (p:Addr) (bs:List Bool),xs=[.ref p]/\SqL X.K H p (bs.map V.bl)/\Q (.bl (bs.all id)) H):=by
 intro kh s σ H xs us Q I r h;obtain⟨p,bs,rfl,hq,q⟩:=h;obtain⟨u,rfl,rx⟩:=r.one;cases rx;obtain⟨its,r',pl,hz⟩:=I.list hq;have hlen:=r'.length;rw[ab] at hlen;refine call_all_walk (cV pl.isList ?_);have hne:p≠s.heap.objs.size:=by
  obtain⟨o,ho,_⟩:=pl.isList;exact aU (aC ho)
 refine⟨s.heap.objs.size,_,_,_,_,_,fun i=>bs.getD i true,rfl,g0 (by simpa using I.ok.hd hc) _ p hne its.toArray,⟨⟨_,ax _ rfl,rfl,rfl⟩,pl.isList.push _⟩,fun i v z Q' E' hP hQ'=>?_,fun h' tk hk=>?_⟩
 ·have hi:its[i]?=some v:=by simpa using hP
  have hb:i<bs.length:=by
   rw[hlen];exact(ai.mp hi).1
  obtain⟨u,hu,ru⟩:=r'.get (i:=i) (x:= .bl (bs[i])) (by simp [hb]);rw[hi] at hu;cases hu;cases ru;have e:bs.getD i true=bs[i]:=by simp [List.getD,hb]
  have hQ2:Q' (bs.getD i true) z:=hQ';rw[e] at hQ2;exact ah hQ2
 ·have e:(List.range its.toArray.size).all (fun i=>bs.getD i true)=bs.all id:=by
   rw[ar,<- hlen];rw[bP,bC,bC];constructor
   ·intro a b hb;obtain⟨i,hi,rfl⟩:=dX hb;have:=a i (bo.mpr hi);simpa [List.getD,hi] using this
   ·intro a i hi;have hi:=bo.mp hi;have:=a bs[i] (cm hi);simpa [List.getD,hi] using this
  rw[e];exact⟨.bl _,H,I.kept (t':=tk) fun b o e=>hk b o (by
   intro z;have z:b=s.heap.objs.size:=by simpa using z
   exact absurd (aC e) (by rw[z]; exact cj _)) (af _ e),rfl,q⟩
def jES (n:Nat):List V:=(List.range n).map fun (i:Nat)=>V.int (i:Int)
theorem jLA {n:Nat}{acc:An}(h:ItemsOf (fun i v=>∃ t,v=Value.int (0+(i:Int)*1) t) acc n):Vals (jES n) acc.toList:=by
 have key:∀ (l:Al) (k:Nat),(∀ j v,l[j]?=some v->∃ t,v=Value.int ((k+j:Nat):Int) t)->Vals ((range' k l.length).map fun (i:Nat)=>V.int (i:Int)) l:=by
  intro l
  induction l with
  | nil=>intro k _; exact .nil
  | cons v l ih=>
   intro k hk;rw[aP,List.range'_succ,bv];refine .cons ?_ (ih (k+1) fun j u hj=>?_)
   ·obtain⟨t,e⟩:=hk 0 v rfl;exact⟨t,by simpa using e⟩
   ·obtain⟨t,e⟩:=hk (j+1) u (by simpa using hj);exact⟨t,by rw[e]; congr 1; lia⟩
 have:=key acc.toList 0 fun j v hj=>by
  obtain⟨t,e⟩:=h.2 j v (by simpa using hj);exact⟨t,by rw[e]; congr 1; lia⟩
 rw[aR,h.1] at this;unfold jES;rw[jd];exact this
theorem jB7:yJ X (.type "range") (fun xs H Q=>∃ j:Int,xs=[.int j]/\∀ p,H p=none->Q (.ref p) (upd H p (.rng 0 j))):=by
 intro kh s σ H xs us Q I r h;obtain⟨j,rfl,q⟩:=h;obtain⟨u,rfl,t,rfl⟩:=r.one;refine call_range_1 ⟨.ref s.heap.objs.size,_,I.laid (o:= .rng 0 j) (fun b o e=>af _ e) (ak _) ?_,rfl,q _ I.fresh⟩;exact⟨_,_,_,ax _ rfl⟩
theorem jIA (hc:X.calm=true):yJ X (.type "list") (fun xs H Q=>∃ p j,xs=[.ref p]/\H p=some (.rng 0 j)/\0<=j/\j<=1000/\∀ l,H l=none->Q (.ref l) (upd H l (.lst (jES j.toNat)))):=by
 intro kh s σ H xs us Q I r h;obtain⟨p,j,rfl,hp,h0,h1,q⟩:=h;obtain⟨u,rfl,rx⟩:=r.one;cases rx;obtain⟨t,u,v,e⟩:=I.hok p _ hp;have en:Builtin.Range.rangeSize 0 j 1=(j.toNat:Int):=by
  rw[rangeSize_one];split <;> lia
 refine call_list_range (I.ok.hd hc) (show IsRange s.heap p 0 j 1 t u v from e) (small_one Aa Aa Aa Aa) en Aa fun h' tk acc' c' kp hS hacc=>?_;refine⟨.ref s.heap.objs.size,_,I.laid (t':=tk) (o:= .lst (jES j.toNat)) kp (ak _) ?_,rfl,q _ I.fresh⟩;refine⟨?_,acc'.toList,c',jLA hacc,by rw[cD]; exact hS⟩;unfold jES;rw[ab,cz,dD];lia
def SetO (w:World)(a:Addr)(ks:Ag):HO:= .ext fun h=>SS.SetG w h a ks
theorem jAL {ns:Ag} :∀ {us:Al},Vals (ns.map V.int) us->IntsAre us ns:=by
 induction ns with
 | nil=>intro us h; cases h; exact .nil
 | cons n ns ih=>
  intro us h;cases h with
  | cons r t=>
   obtain⟨k,rfl⟩:=r;exact .cons n k (ih t)
theorem jAE:∀ {us:Al}{ns:Ag},IntsAre us ns->Vals (ns.map V.int) us
 | _,_, .nil=> .nil
 | _,_, .cons n t r=> .cons ⟨t,rfl⟩ (jAE r)
theorem jPQ (hc:X.calm=true):yJ X (.type "set") (fun xs H Q=>∃ (p:Addr) (ns:Ag),xs=[.ref p]/\SqL X.K H p (ns.map V.int)/\ns.length<=4/\(∀ z∈ns,0<=z/\z<32)/\
  ∀ (l:Addr) (ks:Ag),H l=none->(∀ z,z∈ks↔z∈ns)->Q (.ref l) (upd H l (SetO X.w l ks))):=by
 intro kh s σ H xs us Q I r h;obtain⟨p,ns,rfl,hq,hl,hv,q⟩:=h;obtain⟨u,rfl,rx⟩:=r.one;cases rx;obtain⟨its,r',pl,hz⟩:=I.list hq;have hlen:=r'.length;rw[ab] at hlen;refine SS.set_of_list (I.ok.hd hc) pl.isList (jAL r') (by rw[ar]; lia) hv fun h' tk ks S hm kp=>?_;have hg:∃ o,h'.get? s.heap.objs.size=some o:=let ⟨o,_,_,_,e,_⟩:=S.ex; ⟨o,e⟩;exact⟨.ref s.heap.objs.size,_,I.laid (t':=tk) (o:=SetO X.w s.heap.objs.size ks) kp (ak _) ⟨S,hg,fun h1 h2 a b=>a.at b⟩,rfl,q _ ks I.fresh hm⟩
theorem jF6 (hc:X.calm=true):yJ X (.builtin "sorted") (fun xs H Q=>∃ (p:Addr) (ks:Ag),xs=[.ref p]/\H p=some (SetO X.w p ks)/\
  ∀ (l:Addr) (ns:Ag),H l=none->ns.Pairwise (· < ·)->(∀ z,z∈ns↔z∈ks)->Q (.ref l) (upd H l (.lst (ns.map V.int)))):=by
 intro kh s σ H xs us Q I r h;obtain⟨p,ks,rfl,hp,q⟩:=h;obtain⟨u,rfl,rx⟩:=r.one;cases rx;obtain⟨S,_,_⟩:=I.hok p _ hp;refine SS.sorted_set (I.ok.hd hc) S fun s' l vs ns e hl kp g d o he hi pm srt=>?_;obtain⟨h',g',d',t',o'⟩:=s';have g:g'=s.gens:=g;have o:o'=s.os:=o;have d:d'=s.drawn:=d;subst g; subst o; subst d;have nd:ns.Nodup:=pm.nodup_iff.mpr S.nd;have lt:ns.Pairwise (· < ·):=by
  have:=gh srt nd;exact this.imp fun {a b} ⟨x,y⟩=>by lia
 have hz:(ns.map V.int).length<=sizeLine:=by
  rw[ab,pm.length_eq,dD];have:=S.len;lia
 have I2:Inv X kh σ (upd H l (.lst (ns.map V.int))) { s with heap:=h',toks:=t'} :=I.laid (t':=t') kp hl ⟨hz,vs,e,jAE hi,he⟩;exact⟨.ref l,_,I2,rfl,q l ns (I.hok.fresh hl) lt fun z=>pm.mem_iff⟩
variable {p2:Pos}
section
variable {p1 p3 p4 p5 p6 p7:Pos}{k1 k2 k3 k4:Nat}
theorem jUB {i j r:Int}(hj:0<=j)(hj2:j<=1000000)(hi:i.natAbs<2 ^ 64)(e:i ^ j.toNat=r):PE X (.BinOp (.Constant (.int i) k2 p2) .Pow (.Constant (.int j) k3 p3) p4) (tC (.int r)):=fun kh s σ H Q I h=>
 (kX (X:=X) jNE jX jX) kh s σ H Q I ⟨_,_,rfl,rfl,⟨hj,hj2,hi⟩,by subst e; exact h⟩
theorem jUC {a b:Expr}{i j r:Int}(ha:PE X a (tC (.int i)))(hb:PE X b (tC (.int j)))(hc:CMul i j)(e:i*j=r):PE X (.BinOp a .Mult b p1) (tC (.int r)):=fun kh s σ H Q I h=>
 (kX (X:=X) jDR ha hb) kh s σ H Q I ⟨_,_,rfl,rfl,hc,by subst e; exact h⟩
theorem jUF {a b:Expr}{i j r:Int}(ha:PE X a (tC (.int i)))(hb:PE X b (tC (.int j)))(e:i+j=r):PE X (.BinOp a .Add b p1) (tC (.int r)):=fun kh s σ H Q I h=>
 (kX (X:=X) yF ha hb) kh s σ H Q I ⟨_,_,rfl,rfl,by subst e; exact h⟩
theorem jWP:PE X (.BinOp (.BinOp (.Constant (.int 2) k1 p1) .Mult (.BinOp (.Constant (.int 10) k2 p2) .Pow (.Constant (.int 12) k3 p3) p4) p5) .Add (.Constant (.int 1) k4 p6) p7) (tC (.int 2000000000001)):=
 jUF (i:=2000000000000) (jUC (j:=1000000000000) jX (jUB Ac Ac Ac Ac) (.inl ⟨Ac,Ac⟩) Ac) jX Ac
end
def ItAt (tp:Bool)(h:Heap)(it a:Addr)(i:Nat):Prop:=match tp with
 | false=>h.IsListIter it a i
 | true=>h.IsTupleIter it a i
def ObAt (tp:Bool)(h:Heap)(a:Addr)(xs:An):Prop:=match tp with
 | false=>h.IsList a xs
 | true=>h.IsTuple a xs
theorem ItAt.but {tp:Bool}{h h':Heap}{it a b:Addr}{i:Nat}(x:ItAt tp h it a i)(e:Heap.ExtBut b h h')(n:it≠b):ItAt tp h' it a i:=by
 cases tp with
 | false=>exact Heap.IsListIter.extBut x e n
 | true=>exact Heap.IsTupleIter.extBut x e n
theorem ItAt.at {tp:Bool}{h h':Heap}{it a:Addr}{i:Nat}(x:ItAt tp h it a i)(e:∀ o,h.get? it=some o->h'.get? it=some o):ItAt tp h' it a i:=by
 cases tp with
 | false=>exact Heap.IsListIter.at x e
 | true=>exact Heap.IsTupleIter.at x e
theorem ItAt.obj {tp:Bool}{h:Heap}{it a:Addr}{i:Nat}(x:ItAt tp h it a i):∃ o,h.get? it=some o/\∀ v,o.data≠ .cell v:=by
 cases tp with
 | false=>obtain⟨o,e,_,d⟩:=x; exact⟨o,e,fun v q=>by rw[d] at q; cases q⟩
 | true=>obtain⟨o,e,_,d⟩:=x; exact⟨o,e,fun v q=>by rw[d] at q; cases q⟩
variable {w:World}{A:Around}{s:Shared}
section
variable {prog:Program}{E:Ah}
theorem next1 {tp:Bool}{it a:Addr}{i:Nat}{xs:An}{x:Value}{Q:Ah}(hi:ItAt tp s.heap it a i)(ha:ObAt tp s.heap a xs)(hx:xs[i]?=some x)
  (k:∀ h',ItAt tp h' it a (i+1)->Heap.SameBut it s.heap h'->Q x { s with heap:=h'}):wpAny (model prog w) A (Builtin.SmallTypes.nextOf (.ref it)) Q E s:=by
 cases tp with
 | false=>exact wpAny_nextOf_list_item hi ha hx k
 | true=>
  obtain⟨o,e,c,d⟩:=id (show s.heap.IsTupleIter it a i from hi);obtain⟨u,eu,_,n,du⟩:=(show s.heap.IsTuple a xs from ha);have ty:=Heap.IsTupleIter.typeIs (show s.heap.IsTupleIter it a i from hi);unfold Builtin.SmallTypes.nextOf;refine ae (cP (name:=Str.ofString "__next__") ty F.slot_tuple_iterator_next (cn F.slot_tuple_iterator_next ty F.entry_tuple_iterator_next (?_:wpAny (model prog w) _ (field (.ref it) 0 >>= _) _ _ s) (F.args_tuple_iterator_next_1 _)));refine ae (dQ e d (x:= .ref a) rfl (?_:wpAny (model prog w) _ (if (Value.ref a==Value.none)=true then _ else _) _ _ s));rw[am (by exact aj)];show wpAny (model prog w) _ (field (.ref it) 1 >>= _) _ _ s;refine ae (dQ e d (x:= .int i 0) rfl ?_);show wpAny (model prog w) _ (seqItems? (.ref a) >>= _) _ _ s;refine ae (wpAny_seqItems eu du ?_);simp only [bE,hx];refine ae (wpAny_setField e d Ad (ah ⟨x,rfl,ah (k _ ⟨_,dG _ e (Obj.isFreed_of_fields (Obj.data_mapFields d _)),(Obj.cls_mapFields ..).trans c,?_⟩ (gP ..))⟩));rw[Obj.data_mapFields d];simp [rawInt]
theorem next0 {tp:Bool}{it a:Addr}{i:Nat}{xs:An}{Q:Ah}(hh:A.handled=none)(hi:ItAt tp s.heap it a i)(ha:ObAt tp s.heap a xs)(hx:xs[i]?=none)
  (k:∀ h' e,Heap.ExtBut it s.heap h'->(∃ o,h'.get? e=some o/\o.cls= .type "StopIteration")->E (.ref e) { s with heap:=h'}):wpAny (model prog w) A (Builtin.SmallTypes.nextOf (.ref it)) Q E s:=by
 cases tp with
 | false=>exact wpAny_nextOf_list_end hh hi ha hx k
 | true=>
  obtain⟨o,e,c,d⟩:=id (show s.heap.IsTupleIter it a i from hi);obtain⟨u,eu,_,n,du⟩:=(show s.heap.IsTuple a xs from ha);have ty:=Heap.IsTupleIter.typeIs (show s.heap.IsTupleIter it a i from hi);unfold Builtin.SmallTypes.nextOf;refine ae (cP (name:=Str.ofString "__next__") ty F.slot_tuple_iterator_next (cn F.slot_tuple_iterator_next ty F.entry_tuple_iterator_next (?_:wpAny (model prog w) _ (field (.ref it) 0 >>= _) _ _ s) (F.args_tuple_iterator_next_1 _)));refine ae (dQ e d (x:= .ref a) rfl (?_:wpAny (model prog w) _ (if (Value.ref a==Value.none)=true then _ else _) _ _ s));rw[am (by exact aj)];show wpAny (model prog w) _ (field (.ref it) 1 >>= _) _ _ s;refine ae (dQ e d (x:= .int i 0) rfl ?_);show wpAny (model prog w) _ (seqItems? (.ref a) >>= _) _ _ s;refine ae (wpAny_seqItems eu du ?_);simp only [bE,hx];refine ae (df (ae (wpAny_setField e d Ad (?_:wpAny (model prog w) _ (newExc (.type "StopIteration") [] >>= _) _ _ _))));refine ae (by
   simp only [newExc,newTuple];refine ae (cf (ae (m:=firstArgMember _ _) (wpAny_of_eq (a:=Value.none) (by first | rfl | (simp only [firstArgMember]; rfl)) (cf ?_ (by size_fits)))) (by size_fits));simp only [raiseNew];refine ae (wpAny_handled ?_)
   first | rw[show A.in1.handled=none from hh] | rw[hh]
   exact ae (ah (wpAny_throw (k _ _ (((gP ..).extBut.push _).push _) ⟨_,ax _ rfl,rfl⟩))))
end
def iterO (tp:Bool)(a:Addr):Obj:=match tp with
 | false=> { cls:= .type "list_iterator",data:= .fields #[.ref a, .int 0 0]}
 | true=> { cls:= .type "tuple_iterator",data:= .fields #[.ref a, .int 0 0]}
theorem jM0 (tp:Bool)(a:Addr):(iterO tp a).isFreed=false:=by cases tp <;> rfl
theorem jG3 {prog:Program}{w:World}{A:Around}{E:Ah}{s:Shared}{tp:Bool}{a:Addr}{xs:An}{Q:Ah}(h:ObAt tp s.heap a xs)(q:Q (.ref s.heap.objs.size) { s with heap:=s.heap.push (iterO tp a)}):
  wpAny (model prog w) A (pyIter (.ref a)) Q E s:=by
 cases tp with
 | false=>exact cV h q
 | true=>exact wpAny_pyIter_tuple h q
theorem ItAt.new (tp:Bool){h:Heap}{it a:Addr}(e:h.get? it=some (iterO tp a)):ItAt tp h it a 0:=by
 cases tp with
 | false=>exact⟨_,e,rfl,rfl⟩
 | true=>exact⟨_,e,rfl,rfl⟩
def Sq (tp:Bool)(K:W.Frag)(H:Hp)(a:Addr)(xs:List V):Prop:=match tp with
 | false=>SqL K H a xs
 | true=>SqT K H a xs
theorem Inv.sq {X:Cx}{kh:Ai}{σ:St}{H:Hp}{s:Shared}{tp:Bool}{a:Addr}{xs:List V}(I:Inv X kh σ H s)(h:Sq tp X.K H a xs):∃ its:Al,Vals xs its/\ObAt tp s.heap a its.toArray/\xs.length<=sizeLine:=by
 cases tp with
 | false=>
  obtain⟨its,r,p,z⟩:=I.list h;exact⟨its,r,p.isList,z⟩
 | true=>exact I.tuple h
theorem Inv.sq_inj {X:Cx}{kh:Ai}{σ:St}{H:Hp}{s:Shared}{tp:Bool}{a:Addr}{xs ys:List V}(I:Inv X kh σ H s)(h:Sq tp X.K H a xs)(h':Sq tp X.K H a ys):xs=ys:=by
 cases tp with
 | false=>exact I.list_inj h h'
 | true=>exact I.tuple_inj h h'
structure JE (X:Cx)(e:Expr)(t:TE):Prop where
 h:PE X e t
structure JA (X:Cx)(es:List Expr)(t:TA):Prop where
 h:PA X es t
structure JT (X:Cx)(e:Expr)(t:TT):Prop where
 h:PT X e t
structure JTs (X:Cx)(e:List Expr)(t:TT):Prop where
 h:PTs X e t
structure JS (X:Cx)(e:Stmt)(t:TS):Prop where
 h:PS X e t
structure JSs (X:Cx)(e:List Stmt)(t:TS):Prop where
 h:PSs X e t
structure JG (X:Cx)(e:Expr)(t:TG):Prop where
 h:PG X e t
structure JGs (X:Cx)(e:List Expr)(t:TGs):Prop where
 h:PGs X e t
structure JI (X:Cx)(tg e:Expr)(t:TI):Prop where
 h:PI X tg e t
structure JO (X:Cx)(e:Option Expr)(t:TO):Prop where
 h:PO X e t
structure Loc1 (X:Cx)(x:Str):Prop where
 a:Loc X.env.scope x
 b:X.fn x=true\/X.env.scope.names.lookup x=some .local
structure Vis1 (X:Cx)(x:Str):Prop where
 a:Vis X.env.scope x
structure Gl1 (X:Cx)(x:Str):Prop where
 a:Gl X x
section
variable {o:Option Expr}{l:Nat}
structure SwOk (e:Expr)(o:Option Expr):Prop where
 h:∀ l env,swapsWith e o l env=pure false
theorem jJV {op:Operator} :SwOk (.BinOp a op b pos) o:=⟨fun _ _=>rfl⟩
theorem jY {kw:List Keyword} :SwOk (.Call a xs kw pos) o:=⟨fun _ _=>rfl⟩
theorem jF9:SwOk (.Subscript a b pos) o:=⟨fun _ _=>rfl⟩
theorem jJT {x1} :SwOk (.Tuple xs x1 pos) o:=⟨fun _ _=>rfl⟩
theorem jFA:SwOk (.List xs pos) o:=⟨fun _ _=>rfl⟩
theorem jJU {c k} :SwOk (.Constant c k pos) o:=⟨fun _ _=>rfl⟩
theorem jSR {op:Operator} :jB8 (.BinOp a op b pos):=fun _ _=>rfl
theorem jTU {kw:List Keyword} :jB8 (.Call a xs kw pos):=fun _ _=>rfl
theorem jC {i:Int}{k} :jB8 (.Constant (.int i) k pos):=fun _ _=>rfl
theorem yU {x:Str} :jB8 (.Name x pos):=fun _ _=>rfl
theorem jWA:jB8 (.Subscript a b pos):=fun _ _=>rfl
structure FoOk (iter:Expr):Prop where
 h:∀ env x,foldedSetIterable iter env x=pure x
theorem kS {kw:List Keyword} :FoOk (.Call a xs kw pos):=⟨fun _ _=>rfl⟩
theorem y8 {x:Str} :FoOk (.Name x pos):=⟨fun _ _=>rfl⟩
theorem jP5:FoOk (.Subscript a b pos):=⟨fun _ _=>rfl⟩
structure TvOk (e:Expr):Prop where
 h:∀ env whole,isTrue e env whole=(do let v <- whole; standAt e.pos; holding [v] (truthy v))
theorem qF {kw:List Keyword} :TvOk (.Call a xs kw pos):=⟨fun _ _=>rfl⟩
end
variable {te:TE}{x:Str}
section
variable {e o:Expr}{ta tb to:TE}{t:TA}{p cpos apos:Pos}{T:String}{id:String}
theorem jv (i:Nat)(hN:X.N[i]?=some x)(hv:Vis1 X x)(hd:(x==("__debug__" :Str))=false:=by decide)(hcd:(x==("__classdict__" :Str))=false:=by decide):JE X (.Name x pos) (tVar i):=⟨jHK hN hv.a hd hcd⟩
theorem je_int {i j} :JE X (.Constant (.int i) j pos) (tC (.int i)):=⟨jX⟩
theorem je_bl {i j} :JE X (.Constant (.bool i) j pos) (tC (.bl i)):=⟨pe_bl⟩
theorem qQ {j} :JE X (.Constant .none j pos) (tC .non):=⟨jWN⟩
theorem jJ6 {v:V}{u:Value}(hg:Gl1 X x)(hm:X.mg x=none)(hv:bootBuiltins x=some u)(r:RelV v u)(hn:x≠ "__name__" :=by decide)(hd:(x==("__debug__" :Str))=false:=by decide):JE X (.Name x pos) (tC v):=⟨jUG hg.a hm hv r hn hd⟩
theorem kY {op:Operator}{r:R2}(ho:OpR X (binaryOp op) r)(ha:JE X a ta)(hb:JE X b tb):JE X (.BinOp a op b pos) (tOp r ta tb):=⟨kX ho ha.h hb.h⟩
theorem je_un {op:UnaryOp}{r:V->Hp->VK->Prop}(ho:UnR X (unaryOp op) r)(ha:JE X a ta):JE X (.UnaryOp op a pos) (tUn r ta):=⟨pe_un ho ha.h⟩
theorem jXL (ha:JE X a ta):JE X (.UnaryOp .Not a pos) (tNotV ta):=⟨jWM ha.h⟩
theorem yV {op:CmpOp}{r:R2}(ho:OpR X (compareOp op) r)(ha:JE X a ta)(hb:JE X b tb)(hm:behindInMarks op b=false):JE X (.Compare a [op] [b] pos) (tOp r ta tb):=⟨jUD ho ha.h hb.h hm⟩
theorem jOQ {rest:List Expr}(ha:JE X a ta)(hb:JE X (.BoolOp .And (b::rest) pos) tb):JE X (.BoolOp .And (a::b::rest) pos) (tAndV ta tb):=⟨jWQ ha.h hb.h⟩
theorem je_or {rest:List Expr}(ha:JE X a ta)(hb:JE X (.BoolOp .Or (b::rest) pos) tb):JE X (.BoolOp .Or (a::b::rest) pos) (tOrV ta tb):=⟨pe_or ha.h hb.h⟩
theorem jHZ {op}(ha:JE X a ta):JE X (.BoolOp op [a] pos) ta:=⟨jWL ha.h⟩
theorem jOL (h:JA X es t):JE X (.List es pos) (tLst t):=⟨jKA h.h⟩
theorem jKX {x1}(h:JA X es t):JE X (.Tuple es x1 pos) (tTup t):=⟨jWK h.h⟩
theorem jKY {lo hi:Option Expr}{tl th:TO}{r:V->Option Int->Option Int->Hp->VK->Prop}(hr:SlR X r)(he:JE X e te)(hl:JO X lo tl)(hu:JO X hi th):JE X (.Subscript e (.Slice lo hi none p2) pos) (tSl r te tl th):=⟨jQN hr he.h hl.h hu.h⟩
theorem jH {r:R2}(hr:IxR X r)(ha:JE X a ta)(hb:JE X b tb)(hs:jB8 b):JE X (.Subscript a b pos) (tOp r ta tb):=⟨pe_ix hr ha.h hb.h hs⟩
theorem jU {T}{r:List V->Hp->VK->Prop}(hc:yJ X (.type T) r)(hg:Gl1 X x)(hm:X.mg x=none)(hv:bootBuiltins x=some (.type T))(ha:JA X (e::es) t)(he:starEach (e::es) X.env=(false,eval e X.env)::starEach es X.env)(hn:x≠ "__name__" :=by decide)(hdb:(x==("__debug__" :Str))=false:=by decide)
  (hpl:(backTo pos (starEach es X.env)).any (·.1)=false:=by rfl):JE X (.Call (.Name x p) (e::es) [] pos) (tCB r t):=⟨jCL hc hg.a hm hv ha.h hn hdb he hpl⟩
theorem jK {id}{r:List V->Hp->VK->Prop}(hc:yJ X (.builtin id) r)(hg:Gl1 X x)(hm:X.mg x=none)(hv:bootBuiltins x=some (.builtin id))(ha:JA X (e::es) t)(he:starEach (e::es) X.env=(false,eval e X.env)::starEach es X.env)(hn:x≠ "__name__" :=by decide)(hdb:(x==("__debug__" :Str))=false:=by decide)
  (hpl:(backTo pos (starEach es X.env)).any (·.1)=false:=by rfl):JE X (.Call (.Name x p) (e::es) [] pos) (tCB r t):=⟨jG8 hc hg.a hm hv ha.h hn hdb he hpl⟩
theorem j7:JA X [] tNil:=⟨yS⟩
theorem j3 (ha:JE X e te)(hr:JA X es t)(hs:starEach (e::es) X.env=(false,eval e X.env)::starEach es X.env):JA X (e::es) (tCons te t):=⟨kO ha.h hr.h hs⟩
theorem jO {op:CmpOp}{r:R2}(ho:OpR X (compareOp op) r)(ha:JE X a ta)(hb:JE X b tb)(hm:behindInMarks op b=false):JT X (.Compare a [op] [b] pos) (tTest (tOp r ta tb)):=⟨jE8 ho ha.h hb.h hm⟩
theorem qZ (h:JE X e te)(he:TvOk e):JT X e (tB te):=⟨jWD h.h (he.h _)⟩
theorem jDS {tA:TT}(ha:JT X a tA):JT X (.UnaryOp .Not a pos) (tNot tA):=⟨jWE ha.h⟩
theorem kR:JTs X [] yL:=⟨jN5⟩
theorem qD {t:TT}(h:JT X e t):JTs X [e] t:=⟨jN4 h.h⟩
theorem jL {i:Nat}(hN:X.N.Nodup)(hi:X.N[i]?=some x)(hx:Loc1 X x):JG X (.Name x pos) (kJ i):=⟨jG7 hN hi hx.a hx.b⟩
theorem jA7 {tg:Expr}(hg:Gl1 X "range")(hm:X.mg "range" =none)(ha:JA X [a] t)(hs:starEach [a] X.env=(false,eval a X.env)::starEach [] X.env):JI X tg (.Call (.Name "range" p) [a] [] pos) (iRng1 t):=⟨jCK hg.a hm ha.h hs⟩
theorem y6 {tg:Expr}(hl:JE X a ta):JI X tg a (iList X.K ta):=⟨jU6 hl.h⟩
theorem qP {tg:Expr}(hl:JE X a ta):JI X tg a (iTup X.K ta):=⟨jWH hl.h⟩
theorem jOJ:JO X none jMP:=⟨jU2⟩
theorem jOI (h:JE X e te):JO X (some e) (tPart te):=⟨jU1 h.h⟩
theorem jR {i:Nat}{pos':Pos}(hN:X.N.Nodup)(hi:X.N[i]?=some x)(hx:Loc1 X x)(he:JE X e te)(hs:SwOk e (some (.Name x pos'))):JS X (.Assign [.Name x pos'] e pos) (tAsg te (kJ i)):=⟨qO hN hi hx.a he.h (hs.h _ _) hx.b⟩
theorem jP (he:JE X e te):JS X (.Return (some e) pos) (tRet te):=⟨jDP he.h⟩
theorem jEP (he:JE X e te)(hs:SwOk e none):JS X (.Expr e pos) (tDrop te):=⟨jTY he.h (hs.h _ _)⟩
theorem jZ:JSs X [] tNext:=⟨jG5⟩
theorem jD {st:Stmt}{t:TS}(h1:JS X st t):JSs X [st] t:=⟨jB4 h1.h⟩
theorem j9 {st:Stmt}{rest:List Stmt}{t u:TS}(h1:JS X st t)(h2:JSs X rest u):JSs X (st::rest) (tSeq t u):=⟨y9 h1.h h2.h⟩
theorem yA {c:Expr}{a b:List Stmt}{tc:TT}{t u:TS}(hc:JT X c tc)(ha:JSs X a t)(hb:JSs X b u):JS X (.If c a b pos) (tIfS tc t u):=⟨ps_if hc.h ha.h hb.h⟩
theorem x6 {tg iter:Expr}{body:List Stmt}{wi:TI}{g:TG}{tb:TS}(hp:PassesOwn (model X.prog X.w) X.A X.env X.xe)(hc:X.calm=true)(hi:JI X tg iter wi)(hg:JG X tg g)(hb:JSs X body tb)(hs:FoOk iter):JS X (.For tg iter body [] pos) (tFor wi g tb):=⟨jST hp hc hi.h hg.h hb.h (hs.h _)⟩
theorem je_bm {T:String}{name:Str}{r}(pa:PlainAttrs T)(slot:Slot T name id)(hty:typeOf (.builtin id)=pure (.type "method_descriptor"))(hm:MtR X id r)(ho:JE X o to)(ha:JA X (e::es) t)
  (hs:starEach (e::es) X.env=(false,eval e X.env)::starEach es X.env)
  (hbase:attributeBase o name X.env (eval o X.env)=eval o X.env:=by rfl)
  (hfew:((backTo cpos (starEach (e::es) X.env)).all (fun x=>!x.1)&&(backToKw cpos (keywordEach [] X.env)).all (fun x=>x.1.isSome)
   &&decide ((e::es).length+([]:List Keyword).length+(if ([]:List Keyword).isEmpty then 0 else 1)<30))=true:=by rfl)
  (hline:(apos.endLine==cpos.line)=true:=by rfl) (hplain:(backTo cpos (starEach es X.env)).any (·.1)=false:=by rfl):
  JE X (.Call (.Attribute o name apos) (e::es) [] cpos) (tBM X.K T r to t):=⟨pe_bm pa slot hty hm ho.h ha.h hbase hfew hline hs hplain⟩
theorem kI {tg iter elt:Expr}{ifs:List Expr}{sc:Scope}{wi:TI}{g:TG}{tt:TT}{m:List (Option Nat)}{Nc:Am}(hc:X.calm=true)(hi:JI X tg iter wi)(hkind:sc.kind= .function)(hcell:∀ y∈sc.names,y.2≠ .cell)(hnames:∀ y∈sc.names,y.2= .local->sc.names.lookup y.1=some .local)
  (hfree:∀ y∈sc.names,y.2= .free->X.env.scope.names.lookup y.1=some .cell\/X.env.scope.names.lookup y.1=some .free) (hm:qK X sc Nc m)
  (hg:∀ cl C fp s H,JG (blk X sc cl C Nc fp s H) tg g) (ht:∀ cl C fp s H,JTs (blk X sc cl C Nc fp s H) ifs tt) (he:∀ cl C fp s H,JE (blk X sc cl C Nc fp s H) elt te)
  (hs:FoOk iter):JE X (.ListComp elt [⟨tg,iter,ifs,0⟩] sc pos) (tComp m wi g tt te):=⟨jIW hc hi.h hkind hcell hnames hfree hm (fun cl C fp s H=>(hg cl C fp s H).h) (fun cl C fp s H=>(ht cl C fp s H).h) (fun cl C fp s H=>(he cl C fp s H).h) (hs.h _)⟩
theorem jXO {p1 p2 p3 p4 p5 p6 p7:Pos}{k1 k2 k3 k4:Nat} :JE X (.BinOp (.BinOp (.Constant (.int 2) k1 p1) .Mult (.BinOp (.Constant (.int 10) k2 p2) .Pow (.Constant (.int 12) k3 p3) p4) p5) .Add (.Constant (.int 1) k4 p6) p7) (tC (.int 2000000000001)):=⟨jWP⟩
end
variable {P:Program}{mg:Ak}{Aq:Heap}{N:Am}{qual:Str}{sc:Scope}{f:Addr}{ki:Value}{Ap:List Env}{H:Hp}{E:XK}
section
variable {K:W.Frag}
theorem gl_d (h:sc.names.lookup x=some .globalImplicit):Gl1 (cxOf CX0 P w K mg Aq N qual sc f ki A Ap s H E).nox x:=⟨h⟩
theorem gD (h:sc.names.lookup x=some .globalImplicit:=by decide+kernel):Gl1 (cxOf CX0 P w K mg Aq N qual sc f ki A Ap s H E).nox x:=gl_d h
theorem vis_l (h:sc.names.lookup x=some .local):Vis1 (cxOf CX0 P w K mg Aq N qual sc f ki A Ap s H E).nox x:=⟨.inl h⟩
theorem vL (h:sc.names.lookup x=some .local:=by decide+kernel):Vis1 (cxOf CX0 P w K mg Aq N qual sc f ki A Ap s H E).nox x:=vis_l h
theorem vis_c (h:sc.names.lookup x=some .cell):Vis1 (cxOf CX0 P w K mg Aq N qual sc f ki A Ap s H E).nox x:=⟨.inr (.inl h)⟩
theorem vC (h:sc.names.lookup x=some .cell:=by decide+kernel):Vis1 (cxOf CX0 P w K mg Aq N qual sc f ki A Ap s H E).nox x:=vis_c h
end
theorem jA2 {env:Env}{x:Str}{k:NameKind}(hk:k≠ .free):∀ {l:List (Str×NameKind)},l.lookup x=some k->
  (l.map fun (n,k)=>if (k==NameKind.free&&env.scope.kind== .function&&env.kindOf n==some .cell) then (n,NameKind.cell) else (n,k)).lookup x=some k
 | [],h=>by cases h
 | (n,k')::r,h=>by
  have ih:= @jA2 env x k hk r;rw[aX] at h;rw[bv];dsimp only;by_cases hb:(k'==NameKind.free&&env.scope.kind== .function&&env.kindOf n==some .cell)=true
  ·rw[ao hb,aX];cases hx:x==n with
   | true=>
    rw[hx] at h;have e:k'=k:=bq h;simp only [bG] at hb;exact absurd (e.symm.trans (eq_of_beq hb.1.1)) hk
   | false=>rw[hx] at h; exact ih h
  ·rw[am hb,aX];cases hx:x==n with
   | true=>rw[hx] at h; exact h
   | false=>rw[hx] at h; exact ih h
variable {cl:Aj}{C:Addr}{Nc:Am}{fp:List Addr}
theorem gl_b (h:sc.names.lookup x=some .globalImplicit:=by decide+kernel):Gl1 (blk X sc cl C Nc fp s H) x:=⟨jA2 Ac h⟩
theorem jM (h:sc.names.lookup x=some .local:=by decide+kernel):Vis1 (blk X sc cl C Nc fp s H) x:=⟨.inl (jA2 Ac h)⟩
theorem kD (h:sc.names.lookup x=some .free:=by decide+kernel):Vis1 (blk X sc cl C Nc fp s H) x:=⟨.inr (jA9 h)⟩
theorem yD (h:sc.names.lookup x=some .local:=by decide+kernel):Loc1 (blk X sc cl C Nc fp s H) x:=⟨.inl (jA2 Ac h), .inr (jA2 Ac h)⟩
section
variable {K:W.Frag}
theorem loc_l (h:sc.names.lookup x=some .local):Loc1 (cxOf CX0 P w K mg Aq N qual sc f ki A Ap s H E).nox x:=⟨.inl h, .inl rfl⟩
theorem lL (h:sc.names.lookup x=some .local:=by decide+kernel):Loc1 (cxOf CX0 P w K mg Aq N qual sc f ki A Ap s H E).nox x:=loc_l h
theorem qY (h:sc.names.lookup x=some .cell:=by decide+kernel):Loc1 (cxOf CX0 P w K mg Aq N qual sc f ki A Ap s H E).nox x:=⟨.inr h, .inl rfl⟩
end
structure JW (X:Cx)(e:Expr)(t:TT):Prop where
 h:PW X e t
section
variable {rest:List Expr}{tA tB':TT}
theorem jV8 (ha:JT X a tA):JW X (.BoolOp .And [a] pos) tA:=⟨jTV ha.h⟩
theorem jKS (ha:JT X a tA):JW X (.BoolOp .Or [a] pos) tA:=⟨jWB ha.h⟩
theorem jXH (ha:JT X a tA)(hb:JW X (.BoolOp .And (b::rest) pos) tB'):JW X (.BoolOp .And (a::b::rest) pos) (tAnd tA tB'):=⟨jWC ha.h hb.h⟩
theorem jw_or (ha:JT X a tA)(hb:JW X (.BoolOp .Or (b::rest) pos) tB'):JW X (.BoolOp .Or (a::b::rest) pos) (tOr tA tB'):=⟨pw_or ha.h hb.h⟩
theorem jt_w (h:JW X a tA):JT X a tA:=⟨h.h.pt⟩
theorem jGP:JGs X [] gNil:=⟨jU8⟩
structure AsOk (e:Expr):Prop where
 h:∀ es env,assignEach (e::es) env=(false,assign e env)::assignEach es env
theorem jAW {x:Str} :AsOk (.Name x pos):=⟨fun _ _=>rfl⟩
theorem jAD {e:Expr}{es:List Expr}{t:TG}{u:TGs}(h1:JG X e t)(h2:JGs X es u)(hs:AsOk e):JGs X (e::es) (gCons t u):=⟨jQL h1.h h2.h (by rw[hs.h]; rfl)⟩
theorem jKW {es:List Expr}{k:Nat}{t:TGs}{n:Nat}(hc:X.calm=true)(h:JGs X es t)(hn:(assignEach es X.env).length=n:=by rfl)(hst:(assignEach es X.env).findIdx? (·.1)=none:=by rfl):JG X (.Tuple es k pos) (gTup X.K n t):=⟨jWI hc h.h hn hst⟩
theorem jBI {op:CmpOp}{x:Str} :behindInMarks op (.Name x pos)=false:=by cases op <;> rfl
end
theorem jAZ {X:Cx}{sc:Scope}{cl:Aj}{C:Addr}{Nc:Am}{fp:List Addr}{s:Shared}{H:Hp}{x y:Str}{p1 p2 pos:Pos}{k:Nat}{i j:Nat}(hc:X.calm=true)(hN:Nc.Nodup)(hi:Nc[i]?=some x)(hj:Nc[j]?=some y)(hx:sc.names.lookup x=some .local)(hy:sc.names.lookup y=some .local):
  JG (blk X sc cl C Nc fp s H) (.Tuple [.Name x p1, .Name y p2] k pos) (gTup X.K 2 (gCons (kJ i) (gCons (kJ j) gNil))):=
 jKW (X:=blk X sc cl C Nc fp s H) hc (jAD (jL hN hi (yD hx)) (jAD (jL hN hj (yD hy)) jGP jAW) jAW)
variable {m:List (Option Nat)}{g:TG}{tt:TT}{H1:Hp}{Q:VK}
section
variable {K:W.Frag}{σ:St}
end
theorem jD5:OpR (blk X sc cl C Nc fp s H) (compareOp .In) (rIn X.K false):=jBH
theorem jD4:OpR (blk X sc cl C Nc fp s H) (compareOp .NotIn) (rIn X.K true):=jHN
theorem kG:IxR (blk X sc cl C Nc fp s H) (rIxT X.K):=jI
def Ext (H H':Hp):Prop:=∀ b o,H b=some o->H' b=some o
theorem Ext.refl (H:Hp):Ext H H:=fun _ _ h=>h
theorem Ext.trans {H H1 H2:Hp}(a:Ext H H1)(b:Ext H1 H2):Ext H H2:=fun c o h=>b c o (a c o h)
theorem Ext.new {H H1:Hp}{l:Addr}(a:Ext H H1)(hl:H1 l=none)(o:HO):Ext H (upd H1 l o):=fun c u h=>by
 have:=a c u h;rw[jA (jB this hl)];exact this
theorem Ext.updNew {H H1:Hp}{l:Addr}(a:Ext H H1)(hl:H l=none)(o:HO):Ext H (upd H1 l o):=fun c u h=>by
 rw[jA (jB h hl)];exact a c u h
def TupR (H:Hp)(xs:List V)(Q:VK):Prop:=∀ r H',H' r=some (.tup xs)->Ext H H'->Q (.ref r) H'
theorem TupR.new {H:Hp}{xs:List V}{Q:VK}(q:TupR H xs Q){p:Addr}(hp:H p=none):Q (.ref p) (upd H p (.tup xs)):=q p _ j6 ((Ext.refl H).new hp _)
theorem TupR.old {H:Hp}{xs:List V}{Q:VK}(q:TupR H xs Q){p:Addr}(hp:H p=some (.tup xs)):Q (.ref p) H:=q p H hp (Ext.refl H)
def rCatU:R2:=fun x y H Q=>∃ a b xs ys,x= .ref a/\y= .ref b/\H a=some (.tup xs)/\H b=some (.tup ys)/\xs.length+ys.length<=sizeLine/\TupR H (xs++ys) Q
theorem jD6:OpR X (binaryOp .Add) rCatU:=by
 intro kh s σ H x y v u Q I rx ry h;obtain⟨a,b,xs,ys,rfl,rfl,ha,hb,hz,q⟩:=h;by_cases hx:xs=[]
 ·subst hx;cases rx;cases ry;obtain⟨_,its,r1,n1,e1⟩:=I.hok a _ ha;obtain⟨_,its2,r2,n2,e2⟩:=I.hok b _ hb;cases r1;exact concat_meets ⟨_,e1,rfl⟩ ⟨_,e2,rfl⟩ iH seq_tuple_add ga fY (fk _ _) (AutoSeq1.tuple___add___tuple_tuple_0 a _ n1 b its2.toArray n2 Ad) ⟨e1,e2, .ref b,H,I,rfl,q.old hb⟩
 ·refine jUI kh s σ H _ _ v u Q I rx ry ⟨a,b,xs,ys,rfl,rfl,SqT.of ha,SqT.of hb,hx,hz,fun e=>?_,fun _ p hp=>q.new hp⟩;subst e;rw[ba] at q;exact q.old ha
section
variable (l:Addr)(items:An)(n:Nat)(x:Int)(u:Tok)(h1:¬ (decide (x< -(2 ^ 63)) || decide (x ≥ 2 ^ 63))=true)
include h1
end
theorem Inv.big' {kh:Ai}{σ:St}{H:Hp}{s:Shared}(I:Inv X kh σ H s):sysModules<s.heap.objs.size:=eD Ac (I.mod.glob.keeps I.bk).lt
def jW3:TE:=fun _ H Q=>∀ p,H p=none->Q (.ref p) (upd H p (.dK []))
theorem jRM {pos:Pos} :JE X (.Dict [] [] pos) jW3:=⟨fun kh s σ H Q I h=>
 wpAny_Dict_empty ⟨.ref s.heap.objs.size,_,I.laid (a:=s.heap.objs.size) (o:= .dK []) (t':=s.toks) (fun _ _ q=>af _ q) (ak _)
  ⟨bu _,b7.mpr (fw (aU I.big')),[], .nil,iV s.heap⟩,rfl,h _ (I.hok.fresh (ak _))⟩⟩
theorem jOK {tg a b:Expr}{t:TA}{p pos:Pos}(hg:Gl1 X "range")(hm:X.mg "range" =none)(ha:JA X [a,b] t)(hs:starEach [a,b] X.env=(false,eval a X.env)::starEach [b] X.env)(hs2:starEach [b] X.env=(false,eval b X.env)::starEach [] X.env):
  JI X tg (.Call (.Name "range" p) [a,b] [] pos) (iRng2 t):=⟨jNB hg.a hm ha.h (by rw[hs,hs2]; rfl) hs2⟩
theorem jXI {tg e:Expr}{te:TE}{g:TG}{pos:Pos}(he:JE X e te)(hg:JG X tg g)(hs:swapsWithSole [tg] e pos.line X.env=pure false:=by rfl)(hw:swappedStores [tg] e X.env=pure none:=by rfl)
  (h1:(assignEach [tg] X.env).map (·.2)=[assign tg X.env]:=by rfl):JS X (.Assign [tg] e pos) (tAsg te g):=⟨jSU he.h hg.h hs hw h1⟩
section
variable {K:W.Frag}{σ:St}
theorem jBX {a:Addr}{xs:List V}(hn:xs.length<sizeLine)(Pv:Addr->Nat->St->Hp->List V->Prop)(h0:∀ D,H1 D=none->Pv D 0 (blkσ m σ) (upd H1 D (.lst [])) [])
  (hD:∀ D i σ' H' zs,H1 D=none->Pv D i σ' H' zs->H' a=some (.tup xs)/\H' D=some (.lst zs)/\zs.length<=i)
  (hs:∀ D i σ' H' zs x,H1 D=none->xs[i]?=some x->Pv D i σ' H' zs->g x σ' H' fun σ2 H2=>tt σ2 H2 fun b H3=>if b=true then te σ2 H3 fun v H4=>H4 D=some (.lst zs)/\Pv D (i+1) σ2 (upd H4 D (.lst (zs++[v]))) (zs++[v]) else Pv D (i+1) σ2 H3 zs)
  (hd:∀ D σ' H' zs,H1 D=none->Pv D xs.length σ' H' zs->Q (.ref D) H'):qJ m g tt te σ Q (Itt K a) H1:=by
 intro D hDn;refine⟨fun i k σ' H' zs=>k=xs.length - i/\i<=xs.length/\Pv D i σ' H' zs,⟨_,rfl,bu _,h0 D hDn⟩,?_⟩;rintro i k σ' H' zs ⟨rfl,hi,p⟩;obtain⟨s1,q1,q2⟩:=hD D i σ' H' zs hDn p;refine⟨q1,Aa,?_⟩;by_cases hlt:i<xs.length
 ·refine .inr ⟨⟨xs,xs[i],SqT.of s1,by simp [hlt]⟩,Pv D (i+1),fun σ2 H2 zs z=>⟨xs.length - (i+1),Aa,rfl,hlt,z⟩,fun v H'' y=>?_⟩;obtain⟨e1,e2⟩:=y;subst e1;exact hs D i σ' _ zs v hDn (e2 xs (SqT.of s1)) p
 ·have e:i=xs.length:=Aa;subst e;exact .inl ⟨⟨xs,SqT.of s1,ak _⟩,hd D σ' H' zs hDn p⟩
end
inductive Tr where
 | non
 | bl (b:Bool)
 | int (i:Int)
 | str (x:Str)
 | lst (ts:List Tr)
 | tup (ts:List Tr)
mutual
def TAt (H:Hp):Tr->V->Prop
 | .non,v=>v= .non
 | .bl b,v=>v= .bl b
 | .int i,v=>v= .int i
 | .str x,v=>v= .str x
 | .lst ts,v=>∃ a vs,v= .ref a/\H a=some (.lst vs)/\TsAt H ts vs
 | .tup ts,v=>∃ a vs,v= .ref a/\H a=some (.tup vs)/\TsAt H ts vs
def TsAt (H:Hp):List Tr->List V->Prop
 | [],vs=>vs=[]
 | t::ts,vs=>∃ v r,vs=v::r/\TAt H t v/\TsAt H ts r
end
mutual
def dep:Tr->Nat
 | .lst ts=>deps ts+1
 | .tup ts=>deps ts+1
 | _=>0
def deps:List Tr->Nat
 | []=>0
 | t::ts=>max (dep t) (deps ts)
end
mutual
def eqT:Tr->Tr->Bool
 | .non, .non=>true
 | .bl a, .bl b=>a==b
 | .bl a, .int b=>(if a then 1 else 0)==b
 | .int a, .bl b=>a==(if b then 1 else 0)
 | .int a, .int b=>a==b
 | .str a, .str b=>a==b
 | .lst a, .lst b=>eqTs a b
 | .tup a, .tup b=>eqTs a b
 | _,_=>false
def eqTs:List Tr->List Tr->Bool
 | [],[]=>true
 | a::as,b::bs=>eqT a b&&eqTs as bs
 | _,_=>false
end
mutual
theorem jGW:∀ t:Tr,eqT t t=true
 | .non=>by simp [eqT]
 | .bl b=>by simp [eqT]
 | .int i=>by simp [eqT]
 | .str x=>by simp [eqT]
 | .lst ts=>by rw[eqT]; exact jAK ts
 | .tup ts=>by rw[eqT]; exact jAK ts
theorem jAK:∀ ts:List Tr,eqTs ts ts=true
 | []=>by simp [eqTs]
 | t::ts=>by rw[eqTs,jGW t,jAK ts]; rfl
end
mutual
theorem TAt.ext {H H':Hp}(e:Ext H H'):∀ {t:Tr}{v:V},TAt H t v->TAt H' t v
 | .non,_,h=>h
 | .bl _,_,h=>h
 | .int _,_,h=>h
 | .str _,_,h=>h
 | .lst ts,_,⟨a,vs,q,h,r⟩=>⟨a,vs,q,e _ _ h,TsAt.ext e r⟩
 | .tup ts,_,⟨a,vs,q,h,r⟩=>⟨a,vs,q,e _ _ h,TsAt.ext e r⟩
theorem TsAt.ext {H H':Hp}(e:Ext H H'):∀ {ts:List Tr}{vs:List V},TsAt H ts vs->TsAt H' ts vs
 | [],_,h=>h
 | t::ts,_,⟨v,r,q,h,s⟩=>⟨v,r,q,TAt.ext e h,TsAt.ext e s⟩
end
mutual
theorem TAt.inj {H:Hp} :∀ {t u:Tr}{v:V},TAt H t v->TAt H u v->t=u
 | .non,u,_,h,h'=>by
  cases (show _=V.non from h);cases u with
  | non=>rfl
  | bl b=>cases (show V.non=_ from h')
  | int b=>cases (show V.non=_ from h')
  | str b=>cases (show V.non=_ from h')
  | lst ts=>obtain⟨_,_,q,_⟩:=h'; cases q
  | tup ts=>obtain⟨_,_,q,_⟩:=h'; cases q
 | .bl b,u,_,h,h'=>by
  cases (show _=V.bl b from h);cases u with
  | non=>cases (show V.bl b=_ from h')
  | bl b=>cases (show V.bl _=V.bl b from h'); rfl
  | int i=>cases (show V.bl b=V.int i from h')
  | str i=>cases (show V.bl b=V.str i from h')
  | lst ts=>obtain⟨_,_,q,_⟩:=h'; cases q
  | tup ts=>obtain⟨_,_,q,_⟩:=h'; cases q
 | .int b,u,_,h,h'=>by
  cases (show _=V.int b from h);cases u with
  | non=>cases (show V.int b=_ from h')
  | bl i=>cases (show V.int b=V.bl i from h')
  | int b=>cases (show V.int _=V.int b from h'); rfl
  | str i=>cases (show V.int b=V.str i from h')
  | lst ts=>obtain⟨_,_,q,_⟩:=h'; cases q
  | tup ts=>obtain⟨_,_,q,_⟩:=h'; cases q
 | .str b,u,_,h,h'=>by
  cases (show _=V.str b from h);cases u with
  | non=>cases (show V.str b=_ from h')
  | bl i=>cases (show V.str b=V.bl i from h')
  | int i=>cases (show V.str b=V.int i from h')
  | str b=>cases (show V.str _=V.str b from h'); rfl
  | lst ts=>obtain⟨_,_,q,_⟩:=h'; cases q
  | tup ts=>obtain⟨_,_,q,_⟩:=h'; cases q
 | .lst ts,u,_,⟨a,vs,q,h,r⟩,h'=>by
  subst q;cases u with
  | non=>cases (show V.ref a=_ from h')
  | bl i=>cases (show V.ref a=V.bl i from h')
  | int i=>cases (show V.ref a=V.int i from h')
  | str i=>cases (show V.ref a=V.str i from h')
  | lst us=>
   obtain⟨a',vs',q',h2,r'⟩:=h';cases q';rw[h] at h2;cases h2;rw[TsAt.inj r r']
  | tup us=>
   obtain⟨a',vs',q',h2,r'⟩:=h';cases q';rw[h] at h2;cases h2
 | .tup ts,u,_,⟨a,vs,q,h,r⟩,h'=>by
  subst q;cases u with
  | non=>cases (show V.ref a=_ from h')
  | bl i=>cases (show V.ref a=V.bl i from h')
  | int i=>cases (show V.ref a=V.int i from h')
  | str i=>cases (show V.ref a=V.str i from h')
  | lst us=>
   obtain⟨a',vs',q',h2,r'⟩:=h';cases q';rw[h] at h2;cases h2
  | tup us=>
   obtain⟨a',vs',q',h2,r'⟩:=h';cases q';rw[h] at h2;cases h2;rw[TsAt.inj r r']
theorem TsAt.inj {H:Hp} :∀ {ts us:List Tr}{vs:List V},TsAt H ts vs->TsAt H us vs->ts=us
 | [],us,_,h,h'=>by
  cases (show _=[] from h);cases us with
  | nil=>rfl
  | cons u us=>obtain⟨_,_,q,_⟩:=h'; cases q
 | t::ts,us,_,⟨v,r,q,h,s⟩,h'=>by
  subst q;cases us with
  | nil=>cases (show v::r=[] from h')
  | cons u us=>
   obtain⟨v',r',q,h2,s2⟩:=h';cases q;rw[TAt.inj h h2,TsAt.inj s s2]
end
theorem TsAt.len {H:Hp} :∀ {ts:List Tr}{vs:List V},TsAt H ts vs->vs.length=ts.length
 | [],_,h=>by cases (show _=[] from h); rfl
 | t::ts,_,⟨v,r,q,_,s⟩=>by rw[q,aP,aP,TsAt.len s]
theorem TsAt.get {H:Hp} :∀ {ts:List Tr}{vs:List V},TsAt H ts vs->∀ {i:Nat}{v:V},vs[i]?=some v->∃ t,ts[i]?=some t/\TAt H t v
 | [],_,h,i,v,e=>by cases (show _=[] from h); cases e
 | t::ts,_,⟨v,r,q,h,s⟩,0,v',e=>by subst q; cases e; exact⟨t,rfl,h⟩
 | t::ts,_,⟨v,r,q,h,s⟩,i+1,v',e=>by subst q; exact TsAt.get s (i:=i) e
theorem jEW:∀ ts us:List Tr,eqTs ts us=((List.range (min ts.length us.length)).all (fun j=>eqT (ts.getD j .non) (us.getD j .non))&&ts.length==us.length)
 | [],[]=>by simp [eqTs]
 | [],u::us=>by simp [eqTs]
 | t::ts,[]=>by simp [eqTs]
 | t::ts,u::us=>by
  rw[eqTs,jEW ts us,aP,aP,show min (ts.length+1) (us.length+1)=min ts.length us.length+1 by lia,List.range_succ_eq_map,eG,gj];have e:(ts.length+1==us.length+1)=(ts.length==us.length):=by
   rw[bP];simp
  rw[e,Bool.and_assoc];rfl
theorem jJC {ts:List Tr}{t:Tr}(h:t∈ts):dep t<=deps ts:=by
 induction ts with
 | nil=>cases h
 | cons a r ih=>
  rw[deps];rcases aG.mp h with q | q
  ·subst q; lia
  ·have:=ih q; lia
def flatT:Tr->Bool
 | .lst _=>false
 | .tup _=>false
 | _=>true
theorem jP7 {H:Hp}{t:Tr}{x:V}(h:TAt H t x)(f:flatT t=true):xE x=true:=by
 cases t with
 | non=>cases (show x=_ from h); rfl
 | bl b=>cases (show x=V.bl b from h); rfl
 | int b=>cases (show x=V.int b from h); rfl
 | str b=>cases (show x=V.str b from h); rfl
 | lst ts=>cases f
 | tup ts=>cases f
theorem jVM {H:Hp}{t u:Tr}{x y:V}(h:TAt H t x)(h':TAt H u y)(f:flatT t=true)(f':flatT u=true):eqV x y=eqT t u:=by
 cases t with
 | non=>
  cases (show x=_ from h);cases u with
  | non=>cases (show y=_ from h'); simp [eqV,eqT]
  | bl b=>cases (show y=V.bl b from h'); simp [eqV,eqT]
  | int b=>cases (show y=V.int b from h'); simp [eqV,eqT]
  | str b=>cases (show y=V.str b from h'); simp [eqV,eqT]
  | lst ts=>cases f'
  | tup ts=>cases f'
 | bl c=>
  cases (show x=V.bl c from h);cases u with
  | non=>cases (show y=_ from h'); simp [eqV,eqT]
  | bl b=>cases (show y=V.bl b from h'); simp [eqV,eqT]
  | int b=>cases (show y=V.int b from h'); simp [eqV,eqT]
  | str b=>cases (show y=V.str b from h'); simp [eqV,eqT]
  | lst ts=>cases f'
  | tup ts=>cases f'
 | int c=>
  cases (show x=V.int c from h);cases u with
  | non=>cases (show y=_ from h'); simp [eqV,eqT]
  | bl b=>cases (show y=V.bl b from h'); simp [eqV,eqT]
  | int b=>cases (show y=V.int b from h'); simp [eqV,eqT]
  | str b=>cases (show y=V.str b from h'); simp [eqV,eqT]
  | lst ts=>cases f'
  | tup ts=>cases f'
 | str c=>
  cases (show x=V.str c from h);cases u with
  | non=>cases (show y=_ from h'); simp [eqV,eqT]
  | bl b=>cases (show y=V.bl b from h'); simp [eqV,eqT]
  | int b=>cases (show y=V.int b from h'); simp [eqV,eqT]
  | str b=>cases (show y=V.str b from h'); simp [eqV,eqT]
  | lst ts=>cases f'
  | tup ts=>cases f'
 | lst ts=>cases f
 | tup ts=>cases f
section
variable {kh:Ai}{σ:St}
theorem TsAt.both {ts us:List Tr}{vs ws:List V}{its its2:Al}(h1:TsAt H ts vs)(h2:TsAt H us ws)(r1:Vals vs its)(r2:Vals ws its2){j:Nat}(a1:j<its.toArray.size)(a2:j<its2.toArray.size):
  ∃ t u x y,ts.getD j .non=t/\us.getD j .non=u/\t∈ts/\TAt H t x/\TAt H u y/\RelV x its.toArray[j]/\RelV y its2.toArray[j]:=by
 have l1:=r1.length;have l2:=r2.length;rw[ar] at a1 a2;obtain⟨x,hx⟩:∃ x,vs[j]?=some x:=⟨vs[j]' Aa,by simp [show j<vs.length by lia]⟩;obtain⟨y,hy⟩:∃ y,ws[j]?=some y:=⟨ws[j]' Aa,by simp [show j<ws.length by lia]⟩;obtain⟨t,ht,hxt⟩:=h1.get hx;obtain⟨u,hu,hyu⟩:=h2.get hy;obtain⟨v,hv,rv⟩:=r1.get hx;obtain⟨w,hw,rw'⟩:=r2.get hy;have e1:its.toArray[j]=v:=by
  have:its[j]?=some its[j]:=by simp [a1]
  rw[hv] at this;simpa using (bq this).symm
 have e2:its2.toArray[j]=w:=by
  have:its2[j]?=some its2[j]:=by simp [a2]
  rw[hw] at this;simpa using (bq this).symm
 refine⟨t,u,x,y,by rw[ag,ht]; rfl,by rw[ag,hu]; rfl,ay ht,hxt,hyu,by rw[e1]; exact rv,by rw[e2]; exact rw'⟩
theorem jXT (I:Inv X kh σ H s):∀ (n:Nat) (t u:Tr) (x y:V) (vx vy:Value) (A:Around),dep t=n->TAt H t x->TAt H u y->RelV x vx->RelV y vy->A.units+n<cLine->SeqAt.EqAt A s vx vy (eqT t u):=by
 intro n
 induction n using strongRecOn with
 | ind n ih=>
  intro t u x y vx vy A hn ht hu rx ry hc;have hcu:A.units<cLine:=Aa;cases ft:flatT t with
  | true=>
   cases fu:flatT u with
   | true=>
    rw[<- jVM ht hu ft fu];exact jT7 rx ry (jP7 ht ft) (jP7 hu fu)
   | false=>
    cases u with
    | lst us=>
     obtain⟨b,ws,rfl,hb,_⟩:=hu;cases ry;obtain⟨its,_,pl,_⟩:=I.list (SqL.of hb);cases t with
     | non=>cases (show x=_ from ht); cases rx; rw[show eqT .non (.lst us)=false by simp [eqT]]; exact .none_list pl.isList hcu
     | bl c=>cases (show x=V.bl c from ht); cases rx; rw[show eqT (.bl c) (.lst us)=false by simp [eqT]]; exact .bool_list c pl.isList hcu
     | int c=>cases (show x=V.int c from ht); obtain⟨k,rfl⟩:=rx; rw[show eqT (.int c) (.lst us)=false by simp [eqT]]; exact .int_list c k pl.isList hcu
     | str c=>cases (show x=V.str c from ht); obtain⟨k,rfl⟩:=rx; rw[show eqT (.str c) (.lst us)=false by simp [eqT]]; exact .str_list c k pl.isList hcu
     | lst ts=>cases ft
     | tup ts=>cases ft
    | tup us=>
     obtain⟨b,ws,rfl,hb,_⟩:=hu;cases ry;obtain⟨its,_,pl,_⟩:=I.tuple (SqT.of hb);cases t with
     | non=>cases (show x=_ from ht); cases rx; rw[show eqT .non (.tup us)=false by simp [eqT]]; exact .none_tuple pl hcu
     | bl c=>cases (show x=V.bl c from ht); cases rx; rw[show eqT (.bl c) (.tup us)=false by simp [eqT]]; exact .bool_tuple c pl hcu
     | int c=>cases (show x=V.int c from ht); obtain⟨k,rfl⟩:=rx; rw[show eqT (.int c) (.tup us)=false by simp [eqT]]; exact .int_tuple c k pl hcu
     | str c=>cases (show x=V.str c from ht); obtain⟨k,rfl⟩:=rx; rw[show eqT (.str c) (.tup us)=false by simp [eqT]]; exact .str_tuple c k pl hcu
     | lst ts=>cases ft
     | tup ts=>cases ft
    | non=>cases fu
    | bl c=>cases fu
    | int c=>cases fu
    | str c=>cases fu
  | false=>
   cases t with
   | non=>cases ft
   | bl c=>cases ft
   | int c=>cases ft
   | str c=>cases ft
   | lst ts=>
    have ht0:=ht;obtain⟨a,vs,rfl,ha,hts⟩:=ht;cases rx;obtain⟨its,r1,pl,_⟩:=I.list (SqL.of ha);cases u with
    | non=>cases (show y=_ from hu); cases ry; rw[show eqT (.lst ts) .non=false by simp [eqT]]; exact .list_none pl.isList hcu
    | bl c=>cases (show y=V.bl c from hu); cases ry; rw[show eqT (.lst ts) (.bl c)=false by simp [eqT]]; exact .list_bool c pl.isList hcu
    | int c=>cases (show y=V.int c from hu); obtain⟨k,rfl⟩:=ry; rw[show eqT (.lst ts) (.int c)=false by simp [eqT]]; exact .list_int c k pl.isList hcu
    | str c=>cases (show y=V.str c from hu); obtain⟨k,rfl⟩:=ry; rw[show eqT (.lst ts) (.str c)=false by simp [eqT]]; exact .list_str c k pl.isList hcu
    | tup us=>
     obtain⟨b,ws,rfl,hb,_⟩:=hu;cases ry;obtain⟨its2,_,pl2,_⟩:=I.tuple (SqT.of hb);rw[show eqT (.lst ts) (.tup us)=false by simp [eqT]];exact .list_tuple pl.isList pl2 hcu
    | lst us=>
     have hu0:=hu;obtain⟨b,ws,rfl,hb,hus⟩:=hu;cases ry;by_cases e:a=b
     ·subst e;rw[<- TAt.inj ht0 hu0,jGW];exact .same _
     ·obtain⟨its2,r2,pl2,_⟩:=I.list (SqL.of hb);refine .of_refs e ?_;have l1:=r1.length;have l2:=r2.length;have m1:=hts.len;have m2:=hus.len;rw[eqT,jEW];by_cases hl:ts.length=us.length
      ·have key:=SeqAt.RcAt.lists (e:=fun j=>eqT (ts.getD j .non) (us.getD j .non)) pl.isList pl2.isList (by rw[ar,ar]; lia) hcu fun j a1 a2=>by
        obtain⟨t',u',x',y',e1,e2,hm,q1,q2,q3,q4⟩:=TsAt.both hts hus r1 r2 a1 a2;rw[e1,e2];have hd:=jJC hm;have hn':deps ts+1=n:=by rw[<- hn,dep]
        exact ih (dep t') Aa t' u' x' y' _ _ _ rfl q1 q2 q3 q4 (by rw[eh]; lia)
       have ez:its.toArray.size=min ts.length us.length:=by rw[ar]; lia
       rw[ez] at key;rw[show (ts.length==us.length)=true by simp [hl],jn];exact key
      ·rw[show (ts.length==us.length)=false by simp [hl],cC];refine SeqAt.RcAt.lists_lengths pl.isList pl2.isList ?_ hcu;rw[ar,ar];simp;lia
   | tup ts=>
    have ht0:=ht;obtain⟨a,vs,rfl,ha,hts⟩:=ht;cases rx;obtain⟨its,r1,pl,_⟩:=I.tuple (SqT.of ha);cases u with
    | non=>cases (show y=_ from hu); cases ry; rw[show eqT (.tup ts) .non=false by simp [eqT]]; exact .tuple_none pl hcu
    | bl c=>cases (show y=V.bl c from hu); cases ry; rw[show eqT (.tup ts) (.bl c)=false by simp [eqT]]; exact .tuple_bool c pl hcu
    | int c=>cases (show y=V.int c from hu); obtain⟨k,rfl⟩:=ry; rw[show eqT (.tup ts) (.int c)=false by simp [eqT]]; exact .tuple_int c k pl hcu
    | str c=>cases (show y=V.str c from hu); obtain⟨k,rfl⟩:=ry; rw[show eqT (.tup ts) (.str c)=false by simp [eqT]]; exact .tuple_str c k pl hcu
    | lst us=>
     obtain⟨b,ws,rfl,hb,_⟩:=hu;cases ry;obtain⟨its2,_,pl2,_⟩:=I.list (SqL.of hb);rw[show eqT (.tup ts) (.lst us)=false by simp [eqT]];exact .tuple_list pl pl2.isList hcu
    | tup us=>
     have hu0:=hu;obtain⟨b,ws,rfl,hb,hus⟩:=hu;cases ry;by_cases e:a=b
     ·subst e;rw[<- TAt.inj ht0 hu0,jGW];exact .same _
     ·obtain⟨its2,r2,pl2,_⟩:=I.tuple (SqT.of hb);refine .of_refs e ?_;have l1:=r1.length;have l2:=r2.length;have m1:=hts.len;have m2:=hus.len;rw[eqT,jEW];have key:=SeqAt.RcAt.tuples (e:=fun j=>eqT (ts.getD j .non) (us.getD j .non)) pl pl2 hcu fun j a1 a2=>by
       obtain⟨t',u',x',y',e1,e2,hm,q1,q2,q3,q4⟩:=TsAt.both hts hus r1 r2 a1 a2;rw[e1,e2];have hd:=jJC hm;have hn':deps ts+1=n:=by rw[<- hn,dep]
       exact ih (dep t') Aa t' u' x' y' _ _ _ rfl q1 q2 q3 q4 (by rw[eh]; lia)
      have z1:its.toArray.size=ts.length:=by rw[ar]; lia
      have z2:its2.toArray.size=us.length:=by rw[ar]; lia
      rw[z1,z2] at key;exact key
theorem jOS (I:Inv X kh σ H s){ts us:List Tr}{vs ws:List V}{its its2:Al}(h1:TsAt H ts vs)(h2:TsAt H us ws)(r1:Vals vs its)(r2:Vals ws its2){A:Around}(hc:A.units+deps ts<cLine):
  ∀ j (a1:j<its.toArray.size) (a2:j<its2.toArray.size),SeqAt.EqAt A s its.toArray[j] its2.toArray[j] (eqT (ts.getD j .non) (us.getD j .non)):=fun j a1 a2=>by
 obtain⟨t',u',x',y',e1,e2,hm,q1,q2,q3,q4⟩:=TsAt.both h1 h2 r1 r2 a1 a2;rw[e1,e2];have hd:=jJC hm;exact jXT I (dep t') t' u' x' y' _ _ _ rfl q1 q2 q3 q4 Aa
theorem jUH (hu:X.A.units+101<cLine):OpR X (compareOp .Eq) (fun x y H Q=>∃ ts us,TAt H (.lst ts) x/\TAt H (.lst us) y/\deps ts<=100/\Q (.bl (eqTs ts us)) H):=by
 intro kh s σ H x y v u Q I rx ry h;obtain⟨ts,us,⟨a,vs,rfl,ha,hts⟩,⟨b,ws,rfl,hb,hus⟩,hd,q⟩:=h;cases rx;cases ry;obtain⟨its,r1,p1,_⟩:=I.list (SqL.of ha);obtain⟨its2,r2,p2,_⟩:=I.list (SqL.of hb);have l1:=r1.length;have l2:=r2.length;have m1:=hts.len;have m2:=hus.len;rw[jEW] at q;by_cases hl:ts.length=us.length
 ·refine SeqAt.eq_listAt (e:=fun j=>eqT (ts.getD j .non) (us.getD j .non)) p1.isList p2.isList (by rw[ar,ar]; lia) Aa (jOS I hts hus r1 r2 (by rw[eh]; lia)) ⟨.bl _,H,I,rfl,?_⟩;have ez:its.toArray.size=min ts.length us.length:=by rw[ar]; lia
  rw[ez];rw[show (ts.length==us.length)=true by simp [hl],jn] at q;exact q
 ·rw[show (ts.length==us.length)=false by simp [hl],cC] at q;refine SeqAt.eq_list_lengthsAt p1.isList p2.isList ?_ Aa ⟨.bl _,H,I,rfl,q⟩;rw[ar,ar];simp;lia
theorem jGA (hu:X.A.units+101<cLine):OpR X (compareOp .NotEq) (fun x y H Q=>∃ ts us,TAt H (.lst ts) x/\TAt H (.lst us) y/\deps ts<=100/\Q (.bl (!eqTs ts us)) H):=by
 intro kh s σ H x y v u Q I rx ry h;obtain⟨ts,us,⟨a,vs,rfl,ha,hts⟩,⟨b,ws,rfl,hb,hus⟩,hd,q⟩:=h;cases rx;cases ry;obtain⟨its,r1,p1,_⟩:=I.list (SqL.of ha);obtain⟨its2,r2,p2,_⟩:=I.list (SqL.of hb);have l1:=r1.length;have l2:=r2.length;have m1:=hts.len;have m2:=hus.len;rw[jEW] at q;by_cases hl:ts.length=us.length
 ·refine SeqAt.RcNeAt.lists (e:=fun j=>eqT (ts.getD j .non) (us.getD j .non)) p1.isList p2.isList (by rw[ar,ar]; lia) Aa (jOS I hts hus r1 r2 (by rw[eh]; lia)) _ _ _ _ ⟨.bl _,H,I,rfl,?_⟩;have ez:its.toArray.size=min ts.length us.length:=by rw[ar]; lia
  rw[ez];rw[show (ts.length==us.length)=true by simp [hl],jn] at q;exact q
 ·rw[show (ts.length==us.length)=false by simp [hl],cC] at q;refine SeqAt.RcNeAt.lists_lengths p1.isList p2.isList ?_ Aa _ _ _ _ ⟨.bl _,H,I,rfl,q⟩;rw[ar,ar];simp;lia
theorem Room.units101 {k:Nat}{A:Around}(r:Room k A):A.units+101<cLine:=by have:=r.un; lia
end
theorem jPL {x:Str}{c:Addr} :∀ (l:List (Str×NameKind)) (n:Nat) (acc:Aj),(cellsFrom n l acc).lookup x=some c->acc.lookup x=some c\/(n<=c/\(x,NameKind.cell)∈l)
 | [],n,acc,h=> .inl h
 | (y,k)::r,n,acc,h=>by
  unfold cellsFrom at h;by_cases hk:(k==NameKind.cell)=true
  ·rw[ao hk] at h;have ek:k= .cell:=eq_of_beq hk;rcases jPL r (n+1) _ h with q | ⟨q1,q2⟩
   ·rw[aX] at q;cases e:x==y with
    | true=>
     rw[e] at q;cases q;exact .inr ⟨ak _,by rw[eq_of_beq e,ek]; exact az⟩
    | false=>rw[e] at q; exact .inl q
   ·exact .inr ⟨Aa,aB _ q2⟩
  ·rw[am hk] at h;rcases jPL r n _ h with q | ⟨q1,q2⟩
   ·exact .inl q
   ·exact .inr ⟨q1,aB _ q2⟩
theorem jPN:∀ (l:List (Str×NameKind)) (n:Nat) (acc:Aj),(∀ x y c,acc.lookup x=some c->acc.lookup y=some c->x=y)->(∀ x c,acc.lookup x=some c->c<n)->
  ∀ x y c,(cellsFrom n l acc).lookup x=some c->(cellsFrom n l acc).lookup y=some c->x=y
 | [],n,acc,h1,_=>h1
 | (z,k)::r,n,acc,h1,h2=>by
  unfold cellsFrom;by_cases hk:(k==NameKind.cell)=true
  ·rw[ao hk];refine jPN r (n+1) _ (fun x y c a b=>?_) (fun x c a=>?_)
   ·rw[aX] at a b;cases e1:x==z with
    | true=>
     rw[e1] at a;cases a;cases e2:y==z with
     | true=>exact(eq_of_beq e1).trans (eq_of_beq e2).symm
     | false=>rw[e2] at b; exact absurd (h2 y n b) (cj _)
    | false=>
     rw[e1] at a;cases e2:y==z with
     | true=>rw[e2] at b; cases b; exact absurd (h2 x n a) (cj _)
     | false=>rw[e2] at b; exact h1 x y c a b
   ·rw[aX] at a;cases e1:x==z with
    | true=>rw[e1] at a; cases a; exact d0 _
    | false=>rw[e1] at a; exact bY (h2 x c a)
  ·rw[am hk];exact jPN r n acc h1 h2
theorem jPO {x:Str} :∀ (l:List (Str×NameKind)) (n:Nat) (acc:Aj),((x,NameKind.cell)∈l\/∃ c,acc.lookup x=some c)->∃ c,(cellsFrom n l acc).lookup x=some c
 | [],n,acc,h=>by
  rcases h with h | h
  ·cases h
  ·exact h
 | (z,k)::r,n,acc,h=>by
  unfold cellsFrom;by_cases hk:(k==NameKind.cell)=true
  ·rw[ao hk];refine jPO r (n+1) _ ?_;by_cases e:x=z
   ·subst e;exact .inr ⟨n,by rw[aX,eU]⟩
   ·rcases h with h | ⟨c,h⟩
    ·rcases aG.mp h with q | q
     ·cases q; exact absurd rfl e
     ·exact .inl q
    ·exact .inr ⟨c,by rw[aX,b7.mpr e]; exact h⟩
  ·rw[am hk];refine jPO r n acc ?_;rcases h with h | h
   ·rcases aG.mp h with q | q
    ·cases q; exact absurd rfl hk
    ·exact .inl q
   ·exact .inr h
theorem jPM {x:Str}{c n0:Nat} :∀ (l:List (Str×NameKind)) (n:Nat) (acc:Aj),n0<=n->((x,NameKind.cell)∈l\/∀ c,acc.lookup x=some c->n0<=c)->(cellsFrom n l acc).lookup x=some c->n0<=c
 | [],n,acc,_,h,e=>by
  rcases h with h | h
  ·cases h
  ·exact h c e
 | (z,k)::r,n,acc,hn,h,e=>by
  unfold cellsFrom at e;by_cases hk:(k==NameKind.cell)=true
  ·rw[ao hk] at e;refine jPM r (n+1) _ Aa ?_ e;by_cases ez:x=z
   ·subst ez;refine .inr fun c' h'=>?_;rw[aX,eU] at h';cases h';exact hn
   ·rcases h with h | h
    ·rcases aG.mp h with q | q
     ·cases q; exact absurd rfl ez
     ·exact .inl q
    ·refine .inr fun c' h'=>?_;rw[aX,b7.mpr ez] at h';exact h c' h'
  ·rw[am hk] at e;refine jPM r n acc hn ?_ e;rcases h with h | h
   ·rcases aG.mp h with q | q
    ·cases q; exact absurd rfl hk
    ·exact .inl q
   ·exact .inr h
theorem jJJ {x:Str} :∀ (l:List (Str×NameKind)) (n:Nat) (acc:Aj),(x,NameKind.cell)∉l->(cellsFrom n l acc).lookup x=acc.lookup x
 | [],_,_,_=>rfl
 | (z,k)::r,n,acc,h=>by
  unfold cellsFrom;by_cases hk:(k==NameKind.cell)=true
  ·have ek:k= .cell:=eq_of_beq hk;subst ek;have ne:x≠z:=fun e=>h (by rw[e]; exact az);rw[ao hk,jJJ r (n+1) _ (fun q=>h (aB _ q)),aX,b7.mpr ne]
  ·rw[am hk,jJJ r n _ (fun q=>h (aB _ q))]
theorem jJK:∀ (l:List (Str×NameKind)) (h:Heap) (acc:Aj),(∀ x c,acc.lookup x=some c->∃ v,h.IsCell c v)->∀ x c,(cellsFrom h.objs.size l acc).lookup x=some c->∃ v,(pushCells h l).IsCell c v
 | [],h,acc,k=>k
 | (z,k)::r,h,acc,hc=>by
  unfold cellsFrom pushCells;by_cases hk:(k==NameKind.cell)=true
  ·rw[ao hk,ao hk];have e:(h.push { cls:= .type "cell",data:= .cell none}).objs.size=h.objs.size+1:=cA _ _;rw[<- e];refine jJK r _ _ (fun x c q=>?_);rw[aX] at q;cases ez:x==z with
   | true=>rw[ez] at q; cases q; exact⟨none,⟨_,ax _ rfl,rfl⟩⟩
   | false=>
    rw[ez] at q;obtain⟨v,o,ho,hd⟩:=hc x c q;exact⟨v,o,af _ ho,hd⟩
  ·rw[am hk,am hk];exact jJK r h acc hc
theorem jE7 {env:Env}{x:Str}{k:NameKind}(hk:k= .cell\/k= .free):∀ {l:List (Str×NameKind)},
  (l.map fun (n,k)=>if (k==NameKind.free&&env.scope.kind== .function&&env.kindOf n==some .cell) then (n,NameKind.cell) else (n,k)).lookup x=some k->(x,NameKind.cell)∈l\/(x,NameKind.free)∈l
 | [],h=>by simp at h
 | (n,k')::r,h=>by
  have ih:= @jE7 env x k hk r;have up:(x,NameKind.cell)∈r\/(x,NameKind.free)∈r->(x,NameKind.cell)∈(n,k')::r\/(x,NameKind.free)∈(n,k')::r:=fun q=>q.imp (aB _) (aB _);rw[bv] at h;dsimp only at h;by_cases hb:(k'==NameKind.free&&env.scope.kind== .function&&env.kindOf n==some .cell)=true
  ·rw[ao hb,aX] at h;cases hx:x==n with
   | true=>
    have:k'= .free:=by
     simp only [bG] at hb;exact eq_of_beq hb.1.1
    rw[this,eq_of_beq hx];exact .inr az
   | false=>rw[hx] at h; exact up (ih h)
  ·rw[am hb,aX] at h;cases hx:x==n with
   | true=>
    rw[hx] at h;have e:k'=k:=bq h;rw[eq_of_beq hx,e];rcases hk with q | q
    ·rw[q]; exact .inl az
    ·rw[q]; exact .inr az
   | false=>rw[hx] at h; exact up (ih h)
theorem jIZ {M:Model}{A:Around}{E:Ah}{s:Shared}{scope:Scope}{globals:Addr}{closure:Aj}{qual:Str}{func:Option Addr}{code:Value}{Ap:Env}{builtins:Addr}{Q:Env->Shared->Prop}
  (hQ:Q (newEnv scope s.heap.objs.size globals (cellsFrom (s.heap.objs.size+1) scope.names closure) qual func code (some Ap) builtins) { s with heap:=pushCells (s.heap.push { cls:= .type "dict",data:= .dict #[]}) scope.names}):
  wpAny M A (newFunctionEnv scope globals closure [] qual func code (some Ap) builtins) Q E s:=by
 simp only [newFunctionEnv,ju,gc];refine ae (wpAny_alloc ?_);refine ae (wpAny_layCells _ (fun name kind cells=>by cases hkc:kind==NameKind.cell <;> simp [hkc]) _ _ _ _ ?_);rw[show ({ s with heap:=s.heap.push { cls:= .type "dict",data:= .dict #[]}} :Shared).heap.objs.size=s.heap.objs.size+1 from cA ..]
 first
  | exact ah hQ
  | exact ae (ah (ah hQ))
  | (rw[List.forIn_nil]; exact ae (ah (ah hQ)))
def blkC (X:Cx)(sc:Scope)(cl:Aj)(C:Addr)(Nc:Am)(fp:List Addr)(s:Shared)(H:Hp):Cx where
 prog:=X.prog
 w:=X.w
 K:=X.K
 mg:=X.mg
 Aq:=X.Aq
 A:=X.A
 N:=Nc
 s₀:=s
 H₀:=H
 env:=compEnvC sc cl C X.env
 Ap:=X.stack
 stack:=X.stack
 ex:=fp
 fn:=fun x=>sc.names.lookup x==some .cell
 calm:=X.calm
 pn:=[]
 xe:=fun _ _=>False
section
variable {tg iter elt:Expr}{ifs:List Expr}{wi:TI}
theorem jM9 {kh:Ai}{s:Shared}{σ:St}{H:Hp}{fp:List Addr}(I:Inv X kh σ H s)(hkind:sc.kind= .function)(hdis:∀ x,sc.names.lookup x=some .free->(x,NameKind.cell)∉sc.names)
  (hfree:∀ y∈sc.names,y.2= .free->X.env.scope.names.lookup y.1=some .cell\/X.env.scope.names.lookup y.1=some .free) (hm:qK X sc Nc m) (hfp:∀ b∈fp,FpOk X kh H b) (hlt:∀ b∈fp,b<s.heap.objs.size):
  Inv (blkC X sc (cellsFrom (s.heap.objs.size+1) sc.names (jS X.env.cells sc.names [])) s.heap.objs.size Nc fp s H) [] (blkσ m σ) H { s with heap:=pushCells (s.heap.push { cls:= .type "dict",data:= .dict #[]}) sc.names} :=by
 have hcl:∀ y∈sc.names,y.2= .free->∃ c,X.env.cells.lookup y.1=some c:=fun y hy hf=>I.ok.has y.1 (hfree y hy hf);have sub:∀ x c,(jS X.env.cells sc.names []).lookup x=some c->X.env.cells.lookup x=some c:=jAA sc.names [] hcl (fun x c e=>by cases e);have clt:∀ x c,(jS X.env.cells sc.names []).lookup x=some c->c<s.heap.objs.size:=fun x c e=>by
  obtain⟨v,o,ho,_⟩:=I.cell x c (sub x c e);exact aC ho
 have way:∀ x c,(cellsFrom (s.heap.objs.size+1) sc.names (jS X.env.cells sc.names [])).lookup x=some c->(jS X.env.cells sc.names []).lookup x=some c\/s.heap.objs.size+1<=c:=fun x c e=>(jPL _ _ _ e).imp id fun q=>q.1;have old:∀ b o,s.heap.get? b=some o->(pushCells (s.heap.push { cls:= .type "dict",data:= .dict #[]}) sc.names).get? b=some o:=fun b o e=>iW _ _ b o (af _ e);have hns:(pushCells (s.heap.push { cls:= .type "dict",data:= .dict #[]}) sc.names).Ns s.heap.objs.size (fun _=>none):=(Heap.Ns.new s.heap (.type "dict")).keeps (iW _ _);refine⟨⟨I.ok.mod,hkind,I.ok.glob,I.ok.blt,ak _,jPN _ _ _ (fun x y c h1 h2=>I.ok.inj x y c (sub x c h1) (sub y c h2)) (fun x c e=>bY (clt x c e)),fun x hx=>?_,fun x c hf e=>?_,I.ok.hd,I.ok.frames, .inl rfl,fun b hb=>?_,I.bs,be I.ok.bsz I.sz,fun b o e hb=>?_,fun b hb hz=>?_,I.stack,I.stkFree⟩,
  rfl,I.bare,Un.kept old,⟨_,hns,fun k x v e1 e2 e3=>?_⟩,fun x c e=>?_,I.hok.fresh (ak _),fun x c e=>?_,fun p hp=>absurd (show p∈([]:Ai) from hp) Ad,I.hok.kept old,?_⟩
 ·have q:(x,NameKind.cell)∈sc.names\/(x,NameKind.free)∈sc.names:=by
   rcases hx with h | h
   ·exact jE7 (.inl rfl) h
   ·exact jE7 (.inr rfl) h
  exact jPO _ _ _ (q.imp id fun q=>jAB sc.names [] (.inl q))
 ·have hf:(sc.names.lookup x==some NameKind.cell)=true:=hf;have:=jPM (n0:=s.heap.objs.size+1) _ _ _ (ak _) (.inl (jA4 (eq_of_beq hf))) e;exact Nat.le_of_succ_le this
 ·obtain⟨f0,f1,f2,f3,f4,f5⟩:=hfp b hb;refine⟨aU (hlt b hb),fun x c e=>?_⟩;rcases way x c e with q | q
  ·exact f4 x c (sub x c q)
  ·exact di (bg (hlt b hb) (Nat.le_of_succ_le q))
 ·obtain⟨f0,f1,f2,f3,f4,f5⟩:=hfp b hb;rcases f3 with q | q
  ·exact I.ok.noex b o e q
  ·exact absurd (bg (aC (I.ok.bs b o e).1) q) (cj _)
 ·obtain⟨f0,f1,f2,f3,f4,f5⟩:=hfp b hb;rcases aG.mp (I.stkSub b hz) with q | q
  ·exact f1 q
  ·exact f2 q
 ·have e2':∃ i,m[k]?=some (some i)/\σ[i]?=some (some v):=by
   unfold blkσ at e2;rw[aL] at e2;cases q:m[k]? with
   | none=>rw[q] at e2; cases e2
   | some o=>
    rw[q] at e2;cases o with
    | none=>cases e2
    | some i=>
     refine⟨i,rfl,?_⟩;have e2:(σ[i]?).getD none=some v:=bq e2;cases r:σ[i]? with
     | none=>rw[r] at e2; cases e2
     | some z=>rw[r] at e2; exact bL some e2
  obtain⟨i,q1,q2⟩:=e2';obtain⟨x',a1,a2,a3⟩:=hm.2 k i q1;have e1':Nc[k]?=some x:=e1;rw[e1'] at a1;cases a1;have vis:=hfree (x, .free) (jA4 a3) rfl;obtain⟨m0,hn0,hl0⟩:=I.loc;obtain⟨u,r,l⟩:=hl0 i x v a2 q2 (.inr vis);refine⟨u,r, .inr ⟨jA9 a3,?_⟩⟩;obtain⟨c,hc⟩:=jAB (cells:=X.env.cells) (x:=x) sc.names [] (.inl (jA4 a3));rcases l with ⟨lk,_⟩ | ⟨_,c',hc',o,ho,hd⟩
  ·have lk':X.env.scope.names.lookup x=some .local:=lk;rcases vis with z | z
   ·rw[lk'] at z; cases z
   ·rw[lk'] at z; cases z
  ·have:=sub x c hc;rw[hc'] at this;cases this;exact⟨c,(jJJ _ _ _ (hdis x a3)).trans hc,o,old _ _ ho,hd⟩
 ·have e':(cellsFrom (s.heap.push { cls:= .type "dict",data:= .dict #[]}).objs.size sc.names (jS X.env.cells sc.names [])).lookup x=some c:=by
   rw[show (s.heap.push { cls:= .type "dict",data:= .dict #[]}).objs.size=s.heap.objs.size+1 from cA _ _];exact e
  refine jJK _ _ _ (fun x c q=>?_) x c e';obtain⟨v,o,ho,hd⟩:=I.cell x c (sub x c q);exact⟨v,o,af _ ho,hd⟩
 ·rcases way x c e with q | q
  ·exact I.freeC x c (sub x c q)
  ·exact I.hok.fresh Aa
 ·show (blkσ m σ).length=Nc.length;unfold blkσ;rw[ab];exact hm.1
theorem jQQ (hc:X.calm=true)(hi:PI X tg iter wi)(hkind:sc.kind= .function)(hdis:∀ x,sc.names.lookup x=some .free->(x,NameKind.cell)∉sc.names)(hnames:∀ y∈sc.names,y.2= .local->sc.names.lookup y.1=some .local)
  (hfree:∀ y∈sc.names,y.2= .free->X.env.scope.names.lookup y.1=some .cell\/X.env.scope.names.lookup y.1=some .free) (hm:qK X sc Nc m)
  (hg:∀ cl C fp s H,PG (blkC X sc cl C Nc fp s H) tg g) (ht:∀ cl C fp s H,PTs (blkC X sc cl C Nc fp s H) ifs tt) (he:∀ cl C fp s H,PE (blkC X sc cl C Nc fp s H) elt te)
  (hs:∀ x,foldedSetIterable iter X.env x=pure x:=by intro _; rfl):PE X (.ListComp elt [⟨tg,iter,ifs,0⟩] sc pos) (tComp m wi g tt te):=by
 intro kh s σ H Q I h;rw[eval_ListComp];have hcl:∀ y∈sc.names,y.2= .free->∃ c,X.env.cells.lookup y.1=some c:=fun y hy hf=>I.ok.has y.1 (hfree y hy hf);refine iq (use:=none) rfl hs (jH1 hcl) hkind hnames (kn (hi kh s σ H _ I h) fun v s1 h1=>kn h1 fun itv s2 h2=>?_);obtain⟨it,fp,tn,J,H2,e,I2,T,st2,f2,hQ⟩:=h2;subst e;have hlt:∀ b∈fp,b<s2.heap.objs.size:=fun b hb=>by
  obtain⟨o,e,_⟩:=T.obj 0 _ st2 b hb;exact aC e
 refine cf (jIZ ?_);have I3:Inv X kh σ (upd H2 s2.heap.objs.size (.lst [])) { s2 with heap:=s2.heap.push { cls:= .type "list",data:= .seq ([]:Al).toArray}} :=I2.lnew (t':=s2.toks) .nil (bu _);obtain⟨W,⟨n0,w0⟩,turn⟩:=hQ s2.heap.objs.size I2.fresh;have hD3:∀ b∈fp,b≠s2.heap.objs.size:=fun b hb=>aU (hlt b hb);have f3:∀ b∈fp,FpOk X kh (upd H2 s2.heap.objs.size (.lst [])) b:=fun b hb=>by
  obtain⟨a0,a1⟩:=f2 b hb;exact⟨by rw[jA (hD3 b hb)]; exact a0,a1⟩
 generalize hE:({ s2 with heap:=s2.heap.push { cls:= .type "list",data:= .seq ([]:Al).toArray}} :Shared)=s3 at I3 ⊢;generalize hH3:upd H2 s2.heap.objs.size (.lst [])=H3 at I3 f3 w0;have hsz3:s3.heap.objs.size=s2.heap.objs.size+1:=by rw[<- hE]; exact cA _ _
 have I4:=jM9 (fp:=fp) I3 hkind hdis hfree hm f3 (fun b hb=>show b<s3.heap.objs.size by rw[hsz3]; exact bY (hlt b hb));have old:∀ b o,s3.heap.get? b=some o->(pushCells (s3.heap.push { cls:= .type "dict",data:= .dict #[]}) sc.names).get? b=some o:=fun b o e=>iW _ _ b o (af _ e);have old2:∀ b o,s2.heap.get? b=some o->(pushCells (s3.heap.push { cls:= .type "dict",data:= .dict #[]}) sc.names).get? b=some o:=fun b o e=>old b o (by rw[<- hE]; exact af _ e);have st4:tn 0 (pushCells (s3.heap.push { cls:= .type "dict",data:= .dict #[]}) sc.names):=T.keep _ _ _ st2 fun b hb o e=>old2 b o e;clear old old2;generalize hcs:cellsFrom (s3.heap.objs.size+1) sc.names (jS X.env.cells sc.names [])=cs at I4 ⊢;generalize hh1:pushCells (s3.heap.push { cls:= .type "dict",data:= .dict #[]}) sc.names=h₁ at I4 st4 ⊢;have loop:codeAny (model X.prog X.w) X.A (.compLoop (.ListComp elt [⟨tg,iter,ifs,0⟩] sc pos) 0 (.ref it) (.ref s2.heap.objs.size) (compEnvC sc cs s3.heap.objs.size X.env))
   (compPost (model X.prog X.w) X.A X.xe none (EP X kh σ Q) (.ref s2.heap.objs.size) s3.heap.objs.size) { s3 with heap:=h₁} :=by
  generalize hX:blkC X sc cs s3.heap.objs.size Nc fp s3 H3=Xb at I4;have eP:Xb.prog=X.prog:=by rw[<- hX]; rfl
  have ew:Xb.w=X.w:=by rw[<- hX]; rfl
  have eK:Xb.K=X.K:=by rw[<- hX]; rfl
  have eA:Xb.A=X.A:=by rw[<- hX]; rfl
  have ec:Xb.calm=true:=by rw[<- hX]; exact hc
  have ee:Xb.env=compEnvC sc cs s3.heap.objs.size X.env:=by rw[<- hX]; rfl
  have ex:Xb.xe=fun _ _=>False:=by rw[<- hX]; rfl
  have hgb:PG Xb tg g:=by rw[<- hX]; exact hg _ _ _ _ _
  have htb:PTs Xb ifs tt:=by rw[<- hX]; exact ht _ _ _ _ _
  have heb:PE Xb elt te:=by rw[<- hX]; exact he _ _ _ _ _
  have stat:∀ {H':Hp},(∀ b∈fp,H' b=none)->∀ b∈fp,FpOk Xb [] H' b:=fun {H'} hn b hb=>by
   obtain⟨o,eo,_⟩:=T.obj _ _ st4 b hb;have q:=I4.ok.exf b (by rw[<- hX]; exact hb);exact⟨hn b hb,q.1,I4.ok.exfs b (by rw[<- hX]; exact hb), .inl (by rw[<- hX]; exact hb),q.2,fun p hp=>absurd hp (by rw[<- hX]; simp [blkC])⟩
  have fr4:∀ b∈fp,H3 b=none:=fun b hb=>(f3 b hb).1;unfold PG at hgb;unfold PTs at htb;unfold PE at heb;rw[eP,ew,eA,ee,ex] at hgb htb heb;refine jFQ (fun n z=>∃ i σ' H' ys,Inv Xb [] σ' H' z/\tn i z.heap/\(∀ b∈fp,H' b=none)/\W i n σ' H' ys) ?_ n0 ⟨0,_,H3,[],I4,st4,fr4,w0⟩;rintro n z ⟨i,σ5,H5,ys,I5,st5,fr5,w5⟩;obtain⟨hD,hlen,way⟩:=turn i n σ5 H5 ys w5;rcases way with ⟨stop,q⟩ | ⟨go,N,hN,step⟩
  ·have R:=T.done Xb eP ew eK ec i [] z σ5 H5 (fun _ _=>False) I5 (stat fr5) st5 stop;rw[eA] at R;refine kn R fun r z1 ⟨hr,I6⟩=>?_;subst hr;obtain⟨mm,hn6,_⟩:=I6.loc;rw[ee] at hn6;refine⟨mm,hn6,fun h' sb=>?_⟩;have u6:Un (frs X.stack) fp H3 H5 s3.heap z1.heap:=by
    have:=I6.Aq;rw[<- hX] at this;exact this
   have fC:H5 s3.heap.objs.size=none:=by
    have:=I6.free;rw[ee] at this;exact this
   have hok6:HOk X.prog X.w H5 z1.heap:=by
    have:=I6.hok;rw[eP,ew] at this;exact this
   have os6:z1.os=s3.os:=by
    have:=I6.os;rw[<- hX] at this;exact this
   refine⟨.ref s2.heap.objs.size,H5,I3.call' (s':= { z1 with heap:=h'}) (ch:=fp) os6 (u6.sameBut sb (ak _)) (hok6.sameBut sb fC) I6.bare (fun b hb=>?_),rfl,q⟩;obtain⟨a0,a1,a2,a3,a4,a5⟩:=f3 b hb;exact⟨a3,a1,a4,a5⟩
  ·have R:=T.item Xb eP ew eK ec i [] z σ5 H5 (fun _ _=>False) I5 (stat fr5) st5 go;rw[eA] at R;refine kn R fun r z1 ⟨u,hr,h6⟩=>?_;subst hr;refine kn h6 fun _ z2 ⟨x,H7,I7,r7,y7,st7,fr7⟩=>?_;have I7':=I7.pinned (stat fr7) (T.obj _ _ st7);refine kn (hgb _ z2 σ5 H7 x u _ I7' r7 (step x H7 y7)) fun _ z3 ⟨σ8,H8,I8,q8⟩=>?_;refine kn (htb _ z3 σ8 H8 _ I8 q8) fun ok z4 ⟨H9,I9,q9⟩=>?_;have again:∀ {σ7:St}{Hz:Hp}{zz:Shared}{yy:List V}{n':Nat},Inv Xb ([]++jFH fp z2.heap) σ7 Hz zz->n'<n->W (i+1) n' σ7 Hz yy->∃ k,k<n/\∃ i σ' H' ys,Inv Xb [] σ' H' zz/\tn i zz.heap/\(∀ b∈fp,H' b=none)/\W i k σ' H' ys:=fun {σ7 Hz zz yy n'} Iz hn wz=>by
    refine⟨n',hn,i+1,σ7,Hz,yy,Iz.unpinned,T.keep _ _ _ st7 fun b hb o e=>(Iz.pin (b,o) (aO _ (aO _ (jAH hb e)))).1,fun b hb=>?_,wz⟩;obtain⟨o,e,d⟩:=T.obj _ _ st7 b hb;exact(Iz.pin (b,o) (aO _ (aO _ (jAH hb e)))).2.1
   cases ok with
   | false=>
    obtain⟨n',hn,w9⟩:=hN _ _ _ (show N σ8 H9 ys from q9);exact again I9 hn w9
   | true=>
    refine kn (heb _ z4 σ8 H9 _ I9 q9) fun xv z5 ⟨vv,H10,I10,r10,hD10,n10⟩=>?_;obtain⟨n',hn,w10⟩:=hN _ _ _ n10;have R:=jCM (X:=Xb) _ z5 σ8 H10 (.ref s2.heap.objs.size) [vv] (.ref s2.heap.objs.size) [xv] (fun _ H'=>H'=upd H10 s2.heap.objs.size (.lst (ys++[vv]))) I10 rfl (.cons r10 .nil) ⟨_,ys,vv,rfl,rfl,hD10,hlen,rfl⟩;rw[eP,ew,eA,ex] at R;refine kn R fun _ z6 ⟨_,H11,I11,_,e11⟩=>?_;subst e11;exact again I11 hn w10
 exact codeAny_compStart_list loop (T.self _ 0 _ _ _ st4 loop)
theorem jXV (h:(sc.names.all fun y=>decide (y.2= .cell->sc.names.lookup y.1=some .cell))=true):∀ x,sc.names.lookup x=some .free->(x,NameKind.cell)∉sc.names:=fun x hx hm=>by
 have:=aE (bC.mp h _ hm) rfl;rw[hx] at this;cases this
theorem jRO (hc:X.calm=true)(hi:JI X tg iter wi)(hkind:sc.kind= .function)(hdis:(sc.names.all fun y=>decide (y.2= .cell->sc.names.lookup y.1=some .cell))=true)(hnames:∀ y∈sc.names,y.2= .local->sc.names.lookup y.1=some .local)
  (hfree:∀ y∈sc.names,y.2= .free->X.env.scope.names.lookup y.1=some .cell\/X.env.scope.names.lookup y.1=some .free) (hm:qK X sc Nc m)
  (hg:∀ cl C fp s H,JG (blkC X sc cl C Nc fp s H) tg g) (ht:∀ cl C fp s H,JTs (blkC X sc cl C Nc fp s H) ifs tt) (he:∀ cl C fp s H,JE (blkC X sc cl C Nc fp s H) elt te)
  (hs:FoOk iter):JE X (.ListComp elt [⟨tg,iter,ifs,0⟩] sc pos) (tComp m wi g tt te):=⟨jQQ hc hi.h hkind (jXV hdis) hnames hfree hm (fun cl C fp s H=>(hg cl C fp s H).h) (fun cl C fp s H=>(ht cl C fp s H).h) (fun cl C fp s H=>(he cl C fp s H).h) (hs.h _)⟩
end
section
theorem gl_bC (h:sc.names.lookup x=some .globalImplicit):Gl1 (blkC X sc cl C Nc fp s H) x:=⟨jA2 Ac h⟩
theorem jTH (h:sc.names.lookup x=some .free):Vis1 (blkC X sc cl C Nc fp s H) x:=⟨.inr (jA9 h)⟩
theorem jV4 (h:sc.names.lookup x=some .cell):Loc1 (blkC X sc cl C Nc fp s H) x:=⟨.inr (jA2 Ac h), .inl (by show (sc.names.lookup x==some NameKind.cell)=true; rw[h]; rfl)⟩
theorem jRX {sc2:Scope}(h:(sc2.names.all fun y=>decide (y.2= .free->sc.names.lookup y.1=some .cell\/sc.names.lookup y.1=some .free))=true):
  ∀ y∈sc2.names,y.2= .free->(blkC X sc cl C Nc fp s H).env.scope.names.lookup y.1=some .cell\/(blkC X sc cl C Nc fp s H).env.scope.names.lookup y.1=some .free:=fun y hy hf=>by
 rcases aE (bC.mp h y hy) hf with q | q
 ·exact .inl (jA2 Ac q)
 ·exact jA9 q
theorem jLZ {tg a:Expr}{ta:TE}(hl:JE (blkC X sc cl C Nc fp s H) a ta):JI (blkC X sc cl C Nc fp s H) tg a (iList X.K ta):=y6 hl
variable {sc2:Scope}{cl2:Aj}{C2:Addr}{Nc2:Am}{fp2:List Addr}{s2:Shared}{H2:Hp}
theorem jQS:OpR (blk (blkC X sc cl C Nc fp s H) sc2 cl2 C2 Nc2 fp2 s2 H2) (compareOp .In) (rIn X.K false):=jBH
end
def jQD:V->List V->Hp->VK->Prop:=fun x vs H Q=>∃ l b xs zs,x= .ref l/\vs=[.ref b]/\H l=some (.lst xs)/\H b=some (.tup zs)/\xs.length+zs.length<=sizeLine/\Q .non (upd H l (.lst (xs++zs)))
theorem jFL:MtM X "list.extend" jQD:=by
 intro kh s σ H x vs v us Q I rx rv h;obtain⟨l,b,xs,zs,rfl,rfl,hH,hB,hz,q⟩:=h;cases rx;obtain⟨u,rfl,ru⟩:=rv.one;cases ru;obtain⟨z,its,n,r,hl,e⟩:=I.lstM hH;obtain⟨_,its2,r2,n2,e2⟩:=I.hok b _ hB;have hl2:=r2.length;have hsz:its.toArray.size+its2.toArray.size<=sizeLine:=by rw[ar,ar]; lia
 have hlong:¬ (!its.toArray.isEmpty&&Builtin.List.listTooLong (its.toArray.size+its2.toArray.size))=true:=by
  rw[jR5 hsz,cC];exact aj
 refine gA F.slot_list_extend ⟨_,e,rfl⟩ F.entry_list_extend (F.args_list_extend_2 _ _)
  (AutoSeq1.list_extend_list_tuple_0 l its.toArray n b its2.toArray n2 hlong (by rw[ar]; lia) Aa) ⟨e,e2,?_⟩
 refine⟨.non,_,I.lset (its':=its++its2) hH e Ad (r.append r2) ?_,rfl,q⟩;rw[aF];lia
def jTS:V->List V->Hp->VK->Prop:=fun x vs H Q=>∃ p xs y,x= .ref p/\vs=[y]/\H p=some (.lst xs)/\xE y=true/\xs.all xE=true/\Q (.int ((xs.countP fun z=>eqV z y:Nat):Int)) H
theorem jHS:MtM X "list.count" jTS:=by
 intro kh s σ H x vs v us Q I rx rv h;obtain⟨p,xs,y,rfl,rfl,hp,fy,fs,q⟩:=h;cases rx;obtain⟨u,rfl,ru⟩:=rv.one;obtain⟨z,its,n,r,hl,e0⟩:=I.lstM hp;refine gA F.slot_list_count ⟨_,e0,rfl⟩ F.entry_list_count (F.args_list_count_2 _ _) (SeqAt.list_countAt p its.toArray n none #[] u (eqU y)) ⟨e0,fun w hw=>jBU ru fy r fs w (by simpa using hw),?_⟩;refine⟨.int _,H,I.tok _,⟨s.toks,rfl⟩,?_⟩;rw[show its.toArray.toList.countP (eqU y)=xs.countP (fun z=>eqV z y) from jFP r fs];exact q
def rAny (K:W.Frag):List V->Hp->VK->Prop:=fun xs H Q=>∃ (p:Addr) (bs:List Bool),xs=[.ref p]/\SqL K H p (bs.map V.bl)/\Q (.bl (bs.any id)) H
theorem jIB (hc:X.calm=true):yJ X (.builtin "any") (rAny X.K):=by
 intro kh s σ H xs us Q I r h;obtain⟨p,bs,rfl,hq,q⟩:=h;obtain⟨u,rfl,rx⟩:=r.one;cases rx;obtain⟨its,r',pl,hz⟩:=I.list hq;have hlen:=r'.length;rw[ab] at hlen;refine call_any_walk (cV pl.isList ?_);have hne:p≠s.heap.objs.size:=by
  obtain⟨o,ho,_⟩:=pl.isList;exact aU (aC ho)
 refine⟨s.heap.objs.size,_,_,_,_,_,fun i=>bs.getD i true,rfl,g0 (by simpa using I.ok.hd hc) _ p hne its.toArray,⟨⟨_,ax _ rfl,rfl,rfl⟩,pl.isList.push _⟩,fun i v z Q' E' hP hQ'=>?_,fun h' tk hk=>?_⟩
 ·have hi:its[i]?=some v:=by simpa using hP
  have hb:i<bs.length:=by
   rw[hlen];exact(ai.mp hi).1
  obtain⟨u,hu,ru⟩:=r'.get (i:=i) (x:= .bl (bs[i])) (by simp [hb]);rw[hi] at hu;cases hu;cases ru;have e:bs.getD i true=bs[i]:=by simp [List.getD,hb]
  have hQ2:Q' (bs.getD i true) z:=hQ';rw[e] at hQ2;exact ah hQ2
 ·have e:(List.range its.toArray.size).any (fun i=>bs.getD i true)=bs.any id:=by
   rw[ar,<- hlen];rw[bP,dF,dF];constructor
   ·rintro ⟨i,hi,hb⟩;have hi:=bo.mp hi;exact⟨bs[i],cm hi,by simpa [List.getD,hi] using hb⟩
   ·rintro ⟨b,hb,hq⟩;obtain⟨i,hi,rfl⟩:=dX hb;exact⟨i,bo.mpr hi,by simpa [List.getD,hi] using hq⟩
  rw[e];exact⟨.bl _,H,I.kept (t':=tk) fun b o e=>hk b o (by
   intro z;have z:b=s.heap.objs.size:=by simpa using z
   exact absurd (aC e) (by rw[z]; exact cj _)) (af _ e),rfl,q⟩
theorem jI9:yJ X (.builtin "sorted") (fun xs H Q=>∃ (p:Addr) (ks:Ag),xs=[.ref p]/\SqL X.K H p (ks.map V.int)/\ks.length<64/\
  ∀ (l:Addr) (ns:Ag),H l=none->ns.Pairwise (· <= ·)->ns.Perm ks->Q (.ref l) (upd H l (.lst (ns.map V.int)))):=by
 intro kh s σ H xs us Q I r h;obtain⟨p,ks,rfl,hp,hn,q⟩:=h;obtain⟨u,rfl,rx⟩:=r.one;cases rx;obtain⟨its,r',pl,hz⟩:=I.list hp;have hlen:=r'.length;rw[ab] at hlen;refine sorted_ints pl.isList (jAL r') Aa fun out ns' a1 a2 a3=>?_;obtain⟨e,he⟩:=sortedAll_at s.heap its out;have hz:(ns'.map V.int).length<=sizeLine:=by
  rw[ab,a2.length_eq,dD];lia
 have I2:Inv X kh σ (upd H (s.heap.objs.size+1) (.lst (ns'.map V.int))) { s with heap:=sortedAll s.heap its out} :=I.laid (t':=s.toks) (fun b o e=>sortedAll_old e) (dE _) ⟨hz,out.toList,e,jAE a1,by rw[cD]; exact he⟩;exact⟨.ref _,_,I2,rfl,q _ ns' (I.hok.fresh (dE _)) a3 a2⟩
theorem jKT {c:Expr}{body:List Stmt}{tc:TT}{tb:TS}{pos:Pos}(hp:PassesOwn (model X.prog X.w) X.A X.env X.xe)(hc:JT X c tc)(hb:JSs X body tb):JS X (.While c body [] pos) (jSN tc tb):=⟨jQE hp hc.h hb.h⟩
theorem jHQ {op:CmpOp}{a b:Expr}{pos:Pos} :behindInMarks op (.Subscript a b pos)=false:=by cases op <;> rfl
theorem jOP {o e:Expr}{es:List Expr}{to:TE}{t:TA}{cpos apos:Pos}{id:String}{T:String}{name:Str}{r}(pa:PlainAttrs T)(slot:Slot T name id)(hty:typeOf (.builtin id)=pure (.type "method_descriptor"))(hm:MtR (blk X sc cl C Nc fp s H) id r)(ho:JE (blk X sc cl C Nc fp s H) o to)(ha:JA (blk X sc cl C Nc fp s H) (e::es) t)
  (hs:starEach (e::es) (blk X sc cl C Nc fp s H).env=(false,eval e (blk X sc cl C Nc fp s H).env)::starEach es (blk X sc cl C Nc fp s H).env)
  (hbase:attributeBase o name (blk X sc cl C Nc fp s H).env (eval o (blk X sc cl C Nc fp s H).env)=eval o (blk X sc cl C Nc fp s H).env:=by rfl)
  (hfew:((backTo cpos (starEach (e::es) (blk X sc cl C Nc fp s H).env)).all (fun x=>!x.1)&&(backToKw cpos (keywordEach [] (blk X sc cl C Nc fp s H).env)).all (fun x=>x.1.isSome)
   &&decide ((e::es).length+([]:List Keyword).length+(if ([]:List Keyword).isEmpty then 0 else 1)<30))=true:=by rfl)
  (hline:(apos.endLine==cpos.line)=true:=by rfl) (hplain:(backTo cpos (starEach es (blk X sc cl C Nc fp s H).env)).any (·.1)=false:=by rfl):
  JE (blk X sc cl C Nc fp s H) (.Call (.Attribute o name apos) (e::es) [] cpos) (tBM X.K T r to t):=je_bm pa slot hty hm ho ha hs hbase hfew hline hplain
end L2
namespace L2
open PySem
def LstR (H:Hp)(xs:List V)(Q:VK):Prop:=∀ r H',H' r=some (.lst xs)->Ext H H'->H r=none->Q (.ref r) H'
theorem LstR.new {H:Hp}{xs:List V}{Q:VK}(q:LstR H xs Q){p:Addr}(hp:H p=none):Q (.ref p) (upd H p (.lst xs)):=q p _ j6 ((Ext.refl H).new hp _) hp
def tTupU (t:TA):TE:=fun σ H Q=>t σ H fun xs H1=>xs.length<=sizeLine/\TupR H1 xs Q
def tLstU (t:TA):TE:=fun σ H Q=>t σ H fun xs H1=>xs.length<=sizeLine/\LstR H1 xs Q
section
variable {X:Cx}{es:List Expr}{t:TA}{pos:Pos}
theorem kP {x1}(h:JA X es t):JE X (.Tuple es x1 pos) (tTupU t):=⟨fun kh s σ H Q I hq=>by
 refine wpAny_Tuple_spliced (kn (h.h pos kh s σ H _ I hq) fun us s1 ⟨xs,H1,I1,r,z,q⟩=>⟨by rw[<- r.length]; exact z,?_⟩);have hf:H1 s1.heap.objs.size=none:=I1.hok.fresh (ak _);exact⟨.ref s1.heap.objs.size,upd H1 s1.heap.objs.size (.tup xs),I1.laid (t':=s1.toks) (fun b u e=>af _ e) (ak _) ⟨z,us,r,TupO.new _ _⟩,rfl,q.new hf⟩⟩
theorem jBK (h:JA X es t):JE X (.List es pos) (tLstU t):=⟨fun kh s σ H Q I hq=>by
 refine wpAny_List_spliced (kn (h.h pos kh s σ H _ I hq) fun us s1 ⟨xs,H1,I1,r,z,q⟩=>⟨by rw[<- r.length]; exact z,?_⟩);have hf:H1 s1.heap.objs.size=none:=I1.hok.fresh (ak _);exact⟨.ref s1.heap.objs.size,upd H1 s1.heap.objs.size (.lst xs),I1.laid (t':=s1.toks) (fun b u e=>af _ e) (ak _) ⟨z,us,0,r,ax _ rfl⟩,rfl,q.new hf⟩⟩
theorem jQU:OpR X (binaryOp .Add) (fun x y H Q=>∃ l b xs zs,x= .ref l/\y= .ref b/\H l=some (.lst xs)/\H b=some (.lst zs)/\xs.length+zs.length<=sizeLine/\LstR H (xs++zs) Q):=by
 intro kh s σ H x y v u Q I rx ry h;obtain⟨l,b,xs,zs,rfl,rfl,h1,h2,h3,q⟩:=h;exact jWV kh s σ H _ _ v u Q I rx ry ⟨l,b,xs,zs,rfl,rfl,h1,h2,h3,fun p hp=>q.new hp⟩
end
end L2
namespace L2
open PySem PySem.Spec PyProof.Rows
variable {X:Cx}
theorem jJF {prog:Program}{w:World}{A:Around}{E:Ah}{s:Shared}{l:Addr}{vs:Al}{n:Nat}{Q:Al->Shared->Prop}(ho:s.heap.get? l=some { cls:= .type "tuple",data:= .seq vs.toArray n})
  (h:Q vs { s with heap:=(s.heap.push (seqObj "list" #[] 0)).update s.heap.objs.size (Obj.mapSeq (· ++vs.toArray))}) (hsz:vs.length<=sizeLine):
  wpAny (model prog w) A (collect (.ref l)) Q E s:=by
 unfold collect;refine ae (gf (bW entry_proto_collect' ?_));show wpAny _ _ (do again (.builtin "list.__iadd__" ⟨[<- newList [], .ref l],[]⟩)) _ _ s;refine ae (fq (ah ⟨Code.quiet_builtin _ Ab,bW entry_list_iadd' ?_⟩));show wpAny _ _ (Builtin.List.listExtendWith (.ref s.heap.objs.size) (.ref l) (.ref s.heap.objs.size)) _ _ { s with heap:=s.heap.push (seqObj "list" #[] 0)};unfold Builtin.List.listExtendWith;have ho':(s.heap.push (seqObj "list" #[] 0)).get? l=some { cls:= .type "tuple",data:= .seq vs.toArray n} :=af _ ho;refine ae (gR (T:= "tuple") ⟨_,ho',rfl⟩ ?_);have ht:(Value.type "tuple" ==Value.type "tuple")=true:=by rfl
 rw[ao (by rw[ht,eW])];refine ae (listItems_at ho' rfl ?_);refine ae (listItems_at (xs:=#[]) (n:=0) (ax _ rfl) rfl ?_);rw[am Ad];refine ae (ir (xs:=#[]) (n:=0) (ax _ rfl) rfl ?_ (bu _) (by show (#[]++vs.toArray).size<=sizeLine+1; simp only [Array.size_append,ar,cH]; lia));refine ah ?_;show wpAny (model prog w) A (do
   let o <- load s.heap.objs.size
   match o.data with
   | .seq xs _=>pure xs.toList
   | _=>unsupported "internal:collect") Q E { s with heap:=(s.heap.push (seqObj "list" #[] 0)).update s.heap.objs.size (Obj.mapSeq (· ++vs.toArray))}
 refine ae (fH (get?_update_seq (ax _ rfl) _) ?_);show wpAny _ _ (pure ((#[]:An)++vs.toArray).toList) Q E _;rw[show ((#[]:An)++vs.toArray).toList=vs by simp];exact ah h
theorem jLJ {prog:Program}{w:World}{A:Around}{E:Ah}{s:Shared}{l:Addr}{vs:Al}{ns:Ag}{n:Nat}{Q:Ah}(ho:s.heap.get? l=some { cls:= .type "tuple",data:= .seq vs.toArray n})(hI:IntsAre vs ns)(h64:vs.length<64)
  (h:∀ (out:An) (ns':Ag),IntsAre out.toList ns'->ns'.Perm ns->ns'.Pairwise (· <= ·)->Q (.ref (s.heap.objs.size+1)) { s with heap:=sortedAll s.heap vs out}):
  wpAny (model prog w) A (call (.builtin "sorted") [.ref l]) Q E s:=by
 refine fb kind_sorted plain_sorted entry_sorted (args_sorted1 _) ?_;unfold Builtin.«sorted»;refine ae (m:=checkCount "sorted" 1 1 _) (ah ?_);refine ae (jJF ho ?_ (by rw[dD]; lia));refine ae (fq ?_ (by rw[dD]; lia));have hsz:((s.heap.push (seqObj "list" #[] 0)).update s.heap.objs.size (Obj.mapSeq (· ++vs.toArray))).objs.size=s.heap.objs.size+1:=by
  rw[Heap.size_update,size_push']
 have hoL:(((s.heap.push (seqObj "list" #[] 0)).update s.heap.objs.size (Obj.mapSeq (· ++vs.toArray))).push (seqObj "list" vs.toArray 0)).get? (s.heap.objs.size+1)=some (seqObj "list" vs.toArray 0):=by
  rw[<- hsz]; exact ax _ rfl
 show wpAny _ _ _ _ _ { s with heap:=((s.heap.push (seqObj "list" #[] 0)).update s.heap.objs.size (Obj.mapSeq (· ++vs.toArray))).push (seqObj "list" vs.toArray 0)};rw[hsz];refine ae (bS (cn g5 ⟨_,hoL,rfl⟩ gM (list_sort_tree hoL hI h64 fun out ns' a1 a2 a3=>⟨_,rfl,?_⟩) (args_list_sort _)));exact ah ⟨_,rfl,h out ns' a1 a2 a3⟩
theorem jAR:yJ X (.builtin "sorted") (fun xs H Q=>∃ (p:Addr) (ks:Ag),xs=[.ref p]/\H p=some (.tup (ks.map V.int))/\ks.length<64/\
  ∀ (l:Addr) (ns:Ag),H l=none->ns.Pairwise (· <= ·)->ns.Perm ks->Q (.ref l) (upd H l (.lst (ns.map V.int)))):=by
 intro kh s σ H xs us Q I r h;obtain⟨p,ks,rfl,hp,hn,q⟩:=h;obtain⟨u,rfl,rx⟩:=r.one;cases rx;obtain⟨_,its,r',n,e0⟩:=I.hok p _ hp;have hlen:=r'.length;rw[ab] at hlen;refine jLJ e0 (jAL r') Aa fun out ns' a1 a2 a3=>?_;obtain⟨e,he⟩:=sortedAll_at s.heap its out;have hz:(ns'.map V.int).length<=sizeLine:=by
  rw[ab,a2.length_eq,dD];lia
 have I2:Inv X kh σ (upd H (s.heap.objs.size+1) (.lst (ns'.map V.int))) { s with heap:=sortedAll s.heap its out} :=I.laid (t':=s.toks) (fun b o e=>sortedAll_old e) (dE _) ⟨hz,out.toList,e,jAE a1,by rw[cD]; exact he⟩;exact⟨.ref _,_,I2,rfl,q _ ns' (I.hok.fresh (dE _)) a3 a2⟩
theorem jE9 (ns:Ag):∀ j,preSum (fun i=>ns.getD i 0) j=(ns.take j).sum
 | 0=>rfl
 | j+1=>by
  rw[preSum,jE9 ns j,aV,List.sum_append];congr 1;rw[ag];cases ns[j]? with
  | none=>rfl
  | some z=>simp
section
def rSum (K:W.Frag):List V->Hp->VK->Prop:=fun xs H Q=>∃ (p:Addr) (ns:Ag),xs=[.ref p]/\(SqL K H p (ns.map V.int))/\Q (.int ns.sum) H
theorem jF0 (hc:X.calm=true):yJ X (.builtin "sum") (rSum X.K):=by
 intro kh s σ H xs us Q I r h;obtain⟨p,ns,rfl,hq,q⟩:=h;obtain⟨u,rfl,rx⟩:=r.one;cases rx;obtain⟨its,r',pl,hz⟩:=I.list hq;have hlen:=r'.length;rw[ab] at hlen;refine call_sum_walkG (cV pl.isList ?_);have hne:p≠s.heap.objs.size:=by
  obtain⟨o,ho,_⟩:=pl.isList;exact aU (aC ho)
 refine⟨s.heap.objs.size,_,_,_,_,_,fun i=>ns.getD i 0,rfl,g0 (by simpa using I.ok.hd hc) _ p hne its.toArray,⟨⟨_,ax _ rfl,rfl,rfl⟩,pl.isList.push _⟩,(fun b hb=>?_),(fun i v hP=>?_),fun h' tk t' hk=>?_⟩
 ·show b<(s.heap.push _).objs.size;rw[cA];obtain⟨o,ho,_⟩:=pl.isList;have:=aC ho;rcases aG.mp hb with rfl | hb
  ·exact d0 _
  ·rcases aG.mp hb with rfl | hb
   ·exact bY this
   ·cases hb
 ·have hi:its[i]?=some v:=by simpa using hP
  have hb:i<ns.length:=by
   rw[hlen];exact(ai.mp hi).1
  obtain⟨u,hu,ru⟩:=r'.get (i:=i) (x:= .int (ns[i])) (by simp [hb]);rw[hi] at hu;cases hu;obtain⟨t,rfl⟩:=ru;exact⟨t,by simp [List.getD,hb]⟩
 ·have e:preSum (fun i=>ns.getD i 0) its.toArray.size=ns.sum:=by
   rw[jE9,ar,<- hlen,aZ]
  rw[e];exact⟨.int _,H,I.kept (t':=tk) fun b o e=>hk b o (by
   intro z;have z:b=s.heap.objs.size:=by simpa using z
   exact absurd (aC e) (by rw[z]; exact cj _)) (af _ e),⟨_,rfl⟩,q⟩
variable {sc:Scope}{cl:Aj}{C:Addr}{Nc:Am}{fp:List Addr}{s:Shared}{H:Hp}
end
theorem jFS (a b:Nat):Builtin.bitAnd (a:Int) (b:Int)=((a&&&b:Nat):Int):=by
 unfold Builtin.bitAnd;rw[aq (fJ a),aq (fJ b)];rfl
theorem jCX (a b:Nat):Builtin.bitOr (a:Int) (b:Int)=((a|||b:Nat):Int):=by
 unfold Builtin.bitOr;have ha:Builtin.bitNot (a:Int)= -(a:Int) - 1:=by unfold Builtin.bitNot; lia
 have hb:Builtin.bitNot (b:Int)= -(b:Int) - 1:=by unfold Builtin.bitNot; lia
 have na:¬ (0<=Builtin.bitNot (a:Int)):=by rw[ha]; lia
 have nb:¬ (0<=Builtin.bitNot (b:Int)):=by rw[hb]; lia
 unfold Builtin.bitAnd;rw[aJ na,aJ nb];have ea:Builtin.bitNot (Builtin.bitNot (a:Int))=(a:Int):=by rw[ha]; unfold Builtin.bitNot; lia
 have eb:Builtin.bitNot (Builtin.bitNot (b:Int))=(b:Int):=by rw[hb]; unfold Builtin.bitNot; lia
 show Builtin.bitNot (Builtin.bitNot _)=_;rw[ea,eb];unfold Builtin.bitNot;simp;lia
def maskN (ts:Ag):Nat:=(ts.map fun t=>2 ^ t.toNat).sum
theorem jKN:∀ (ts:Ag) (lo:Nat),ts.Pairwise (· < ·)->(∀ t∈ts,(lo:Int)<=t)->maskN ts % 2 ^ lo=0
 | [],_,_,_=>by simp [maskN]
 | t::r,lo,hp,hl=>by
  have ih:=jKN r lo (cB.mp hp).2 fun x hx=>hl x (aB _ hx);have h0:=hl t (az ..);have e:maskN (t::r)=2 ^ t.toNat+maskN r:=by simp [maskN]
  have d:2 ^ t.toNat % 2 ^ lo=0:=Nat.mod_eq_zero_of_dvd (Nat.pow_dvd_pow 2 Aa);rw[e,Nat.add_mod,ih,d];simp
theorem jA6:∀ (ts:Ag) (n:Nat),ts.Pairwise (· < ·)->(∀ t∈ts,0<=t)->(maskN ts).testBit n=decide ((n:Int)∈ts)
 | [],n,_,_=>by simp [maskN]
 | t::r,n,hp,h0=>by
  obtain⟨h1,h2⟩:=cB.mp hp;have ih:=jA6 r n h2 fun x hx=>h0 x (aB _ hx);have ht:=h0 t (az ..);obtain⟨k,rfl⟩:∃ k:Nat,t=(k:Int):=⟨t.toNat,Aa⟩;have e:maskN ((k:Int)::r)=2 ^ k+maskN r:=by simp [maskN]
  have m0:maskN r % 2 ^ (k+1)=0:=jKN r (k+1) h2 fun x hx=>by have:=h1 x hx; lia
  obtain⟨c,hc⟩:∃ c,maskN r=2 ^ (k+1)*c:=(Nat.dvd_of_mod_eq_zero m0);have hor:2 ^ k+maskN r=maskN r|||2 ^ k:=by
   rw[hc,Nat.mul_comm,<- Nat.shiftLeft_eq,Nat.shiftLeft_add_eq_or_of_lt (b:=2 ^ k) (i:=k+1) (gH Ac Aa) c |>.symm,jy]
  rw[e,hor,bQ,ih,cK];by_cases hk:k=n
  ·subst hk;simp
  ·have:¬ ((n:Int)=(k:Int)):=by lia
   simp [hk,this]
end L2
namespace L2
open PySem
variable {X:Cx}
section
variable {tg iter elt:Expr}{ifs:List Expr}{sc:Scope}{pos:Pos}{wi:TI}{g:TG}{tt:TT}{te:TE}{m:List (Option Nat)}{Nc:Am}
theorem jS5 (hc:X.calm=true)(hi:PI X tg iter wi)(hkind:sc.kind= .function)(hcell:∀ y∈sc.names,y.2≠ .cell)(hnames:∀ y∈sc.names,y.2= .local->sc.names.lookup y.1=some .local)
  (hfree:∀ y∈sc.names,y.2= .free->X.env.scope.names.lookup y.1=some .cell\/X.env.scope.names.lookup y.1=some .free) (hm:qK X sc Nc m)
  (hg:∀ cl C fp s H,PG (blk X sc cl C Nc fp s H) tg g) (ht:∀ cl C fp s H,PTs (blk X sc cl C Nc fp s H) ifs tt) (he:∀ cl C fp s H,PE (blk X sc cl C Nc fp s H) elt te)
  (hs:∀ x,foldedSetIterable iter X.env x=pure x) {fpos:Pos}{use:Option (Value->Sem Unit)}{R:Ah}{kh:Ai}{s:Shared}{σ:St}{H:Hp}{Q:VK}(I:Inv X kh σ H s) (h:tComp m wi g tt te σ H Q)
  (fin:∀ (D C:Addr) (H5:Hp) (z1:Shared) (r:Flow),(∃ mm,z1.heap.Ns C mm)->FpOk X kh H5 C->(∀ h',Heap.SameBut C z1.heap h'->Inv X kh σ H5 { z1 with heap:=h'})->Q (.ref D) H5->compPost (model X.prog X.w) X.A X.xe use R (.ref D) C (.ok r) z1):
  wpAny (model X.prog X.w) X.A (comprehension (.ListComp elt [⟨tg,iter,ifs,0⟩] sc pos) sc X.env fpos (newList []) false (eval iter X.env) use) R X.xe s:=
 jH0 (tf:=fun _=>te) hc hi hkind hcell hnames hfree hm hg ht (fun cl C fp s H _ _ _ _=>he cl C fp s H) hs I h fin
theorem jTX {i:Nat}{x:Str}{pos' spos:Pos}(hN:X.N.Nodup)(hi':X.N[i]?=some x)(hx:Loc X.env.scope x)(hf:X.fn x=true\/X.env.scope.names.lookup x=some .local)(hsw:swapsWith (.ListComp elt [⟨tg,iter,ifs,0⟩] sc pos) (some (.Name x pos')) spos.line X.env=pure true)
  (hc:X.calm=true) (hi:PI X tg iter wi) (hkind:sc.kind= .function) (hcell:∀ y∈sc.names,y.2≠ .cell) (hnames:∀ y∈sc.names,y.2= .local->sc.names.lookup y.1=some .local)
  (hfree:∀ y∈sc.names,y.2= .free->X.env.scope.names.lookup y.1=some .cell\/X.env.scope.names.lookup y.1=some .free) (hm:qK X sc Nc m)
  (hg:∀ cl C fp s H,PG (blk X sc cl C Nc fp s H) tg g) (ht:∀ cl C fp s H,PTs (blk X sc cl C Nc fp s H) ifs tt) (he:∀ cl C fp s H,PE (blk X sc cl C Nc fp s H) elt te)
  (hs:∀ x,foldedSetIterable iter X.env x=pure x):PS X (.Assign [.Name x pos'] (.ListComp elt [⟨tg,iter,ifs,0⟩] sc pos) spos) (tAsg (tComp m wi g tt te) (kJ i)):=by
 intro kh s σ H D I h;rw[exec_Assign_Name_used _ _ _ _ hsw];refine ae (eF (ae ?_));show wpAny _ _ (do let _ <- comprehension (.ListComp elt [⟨tg,iter,ifs,0⟩] sc pos) sc X.env _ (newList []) false (eval iter X.env) (some (assign (.Name x pos') X.env))) _ _ _;refine ae (cy (jS5 (R:=fun _ s'=>SP X kh D .next s') hc hi hkind hcell hnames hfree hm hg ht he hs ⟨I.ok,I.os,I.bare,I.Aq,I.loc,I.cell,I.free,I.freeC,I.pin,I.hok,I.len⟩ h ?_) (fun _ s' hq=>ah (ah hq)) fun _ _ e=>e);intro D' C H5 z1 r ⟨mm,hn⟩ fC sb q;have I1:=sb _ (Heap.SameBut.refl C z1.heap);refine wpAny_assign_Name (jHB (v:= .ref D') I1 hN hi' hx rfl (fun s2 I2 ⟨a,sa,ha⟩=>?_) hf);obtain⟨f0,f1,f2,f3,f4,f5⟩:=fC;have hCa:C≠a:=by
  rcases ha with rfl | ha
  ·exact f1
  ·exact(f4 _ _ ha).symm
 refine⟨mm,hn.sameBut sa hCa,fun h' sb2=>⟨_,H5,?_,q⟩⟩;refine I2.call' (s':= { s2 with heap:=h'}) (ch:=[C]) rfl ?_ (I2.hok.sameBut sb2 f0) I2.bare (fun b hb=>?_)
 ·have ne:∀ {b:Addr},b∉ [C]->b≠C:=fun h e=>h (by rw[e]; exact aI.mpr rfl);refine⟨fun b o e n hf hx=>(sb2.2 b (ne hx)).trans e,fun b o e n hf hx=>⟨o.slots,(sb2.2 b (ne hx)).trans e⟩,fun b o e n hx=>n,fun b o e hx=>⟨o,(sb2.2 b (ne hx)).trans e⟩,fun b xs e=>e,fun b o u e=>e,fun b ps e=>⟨#[],by rw[Array.append_empty]; exact e⟩⟩
 ·cases aI.mp hb;exact⟨f3,f1,f4,f5⟩
end
structure SwC (e:Expr)(x:Str)(pos' spos:Pos)(X:Cx):Prop where
 h:swapsWith e (some (.Name x pos')) spos.line X.env=pure true
theorem jDB {i:Nat}{x:Str}{pos' spos pos:Pos}{tg iter elt:Expr}{ifs:List Expr}{sc:Scope}{wi:TI}{g:TG}{tt:TT}{te:TE}{m:List (Option Nat)}{Nc:Am}(hN:X.N.Nodup)(hi':X.N[i]?=some x)(hx:Loc1 X x)(hsw:SwC (.ListComp elt [⟨tg,iter,ifs,0⟩] sc pos) x pos' spos X)
  (hc:X.calm=true) (hi:JI X tg iter wi) (hkind:sc.kind= .function) (hcell:∀ y∈sc.names,y.2≠ .cell) (hnames:∀ y∈sc.names,y.2= .local->sc.names.lookup y.1=some .local)
  (hfree:∀ y∈sc.names,y.2= .free->X.env.scope.names.lookup y.1=some .cell\/X.env.scope.names.lookup y.1=some .free) (hm:qK X sc Nc m)
  (hg:∀ cl C fp s H,JG (blk X sc cl C Nc fp s H) tg g) (ht:∀ cl C fp s H,JTs (blk X sc cl C Nc fp s H) ifs tt) (he:∀ cl C fp s H,JE (blk X sc cl C Nc fp s H) elt te)
  (hs:FoOk iter):JS X (.Assign [.Name x pos'] (.ListComp elt [⟨tg,iter,ifs,0⟩] sc pos) spos) (tAsg (tComp m wi g tt te) (kJ i)):=
 ⟨jTX hN hi' hx.a hx.b hsw.h hc hi.h hkind hcell hnames hfree hm (fun cl C fp s H=>(hg cl C fp s H).h) (fun cl C fp s H=>(ht cl C fp s H).h) (fun cl C fp s H=>(he cl C fp s H).h) (hs.h _)⟩
end L2
namespace L2
open PySem PySem.Spec PyProof.Rows
variable {prog:Program}{w:World}{A:Around}{E:Ah}
variable {X:Cx}
variable {s:Shared}
variable {x:Str}{C:Addr}{e:Expr}{t:TA}{np cpos pos:Pos}
section
variable {W:Hp->Prop}
end
variable {M:Model}{h:Heap}
section
variable {g:Array GenState}{d:Drawn}{tk:Nat}{os:OsState}
end
variable {kh:Ai}{H H':Hp}
section
variable {σ:List (Option V)}{h':Heap}
end
variable {T:Addr}
section
variable {σ:St}{h2:Heap}{x T':Addr}
end
section
variable {σ:St}{x:Addr}
end
section
variable {x:Addr}{Q:Unit->Shared->Prop}
end
variable {n c:Str}{i j:Nat}{f B:Addr}{fd:FuncData}{ps:Am}{sp:Sp}{es:List Expr}{yp gp cp ap rp hp tp:Pos}
section
variable {y g:Str}{k:Nat}{r:Expr}{te:Addr->TE}
end
variable {tg:Expr}
variable {g:TG}{iter elt:Expr}{ifs:List Expr}{sc:Scope}{wi:TI}{tt:TT}{te:TE}{m:List (Option Nat)}{Nc:Am}
variable {a:Addr}{p:Pos}
section
variable {k:Nat}{sp:Addr->Sp}
end
variable {P:Program}{mg:Ak}{Aq:Heap}{N:Am}{qual:Str}{Ap:List Env}
section
variable {CX:CXT}{K:W.Frag}{ki:Value}{E:XK}
end
def nfP (x q:Str)(args:Arguments)(body:List Stmt)(scope:Scope)(cl:Aj)(a c:Addr):Heap->Prop:=fun h=>∃ doc pm ctv,h.get? a=some (fnMade x q args body scope cl doc pm c ctv)
def ncP (q:Str)(c:Addr):Heap->Prop:=fun h=>h.CodeRec (.ref c) q
abbrev onePs (pos:Pos)(c:Addr):An:=#[rawInt pos.line,rawInt pos.col, .ref c]
def TabOk (H:Hp)(T:Addr)(pos:Pos)(q:Str):Prop:=H T=some (.tbl #[])\/∃ c,H T=some (.tbl (onePs pos c))/\H c=some (.ext (ncP q c))
def ExtT (T:Addr)(H H':Hp):Prop:=∀ b o,H b=some o->b≠T->H' b=some o
def BltAt (Aq:Heap)(mg:Ak):Prop:=∃ bm o,mg "__builtins__" =some (.ref bm)/\bm≠builtinsNs/\bm≠mainGlobals/\Aq.get? bm=some o/\o.cls= .type "module" /\o.dict=some builtinsNs/\o.data= .plain
theorem nfP.stay {x q:Str}{args:Arguments}{body:List Stmt}{scope:Scope}{cl:Aj}{a c:Addr}(h1 h2:Heap)(p:nfP x q args body scope cl a c h1)(k:∀ o,h1.get? a=some o->h2.get? a=some o):nfP x q args body scope cl a c h2:=by
 obtain⟨d,m,t,e⟩:=p;exact⟨d,m,t,k _ e⟩
theorem ncP.stay {q:Str}{c:Addr}(h1 h2:Heap)(p:ncP q c h1)(k:∀ o,h1.get? c=some o->h2.get? c=some o):ncP q c h2:=by
 obtain⟨c',o,vs,t,e,g,r⟩:=p;cases e;exact⟨c,o,vs,t,rfl,k _ g,r⟩
theorem ncP.is {q:Str}{c:Addr}{h:Heap}(p:ncP q c h):∃ o,h.get? c=some o:=by
 obtain⟨c',o,vs,t,e,g,r⟩:=p;cases e;exact⟨o,g⟩
def tDef (x q:Str)(args:Arguments)(body:List Stmt)(scope:Scope)(cl:Aj)(T:Addr)(pos:Pos)(j:Nat):TS:=fun D σ H=>TabOk H T pos q/\∀ a c H',H' a=some (.ext (nfP x q args body scope cl a c))->H' c=some (.ext (ncP q c))->H' T=some (.tbl (onePs pos c))->ExtT T H H'->H a=none->D.nx (σ.set j (some (.ref a))) H'
section
variable {σ:St}
theorem Inv.laidX {h':Heap}{t':Nat}{φ:Heap->Prop}{a:Addr}(I:Inv X kh σ H s)(k:∀ b u,s.heap.get? b=some u->h'.get? b=some u)(hp:s.heap.objs.size<=a)(p:φ h')(ho:∃ o,h'.get? a=some o)(st:∀ h1 h2:Heap,φ h1->(∀ o,h1.get? a=some o->h2.get? a=some o)->φ h2):Inv X kh σ (upd H a (.ext φ)) { s with heap:=h',toks:=t'} :=
 I.laid k hp ⟨p,ho,st⟩
theorem Inv.grown {h':Heap}{t':Nat}{T c:Addr}{ps more:An}{φ:Heap->Prop}(I:Inv X kh σ H s)(hT:H T=some (.tbl ps))(k:Heap.ExtBut T s.heap h')(e:h'.get? T=some { cls:= .none,data:= .fields (ps++more)})
  (hc:s.heap.objs.size<=c) (p:φ h') (ho:∃ o,h'.get? c=some o) (st:∀ h1 h2:Heap,φ h1->(∀ o,h1.get? c=some o->h2.get? c=some o)->φ h2):Inv X kh σ (upd (upd H T (.tbl (ps++more))) c (.ext φ)) { s with heap:=h',toks:=t'} :=by
 have hcn:H c=none:=I.hok.fresh hc;have nT:∀ {b:Addr},H b=none->b≠T:=fun n z=>by rw[z,hT] at n; cases n
 have cT:T≠c:=fun z=>by rw[z,hcn] at hT; cases hT
 have nc:∀ {b:Addr}{o:Obj},s.heap.get? b=some o->b≠c:=fun q z=>absurd (aC q) (by rw[z]; exact Nat.not_lt.mpr hc);have mc:∀ {b:Addr}{o:HO},H b=some o->b≠c:=fun q=>jB q hcn;refine I.un ⟨fun b o q n _ _=>k b o (nT n) q,fun b o q n _ _=>⟨o.slots,k b o (nT n) q⟩,fun b o q n _=>by rw[jA (nc q),jA (nT n)]; exact n,fun b o q _=>?_,fun b xs q=>?_,fun b o u q=>?_,fun b qs q=>?_⟩ fun b o q=>?_
 ·by_cases hb:b=T
  ·rw[hb]; exact⟨_,e⟩
  ·exact⟨o,k b o hb q⟩
 ·rw[jA (mc q),jA (fun z=>by rw[z,hT] at q; cases q)]; exact q
 ·rw[jA (mc q),jA (fun z=>by rw[z,hT] at q; cases q)]; exact q
 ·by_cases hb:b=T
  ·subst hb;rw[hT] at q;cases q;exact⟨more,by rw[jA cT,j6]⟩
  ·exact⟨#[],by rw[jA (mc q),jA hb,q]; simp⟩
 ·by_cases hb1:b=c
  ·subst hb1;rw[j6] at q;cases q;exact⟨p,ho,st⟩
  rw[jA hb1] at q;by_cases hb:b=T
  ·subst hb;rw[j6] at q;cases q;exact e
  ·rw[jA hb] at q;refine(I.hok b o q).stay (fun d u hd z=>k d u ?_ z) (fun d z=>?_) fun d xs z=>?_
   ·rcases hd with rfl | hd
    ·exact hb
    ·exact fun y=>by rw[y,hT] at hd; cases hd
   ·rw[jA (mc z),jA (fun y=>by rw[y,hT] at z; cases z)]; exact z
   ·rw[jA (mc z),jA (fun y=>by rw[y,hT] at z; cases z)]; exact z
theorem jWF {x:Str}{args:Arguments}{body:List Stmt}{scope:Scope}{pos:Pos}{c0 T:Addr}{j:Nat}(hN:X.N.Nodup)(hj:X.N[j]?=some x)(lx:Loc X.env.scope x)(hcode:X.env.code= .ref c0)(CH:PySem.W.CodeHd X.Aq c0 T)(hbm:BltAt X.Aq X.mg)
  (hfree:∀ y∈scope.names,y.2= .free->X.env.scope.names.lookup y.1=some .cell\/X.env.scope.names.lookup y.1=some .free) (hdf:defaultsOf args X.env=([],[])) (han:annTrees args none X.env=[])
  (hf:X.fn x=true\/X.env.scope.names.lookup x=some .local:=by first | exact .inl rfl | exact .inr rfl | assumption):
  PS X (.FunctionDef x args body [] none [] scope none x pos) (tDef x (qualnameIn X.env x x) args body scope (jS X.env.cells scope.names []) T pos j):=by
 intro kh s σ H D I h;obtain⟨tab,h⟩:=h;rw[exec_def,hdf,han];refine ae (eF (ae (bS ?_)));refine ae (ah (ae (bS (ah (bS (ae (ah ?_)))))));have hcl:closureFor scope X.env=pure (jS X.env.cells scope.names []):=jH1 fun y hy hz=>I.ok.has y.1 (hfree y hy hz);have hg:s.heap.Ns mainGlobals X.mg:=I.mod.glob.keeps I.bk;have C:=CH.keeps I.bk;have gT:∀ {ps:An},H T=some (.tbl ps)->mainGlobals≠T:=fun hT z=>by
  obtain⟨o,es,ep,e,_⟩:=I.mod.glob;have:=(I.bs _ _ e).2;rw[z,hT] at this;cases this
 have bT:∀ {ps:An},H T=some (.tbl ps)->s.heap.BuiltinsAt X.mg T:=fun hT=>by
  obtain⟨bm,o,h1,h2,h3,h4,h5,h6,h7⟩:=hbm;refine⟨bm,o,h1,h2,h3,fun z=>?_,(I.bs _ _ h4).1,h5,h6,h7⟩;have:=(I.bs _ _ h4).2;rw[z,hT] at this;cases this
 rcases tab with hT | ⟨c,hT,hc⟩
 ·refine PySem.W.makeFunction_K hcl I.ok.glob hg hcode C (I.hok T _ hT) trivial rfl (gT hT) (bT hT) fun c ctv doc h' tk k1 k2 k3 k4 k5=>?_;obtain⟨oc,hoc⟩:=ncP.is (q:=qualnameIn X.env x x) k4;have I1:Inv X kh σ (upd (upd H T (.tbl (#[]++onePs pos c))) c (.ext (ncP (qualnameIn X.env x x) c))) { s with heap:=h',toks:=tk} :=I.grown hT k1 k5 k2 k4 ⟨oc,hoc⟩ ncP.stay;have I2:=I1.laidX (t':=tk) (a:=h'.objs.size) (φ:=nfP x (qualnameIn X.env x x) args body scope (jS X.env.cells scope.names []) h'.objs.size c) (h':=h'.push (fnMade x (qualnameIn X.env x x) args body scope (jS X.env.cells scope.names []) doc ((X.mg "__name__").getD .none) c ctv)) (fun b u q=>af _ q) (ak _) ⟨doc,_,ctv,ax _ rfl⟩ ⟨_,ax _ rfl⟩ nfP.stay;have hcn:H c=none:=I.hok.fresh k2;have han:H h'.objs.size=none:=I.hok.fresh (be k2 (dh k3));have ca:c≠h'.objs.size:=aU k3;have Tc:T≠c:=fun z=>by rw[z,hcn] at hT; cases hT
  have Ta:T≠h'.objs.size:=fun z=>by rw[z,han] at hT; cases hT
  refine ae (eF (ae (wpAny_bindName (jDV (v:= .ref h'.objs.size) I2 hN hj lx rfl (fun s' I'=>ah ⟨_,_,I',?_⟩) hf))));refine h _ c _ j6 (by rw[jA ca,j6]) (by rw[jA Ta,jA Tc,j6,jw]) (fun b o e n=>?_) han;rw[jA (jB e han),jA (jB e hcn),jA n];exact e
 ·refine PySem.W.makeFunction_hit (cv:= .ref c) hcl I.ok.glob hg hcode C (I.hok T _ hT) (by exact trivial) (by simp [codeAmong,rawInt]) (bT hT) fun ctv doc h' tk k1 k2=>?_;have I2:=I.laidX (t':=tk) (a:=h'.objs.size) (φ:=nfP x (qualnameIn X.env x x) args body scope (jS X.env.cells scope.names []) h'.objs.size c) (h':=h'.push (fnMade x (qualnameIn X.env x x) args body scope (jS X.env.cells scope.names []) doc ((X.mg "__name__").getD .none) c ctv)) (fun b u q=>af _ (k1 b u q)) k2 ⟨doc,_,ctv,ax _ rfl⟩ ⟨_,ax _ rfl⟩ nfP.stay;have han:H h'.objs.size=none:=I.hok.fresh k2;refine ae (eF (ae (wpAny_bindName (jDV (v:= .ref h'.objs.size) I2 hN hj lx rfl (fun s' I'=>ah ⟨_,_,I',?_⟩) hf))));refine h _ c _ j6 (by rw[jA (jB hc han)]; exact hc) (by rw[jA (jB hT han)]; exact hT) (fun b o e n=>?_) han;rw[jA (jB e han)];exact e
end
theorem jHV {β:Type}{x:Str} :∀ {l:List (Str×β)},(∀ v,(x,v)∉l)->l.lookup x=none
 | [],_=>rfl
 | (y,v)::r,h=>by
  rw[aX,b7.mpr (fun e=>h v (by rw[e]; exact az))];exact jHV fun w hw=>h w (aB _ hw)
theorem jDA {β:Type}{x:Str} :∀ {l m:List (Str×β)},(l++m).lookup x=(l.lookup x).or (m.lookup x)
 | [],_=>rfl
 | (y,v)::r,m=>by
  rw[iI,aX,aX,jDA];cases x==y <;> rfl
theorem jFG:∀ {ps:Am}{us:Al}{i:Nat}{x:Str}{u:Value},ps.Nodup->ps[i]?=some x->us[i]?=some u->(ps.zip us).reverse.lookup x=some u
 | [],_,_,_,_,_,h,_=>by simp at h
 | _::_,[],_,_,_,_,_,h=>by simp at h
 | p::ps,w::us,0,x,u,nd,h1,h2=>by
  simp at h1 h2;subst h1 h2;rw[eC,List.reverse_cons,jDA,jHV fun v hv=>(cF.mp nd).1 (dL (List.mem_reverse.mp hv)).1,aX,eU];rfl
 | p::ps,w::us,i+1,x,u,nd,h1,h2=>by
  rw[eC,List.reverse_cons,jDA,jFG (i:=i) (cF.mp nd).2 (by simpa using h1) (by simpa using h2)];rfl
def cxN (P:Program)(w:World)(K:W.Frag)(mg:Ak)(Aq:Heap)(N:Am)(qual:Str)(scope:Scope)(f:Addr)(cd:Value)(cl:Aj)(A:Around)(Ap:List Env)(s:Shared)(H:Hp):Cx where
 prog:=P
 w:=w
 K:=K
 mg:=mg
 Aq:=Aq
 A:=A.deeper (envX qual scope s.heap.objs.size f cd cl)
 N:=N
 s₀:=s
 H₀:=H
 env:=envX qual scope s.heap.objs.size f cd cl
 Ap:=Ap
 stack:=envX qual scope s.heap.objs.size f cd cl::Ap
 ex:=[]
 calm:=true
 fn:=fun _=>false
 pn:=[]
 xe:=fun _ _=>False
structure ClOk (cl:Aj)(s:Shared)(H:Hp):Prop where
 inj:∀ x y c,cl.lookup x=some c->cl.lookup y=some c->x=y
 cell:∀ x c,cl.lookup x=some c->(∃ v,s.heap.IsCell c v)/\H c=none
def FvOk (fs:Am)(fv:List V)(cl:Aj)(s:Shared):Prop:=fv.length=fs.length/\∀ (i:Nat) (x:Str) (v:V),fs[i]?=some x->fv[i]?=some v->∃ c u,cl.lookup x=some c/\RelV v u/\s.heap.IsCell c (some u)
structure NScope (N ps fs:Am)(sc:Scope):Prop where
 kind:sc.kind= .function
 co:sc.isCoroutine=false
 gen:sc.isGenerator=false
 nd:N.Nodup
 pre:N.take (ps.length+fs.length)=ps++fs
 par:∀ x∈ps,sc.names.lookup x=some .local
 fre:∀ x∈fs,sc.names.lookup x=some .free
 all:∀ x,sc.names.lookup x=some .free->x∈fs
 nocell:∀ y∈sc.names,y.2≠ .cell
def jC0 (N:Am)(vs fv:List V):St:=yH N (vs++fv)
variable {scope:Scope}{cd:Value}{cl:Aj}{fv:List V}
section
variable {K:W.Frag}{fs:Am}{us:Al}{vs:List V}
theorem jFM {h1:Heap}{tk:Nat}(S:NScope N ps fs scope)(hd:A.handled=none)(e0:Env0 P w K mg Aq A Ap s H)(hl:us.length=ps.length)(r:Vals vs us)(C:ClOk cl s H)(Fv:FvOk fs fv cl s)
  (ns:h1.Ns s.heap.objs.size fun x=>(ps.zip us).reverse.lookup x) (hk:∀ b o,s.heap.get? b=some o->h1.get? b=some o):
  Inv (cxN P w K mg Aq N qual scope f cd cl A Ap s H) [] (jC0 N vs fv) H { s with heap:=h1,toks:=tk} :=by
 have hpl:ps.length+fs.length<=N.length:=by have:=bL List.length S.pre; rw[bB,aF] at this; lia
 have noA:∀ b:Addr,b∉(cxN P w K mg Aq N qual scope f cd cl A Ap s H).ex:=fun b z=>absurd (show b∈([]:List Addr) from z) Ad;have vl:vs.length=ps.length:=r.length.trans hl;refine⟨⟨e0.mod,S.kind,rfl,rfl,ak _,C.inj,fun y hy=>?_,fun y c z=>(nomatch z),fun _=>hd,Around.frames_deeper e0.frames, .inr ⟨rfl,rfl⟩,fun b z=>absurd z (noA b),e0.bs,e0.bsz,fun b _ _=>noA b,fun b z=>absurd z (noA b),e0.funs,e0.frf⟩,
  rfl,e0.bare,Un.kept hk,⟨_,ns,fun i y v h1' h2 h3=>?_⟩,fun y c h=>?_,e0.hok.fresh (ak _),fun y c h=>(C.cell y c h).2,fun p hp=>absurd (show p∈([]:Ai) from hp) Ad,e0.hok.kept hk,?_⟩
 ·have hy:scope.names.lookup y=some .cell\/scope.names.lookup y=some .free:=hy;rcases hy with hy | hy
  ·exact absurd rfl (S.nocell _ (cw hy))
  ·have m:=S.all y hy;obtain⟨i,hi⟩:=bN m;have hi2:i<fv.length:=by rw[Fv.1]; exact(ai.mp hi).1
   obtain⟨c,u,e,_⟩:=Fv.2 i y fv[i] hi (by simp [hi2]);exact⟨c,e⟩
 ·have h1':N[i]?=some y:=h1';have hlen:(vs++fv).length=ps.length+fs.length:=by rw[aF,vl,Fv.1]
  have hi:i<(vs++fv).length:=by
   unfold jC0 yH at h2;by_cases hi:i<(vs++fv).length
   ·exact hi
   ·rw[bh (by simpa using hi)] at h2;rw[iF] at h2;split at h2 <;> cases h2
  have hv:(vs++fv)[i]?=some v:=by
   unfold jC0 yH at h2;rw[bU (by simpa using hi),aL] at h2;cases e:(vs++fv)[i]? with
   | none=>rw[e] at h2; cases h2
   | some a=>rw[e] at h2; cases h2; rfl
  have hy:(ps++fs)[i]?=some y:=by
   rw[<- S.pre,ck Aa];exact h1'
  by_cases hi1:i<ps.length
  ·rw[bU hi1] at hy;rw[bU Aa] at hv;obtain⟨u,hu,rv⟩:=r.get hv;have ndP:ps.Nodup:=by
    have:(ps++fs).Nodup:=by rw[<- S.pre]; exact S.nd.sublist (dy _ _)
    exact(dR.mp this).1
   exact⟨u,rv, .inl ⟨S.par y (ay hy),jFG ndP hy hu⟩⟩
  ·rw[bh Aa] at hy;rw[bh Aa,vl] at hv;obtain⟨c,u,e,rv,o,ho,hd⟩:=Fv.2 _ y v hy hv;exact⟨u,rv, .inr ⟨.inr (S.fre y (ay hy)),c,e,o,hk _ _ ho,hd⟩⟩
 ·obtain⟨⟨v,o,ho,hd⟩,_⟩:=C.cell y c h;exact⟨v,o,hk _ _ ho,hd⟩
 ·unfold jC0 yH;show _=N.length;rw[aF,ab,i6,aF,vl,Fv.1];lia
end
structure FnN (P:Program)(w:World)(K:W.Frag)(mg:Ak)(Aq:Heap)(k:Nat)(x q:Str)(args:Arguments)(body:List Stmt)(scope:Scope)(ps fs:Am)(sp:List V->Sp):Prop where
 len:∀ fv vs H Q E,sp fv vs H Q E->vs.length=ps.length
 run:∀ (A:Around) (Ap:List Env) (s:Shared) (H:Hp) (a c:Addr) (cl:Aj) (us:Al) (vs fv:List V) (Q:VK) (E:XK),Room k A->Env0 P w K mg Aq A Ap s H->nfP x q args body scope cl a c s.heap->ncP q c s.heap->ClOk cl s H->FvOk fs fv cl s->Vals vs us->sp fv vs H Q E->
  codeAny (model P w) A (.call (.ref a) ⟨us,[]⟩) (CR CX0 Ap P w H s Q E) s
theorem jT5 {P:Program}{w:World}{K:W.Frag}{mg:Ak}{Aq:Heap}{k:Nat}{x q:Str}{args:Arguments}{body:List Stmt}{scope:Scope}{N ps fs:Am}{sp:List V->Sp}(S:NScope N ps fs scope)(len:∀ fv vs H Q E,sp fv vs H Q E->vs.length=ps.length)
  (hb:∀ cl doc pm c ctv (us:Al),us.length=ps.length->bindArgs (PySem.W.fnX x q args body scope cl .none .none doc pm none (.ref c) ctv) ⟨us,[]⟩=pure (ps.zip us))
  (hbody:∀ (A:Around) (Ap:List Env) (s:Shared) (H:Hp) (a c:Addr) (cl:Aj) (vs fv:List V) (Q:VK) (E:XK),Room k (A.deeper (envX q scope s.heap.objs.size a (.ref c) cl))->sp fv vs H Q E->
   ∃ t,PSs (cxN P w K mg Aq N q scope a (.ref c) cl A Ap s H) body t/\t { nx:=fun _ H'=>Q .non H',rt:=Q} (jC0 N vs fv) H):
  FnN P w K mg Aq (k+1) x q args body scope ps fs sp:=by
 refine⟨len,fun A Ap s H a c cl us vs fv Q E hr e0 hf hc C Fv r hsp=>?_⟩;have hl:us.length=ps.length:=r.length.symm.trans (len _ _ _ _ _ hsp);obtain⟨doc,pm,ctv,ho⟩:=hf;have lim:s.heap.NoLimit:=e0.mod.nolimit.keeps fun b o e=>(e0.bs b o e).1;refine codeAny_call_def (body:=body) (binds:=ps.zip us) hr.depth ho rfl lim hc rfl (.of_eq (hb cl doc pm c ctv us hl)) S.nocell (fun y hy=>S.par y.1 (dL hy).1) (fun h1 ns hk=>?_) S.co S.gen S.kind;obtain⟨t,ht,hq⟩:=hbody A Ap s H a c cl vs fv Q E (hr.deeper _) hsp;have I:Inv (cxN P w K mg Aq N q scope a (.ref c) cl A Ap s H) [] (jC0 N vs fv) H { s with heap:=h1,toks:=s.toks+(ps.zip us).length} :=jFM S hr.hd e0 hl r C Fv ns hk;refine cy (ht [] _ (jC0 N vs fv) H _ I hq) (fun fl s' hs=>?_) fun e s' hs=>False.elim hs;have fin:∀ {σ':St}{H':Hp}{v:V}{u:Value},Inv (cxN P w K mg Aq N q scope a (.ref c) cl A Ap s H) [] σ' H' s'->RelV v u->Q v H'->CE Ap P w H s Q u s':=
  fun {σ' H' v u} J rv q=>⟨v,H',J.os,J.bare,J.Aq,J.hok,rv,q⟩
 cases fl with
 | ret u=>
  obtain⟨v,σ',H',J,rv,q⟩:=hs;exact fin J rv q
 | next=>
  obtain⟨σ',H',J,q⟩:=hs;exact fin (v:=V.non) (u:=Value.none) J rfl q
 | brk=>
  obtain⟨_,_,_,q⟩:=hs;exact False.elim q
 | cont=>
  obtain⟨_,_,_,q⟩:=hs;exact False.elim q
def jG1 (σ:St)(is:List Nat)(fv:List V):Prop:=is.map (fun i=>(σ[i]?).getD none)=fv.map some
def tNest (σ0:Option St)(j:Nat)(is:List Nat)(x q:Str)(args:Arguments)(body:List Stmt)(scope:Scope)(cl:Aj)(sp:List V->Sp)(t:TA):TE:=fun σ H Q=>∃ a,σ[j]?=some (some (.ref a))/\t σ H fun vs H1=>∃ c fv,H1 a=some (.ext (nfP x q args body scope cl a c))/\H1 c=some (.ext (ncP q c))/\jG1 (σ0.getD σ) is fv/\sp fv vs H1 Q E0
section
variable {σ:St}{fs:Am}{is:List Nat}
def FsAt (X:Cx)(fs:Am)(is:List Nat):Prop:=is.length=fs.length/\∀ (k:Nat) (x:Str),fs[k]?=some x->∃ i,is[k]?=some i/\X.N[i]?=some x/\(X.env.scope.names.lookup x=some .cell\/X.env.scope.names.lookup x=some .free)
theorem Inv.clOk (I:Inv X kh σ H s)(hfree:∀ y∈scope.names,y.2= .free->X.env.scope.names.lookup y.1=some .cell\/X.env.scope.names.lookup y.1=some .free):ClOk (jS X.env.cells scope.names []) s H:=by
 have sub:∀ x c,(jS X.env.cells scope.names []).lookup x=some c->X.env.cells.lookup x=some c:=jAA scope.names [] (fun y hy hf=>I.ok.has y.1 (hfree y hy hf)) (fun x c e=>by cases e);exact⟨fun x y c h1 h2=>I.ok.inj x y c (sub x c h1) (sub y c h2),fun x c h=>⟨I.cell x c (sub x c h),I.freeC x c (sub x c h)⟩⟩
theorem Inv.fvOk (I:Inv X kh σ H s)(hfree:∀ y∈scope.names,y.2= .free->X.env.scope.names.lookup y.1=some .cell\/X.env.scope.names.lookup y.1=some .free)(hfs:∀ x∈fs,scope.names.lookup x=some .free)(ha:FsAt X fs is)(hs:jG1 σ is fv):FvOk fs fv (jS X.env.cells scope.names []) s:=by
 have hl:fv.length=fs.length:=by
  have:=bL List.length hs;rw[ab,ab] at this;rw[<- this,ha.1]
 refine⟨hl,fun k x v h1 h2=>?_⟩;obtain⟨i,hi,hN,hk⟩:=ha.2 k x h1;have e:(σ[i]?).getD none=some v:=by
  have:=bL (fun l=>l[k]?) hs;simp only [aL,hi,h2,map_some] at this;exact bq this
 have e2:σ[i]?=some (some v):=by
  cases q:σ[i]? with
  | none=>rw[q] at e; cases e
  | some z=>rw[q] at e; exact bL some e
 obtain⟨m,hn,hl⟩:=I.loc;obtain⟨u,r,l⟩:=hl i x v hN e2 (.inr hk);obtain⟨c,hc⟩:=jAB (cells:=X.env.cells) (x:=x) scope.names [] (.inl (jA4 (hfs x (ay h1))));have sub:=jAA (cells:=X.env.cells) scope.names [] (fun y hy hf=>I.ok.has y.1 (hfree y hy hf)) (fun x c e=>by cases e) x c hc;rcases l with ⟨lk,_⟩ | ⟨_,c',hc',z⟩
 ·have lk':X.env.scope.names.lookup x=some .local:=lk;rcases hk with z | z <;> rw[lk'] at z <;> cases z
 ·rw[sub] at hc';cases hc';exact⟨c,u,hc,r,z⟩
end
section
variable {k:Nat}{q:Str}{args:Arguments}{body:List Stmt}{fs:Am}{is:List Nat}{sp:List V->Sp}
theorem jK4 {Y:Cx}{kh:Ai}{σ:St}{H:Hp}{s:Shared}{Q:VK}{cl:Aj}{a c:Addr}{us:Al}{vs fv:List V}(F:FnN Y.prog Y.w Y.K Y.mg Y.Aq k x q args body scope ps fs sp)(hr:Room k Y.A)(I:Inv Y kh σ H s)(h1:H a=some (.ext (nfP x q args body scope cl a c)))(h2:H c=some (.ext (ncP q c)))(C:ClOk cl s H)(Fv:FvOk fs fv cl s)(r:Vals vs us)(hs:sp fv vs H Q E0):
  wpAny (model Y.prog Y.w) Y.A (call (.ref a) us) (EP Y kh σ Q) Y.xe s:=by
 obtain⟨p1,_,_⟩:=(show ObjOk Y.prog Y.w H s.heap a (.ext _) from I.hok a _ h1);obtain⟨p2,_,_⟩:=(show ObjOk Y.prog Y.w H s.heap c (.ext _) from I.hok c _ h2);refine iN (dO (F.run Y.A Y.stack s H a c cl us vs fv Q E0 hr I.env0 p1 p2 C Fv r hs) fun r s' hq=>?_);cases r with
 | error e=>exact hq.elim
 | ok fl=>
  cases fl with
  | ret u=>exact I.after hq
  | next=>exact False.elim hq
  | brk=>exact False.elim hq
  | cont=>exact False.elim hq
theorem jP6 {Y:Cx}{kh:Ai}{σ:St}{H:Hp}{s:Shared}{cl:Aj}{a c:Addr}(I:Inv Y kh σ H s)(h1:H a=some (.ext (nfP x q args body scope cl a c))):PySem.W.FnAt a s.heap:=by
 obtain⟨⟨d,m,t,e⟩,_,_⟩:=(show ObjOk Y.prog Y.w H s.heap a (.ext _) from I.hok a _ h1);exact⟨_,_,_,_,e⟩
theorem jVB (F:FnN X.prog X.w X.K X.mg X.Aq k x q args body scope ps fs sp)(hr:Room k X.A)(hN:X.N[j]?=some x)(hv:Vis1 X x)(hfree:∀ y∈scope.names,y.2= .free->X.env.scope.names.lookup y.1=some .cell\/X.env.scope.names.lookup y.1=some .free)(hfs:∀ x∈fs,scope.names.lookup x=some .free)(hat:FsAt X fs is)
  (ha:JA X (e::es) t) (he:starEach (e::es) X.env=(false,eval e X.env)::starEach es X.env) (hdb:(x==("__debug__" :Str))=false:=by decide) (hcd:(x==("__classdict__" :Str))=false:=by decide) (hpl:(backTo pos (starEach es X.env)).any (·.1)=false:=by rfl):
  JE X (.Call (.Name x p) (e::es) [] pos) (tNest none j is x q args body scope (jS X.env.cells scope.names []) sp t):=by
 refine⟨fun kh s σ H Q I h=>?_⟩;obtain⟨a,hj,h⟩:=h;refine cM (kn (jHK (pos:=p) hN hv.a hdb hcd kh s σ H (fun v H'=>v= .ref a/\H'=H) I ⟨_,hj,rfl,rfl⟩) fun v s1 ⟨v',H1,I1,r1,q1,q2⟩=>?_);subst q1 q2;cases (show v=Value.ref a from r1);have hX:=kn (ha.h pos kh s1 σ H1 _ I1 h) fun us s2 (z:AP X kh σ _ us s2)=>show PySem.W.FnAt a s2.heap/\wpAny (model X.prog X.w) X.A (call (.ref a) ([]++us)) (EP X kh σ Q) X.xe s2 from by
  obtain⟨vs,H2,I2,r,c,fv,h1,h2,h3,h4⟩:=z;exact⟨jP6 I2 h1,jK4 F hr I2 h1 h2 (I2.clOk hfree) (I2.fvOk hfree hfs hat h3) r h4⟩
 rw[he] at hX ⊢;exact gQ (by show ((false || (backTo pos (starEach es X.env)).any (·.1)) || false)=false; rw[hpl]; rfl) iX (eN hX)
theorem jRK {sc:Scope}{cl:Aj}{C:Addr}{Nc:Am}{fp:List Addr}{s0:Shared}{H0:Hp}{kh0:Ai}{σ0:St}(I0:Inv X kh0 σ0 H0 s0)(hfp:∀ b∈fp,FpOk X kh0 H0 b)
  (F:FnN X.prog X.w X.K X.mg X.Aq k x q args body scope ps fs sp) (hr:Room k X.A) (hN:Nc[j]?=some x) (hv:Vis1 (blk X sc cl C Nc fp s0 H0) x) (hfree:∀ y∈scope.names,y.2= .free->X.env.scope.names.lookup y.1=some .cell\/X.env.scope.names.lookup y.1=some .free) (hfs:∀ x∈fs,scope.names.lookup x=some .free) (hat:FsAt X fs is)
  (ha:JA (blk X sc cl C Nc fp s0 H0) (e::es) t) (he:starEach (e::es) (blk X sc cl C Nc fp s0 H0).env=(false,eval e (blk X sc cl C Nc fp s0 H0).env)::starEach es (blk X sc cl C Nc fp s0 H0).env) (hdb:(x==("__debug__" :Str))=false:=by decide) (hcd:(x==("__classdict__" :Str))=false:=by decide) (hpl:(backTo pos (starEach es (blk X sc cl C Nc fp s0 H0).env)).any (·.1)=false:=by rfl):
  JE (blk X sc cl C Nc fp s0 H0) (.Call (.Name x p) (e::es) [] pos) (tNest (some σ0) j is x q args body scope (jS X.env.cells scope.names []) sp t):=by
 have sub:∀ x c,(jS X.env.cells scope.names []).lookup x=some c->X.env.cells.lookup x=some c:=jAA scope.names [] (fun y hy hf=>I0.ok.has y.1 (hfree y hy hf)) (fun x c e=>by cases e);have nfp:∀ {x c},X.env.cells.lookup x=some c->c∉fp:=fun {x c} h z=>(hfp c z).2.2.2.2.1 x c h rfl;refine⟨fun kh s σ H Q I h=>?_⟩;obtain⟨a,hj,h⟩:=h;refine cM (kn (jHK (pos:=p) (show (blk X sc cl C Nc fp s0 H0).N[j]?=some x from hN) hv.a hdb hcd kh s σ H (fun v H'=>v= .ref a/\H'=H) I ⟨_,hj,rfl,rfl⟩) fun v s1 ⟨v',H1,I1,r1,q1,q2⟩=>?_);subst q1 q2;cases (show v=Value.ref a from r1);have hX:=kn (ha.h pos kh s1 σ H1 _ I1 h) fun us s2 (z:AP (blk X sc cl C Nc fp s0 H0) kh σ _ us s2)=>show PySem.W.FnAt a s2.heap/\wpAny (model X.prog X.w) X.A (call (.ref a) ([]++us)) (EP (blk X sc cl C Nc fp s0 H0) kh σ Q) (blk X sc cl C Nc fp s0 H0).xe s2 from by
  obtain⟨vs,H2,I2,r,c,fv,h1,h2,h3,h4⟩:=z;have un:Un (frs X.stack) fp H0 H2 s0.heap s2.heap:=I2.Aq;have cellK:∀ {y d v},X.env.cells.lookup y=some d->s0.heap.IsCell d v->s2.heap.IsCell d v:=fun {y d v} hd ⟨o,ho,hq⟩=>by
   obtain⟨sl,e⟩:=un.any ho (I0.freeC y d hd) (nfp hd);exact⟨_,e,hq⟩
  have C0:=I0.clOk hfree;obtain⟨f1,f2⟩:=I0.fvOk hfree hfs hat h3;refine⟨jP6 I2 h1,jK4 (Y:=blk X sc cl C Nc fp s0 H0) F hr I2 h1 h2 ⟨C0.inj,fun y d hd=>?_⟩ ⟨f1,fun i y v e1 e2=>?_⟩ r h4⟩
  ·obtain⟨⟨v,z⟩,n⟩:=C0.cell y d hd;obtain⟨o,ho,hq⟩:=id z;exact⟨⟨v,cellK (sub y d hd) z⟩,un.free d o ho n (nfp (sub y d hd))⟩
  ·obtain⟨d,u,g1,g2,g3⟩:=f2 i y v e1 e2;exact⟨d,u,g1,g2,cellK (sub y d g1) g3⟩
 rw[he] at hX ⊢;exact gQ (by show ((false || (backTo pos (starEach es (blk X sc cl C Nc fp s0 H0).env)).any (·.1)) || false)=false; rw[hpl]; rfl) iX (eN hX)
end
def jSO (m:List (Option Nat))(wi:TI)(g:TG)(tt:TT)(te:St->TE):TE:=fun σ H Q=>wi σ H (qJ m g tt (te σ) σ Q)
section
variable {te:St->TE}
theorem jQP (hc:X.calm=true)(hi:PI X tg iter wi)(hkind:sc.kind= .function)(hcell:∀ y∈sc.names,y.2≠ .cell)(hnames:∀ y∈sc.names,y.2= .local->sc.names.lookup y.1=some .local)
  (hfree:∀ y∈sc.names,y.2= .free->X.env.scope.names.lookup y.1=some .cell\/X.env.scope.names.lookup y.1=some .free) (hm:qK X sc Nc m)
  (hg:∀ cl C fp s H,PG (blk X sc cl C Nc fp s H) tg g) (ht:∀ cl C fp s H,PTs (blk X sc cl C Nc fp s H) ifs tt) (he:∀ cl C fp s H kh σ,Inv X kh σ H s->(∀ b∈fp,FpOk X kh H b)->PE (blk X sc cl C Nc fp s H) elt (te σ))
  (hs:∀ x,foldedSetIterable iter X.env x=pure x:=by intro _; rfl):PE X (.ListComp elt [⟨tg,iter,ifs,0⟩] sc pos) (jSO m wi g tt te):=by
 intro kh s σ H Q I h;rw[eval_ListComp];exact jH0 (tf:=te) (use:=none) hc hi hkind hcell hnames hfree hm hg ht he hs I h (fun D C H5 z1 r ⟨mm,hn⟩ fC sb q=>⟨mm,hn,fun h' s2=>⟨.ref D,H5,sb h' s2,rfl,q⟩⟩)
theorem jRN (hc:X.calm=true)(hi:JI X tg iter wi)(hkind:sc.kind= .function)(hcell:∀ y∈sc.names,y.2≠ .cell)(hnames:∀ y∈sc.names,y.2= .local->sc.names.lookup y.1=some .local)
  (hfree:∀ y∈sc.names,y.2= .free->X.env.scope.names.lookup y.1=some .cell\/X.env.scope.names.lookup y.1=some .free) (hm:qK X sc Nc m)
  (hg:∀ cl C fp s H,JG (blk X sc cl C Nc fp s H) tg g) (ht:∀ cl C fp s H,JTs (blk X sc cl C Nc fp s H) ifs tt) (he:∀ cl C fp s H kh σ,Inv X kh σ H s->(∀ b∈fp,FpOk X kh H b)->JE (blk X sc cl C Nc fp s H) elt (te σ))
  (hs:FoOk iter):JE X (.ListComp elt [⟨tg,iter,ifs,0⟩] sc pos) (jSO m wi g tt te):=⟨jQP hc hi.h hkind hcell hnames hfree hm (fun cl C fp s H=>(hg cl C fp s H).h) (fun cl C fp s H=>(ht cl C fp s H).h) (fun cl C fp s H kh σ I f=>(he cl C fp s H kh σ I f).h) (hs.h _)⟩
end
def jY4 (Ts:List Addr)(H:Hp):Prop:=∀ b,H b=none\/(∃ o xs,H b=some (.frz o (.lst xs)))\/b∈Ts
theorem jLY {cts:List (Addr×Addr)}{P:Program}{w:World}{K:W.Frag}{mg mb:Ak}{CX:CXT}{k:Nat}{fa a:Addr}{fd:FuncData}{x:Str}{sp:Sp}{s₁:Shared}{vs:Al}{ns:Ag}
  (KX:K.In s₁.heap) (hns:s₁.heap.Ns mainGlobals mg) (hb:s₁.heap.Ns builtinsNs mb) (hbb:∀ x:Str,x≠ "__name__" ->mb x=bootBuiltins x) (hlim:s₁.heap.NoLimit) (hg:s₁.gens=#[])
  (ha:s₁.heap.get? a=some { cls:= .type "list",data:= .seq vs.toArray}) (hi:IntsAre vs ns) (hl:ns.length<=sizeLine) (hr:Room k callerA) (hT:∀ T∈cts.map (·.2),s₁.heap.get? T=some (tabObj #[])) (CH:∀ p∈cts,PySem.W.CodeHd s₁.heap p.1 p.2) (hKT:∀ T∈cts.map (·.2),K.lookup T=none)
  (F:∀ Aq:Heap,K.In Aq->Aq.Ns mainGlobals mg->FnOk P w K mg Aq CX k fa fd [x] sp) (hbind:∀ (s:Shared) (u:Value),BindsTo s fd ⟨[u],[]⟩ [(x,u)])
  (hsp:∀ H:Hp,(∀ T∈cts.map (·.2),H T=some (.tbl #[]))->SqL K H a (ns.map V.int)->sp [.ref a] H (fun v _=>v= .bl true) fun _ _ _=>False)
  (hCX:∀ H e s',CX [] H s₁ (fun _ _ _=>False) e s'->False):
  codeAny (model P w) callerA (.call (.ref fa) ⟨[.ref a],[]⟩) (fun r s'=>r= .ok (.ret (.bool true))/\OldK s₁.heap s'.heap/\s'.os=s₁.os/\AllBare s'.gens) s₁:=by
 have rv:=jH8 hi;have lenV:=hi.length;have core:∀ H:Hp,jY4 (cts.map (·.2)) H->(∀ T∈cts.map (·.2),H T=some (.tbl #[]))->SqL K H a (ns.map V.int)->HOk P w H s₁.heap->(∀ b,H b≠none->b=a\/b∈cts.map (·.2))->(H a≠none->K.lookup a=none)->
   codeAny (model P w) callerA (.call (.ref fa) ⟨[.ref a],[]⟩) (fun r s'=>r= .ok (.ret (.bool true))/\OldK s₁.heap s'.heap/\s'.os=s₁.os/\AllBare s'.gens) s₁:=by
  intro H hO hHT hS hok hA hK;have base_of:∀ {b:Addr}{o:Obj},s₁.heap.get? b=some o->H b=none->(hidT s₁.heap H).get? b=some o:=fun e n=>jRV e n;have noA:∀ {b:Addr}{o:Obj}{es:Array DictEntry}{ep:Nat},s₁.heap.get? b=some o->o.data= .dict es ep->H b=none:=fun {b o es ep} e d=>by
   cases q:H b with
   | none=>rfl
   | some u=>
    rcases hA b (by rw[q]; simp) with e' | e'
    ·subst e';rw[ha] at e; cases e;have d':Data.seq vs.toArray _=Data.dict es ep:=d;cases d'
    ·rw[hT b e'] at e; cases e;have d':Data.fields _=Data.dict es ep:=d;cases d'
  have nsK:∀ {b:Addr}{m:Ak},s₁.heap.Ns b m->(hidT s₁.heap H).Ns b m:=fun {b m} ⟨o,es,ep,e,d,r⟩=>⟨o,es,ep,base_of e (noA e d),d,r⟩;have hKb:K.In (hidT s₁.heap H):=fun b o e=>base_of (KX b o e) (by
   cases q:H b with
   | none=>rfl
   | some u=>
    rcases hA b (by rw[q]; simp) with e' | e'
    ·subst e';rw[hK (by rw[q]; simp)] at e; cases e
    ·rw[hKT b e'] at e; cases e)
  have hM:Mod K mg (hidT s₁.heap H):=⟨hKb,nsK hns,⟨mb,nsK hb,hbb⟩,let ⟨mc,h1,h2⟩:=hlim; ⟨mc,nsK h1,h2⟩⟩;have e0:Env0 P w K mg (hidT s₁.heap H) callerA [] s₁ H:=⟨rfl,hM,fun b o e=>jUV e,Nat.le_of_eq (jOZ _ _),trivial,fun b hb=>absurd (show b∈([]:List Addr) from hb) Ad,hok, .of_eq hg⟩;refine dO ((F _ hKb (nsK hns)).run callerA [] s₁ H ⟨[.ref a],[]⟩ [.ref a] [.ref a] _ _ hr e0 (hbind s₁ (.ref a)) (.cons rfl .nil) (hsp H hHT hS)) fun r s' h=>?_;cases r with
  | error e=>exact(hCX H e s' h).elim
  | ok fl=>
   cases fl with
   | next=>exact False.elim h
   | brk=>exact False.elim h
   | cont=>exact False.elim h
   | ret u=>
    obtain⟨v,H',os,bare,un,hok',r',q⟩:=h;have q':v= .bl true:=q;subst q';obtain rfl:u=Value.bool true:=r';have gr:∀ T∈cts.map (·.2),∃ more,s'.heap.get? T=some (tabObj (#[]++more)):=fun T hTm=>by
     obtain⟨more,z⟩:=un.tbls T _ (hHT T hTm);exact⟨more,hok' T _ z⟩
    have kp:∀ b o,b∉cts.map (·.2)->s₁.heap.get? b=some o->s'.heap.get? b=some o:=fun b o hbT e=>?_
    ·refine⟨rfl,⟨fun b o e=>?_,fun b o e=>?_⟩,os,bare⟩
     ·by_cases hb:b∈cts.map (·.2)
      ·obtain⟨p,hp,rfl⟩:=aQ.mp hb;have q:=hT _ hb;rw[q] at e;cases e;obtain⟨more,z⟩:=gr _ hb;exact .inr (.inl ⟨((CH p hp).tab q).isCodeTable,rfl,#[],more,rfl,z⟩)
      ·exact .inl (kp b o hb e)
     ·by_cases hb:b∈cts.map (·.2)
      ·obtain⟨more,z⟩:=gr _ hb;exact⟨_,z⟩
      ·exact⟨o,kp b o hb e⟩
    cases q:H b with
    | none=>exact un.keep b o e q (by intro z; exact absurd (show b∈([]:List Addr) from z) Ad) Ad
    | some u=>
     rcases hO b with z | ⟨ob,xs,z⟩ | z
     ·rw[q] at z; cases z
     ·have z2:=un.frzs b ob _ z;obtain⟨e1,_⟩:=hok b _ z;obtain⟨e2,_⟩:=hok' b _ z2;rw[e] at e1; cases e1;exact e2
     ·exact absurd z hbT
 have aT:a∉cts.map (·.2):=fun z=>by rw[hT a z] at ha; cases ha
 cases hk:K.lookup a with
 | some o=>
  have e:=KX a o hk;rw[ha] at e;cases e;refine core (fun b=>if b∈cts.map (·.2) then some (.tbl #[]) else none) (fun b=>?_) (fun T hm=>ao hm) (.inr ⟨_,vs.toArray,_,hk,rfl,rfl,rfl,by rw[ar,lenV]; exact hl,by simpa using rv⟩) (fun b u z=>?_) (fun b z=>?_) fun z=>absurd (am aT) z
  ·by_cases hb:b∈cts.map (·.2)
   ·exact .inr (.inr hb)
   ·exact .inl (am hb)
  ·by_cases hb:b∈cts.map (·.2)
   ·have z':=(ao hb).symm.trans z;cases z';exact hT b hb
   ·have z':=(am hb).symm.trans z;cases z'
  ·by_cases hb:b∈cts.map (·.2)
   ·exact .inr hb
   ·exact absurd (am hb) z
 | none=>
  refine core (fun b=>if b∈cts.map (·.2) then some (.tbl #[]) else if b=a then some (.frz { cls:= .type "list",data:= .seq vs.toArray} (.lst (ns.map V.int))) else none) (fun b=>?_) (fun T hm=>ao hm) (.inl (.inr ⟨{ cls:= .type "list",data:= .seq vs.toArray},by dsimp only; rw[am aT,ao rfl]⟩)) (fun b u z=>?_) (fun b z=>?_) fun _=>hk
  ·by_cases hT':b∈cts.map (·.2)
   ·exact .inr (.inr hT')
   ·by_cases hb:b=a
    ·exact .inr (.inl ⟨_,_,by dsimp only; rw[am hT',ao hb]⟩)
    ·exact .inl (by dsimp only; rw[am hT',am hb])
  ·dsimp only at z;by_cases hT':b∈cts.map (·.2)
   ·rw[ao hT'] at z;cases z;exact hT b hT'
   ·rw[am hT'] at z;by_cases hb:b=a
    ·rw[ao hb] at z;cases z;subst hb;exact⟨ha,by rw[ab]; exact hl,vs,_,rv,ha⟩
    ·rw[am hb] at z;cases z
  ·replace z:(if b∈cts.map (·.2) then some (HO.tbl #[]) else if b=a then some (HO.frz { cls:= .type "list",data:= .seq vs.toArray} (.lst (ns.map V.int))) else none)≠none:=z;by_cases hT':b∈cts.map (·.2)
   ·exact .inr hT'
   ·by_cases hb:b=a
    ·exact .inl hb
    ·rw[am hT',am hb] at z;exact absurd rfl z
theorem walk_ofTs {cts:List (Addr×Addr)}{l:PySem.W.OpenLaw}{n k:Nat}{q:Program}{loose:Am}{XP:(Ak)->Heap->Prop}{YP:World->Heap->Prop}{d:DefRec}{K:Params->W.Frag}{CX:World->CXT}{sp:World->Sp}{x:Str}
  (hn:l.most=some n) (hn2:n<=sizeLine) (hdf:d.params.defaults=[]) (hr:Room k callerA)
  (hY:∀ (w:World) (h:Heap),YP w h->(K w.params).In h/\∀ T∈cts.map (·.2),h.get? T=some (tabObj #[])) (hcd:∀ w:World,∀ p∈cts,codeHdIn (K w.params) p.1 p.2=true) (hKT:∀ w:World,∀ T∈cts.map (·.2),(K w.params).lookup T=none)
  (F:∀ (w:World) (mg:Ak) (fa:Addr) (h:Heap),(K w.params).In h->h.Ns mainGlobals mg->mg d.name=some (.ref fa)->
   ∃ fd:FuncData,(∀ (s:Shared) (u:Value),BindsTo s fd ⟨[u],[]⟩ [(x,u)])/\
    ∀ Aq:Heap,(K w.params).In Aq->Aq.Ns mainGlobals mg->FnOk l.prog w (K w.params) mg Aq (CX w) k fa fd [x] (sp w))
  (hsp:∀ (w:World) (H:Hp) (a:Addr) (ns:Ag),ns.length<=n->(∀ T∈cts.map (·.2),H T=some (.tbl #[]))->SqL (K w.params) H a (ns.map V.int)->sp w [.ref a] H (fun v _=>v= .bl true) fun _ _ _=>False)
  (hCX:∀ (w:World) (H:Hp) (s:Shared) (e:Value) (s':Shared),CX w [] H s (fun _ _ _=>False) e s'->False):
  PySem.W.WalkO q loose XP YP l.row.toRowW d [] (fun f vs=>PySem.call f vs):=by
 refine Att.attach_call hn hdf fun w s₀ s₁ mg mb fa o pm cd doc a vs ns G Y ho hd _ hmg hobj hints hlen hg=>?_;obtain⟨KX,hT⟩:=hY w _ Y;obtain⟨fd,hb,hF⟩:=F w mg fa _ KX G.T.g hmg;exact jLY KX G.T.g G.T.b G.T.builtins G.T.nolimit hg hobj hints (be hlen hn2) hr hT (fun p hp=>fg KX (hcd w p hp)) (hKT w) hF hb (fun H hO hS=>hsp w H a ns hlen hO hS) fun H e s'=>hCX w H s₁ e s'
open PySem.AutoSeq1 (wpAny_loadPart')
theorem jS2 {tp:Bool}{e it l:Addr}{i:Nat}{xs:An}{x old:Value}{Q:Ah}(ee:IsEnum s.heap e it i old)(g1:ItAt tp s.heap it l i)(o1:ObAt tp s.heap l xs)(hx:xs[i]?=some x)(ne:e≠it)
  (k:∀ h',IsEnumOut h' e it ((i:Int)+1) x s.heap.objs.size->ItAt tp h' it l (i+1)->h'.get? s.heap.objs.size=some { cls:= .type "tuple",data:= .seq #[.int i s.toks,x]} ->h'.objs.size=s.heap.objs.size+1->
   (∀ c o,c≠e->c≠it->s.heap.get? c=some o->h'.get? c=some o)->Q (.ref s.heap.objs.size) { s with heap:=h',toks:=s.toks+1}):
  wpAny (model prog w) A (Builtin.«enumerate.__next__» ⟨[.ref e],[]⟩) (fun fin s'=>∃ v,fin= .done (.ret v)/\Q v s') E s:=by
 obtain⟨hp,g,d,tk,os⟩:=s;show wpAny (model prog w) A (field (.ref e) 2 >>= _) _ _ _;refine ae (dQ ee rfl (x:= .ref it) rfl (ae (next1 g1 o1 hx fun p1 r1 q1=>?_)));have q1:Heap.SameBut it hp p1:=q1;have e1:IsEnum p1 e it i old:=(q1.2 e ne).trans ee;show wpAny (model prog w) A (field (.ref e) 3 >>= _) _ _ ⟨p1,g,d,tk,os⟩;refine ae (dQ e1 rfl (x:=rawInt i) rfl (?_:wpAny (model prog w) A (field (.ref e) 4 >>= _) _ _ ⟨p1,g,d,tk,os⟩));refine ae (dQ e1 rfl (x:= .none) rfl (?_:wpAny (model prog w) A (mkInt i >>= _) _ _ ⟨p1,g,d,tk,os⟩));refine ae (wpAny_mkInt (?_:wpAny (model prog w) A (setField (.ref e) 3 (rawInt ((i:Int)+1)) >>= _) _ _ ⟨p1,g,d,tk+1,os⟩));refine ae (cN e1 Ad fun p2 e2 q2=>?_);have q2:Heap.SameBut e p1 p2:=q2;have e2:IsEnum p2 e it ((i:Int)+1) old:=e2;show wpAny (model prog w) A (setField (.ref e) 4 .none >>= _) _ _ ⟨p2,g,d,tk+1,os⟩;refine ae (cN e2 Ad fun p3 e3 q3=>?_);have q3:Heap.SameBut e p2 p3:=q3;have e3:IsEnum p3 e it ((i:Int)+1) old:=e3;show wpAny (model prog w) A (newTuple [.int i tk,x] >>= _) _ _ ⟨p3,g,d,tk+1,os⟩;refine ae (wpAny_newTuple ?_);have e4:IsEnum (p3.push { cls:= .type "tuple",data:= .seq #[.int i tk,x]}) e it ((i:Int)+1) old:=af _ e3;have sz:p3.objs.size=hp.objs.size:=by rw[q3.1,q2.1,q1.1]
 have lt:e<hp.objs.size:=aC ee;have t4:(p3.push { cls:= .type "tuple",data:= .seq #[.int i tk,x]}).get? hp.objs.size=some { cls:= .type "tuple",data:= .seq #[.int i tk,x]} :=by rw[<- sz]; exact ax _ rfl
 have z4:(p3.push { cls:= .type "tuple",data:= .seq #[.int i tk,x]}).objs.size=hp.objs.size+1:=by rw[cA,sz]
 have k4:∀ c o,c≠e->c≠it->hp.get? c=some o->(p3.push { cls:= .type "tuple",data:= .seq #[.int i tk,x]}).get? c=some o:=fun c o n1 n2 v=>af _ (q3.extBut c o n1 (q2.extBut c o n1 (q1.extBut c o n2 v)));have r4:ItAt tp (p3.push { cls:= .type "tuple",data:= .seq #[.int i tk,x]}) it l (i+1):=((r1.but q2.extBut ne.symm).but q3.extBut ne.symm).at fun o v=>af _ v;generalize p3.push { cls:= .type "tuple",data:= .seq #[.int i tk,x]} =p4 at e4 t4 z4 k4 r4 ⊢;show wpAny (model prog w) A (Builtin.SmallTypes.ownedTupleIsFree (.ref e) >>= _) _ _ ⟨p4,g,d,tk+1,os⟩;rw[sz];refine ae (by
  unfold Builtin.SmallTypes.ownedTupleIsFree;refine ae (dQ e4 rfl (x:= .none) rfl (ah ?_));simp only [gc];refine ae (df (ae (dQ e4 rfl (x:=old) rfl (ae (cN e4 Ad fun p5 e5 q5=>?_)))));have q5:Heap.SameBut e p4 p5:=q5;have e5:IsEnum p5 e it ((i:Int)+1) x:=e5;refine ae (m:=Builtin.SmallTypes.ownedTupleHandOut (.ref e) (.ref hp.objs.size)) ?_;unfold Builtin.SmallTypes.ownedTupleHandOut;refine ae (cN e5 Ad fun p6 e6 q6=>?_);have q6:Heap.SameBut e p5 p6:=q6;have e6:IsEnumOut p6 e it ((i:Int)+1) x hp.objs.size:=e6;refine cN e6 Ad fun p7 e7 q7=>?_;have q7:Heap.SameBut e p6 p7:=q7;have e7:IsEnumOut p7 e it ((i:Int)+1) x hp.objs.size:=e7;have up:∀ c o,c≠e->p4.get? c=some o->p7.get? c=some o:=fun c o n v=>q7.extBut _ _ n (q6.extBut _ _ n (q5.extBut _ _ n v));exact ae (wpAny_letGo (ah ⟨_,rfl,k p7 e7 (r4.at fun o v=>up _ o ne.symm v) (up _ _ (di lt) t4) (by rw[q7.1,q6.1,q5.1,z4]) fun c o n1 n2 v=>up c o n1 (k4 c o n1 n2 v)⟩)))
theorem jLM {tp:Bool}{e it l:Addr}{i:Nat}{xs:An}{x old:Value}{Q:Ao->Shared->Prop}(ee:IsEnum s.heap e it i old)(g1:ItAt tp s.heap it l i)(o1:ObAt tp s.heap l xs)(hx:xs[i]?=some x)(ne:e≠it)
  (k:∀ h',IsEnumOut h' e it ((i:Int)+1) x s.heap.objs.size->ItAt tp h' it l (i+1)->h'.get? s.heap.objs.size=some { cls:= .type "tuple",data:= .seq #[.int i s.toks,x]} ->h'.objs.size=s.heap.objs.size+1->
   (∀ c o,c≠e->c≠it->s.heap.get? c=some o->h'.get? c=some o)->Q (some (.ref s.heap.objs.size)) { s with heap:=h',toks:=s.toks+1}):
  wpAny (model prog w) A (pyNext (.ref e)) Q E s:=by
 have ty:s.TypeIs (.ref e) "enumerate" :=⟨_,ee,rfl⟩;unfold pyNext;exact ae (fo (cP (name:=Str.ofString "__next__") ty F.slot_enumerate_next (cn F.slot_enumerate_next ty F.entry_enumerate_next (jS2 ee g1 o1 hx ne fun h' b1 b2 b3 b4 b5=>ah (k h' b1 b2 b3 b4 b5)) (F.args_enumerate_next_1 _))))
theorem jLN {tp:Bool}{e it l:Addr}{i:Nat}{xs:An}{old:Value}{Q:Ao->Shared->Prop}(hh:A.handled=none)(ee:IsEnum s.heap e it i old)(g1:ItAt tp s.heap it l i)(o1:ObAt tp s.heap l xs)(hx:xs[i]?=none)
  (k:∀ h',(∀ c o,c≠e->c≠it->s.heap.get? c=some o->h'.get? c=some o)->Q none { s with heap:=h'}):wpAny (model prog w) A (pyNext (.ref e)) Q E s:=by
 have ty:s.TypeIs (.ref e) "enumerate" :=⟨_,ee,rfl⟩;unfold pyNext;refine ae (fo (cP (name:=Str.ofString "__next__") ty F.slot_enumerate_next (cn F.slot_enumerate_next ty F.entry_enumerate_next (?_:wpAny (model prog w) _ (field (.ref e) 2 >>= _) _ _ _) (F.args_enumerate_next_1 _))));refine ae (dQ ee rfl (x:= .ref it) rfl (ae (next0 hh g1 o1 hx fun h' x kp ⟨u,eu,cu⟩=>?_)));exact ae (iJ (T:= "StopIteration") (b:=true) ⟨u,eu,cu⟩ isSubtype_stop (ah (k _ fun c o _ n v=>kp c o n v)))
set_option maxHeartbeats 2000000 in
theorem jO7 (tp:Bool)(l:Addr)(xs:An)(u:Obj):
  Meets (Builtin.«enumerate.__new__» ⟨[.type "enumerate", .ref l],[]⟩) (fun _ R s=>s.heap.get? l=some u/\ObAt tp s.heap l xs/\
   R (.ok (.ret (.ref (s.heap.push (iterO tp l)).objs.size))) { s with heap:=(s.heap.push (iterO tp l)).push { cls:= .type "enumerate",data:= .fields #[.none, .bool false, .ref s.heap.objs.size,rawInt 0, .none, .none]}}):=
 .of_wp fun prog w A R s h=>by
  obtain⟨hp,g,d,tk,os⟩:=s;obtain⟨a0,a1,q⟩:=h;have sub:=sub_enumerate;have e1:ObAt tp (Shared.heap ⟨hp,g,d,tk,os⟩) l xs:=a1;obtain⟨c,dct,dt,sl⟩:=u;obtain⟨n,hc,hd⟩:∃ n,c=(if tp then .type "tuple" else .type "list")/\dt= .seq xs n:=by
   cases tp with
   | false=>obtain⟨o,e,hc,n,hd⟩:=a1; cases (a0.symm.trans e); exact⟨n,hc,hd⟩
   | true=>obtain⟨o,e,hc,n,hd⟩:=a1; cases (a0.symm.trans e); exact⟨n,hc,hd⟩
  subst hd;cases tp with
  | false=>
   subst hc
   wp_walk using cG a0
   refine wpAny_stack_any fun _=>ah ?_;split
   ·rename_i c _ _ _ _ _;cases hcc:(c==Value.type "enumerate")
    all_goals (wp_walk using cG a0,jG3 e1; exact⟨_,rfl,q⟩)
   ·wp_walk using cG a0,jG3 e1
    exact⟨_,rfl,q⟩
  | true=>
   subst hc
   wp_walk using cG a0
   refine wpAny_stack_any fun _=>ah ?_;split
   ·rename_i c _ _ _ _ _;cases hcc:(c==Value.type "enumerate")
    all_goals (wp_walk using cG a0,jG3 e1; exact⟨_,rfl,q⟩)
   ·wp_walk using cG a0,jG3 e1
    exact⟨_,rfl,q⟩
theorem jSB {prog:Program}{w:World}{A:Around}{E:Ah}{s:Shared}{tp:Bool}{l:Addr}{xs:An}{Q:Ah}(a1:ObAt tp s.heap l xs)
  (k:∀ h',IsEnum h' (s.heap.objs.size+1) s.heap.objs.size 0 .none->ItAt tp h' s.heap.objs.size l 0->(∀ c o,s.heap.get? c=some o->h'.get? c=some o)->Q (.ref (s.heap.objs.size+1)) { s with heap:=h'}):
  wpAny (model prog w) A (call (.type "enumerate") [.ref l]) Q E s:=by
 obtain⟨u,eu⟩:∃ u,s.heap.get? l=some u:=by
  cases tp with
  | false=>obtain⟨o,e,_⟩:=a1; exact⟨o,e⟩
  | true=>obtain⟨o,e,_⟩:=a1; exact⟨o,e⟩
 refine callType_new F.called_enumerate Ac (F.typeCall_enumerate_1 _) (F.newCall_enumerate_1 _) (fun obj=>F.args_object_init_2 obj _) F.entry_enumerate_new (jO7 tp l xs u) ⟨eu,a1,?_⟩;have z1:(s.heap.push (iterO tp l)).objs.size=s.heap.objs.size+1:=cA ..;have y2:IsEnum ((s.heap.push (iterO tp l)).push { cls:= .type "enumerate",data:= .fields #[.none, .bool false, .ref s.heap.objs.size,rawInt 0, .none, .none]}) (s.heap.push (iterO tp l)).objs.size s.heap.objs.size 0 .none:=ax _ rfl;have y1:((s.heap.push (iterO tp l)).push { cls:= .type "enumerate",data:= .fields #[.none, .bool false, .ref s.heap.objs.size,rawInt 0, .none, .none]}).get? s.heap.objs.size=some (iterO tp l):=af _ (ax _ (jM0 _ _));show _/\_;rw[z1] at y2 ⊢;exact⟨⟨_,y2,rfl⟩,k _ y2 (.new tp y1) fun c o e=>af _ (af _ e)⟩
def Ite (tp:Bool)(K:W.Frag)(l:Addr):It:=
 ⟨fun i H=>∃ xs x,Sq tp K H l xs/\xs[i]?=some x,
  fun i H v H'=>∃ T x,H T=none/\v= .ref T/\H'=upd H T (.tup [.int (i:Int),x])/\∀ xs,Sq tp K H l xs->xs[i]?=some x,
  fun i H=>∃ xs,Sq tp K H l xs/\xs.length<=i⟩
theorem jMK {P:Program}{w:World}{K:W.Frag}{elts:List Expr}{x1:Nat}{tps:Pos}(tp:Bool)(l e it:Addr)(ne:e≠it):
  Turn P w K (.Tuple elts x1 tps) (Ite tp K l) [e,it] e (fun i h=>(∃ old,IsEnum h e it ((i:Nat):Int) old)/\ItAt tp h it l i) where
 mem:=by simp
 obj:=fun i h st b hb=>by
  obtain⟨⟨old,he⟩,y1⟩:=st;simp only [aG,b8,eQ] at hb;rcases hb with rfl | rfl
  ·exact⟨_,he,fun v q=>by cases q⟩
  ·exact y1.obj
 keep:=fun i h h' st k=>by
  obtain⟨⟨old,he⟩,h1⟩:=st;exact⟨⟨old,k e Ad _ he⟩,h1.at fun o z=>k it Ad o z⟩
 item:=by
  intro X hP hw hK hc i kh s σ H E I hf st hg;subst hP hw hK;obtain⟨xs,x,hq1,hx⟩:=hg;obtain⟨⟨old,he⟩,h1⟩:=st;obtain⟨its1,r1,p1,_⟩:=I.sq hq1;obtain⟨u,hu,ru⟩:=r1.get hx;refine jLM he h1 p1 (x:=u) (by simpa using hu) ne fun h' a1 a2 a3 a4 a5=>?_;refine⟨_,rfl,wpAny_letOwnedTupleGo_enum (s:= { s with heap:=h',toks:=s.toks+1}) a1 fun h'' b1 sb=>?_⟩;have fresh:H s.heap.objs.size=none:=I.fresh;have ntr:∀ b o,H b=some o->b∉([e,it]:List Addr):=fun b o z hb=>by
   have:=(hf b hb).1;rw[z] at this; cases this
  have kp:∀ b o,b∉([e,it]:List Addr)->s.heap.get? b=some o->h''.get? b=some o:=fun b o hb z=>by
   simp only [aG,b8,eQ,kg] at hb;exact(sb.2 b hb.1).trans (a5 b o hb.1 hb.2 z)
  have nz:s.heap.objs.size≠e:=di (aC he);have hT2:h''.get? s.heap.objs.size=some { cls:= .type "tuple",data:= .seq #[.int i s.toks,u]} :=(sb.2 _ nz).trans a3;have I2:Inv X kh σ (upd H s.heap.objs.size (.tup [.int (i:Int),x])) { s with heap:=h'',toks:=s.toks+1} :=by
   refine I.step (g':=s.gens) (d':=s.drawn) (t':=s.toks+1) (ch:=[e,it]) (fun b hb=>?_) (fun b o _ _ hb z _=>kp b o hb z) (fun b o _ _ hb z _=>⟨o.slots,kp b o hb z⟩)
    (fun b o _ z n=>by rw[jA (aU (aC z))]; exact n) (fun b o hb z=>⟨o,kp b o hb z⟩) (fun b ws z=>by rw[jA (jB z fresh)]; exact z) (fun b o ws z=>by rw[jA (jB z fresh)]; exact z)
    (fun b ps z=>⟨#[],by rw[jA (jB z fresh),z]; simp⟩) (fun m hm=>?_) (fun b o z=>?_) I.bare
   ·obtain⟨f0,f1,f2,f3,f4,f5⟩:=hf b hb;exact⟨f3,f1,f4,f5⟩
   ·obtain⟨o,es,ep,ho,r⟩:=hm;exact⟨o,es,ep,kp _ o (fun hb=>(hf _ hb).2.1 rfl) ho,r⟩
   ·by_cases hb:b=s.heap.objs.size
    ·subst hb;rw[j6] at z;cases z;exact⟨by rw[dD]; show 2<=_; decide,[.int i s.toks,u], .cons ⟨_,rfl⟩ (.cons ru .nil),0,hT2⟩
    ·rw[jA hb] at z;refine(I.hok b o z).stay (fun c w hc q=>kp c w ?_ q) (fun c q=>by rw[jA (jB q fresh)]; exact q) (fun c ws q=>by rw[jA (jB q fresh)]; exact q);rcases hc with rfl | hc
     ·exact ntr _ _ z
     ·exact ntr _ _ hc
  refine⟨.ref s.heap.objs.size,_,I2,rfl,⟨_,x,fresh,rfl,rfl,fun xs' q1=>by rw[I.sq_inj q1 hq1]; exact hx⟩,⟨⟨_,b1⟩,?_⟩,fun b hb=>?_⟩
  ·exact a2.at fun o z=>(sb.2 it ne.symm).trans z
  ·rw[jA (fun q=>by
    obtain⟨o,eo⟩:∃ o,s.heap.get? b=some o:=by
     simp only [aG,b8,eQ] at hb;rcases hb with rfl | rfl
     ·exact⟨_,he⟩
     ·obtain⟨o,z,_⟩:=h1.obj; exact⟨o,z⟩
    exact absurd (aC eo) (by rw[q]; exact cj _))]
   exact(hf b hb).1
 done:=by
  intro X hP hw hK hc i kh s σ H E I hf st hg;subst hP hw hK;obtain⟨xs,hq1,hend⟩:=hg;obtain⟨⟨old,he⟩,h1⟩:=st;obtain⟨its1,r1,p1,_⟩:=I.sq hq1;have e1:=r1.length;refine jLN (I.ok.hd hc) he h1 p1 (by simp; lia) fun h' kp=>⟨rfl,?_⟩;have kp2:∀ b o,b∉([e,it]:List Addr)->s.heap.get? b=some o->h'.get? b=some o:=fun b o hb z=>by
   simp only [aG,b8,eQ,kg] at hb;exact kp b o hb.1 hb.2 z
  have ntr:∀ b o,H b=some o->b∉([e,it]:List Addr):=fun b o z hb=>by
   have:=(hf b hb).1;rw[z] at this; cases this
  refine I.step (g':=s.gens) (d':=s.drawn) (t':=s.toks) (ch:=[e,it]) (fun b hb=>?_) (fun b o _ _ hb z _=>kp2 b o hb z) (fun b o _ _ hb z _=>⟨o.slots,kp2 b o hb z⟩)
   (fun b o _ z n=>n) (fun b o hb z=>⟨o,kp2 b o hb z⟩) (fun b ws z=>z) (fun b o ws z=>z) (fun b ps z=>⟨#[],by rw[z]; simp⟩) (fun m hm=>?_) (fun b o z=>?_) I.bare
  ·obtain⟨f0,f1,f2,f3,f4,f5⟩:=hf b hb;exact⟨f3,f1,f4,f5⟩
  ·obtain⟨o,es,ep,ho,r⟩:=hm;exact⟨o,es,ep,kp2 _ o (fun hb=>(hf _ hb).2.1 rfl) ho,r⟩
  ·refine(I.hok b o z).stay (fun c w hc q=>kp2 c w ?_ q) (fun _ q=>q) fun _ _ q=>q;rcases hc with rfl | hc
   ·exact ntr _ _ z
   ·exact ntr _ _ hc
 self:=fun _ _ _ _ _ st h=>wpAny_pyIter_enum st.1.choose_spec h
def iEnum (K:W.Frag)(ta:TA):TI:=fun σ H R=>ta σ H fun vs H1=>∃ tp l,vs=[.ref l]/\(∃ xs,Sq tp K H1 l xs)/\R (Ite tp K l) H1
theorem jU7 {a:Expr}{ta:TA}{p pos:Pos}{elts:List Expr}{x1:Nat}{tp:Pos}(hg:Gl X "enumerate")(hm:X.mg "enumerate" =none)(ha:PA X [a] ta)(hv:bootBuiltins "enumerate" =some (.type "enumerate"):=by decide+kernel)
  (he:starEach [a] X.env=(false,eval a X.env)::starEach [] X.env:=by rfl) (hpl:(backTo pos (starEach [] X.env)).any (·.1)=false:=by rfl):
  PI X (.Tuple elts x1 tp) (.Call (.Name "enumerate" p) [a] [] pos) (iEnum X.K ta):=by
 intro kh s σ H R I h;refine Call_ (jEO I hg hm hv (dC (kn (ha pos kh s σ H _ I h) fun us s1 ⟨vs,H1,I1,r1,q1⟩=>?_) he hpl));obtain⟨t1,l1,rfl,⟨xs,hq1⟩,q⟩:=q1;obtain⟨u,rfl,ru⟩:=r1.one;cases ru;obtain⟨its1,_,p1,_⟩:=I1.sq hq1;refine jSB p1 fun h' a1 a2 kp=>?_;have I2:Inv X kh σ H1 { s1 with heap:=h'} :=I1.kept (t':=s1.toks) kp;refine wpAny_pyIter_enum a1 ⟨s1.heap.objs.size+1,[s1.heap.objs.size+1,s1.heap.objs.size],_,Ite t1 X.K l1,H1,rfl,I2,jMK t1 l1 _ _ (Nat.succ_ne_self _),⟨⟨_,a1⟩,a2⟩,fun b hb=>?_,q⟩;have hge:s1.heap.objs.size<=b:=by
  simp only [aG,b8,eQ] at hb;rcases hb with rfl | rfl
  ·exact Nat.le_add_right _ 1
  ·exact ak _
 exact I1.fpOk hge (I1.hok.fresh hge)
theorem jEQ {a:Expr}{t:TA}{p pos:Pos}{elts:List Expr}{x1:Nat}{tp:Pos}(hg:Gl1 X "enumerate")(hm:X.mg "enumerate" =none)(ha:JA X [a] t)(he:starEach [a] X.env=(false,eval a X.env)::starEach [] X.env)(hv:bootBuiltins "enumerate" =some (.type "enumerate"):=by decide+kernel)
  (hpl:(backTo pos (starEach [] X.env)).any (·.1)=false:=by rfl):JI X (.Tuple elts x1 tp) (.Call (.Name "enumerate" p) [a] [] pos) (iEnum X.K t):=⟨jU7 hg.a hm ha.h hv he hpl⟩
variable {H1:Hp}{Q:VK}
section
variable {K:W.Frag}{σ:St}
theorem jCW {tp:Bool}{l:Addr}{xs:List V}(hn:xs.length<sizeLine)(Pv:Addr->Nat->St->Hp->List V->Prop)(h0:∀ D,H1 D=none->Pv D 0 (blkσ m σ) (upd H1 D (.lst [])) [])
  (hD:∀ D i σ' H' zs,H1 D=none->Pv D i σ' H' zs->Sq tp K H' l xs/\H' D=some (.lst zs)/\zs.length<=i)
  (hs:∀ D i σ' H' zs x T,H1 D=none->xs[i]?=some x->H' T=none->Pv D i σ' H' zs->g (.ref T) σ' (upd H' T (.tup [.int (i:Int),x])) fun σ2 H2=>tt σ2 H2 fun b H3=>if b=true then te σ2 H3 fun v H4=>H4 D=some (.lst zs)/\Pv D (i+1) σ2 (upd H4 D (.lst (zs++[v]))) (zs++[v]) else Pv D (i+1) σ2 H3 zs)
  (hd:∀ D σ' H' zs,H1 D=none->Pv D xs.length σ' H' zs->Q (.ref D) H'):qJ m g tt te σ Q (Ite tp K l) H1:=by
 intro D hDn;refine⟨fun i k σ' H' zs=>k=xs.length - i/\i<=xs.length/\Pv D i σ' H' zs,⟨_,rfl,bu _,h0 D hDn⟩,?_⟩;rintro i k σ' H' zs ⟨rfl,hi,p⟩;obtain⟨s1,q1,q2⟩:=hD D i σ' H' zs hDn p;refine⟨q1,Aa,?_⟩;by_cases hlt:i<xs.length
 ·refine .inr ⟨⟨xs,xs[i],s1,by simp [hlt]⟩,Pv D (i+1),fun σ2 H2 zs z=>⟨xs.length - (i+1),Aa,rfl,hlt,z⟩,fun v H'' y=>?_⟩;obtain⟨T,x,e1,e2,e3,e4⟩:=y;subst e2 e3;exact hs D i σ' _ zs x T hDn (e4 xs s1) e1 p
 ·have e:i=xs.length:=Aa;subst e;exact .inl ⟨⟨xs,s1,ak _⟩,hd D σ' H' zs hDn p⟩
end
section
variable {κ:Type} [DecidableEq κ]
def valV (kvs:List (κ×V))(k:κ):Option V:=(kvs.find? fun kv=>decide (kv.1=k)).map (·.2)
def putK (kvs:List (κ×V))(k:κ)(v:V):List (κ×V):=
 if (kvs.any fun kv=>decide (kv.1=k))=true then kvs.map (fun kv=>if kv.1=k then (kv.1,v) else kv) else kvs++[(k,v)]
theorem jBO {p:κ×V}{r:List (κ×V)}{k:κ}(e:p.1=k):valV (p::r) k=some p.2:=by simp [valV,dN,e]
theorem jBP {p:κ×V}{r:List (κ×V)}{k:κ}(e:¬ p.1=k):valV (p::r) k=valV r k:=by simp [valV,dN,e]
theorem jFX (k:κ):∀ kvs:List (κ×V),(kvs.any fun kv=>decide (kv.1=k))=(valV kvs k).isSome
 | []=>rfl
 | p::r=>by
  rw[gC];by_cases e:p.1=k
  ·simp only [jBO e,aq e,Bool.true_or,ju]
  ·rw[jBP e,aJ e,iu]; exact jFX k r
theorem jC7 (kvs:List (κ×V))(k:κ)(v:V):(putK kvs k v).length<=kvs.length+1:=by
 unfold putK;split
 ·rw[ab]; lia
 ·rw[aF,aP,cH]; lia
theorem jK7 {kvs:List (κ×V)}{k:κ}(v:V)(h:valV kvs k=none):putK kvs k v=kvs++[(k,v)]:=by
 unfold putK;rw[jFX,h];exact am Ac
theorem RelO.isSome_eq {o:Option V}{u:Ao}(r:RelO o u):o.isSome=u.isSome:=by
 cases o with
 | none=>cases u with
  | none=>rfl
  | some _=>exact(show False from r).elim
 | some _=>cases u with
  | none=>exact(show False from r).elim
  | some _=>rfl
theorem KV.val {kvs:List (κ×V)}{vs:List (κ×Value)}(r:KV kvs vs)(k:κ):RelO (valV kvs k) (valueAt vs k):=by
 unfold KV at r
 induction r with
 | nil=>exact True.intro
 | @cons p q ps qs h t ih=>
  obtain⟨h1,h2⟩:=h;by_cases e:p.1=k
  ·have e':q.1=k:=h1.symm.trans e;have b:valueAt (q::qs) k=some q.2:=by simp [valueAt,dN,e']
   rw[jBO e,b]; exact h2
  ·have e':¬ q.1=k:=fun z=>e (h1.trans z);have b:valueAt (q::qs) k=valueAt qs k:=by simp [valueAt,dN,e']
   rw[jBP e,b]; exact ih
theorem KV.any {kvs:List (κ×V)}{vs:List (κ×Value)}(r:KV kvs vs)(k:κ):(kvs.any fun kv=>decide (kv.1=k))=vs.any fun kv=>decide (kv.1=k):=by
 unfold KV at r
 induction r with
 | nil=>rfl
 | cons h t ih=>rw[gC,gC,ih,h.1]
theorem KV.repl {kvs:List (κ×V)}{vs:List (κ×Value)}(r:KV kvs vs)(k:κ){y:V}{u:Value}(ry:RelV y u):
  KV (kvs.map fun kv=>if kv.1=k then (kv.1,y) else kv) (vs.map fun kv=>if kv.1=k then (kv.1,u) else kv):=by
 unfold KV at r ⊢
 induction r with
 | nil=>exact .nil
 | @cons p q ps qs h t ih=>
  rw[bv,bv];refine .cons ?_ ih;obtain⟨h1,h2⟩:=h;by_cases e:p.1=k
  ·rw[ao e,ao (h1.symm.trans e)]; exact⟨h1,ry⟩
  ·rw[am e,am (fun z=>e (h1.trans z))]; exact⟨h1,h2⟩
theorem KV.put {kvs:List (κ×V)}{vs:List (κ×Value)}(r:KV kvs vs)(k:κ){y:V}{u:Value}(ry:RelV y u):KV (putK kvs k y) (stored vs k u):=by
 unfold putK stored;rw[r.any k];by_cases e:(vs.any fun kv=>decide (kv.1=k))=true
 ·rw[ao e,ao e]; exact r.repl k ry
 ·rw[am e,am e]; exact Paired.snoc r ⟨rfl,ry⟩
theorem KV.keys {kvs:List (κ×V)}{vs:List (κ×Value)}(r:KV kvs vs):kvs.map (·.1)=vs.map (·.1):=by
 unfold KV at r
 induction r with
 | nil=>rfl
 | cons h t ih=>rw[bv,bv,ih,h.1]
theorem KV.length {kvs:List (κ×V)}{vs:List (κ×Value)}(r:KV kvs vs):kvs.length=vs.length:=fj r
end
theorem kV_is {P:Program}{w:World}{k:Key}{u:Value}(r:RelV (kV k) u):(y0 P w).is k u=true:=by
 cases k with
 | inl i=>obtain⟨t,e⟩:=(show ∃ t,u=Value.int i t from r); subst e; exact jJ3 P w i t
 | inr x=>obtain⟨t,e⟩:=(show ∃ t,u=Value.str x t from r); subst e; exact jJ2 P w x t
theorem jI0 {P:Program}{w:World} :∀ {ks:List Key}{us:Al},Vals (ks.map kV) us->ItemsAre (y0 P w) ks us
 | [],_,r=>by rw[iP] at r; cases r; exact .nil
 | k::ks,_,r=>by
  rw[bv] at r;cases r with
  | cons h t=>exact .cons (kV_is h) (jI0 t)
abbrev KT (H:Hp):List (List Key×V)->List (List Key×Addr×Value)->Prop:=Paired fun p q=>p.1=q.1/\H q.2.1=some (.tup (p.1.map kV))/\RelV p.2 q.2.2
theorem KT.val {H:Hp}{kvs:List (List Key×V)}{xs:List (List Key×Addr×Value)}(r:KT H kvs xs)(k:List Key):RelO (valV kvs k) ((atKey xs k).map (·.2)):=by
 induction r with
 | nil=>exact True.intro
 | @cons p q ps qs h t ih=>
  obtain⟨h1,_,h2⟩:=h;by_cases e:p.1=k
  ·have e':q.1=k:=h1.symm.trans e;have b:atKey (q::qs) k=some q.2:=by simp [atKey,dN,e']
   rw[jBO e,b]; exact h2
  ·have e':¬ q.1=k:=fun z=>e (h1.trans z);have b:atKey (q::qs) k=atKey qs k:=by simp [atKey,dN,e']
   rw[jBP e,b]; exact ih
theorem KT.repl {H:Hp}{kvs:List (List Key×V)}{xs:List (List Key×Addr×Value)}(r:KT H kvs xs)(k:List Key){y:V}{u:Value}(ry:RelV y u):
  KT H (kvs.map fun kv=>if kv.1=k then (kv.1,y) else kv) (xs.map (putAt k u)):=by
 induction r with
 | nil=>exact .nil
 | @cons p q ps qs h t ih=>
  rw[bv,bv];refine .cons ?_ ih;obtain⟨h1,h2,h3⟩:=h;unfold putAt;by_cases e:p.1=k
  ·rw[ao e,ao (h1.symm.trans e)]; exact⟨h1,h2,ry⟩
  ·rw[am e,am (fun z=>e (h1.trans z))]; exact⟨h1,h2,h3⟩
theorem KT.put {H:Hp}{kvs:List (List Key×V)}{xs:List (List Key×Addr×Value)}(r:KT H kvs xs)(k:List Key){b:Addr}{y:V}{u:Value}(hb:H b=some (.tup (k.map kV)))(ry:RelV y u):
  KT H (putK kvs k y) (storedH xs k b u):=by
 have e:(kvs.any fun kv=>decide (kv.1=k))=(atKey xs k).isSome:=by
  rw[jFX,(r.val k).isSome_eq,ij]
 unfold putK storedH;rw[e];by_cases q:(atKey xs k).isSome=true
 ·rw[ao q,ao q]; exact r.repl k ry
 ·rw[am q,am q]; exact Paired.snoc r ⟨rfl,hb,ry⟩
theorem KT.keeps {H H':Hp}{kvs:List (List Key×V)}{xs:List (List Key×Addr×Value)}(r:KT H kvs xs)(ht:∀ b ys,H b=some (.tup ys)->H' b=some (.tup ys)):KT H' kvs xs:=
 Paired.mapP r fun _ _ z=>⟨z.1,ht _ _ z.2.1,z.2.2⟩
theorem rd_of {u:HO}(ok:HOk P w H h)(e:Rd H a u):ObjOk P w H h a u:=e.ok ok
theorem dk_rd {kvs:List (Key×V)}(ok:HOk P w H h)(e:Rd H a (.dK kvs)):kvs.length<=sizeLine/\(a==sysModules)=false/\∃ vs,KV kvs vs/\h.DictOf (y0 P w) a vs:=
 show ObjOk P w H h a (.dK kvs) from rd_of ok e
theorem dk_of {kvs:List (Key×V)}(ok:HOk P w H h)(e:H a=some (.dK kvs)):kvs.length<=sizeLine/\(a==sysModules)=false/\∃ vs,KV kvs vs/\h.DictOf (y0 P w) a vs:=dk_rd ok (.inl e)
theorem jHY {ks:List Key}(ok:HOk P w H h)(e:H a=some (.tup (ks.map kV))):(tupleKind (y0 P w)).is h ks a:=by
 obtain⟨_,its,r,p⟩:=(show ObjOk P w H h a (.tup (ks.map kV)) from ok a _ e);obtain⟨o,h1,h2,n,h3⟩:=p.isTup;exact⟨o,its.toArray,n,h1,h2,h3,by simpa using jI0 r⟩
theorem dt_rd {kvs:List (List Key×V)}(ok:HOk P w H h)(e:Rd H a (.dT kvs)):kvs.length<=sizeLine/\(a==sysModules)=false/\
  ∃ xs,KT H kvs xs/\h.DictOfH (tupleKind (y0 P w)) a xs:=by
 obtain⟨z,y,xs,r,o,es,ep,h1,h2,h3,h4,h5⟩:=(show ObjOk P w H h a (.dT kvs) from rd_of ok e);refine⟨z,y,xs,r,o,es,ep,h1,h2,h3,h4,fun x hx=>?_,h5⟩;have all:∀ {l:List (List Key×V)}{m:List (List Key×Addr×Value)},KT H l m->∀ x∈m,(tupleKind (y0 P w)).is h x.1 x.2.1:=by
  intro l m q
  induction q with
  | nil=>intro x hx; exact nomatch hx
  | @cons p q ps qs hq t ih=>
   intro x hx;rcases aG.mp hx with e | hx
   ·subst e;exact jHY ok (by rw[<- hq.1]; exact hq.2.1)
   ·exact ih x hx
 exact all r x hx
theorem dt_of {kvs:List (List Key×V)}(ok:HOk P w H h)(e:H a=some (.dT kvs)):kvs.length<=sizeLine/\(a==sysModules)=false/\
  ∃ xs,KT H kvs xs/\h.DictOfH (tupleKind (y0 P w)) a xs:=dt_rd ok (.inl e)
def DGet (H:Hp)(a:Addr)(y:V)(r:Option V):Prop:=
 (∃ kvs k,Rd H a (.dK kvs)/\y=kV k/\r=valV kvs k)\/∃ kvs k b,Rd H a (.dT kvs)/\y= .ref b/\H b=some (.tup (k.map kV))/\r=valV kvs k
def DPut (H:Hp)(a:Addr)(y v:V)(H':Hp):Prop:=
 (∃ kvs k,H a=some (.dK kvs)/\y=kV k/\kvs.length<sizeLine/\H'=upd H a (.dK (putK kvs k v)))\/
 ∃ kvs k b,H a=some (.dT kvs)/\y= .ref b/\H b=some (.tup (k.map kV))/\kvs.length<sizeLine/\H'=upd H a (.dT (putK kvs k v))
theorem DGet.k {H:Hp}{a:Addr}{kvs:List (Key×V)}{k:Key}(e:H a=some (.dK kvs)):DGet H a (kV k) (valV kvs k):= .inl ⟨kvs,k, .inl e,rfl,rfl⟩
theorem DPut.k {H:Hp}{a:Addr}{kvs:List (Key×V)}{k:Key}{v:V}(e:H a=some (.dK kvs))(hl:kvs.length<sizeLine):DPut H a (kV k) v (upd H a (.dK (putK kvs k v))):= .inl ⟨kvs,k,e,rfl,hl,rfl⟩
variable {y:V}{u r:Value}
section
variable {σ:St}{v:V}{o:Option V}
theorem Inv.big (I:Inv X kh σ H s):sysModules<s.heap.objs.size:=by
 have h:mainGlobals<s.heap.objs.size:=(I.mod.glob.keeps I.bk).lt;exact eD Ac h
theorem jPE {Q:Ah}(hu:A.units+1<cLine)(I:Inv X kh σ H s)(g:DGet H a y (some v))(ry:RelV y u)(h:∀ w' s',Inv X kh σ H s'->RelV v w'->Q w' s'):
  wpAny (model X.prog X.w) A (getItem (.ref a) u) Q E s:=by
 rcases g with ⟨kvs,k,e,ey,l⟩ | ⟨kvs,k,b,e,ey,eb,l⟩
 ·subst ey;obtain⟨z,hd,vs,rel,dd⟩:=dk_rd I.hok e;obtain⟨w',hw,rw'⟩:=RelO.some_of (v:=v) (o:=valueAt vs k) (by rw[l]; exact rel.val k);exact wpAny_getItem_of (kV_is ry) dd.mapOf hw (h w' _ (I.tok _) rw')
 ·subst ey;cases (show u=Value.ref b from ry);obtain⟨z,hd,xs,rel,dd⟩:=dt_rd I.hok e;obtain⟨w',hw,rw'⟩:=RelO.some_of (v:=v) (o:=(atKey xs k).map (·.2)) (by rw[l]; exact rel.val k);obtain⟨p,hp,hp2⟩:=gm.mp hw;refine wpAny_getItem_heap (fO hu) (jHY I.hok eb) dd hp ?_;rw[hp2];exact h w' _ (I.tok _) rw'
theorem d_in {Q:Ah}(hu:A.units+1<cLine)(I:Inv X kh σ H s)(g:DGet H a y o)(ry:RelV y u)(h:∀ s',Inv X kh σ H s'->Q (.bool o.isSome) s'):
  wpAny (model X.prog X.w) A (compareOp .In u (.ref a)) Q E s:=by
 rcases g with ⟨kvs,k,e,ey,l⟩ | ⟨kvs,k,b,e,ey,eb,l⟩
 ·subst ey;obtain⟨z,hd,vs,rel,dd⟩:=dk_rd I.hok e;refine wpAny_in_of (kV_is ry) hd dd.mapOf ?_;rw[<- (rel.val k).isSome_eq,<- l];exact h _ (I.tok _)
 ·subst ey;cases (show u=Value.ref b from ry);obtain⟨z,hd,xs,rel,dd⟩:=dt_rd I.hok e;refine wpAny_in_heap (fO hu) (jHY I.hok eb) hd dd ?_;have q:=(rel.val k).isSome_eq;rw[ij] at q;rw[<- q,<- l];exact h _ (I.tok _)
theorem jVQ {Q:Ah}(hu:A.units+1<cLine)(I:Inv X kh σ H s)(g:DGet H a y o)(ry:RelV y u)(h:∀ s',Inv X kh σ H s'->Q (.bool (!o.isSome)) s'):
  wpAny (model X.prog X.w) A (compareOp .NotIn u (.ref a)) Q E s:=by
 rcases g with ⟨kvs,k,e,ey,l⟩ | ⟨kvs,k,b,e,ey,eb,l⟩
 ·subst ey;obtain⟨z,hd,vs,rel,dd⟩:=dk_rd I.hok e;refine wpAny_notIn_of (kV_is ry) hd dd.mapOf ?_;rw[<- (rel.val k).isSome_eq,<- l];exact h _ (I.tok _)
 ·subst ey;cases (show u=Value.ref b from ry);obtain⟨z,hd,xs,rel,dd⟩:=dt_rd I.hok e;refine wpAny_notIn_heap (fO hu) (jHY I.hok eb) hd dd ?_;have q:=(rel.val k).isSome_eq;rw[ij] at q;rw[<- q,<- l];exact h _ (I.tok _)
theorem jJD {h':Heap}{t':Nat}{ob:HO}(I:Inv X kh σ H s)(mu:Mut (H a))(hs:Heap.SameBut a s.heap h')(he:∃ q,h'.get? a=some q)(new:ObjOk X.prog X.w (upd H a ob) h' a ob):
  Inv X kh σ (upd H a ob) { s with heap:=h',toks:=t'} :=
 I.write (x:=a) (e:=a) mu (.inl rfl) (fun b q hb z=>(hs.2 b hb).trans z) he new
theorem jT8 {P:Program}{w:World}{H':Hp}{h':Heap}{kvs:List (Key×V)}{vs:List (Key×Value)}(z:kvs.length<=sizeLine)(hd:(a==sysModules)=false)(rel:KV kvs vs)(dd:h'.DictOf (y0 P w) a vs):
  ObjOk P w H' h' a (.dK kvs):=⟨z,hd,vs,rel,dd⟩
theorem jPD {H':Hp}{Q:Unit->Shared->Prop}(hu:A.units+1<cLine)(I:Inv X kh σ H s)(g:DPut H a y v H')(ry:RelV y u)(rv:RelV v r)(h:∀ s',Inv X kh σ H' s'->Q () s'):
  wpAny (model X.prog X.w) A (setItem (.ref a) u r) Q E s:=by
 rcases g with ⟨kvs,k,e,ey,l,eH⟩ | ⟨kvs,k,b,e,ey,eb,l,eH⟩
 ·subst ey eH;obtain⟨z,hd,vs,rel,dd⟩:=dk_of I.hok e;have hz:vs.length<=sizeLine:=by rw[<- rel.length]; exact z
  have hl:(putK kvs k v).length<=sizeLine:=by have:=jC7 kvs k v; lia
  refine wpAny_setItem_pairs (hsz:=hz) (kV_is ry) dd fun h' dd' hs=>h _ ?_;have he:∃ q,h'.get? a=some q:=let ⟨q,_,_,hq,_⟩:=dd'; ⟨q,hq⟩;exact jJD I (by rw[e]; exact True.intro) hs he (jT8 hl hd (rel.put k rv) dd')
 ·subst ey eH;cases (show u=Value.ref b from ry);obtain⟨z,hd,xs,rel,dd⟩:=dt_of I.hok e;have hz:xs.length<=sizeLine:=by rw[<- fj rel]; exact z
  have hl:(putK kvs k v).length<=sizeLine:=by have:=jC7 kvs k v; lia
  refine wpAny_setItem_heap (hsz:=hz) (fO hu) (jHY I.hok eb) dd fun h' dd' hs=>h _ ?_;obtain⟨q,es,ep,hq,h2,h3,h4,_,h5⟩:=dd';refine jJD I (by rw[e]; exact True.intro) hs ⟨q,hq⟩ ⟨hl,hd,_,(rel.put k eb rv).keeps fun c ys ec=>?_,q,es,ep,hq,h2,h3,h4,h5⟩;rw[jA (ne_of ec e (fun z=>nomatch z))];exact ec
end
variable {kvs:List (Key×V)}
section
variable {σ:St}{k:Key}
end
def NoSl (i:Expr):Prop:=∀ ov iv,subscripted i false ov iv=operate [ov,iv] (getItem ov iv)
theorem jTM {prog:Program}{w:World}{A:Around}{E:Ah}{s:Shared}{env:Env}{value slice:Expr}{pos:Pos}{T id:String}{Q:Ah}
  (hl:typeLookup (.type T) "__getitem__" =pure (some (.builtin id))) (hs:NoSl slice)
  (h:wpAny (model prog w) A (eval value env) (fun o s₁=>wpAny (model prog w) A (eval slice env) (fun i s₂=>s₂.TypeIs o T/\wpAny (model prog w) A (getItem o i) Q E s₂) E s₁) E s):
  wpAny (model prog w) A (eval (.Subscript value slice pos) env) Q E s:=by
 refine Subscript_ (cy h (fun o s₁ h₁=>cy h₁ (fun i s₂ h₂=>?_) fun _ _ x=>x) fun _ _ x=>x);obtain⟨hT,h₂⟩:=h₂;unfold subscriptTail;refine ae ?_;rw[getitemInPython_of_ne hT.not_modules];refine ae (wpAny_specialOf hT hl ?_);have fin:wpAny (model prog w) A (subscripted slice false o i) (fun r s₃=>wpAny (model prog w) A (letTemporaryGo value o r >>= fun _=>pure r) Q E s₃) E s₂:=by
  rw[hs o i];exact wpAny_operating (cy h₂ (fun r s₃ h₃=>ae (wpAny_letTemporaryGo (ah h₃))) fun _ _ x=>x)
 first
  | exact ah (ae fin)
  | exact ae (ah (ae fin))
  | exact ae fin
theorem jJB {X:Cx}{kh:Ai}{σ:St}{H:Hp}{s:Shared}{a:Addr}{y:V}{o:Option V}(I:Inv X kh σ H s)(g:DGet H a y o):s.TypeIs (.ref a) "dict" :=by
 rcases g with ⟨kvs,k,e,_,_⟩ | ⟨kvs,k,b,e,_,_,_⟩
 ·obtain⟨_,_,vs,_,dd⟩:=dk_rd I.hok e;exact dd.typeIs
 ·obtain⟨_,_,xs,_,dd⟩:=dt_rd I.hok e;exact dd.typeIs
def tDGet (td ty:TE):TE:=fun σ H Q=>td σ H fun x H1=>ty σ H1 fun y H2=>∃ a v,x= .ref a/\DGet H2 a y (some v)/\Q v H2
def tDIn (ty td:TE):TE:=fun σ H Q=>ty σ H fun y H1=>td σ H1 fun x H2=>∃ a o,x= .ref a/\DGet H2 a y o/\Q (.bl o.isSome) H2
def jMQ (ty td:TE):TE:=fun σ H Q=>ty σ H fun y H1=>td σ H1 fun x H2=>∃ a o,x= .ref a/\DGet H2 a y o/\Q (.bl (!o.isSome)) H2
def sDPut (td ty tv:TE):TS:=fun D σ H=>tv σ H fun v H1=>td σ H1 fun x H2=>ty σ H2 fun y H3=>∃ a H4,x= .ref a/\DPut H3 a y v H4/\D.nx σ H4
variable {o value:Expr}{pos':Pos}{td tv:TE}
section
variable {i:Expr}{tpos:Pos}{ty:TE}
theorem jUA (hu:X.A.units+1<cLine)(ho:PE X o td)(hi:PE X i ty)(hs:NoSl i):PE X (.Subscript o i pos) (tDGet td ty):=by
 intro kh s σ H Q I h;refine jTM PySem.F.slot_dict_getitem.lookup hs (kn (ho kh s σ H _ I h) fun u s1 ⟨x,H1,I1,rx,q1⟩=>kn (hi kh s1 σ H1 _ I1 q1) fun iv s2 ⟨y,H2,I2,ry,a,v,ex,g,q2⟩=>?_);subst ex;obtain rfl:u=Value.ref a:=rx;exact⟨jJB I2 g,jPE hu I2 g ry fun w' s3 I3 rw'=>⟨v,H2,I3,rw',q2⟩⟩
theorem jWR (hu:X.A.units+1<cLine)(hi:PE X i ty)(ho:PE X o td):PC X .In i o (tDIn ty td):=by
 intro kh s σ H Q I h;refine kn (hi kh s σ H _ I h) fun iv s1 ⟨y,H1,I1,ry,q1⟩=>kn (ho kh s1 σ H1 _ I1 q1) fun u s2 ⟨x,H2,I2,rx,a,ov,ex,g,q2⟩=>?_;subst ex;obtain rfl:u=Value.ref a:=rx;exact d_in hu I2 g ry fun s3 I3=>⟨.bl ov.isSome,H2,I3,rfl,q2⟩
theorem jNC (hu:X.A.units+1<cLine)(hi:PE X i ty)(ho:PE X o td):PC X .NotIn i o (jMQ ty td):=by
 intro kh s σ H Q I h;refine kn (hi kh s σ H _ I h) fun iv s1 ⟨y,H1,I1,ry,q1⟩=>kn (ho kh s1 σ H1 _ I1 q1) fun u s2 ⟨x,H2,I2,rx,a,ov,ex,g,q2⟩=>?_;subst ex;obtain rfl:u=Value.ref a:=rx;exact jVQ hu I2 g ry fun s3 I3=>⟨.bl (!ov.isSome),H2,I3,rfl,q2⟩
theorem jTZ (hu:X.A.units+1<cLine)(ho:PE X o td)(hi:PE X i ty)(hv:PE X value tv)(hs:swapsWith value (some (.Subscript o i pos')) pos.line X.env=pure false):
  PS X (.Assign [.Subscript o i pos'] value pos) (sDPut td ty tv):=by
 intro kh s σ H D I h;refine wpAny_Assign_Subscript (kn (hv kh s σ H _ I h) fun r s1 ⟨v,H1,I1,rv,q1⟩=>kn (ho kh s1 σ H1 _ I1 q1) fun u s2 ⟨x,H2,I2,rx,q2⟩=>kn (hi kh s2 σ H2 _ I2 q2) fun iv s3 ⟨y,H3,I3,ry,a,H4,ex,g,q3⟩=>?_) hs;subst ex;obtain rfl:u=Value.ref a:=rx;exact jPD hu I3 g ry rv fun s4 I4=>⟨σ,H4,I4,q3⟩
end
theorem jS3 {P:Program}{w:World}{H:Hp}(h:Heap)(hb:sysModules<h.objs.size):ObjOk P w H (h.push { cls:= .type "dict",data:= .dict #[]}) h.objs.size (.dK []):=
 ⟨bu _,b7.mpr (fw (aU hb)),[], .nil,iV h⟩
def jMO:List (TE×TE)->St->Hp->(List (V×V)->Hp->Prop)->Prop
 | [],_,H,Q=>Q [] H
 | (tk,tv)::r,σ,H,Q=>tk σ H fun x H1=>tv σ H1 fun y H2=>jMO r σ H2 fun ps H3=>Q ((x,y)::ps) H3
abbrev VV:List (V×V)->List (Value×Value)->Prop:=Paired fun p q=>RelV p.1 q.1/\RelV p.2 q.2
def PPs (X:Cx)(pos:Pos)(keys:List (Option Expr))(values:List Expr)(trs:List (TE×TE)):Prop:=
 ∀ (kh:Ai) (s:Shared) (σ:St) (H:Hp) (Q:List (V×V)->Hp->Prop),Inv X kh σ H s->jMO trs σ H Q->
  wpAny (model X.prog X.w) X.A (evalPairs (pairTrees keys values X.env pos)) (fun vs s'=>∃ ps H',Inv X kh σ H' s'/\VV ps vs/\Q ps H') X.xe s
theorem jU0 {X:Cx}{pos:Pos} :PPs X pos [] [] []:=fun kh s σ H Q I h=>pairTrees_nil_walk ⟨[],H,I, .nil,h⟩
theorem jQG {X:Cx}{pos:Pos}{k v:Expr}{ks:List (Option Expr)}{vs:List Expr}{tk tv:TE}{trs:List (TE×TE)}(hk:PE X k tk)(hv:PE X v tv)(hr:PPs X pos ks vs trs):
  PPs X pos (some k::ks) (v::vs) ((tk,tv)::trs):=fun kh s σ H Q I h=>
 pairTrees_cons_walk (kn (hk kh s σ H _ I h) fun u s1 ⟨x,H1,I1,rx,q1⟩=>kn (hv kh s1 σ H1 _ I1 q1) fun w2 s2 ⟨y,H2,I2,ry,q2⟩=>
  kn (hr kh s2 σ H2 _ I2 q2) fun ws s3 ⟨ps,H3,I3,rel,q3⟩=>⟨(x,y)::ps,H3,I3, .cons ⟨rx,ry⟩ rel,q3⟩)
def jHT (kvs more:List (Key×V)):List (Key×V):=more.foldl (fun acc kv=>putK acc kv.1 kv.2) kvs
theorem KV.merge:∀ {more:List (Key×V)}{rs:List (Key×Value)}{kvs:List (Key×V)}{vs:List (Key×Value)},KV more rs->KV kvs vs->KV (jHT kvs more) (merged vs rs):=by
 intro more rs kvs vs r;unfold KV at r
 induction r generalizing kvs vs with
 | nil=>intro q; exact q
 | @cons p q ps qs h t ih=>
  intro r0;have e:KV (putK kvs p.1 p.2) (stored vs q.1 q.2):=by
   have:=r0.put p.1 h.2;rw[<- h.1]; exact this
  exact ih e
theorem jCP:∀ (more kvs:List (Key×V)),(jHT kvs more).length<=kvs.length+more.length
 | [],kvs=>by show kvs.length<=kvs.length+0; lia
 | p::r,kvs=>by
  have h1:=jCP r (putK kvs p.1 p.2);have h2:=jC7 kvs p.1 p.2;show (jHT (putK kvs p.1 p.2) r).length<=_;rw[aP]; lia
theorem jFR {P:Program}{w:World} :∀ {kvs:List (Key×V)}{ws:List (Value×Value)},VV (kvs.map fun kv=>(kV kv.1,kv.2)) ws->∃ rs,Carries (y0 P w) ws rs/\KV kvs rs
 | [],_,r=>by rw[iP] at r; cases r; exact⟨[],True.intro, .nil⟩
 | p::kvs,_,r=>by
  rw[bv] at r;cases r with
  | @cons a b as bs h t=>
   obtain⟨rs,c,q⟩:=jFR (P:=P) (w:=w) t;obtain⟨b1,b2⟩:=b;exact⟨(p.1,b2)::rs,⟨kV_is h.1,rfl,c⟩, .cons ⟨rfl,h.2⟩ q⟩
def tDisp (trs:List (TE×TE)):TE:=fun σ H Q=>∀ p,H p=none->jMO trs σ (upd H p (.dK [])) fun ps H2=>H2 p=some (.dK [])/\∃ kvs:List (Key×V),ps=kvs.map (fun kv=>(kV kv.1,kv.2))/\kvs.length<=15/\Q (.ref p) (upd H2 p (.dK (jHT [] kvs)))
theorem jU9 {X:Cx}{pos:Pos}{keys:List (Option Expr)}{values:List Expr}{trs:List (TE×TE)}(h:PPs X pos keys values trs)(hall:keys.all (·.isSome)=true)(hl:keys.length=values.length)(h0:keys≠ [])
  (h15:keys.length<=15):PE X (.Dict keys values pos) (tDisp trs):=by
 intro kh s σ H Q I q;have hn:=I.hok.fresh (ak s.heap.objs.size);have I1:=I.laid (a:=s.heap.objs.size) (o:= .dK []) (h':=s.heap.push { cls:= .type "dict",data:= .dict #[]}) (t':=s.toks) (fun _ _ q=>af _ q) (ak _) (jS3 s.heap I.big);refine wpAny_Dict_walk (knd:=y0 X.prog X.w) hall hl h0 h15 (kn (h kh _ σ _ _ I1 (q _ hn)) fun ws s2 ⟨ps,H2,I2,rel,e,kvs,ep,lk,q2⟩=>?_);subst ep;obtain⟨rs,c,rk⟩:=jFR (P:=X.prog) (w:=X.w) rel;obtain⟨z,hd,vs0,r0,dd⟩:=dk_of I2.hok e;cases r0;refine⟨rs,c,dd,fun h' dd' hs=>⟨.ref s.heap.objs.size,_,?_,rfl,q2⟩⟩;have hz:(jHT [] kvs).length<=sizeLine:=by
  have h1:=jCP kvs [];rw[cH] at h1;rw[dD]; lia
 have he:∃ q,h'.get? s.heap.objs.size=some q:=let ⟨q,_,_,hq,_⟩:=dd'; ⟨q,hq⟩;exact jJD I2 (by rw[e]; exact True.intro) hs he (jT8 hz hd (rk.merge .nil) dd')
section
variable {σ:St}{d:V}{o:Option V}
end
variable {apos:Pos}{tx:TE}
section
variable {f:Expr}{ty:TE}
end
section
variable {σ:St}
end
section
variable {σ:St}
end
section
variable {κ:Type} [DecidableEq κ]
end
section
variable {d:Addr}{kvs:List (Key×Value)}
theorem jJG {T:String}{r d:Addr}{n:Nat}{P:Nat->Value->Prop}{OK:Heap->Prop}{R:Al->Shared->Prop}(K:PySem.W.KdlSrc prog w T r d n P OK)(hh:A.handled=none)(hok:OK s.heap)(hn:n<=sizeLine)
  (h:∀ (h':Heap) (tk:Nat) (acc:An),(∀ b o,s.heap.get? b=some o->h'.get? b=some o)->s.heap.objs.size<h'.objs.size->ItemsOf P acc n->R acc.toList { s with heap:=h',toks:=tk}):
  wpAny (model prog w) A (collect (.ref r)) R E s:=by
 have hlt:=K.there _ hok;unfold collect;refine ae (gf (bW entry_proto_collect' ?_));rw[bM gS _];show wpAny _ A.in1 (newList [] >>= fun l=>again (.builtin "list.__iadd__" ⟨[l, .ref r],[]⟩)) _ _ s;refine ae (cf ?_);refine ah ⟨dS eg _,bW entry_list_iadd' ?_⟩;rw[bM eg _];have hS:(s.heap.push { cls:= .type "list",data:= .seq ([]:Al).toArray}).get? s.heap.objs.size=some { cls:= .type "list",data:= .seq #[]} :=ax _ rfl;show wpAny _ A.in1 (Builtin.List.listExtendWith (.ref s.heap.objs.size) (.ref r) (.ref s.heap.objs.size)) _ _ _;refine cy (PySem.W.kdl_extend (A:=A) (s:= { s with heap:=s.heap.push { cls:= .type "list",data:= .seq ([]:Al).toArray}})
  (R:=fun (q:Result) (s':Shared)=>∃ (h':Heap) (tk:Nat) (acc:An) (c:Nat),q= .ok (.ret (.ref s.heap.objs.size))/\s'= { s with heap:=h',toks:=tk} /\
   (∀ b o,s.heap.get? b=some o->h'.get? b=some o)/\h'.get? s.heap.objs.size=some { cls:= .type "list",dict:=none,data:= .seq acc c,slots:=#[]} /\ItemsOf P acc n)
  K hh (K.keep _ _ hok fun b _ o e=>af _ e) s.heap.objs.size (di hlt.1) (di hlt.2) (.ref s.heap.objs.size) 0 hS
  (fun h' tk acc c hk hS' hacc=>⟨h',tk,acc,c,rfl,rfl,fun b o e=>hk b o (aU (aC e)) (af _ e),hS',hacc⟩) hn) (fun fin s' x=>?_) fun e s' x=>?_
 ·cases fin with
  | done f=>
   obtain⟨h',tk,acc,c,e,rfl,hk,hS',hacc⟩:=x;cases e;show wpAny _ A (load s.heap.objs.size >>= _) _ _ _;exact ae (fH hS' (ah (h h' tk acc hk (aC hS') hacc)))
  | again c1=>
   refine⟨x.1,dO x.2 fun q s2 y=>?_⟩;obtain⟨h',tk,acc,c,rfl,rfl,hk,hS',hacc⟩:=y;show wpAny _ A (load s.heap.objs.size >>= _) _ _ _;exact ae (fH hS' (ah (h h' tk acc hk (aC hS') hacc)))
 ·obtain⟨_,_,_,_,e',_⟩:=x;cases e'
end
section
variable {i f:Expr}{ty:TE}
theorem jGQ (hu:X.A.units+1<cLine)(ho:JE X o td)(hi:JE X i ty)(hs:jB8 i):JE X (.Subscript o i pos) (tDGet td ty):=⟨jUA hu ho.h hi.h hs⟩
theorem jJ4 (hu:X.A.units+1<cLine)(ho:JE X o td)(hi:JE X i ty)(hv:JE X value tv)(hs:SwOk value (some (.Subscript o i pos'))):JS X (.Assign [.Subscript o i pos'] value pos) (sDPut td ty tv):=⟨jTZ hu ho.h hi.h hv.h (hs.h _ _)⟩
end
theorem jH9:entryFor table "dict.update.loop" =some Builtin.«dict.update.loop»:=entryFor_of_fast (by kernel_rfl)
theorem jCG:plainId "dict.update.loop" =true:=by decide+kernel
theorem jHW:typeLookup (.type "list") "keys" =pure none:=am_miss_of_fast (by kernel_rfl)
theorem jEN:typeLookup (.type "list") "__getattr__" =pure none:=am_miss_of_fast (by kernel_rfl)
theorem jO6 (a:Addr)(name:Str)(u:Tok)(hmiss:typeLookup (.type "list") name=pure none)(hsz:name.length+100<=sizeLine)(hgd: [Str.ofString "__module__",Str.ofString "__name__",Str.ofString "__qualname__",Str.ofString "__doc__",Str.ofString "__annotations__"].contains name=false):Meets (Builtin.«object.__getattribute__» ⟨[.ref a, .str name u],[]⟩) (fun A R s=>(∃ its n,s.heap.get? a=some { cls:= .type "list",data:= .seq its n})/\raisesAttr (.ref a) name A R s):=
 Meets.of_wp fun prog w A R s hs=>by
  obtain⟨⟨its,n,ho⟩,hs⟩:=hs;obtain⟨hp,g,d,tk,os⟩:=s;have hT:(⟨hp,g,d,tk,os⟩:Shared).TypeIs (.ref a) "list" :=⟨_,ho,rfl⟩;unfold Builtin.«object.__getattribute__»
  repeat (any_goals (first | assumption | wp_step))
  rw[hgd,am aj]
  repeat (any_goals (first | assumption | wp_step))
  exact wpAny_raiseAttrError hs.1 hs.2 (attrMsg_fits Ab hsz)
theorem jOD {a:Addr}{name:Str}(hmiss:typeLookup (.type "list") name=pure none)(hsz:name.length+100<=sizeLine)(hgd: [Str.ofString "__module__",Str.ofString "__name__",Str.ofString "__qualname__",Str.ofString "__doc__",Str.ofString "__annotations__"].contains name=false){its:An}{n:Nat}{Q:Ao->Shared->Prop}(hA:A.handled=none)(ho:s.heap.get? a=some { cls:= .type "list",data:= .seq its n})
  (h:∀ h' tk,(∀ b u,s.heap.get? b=some u->h'.get? b=some u)->Q none { s with heap:=h',toks:=tk}):wpAny (model prog w) A (getAttr? (.ref a) name) Q E s:=by
 obtain⟨hp,g,d,tk,os⟩:=s;have hT:∀ tk',(⟨hp,g,d,tk',os⟩:Shared).TypeIs (.ref a) "list" :=fun _=>⟨_,ho,rfl⟩;have f1:=sub_AttributeError;have f3:=F.slot_list_getattribute.lookup;have f4:=F.slot_list_getattribute.bind (.ref a);have f5:=jEN;unfold getAttr? getAttrBy? getAttrBy
 repeat (any_goals (first | assumption | ((with_reducible show wpAny _ _ (call (Value.builtin "list.__getattribute__") _ _) _ _ _); refine gA F.slot_list_getattribute (hT _) F.entry_list_ga (F.args_list_getattribute_2 _ _) (jO6 a name _ hmiss hsz hgd) ⟨⟨its,n,ho⟩,hA,fun h' tk' e hx=>?_⟩) | wp_step))
 obtain⟨t',u',he⟩:=hx.there;show wpAny _ _ (getattributeRaised _ _ _ _ _ _ _) _ _ _;unfold getattributeRaised
 repeat (any_goals (first | assumption | wp_step))
 exact h _ _ fun b u q=>hx.keeps b u q
theorem jLO {a:Addr}{k v:Value}{m:Nat}{Q:Al->Shared->Prop}(ho:s.heap.get? a=some { cls:= .type "tuple",data:= .seq #[k,v] m})(h:Q [k,v] s):wpAny (model prog w) A (Builtin.Dict.pairItems (.ref a)) Q E s:=by
 obtain⟨hp,g,d,tk,os⟩:=s;have hT:(⟨hp,g,d,tk,os⟩:Shared).TypeIs (.ref a) "tuple" :=⟨_,ho,rfl⟩;unfold Builtin.Dict.pairItems
 repeat (any_goals (first | assumption | wp_step))
section
variable {prog:Program}{w:World}{K:Type} [DecidableEq K]{knd:KeyKind prog w K}{A:Around}{R:Result->Shared->Prop}{I:Addr}{fp wr:List Addr}{n:Nat}{P:Nat->Value->Prop}{St:Nat->Shared->Prop}
def jL9 (knd:KeyKind prog w K)(h:Heap)(a:Addr)(p:K×Value):Prop:=∃ key m,h.get? a=some { cls:= .type "tuple",data:= .seq #[key,p.2] m} /\knd.is p.1 key=true
theorem upl (W:WalksS prog w A.in1 I fp wr (fun a b=>b=a) n P St)(d:Addr)(hd:d∉fp)(more:List (K×Value))(hmn:more.length=n)(pa:Nat->Addr)(hpd:∀ i,i<n->pa i≠d/\pa i∉wr)(hP:∀ i v,P i v->v= .ref (pa i))(hn:n<=sizeLine):
  ∀ (k i:Nat) (z:Int) (s:Shared),n - i=k->i<=n->St i s->s.heap.DictOf knd d (merged [] (more.take i))->(∀ j p,more[j]?=some p->jL9 knd s.heap (pa j) p)->
   (∀ s',Moved (d::wr) (fun a b=>b=a) s s'->s'.heap.DictOf knd d (merged [] more)->R (.ok (.ret .none)) s')->
   codeAny (model prog w) A (.builtin "dict.update.loop" ⟨[.ref d, .ref I,rawInt z, .none],[]⟩) R s:=by
 have hdw:d∉wr:=fun h=>hd (W.sub _ h);have sub1:∀ b∈wr,b∈d::wr:=fun b hb=>aB _ hb;intro k
 induction k with
 | zero=>
  intro i z s hk hi hst hS hp hR;obtain rfl:i=n:=by lia
  refine bW jH9 ?_;rw[bM jCG _];show wpAny _ A.in1 (pyNext (.ref I) >>= _) _ _ s;refine ae (W.done s _ _ hst fun s' mv=>?_);show wpAny _ A.in1 (Builtin.Dict.addKeywords d [] >>= fun _=>ret Value.none) _ _ s';refine ae (ah (ah (hR s' (mv.mono sub1) ?_)));obtain⟨o,es,ep,ho,r⟩:=hS;rw[<- hmn,aZ] at r;exact⟨o,es,ep,mv.heap d o hdw ho,r⟩
 | succ k ih=>
  intro i z s hk hi hst hS hp hR;have hlt:i<n:=Aa;refine bW jH9 ?_;rw[bM jCG _];show wpAny _ A.in1 (pyNext (.ref I) >>= _) _ _ s;refine ae (W.item i s _ _ hlt hst fun v s' hPv hst' mv=>?_);obtain rfl:=hP i v hPv;have hS':s'.heap.DictOf knd d (merged [] (more.take i)):=by
   obtain⟨o,es,ep,ho,r⟩:=hS;exact⟨o,es,ep,mv.heap d o hdw ho,r⟩
  have hp':∀ j p,more[j]?=some p->jL9 knd s'.heap (pa j) p:=fun j p hj=>by
   obtain⟨key,m,e,q⟩:=hp j p hj;have hjn:j<n:=by rw[<- hmn]; exact(ai.mp hj).1
   exact⟨key,m,mv.heap _ _ (hpd j hjn).2 e,q⟩
  obtain⟨p,hpi⟩:∃ p,more[i]?=some p:=⟨more[i],by simp [hmn,hlt]⟩;obtain⟨key,m,e1,hk1⟩:=hp' i p hpi;show wpAny _ A.in1 (holding [Value.ref (pa i)] _ >>= _) _ _ s';refine ae (bS (ae ?_));refine wpAny_tryCatch (jLO e1 ?_);refine bS (wpAny_dictSet_pairs hk1 hS' (fun h' hd' sb=>?_) (by
   have:=merged_length_le (K:=K) [] (more.take i);have h2:=br i more;have:(merged [] (more.take i)).length<=i:=by
    refine be (merged_length_le (K:=K) [] (more.take i)) ?_;simp only [cH,jz];exact br _ _
   lia))
  refine ah ⟨dS jCG _,ih (i+1) (z+1) _ Aa hlt (W.frame _ s' _ _ hst' (dE _) fun b hb o e=>?_) ?_ (fun j p hj=>?_) fun s'' mv2 hS3=>?_⟩
  ·rw[sb.2 b (fun h:b=d=>hd (by rw[<- h]; exact hb))];exact e
  ·rw[merged_take_succ _ _ _ _ hpi];exact hd'
  ·obtain⟨key,m,e,q⟩:=hp' j p hj;have hjn:j<n:=by rw[<- hmn]; exact(ai.mp hj).1
   exact⟨key,m,by show h'.get? _=_; rw[sb.2 _ (hpd j hjn).1]; exact e,q⟩
  ·refine hR s'' (Moved.trans W.gtrans ((mv.mono sub1).then_heap (dE _) fun b o hb e=>?_) mv2) hS3;rw[sb.2 b (fun h:b=d=>hb (by rw[h]; exact az))];exact e
end
section
variable {prog:Program}{w:World}{K:Type} [DecidableEq K]{knd:KeyKind prog w K}{A:Around}{E:Ah}{s:Shared}
theorem jF7 {l:Addr}{its:Al}{nl:Nat}{more:List (K×Value)}{Q:Ah}(hA:A.handled=none)(hl:s.heap.get? l=some { cls:= .type "list",data:= .seq its.toArray nl})(hsz:its.length<=sizeLine)
  (pa:Nat->Addr) (hit:∀ i v,its[i]?=some v->v=Value.ref (pa i)) (hlen:more.length=its.length) (hp:∀ j p,more[j]?=some p->jL9 knd s.heap (pa j) p)
  (h:∀ h' tk,h'.DictOf knd s.heap.objs.size (merged [] more)->(∀ b u,s.heap.get? b=some u->h'.get? b=some u)->Q (.ref s.heap.objs.size) { s with heap:=h',toks:=tk}):
  wpAny (model prog w) A (call (.type "dict") [.ref l]) Q E s:=by
 refine callType_codes (Q₁:=fun obj s₁=>obj= .ref s.heap.objs.size/\s₁= { s with heap:=s.heap.push { cls:= .type "dict",data:= .dict #[]}}) F.kt_called_dict (F.kt_typeCall_dict_1 _) F.entry_dict_init (kt_code_dict_new _ ⟨rfl,rfl⟩) ?_;rintro obj s₁ ⟨rfl,rfl⟩;have hnew:(s.heap.push { cls:= .type "dict",data:= .dict #[]}).DictOf knd s.heap.objs.size []:=iV s.heap;have hl1:(s.heap.push { cls:= .type "dict",data:= .dict #[]}).get? l=some { cls:= .type "list",data:= .seq its.toArray nl} :=af _ hl;have hls:l<s.heap.objs.size:=aC hl;have hT:Shared.TypeIs { s with heap:=s.heap.push { cls:= .type "dict",data:= .dict #[]}} (.ref l) "list" :=⟨_,hl1,rfl⟩;refine⟨hnew.typeIs,F.args_dict_init_2 _ _,?_⟩;unfold Builtin.«dict.__init__»;refine ae ?_;unfold Builtin.Dict.selfAndRest;refine ae (wpAny_notOrdered_dict hnew.typeIs ?_);show wpAny _ _ (pure (s.heap.objs.size,[Value.ref l])) _ _ _;refine ah ?_;show wpAny _ _ (Builtin.Dict.updateFrom "dict.__init__" s.heap.objs.size (.ref l) [] .none) _ _ _;unfold Builtin.Dict.updateFrom;refine ae (gR hT ?_);rw[ao Ac];refine ae (jOD jHW Ab Ab (by simpa using hA) hl1 fun h2 tk2 k2=>?_);rw[ao (by rfl)];refine ae (df (ae ?_));have hl2:h2.IsList l its.toArray:=⟨_,k2 _ _ hl1,rfl,nl,rfl⟩;refine cV hl2 ?_;have z2:s.heap.objs.size<h2.objs.size:=by
  have:=aC (k2 _ _ (ax s.heap (o:= { cls:= .type "dict",data:= .dict #[]}) rfl));exact this
 have hlI:l≠h2.objs.size:=aU (eD hls z2);have hdI:s.heap.objs.size≠h2.objs.size:=aU z2;have hdl:s.heap.objs.size≠l:=di hls;have hplt:∀ i,i<its.length->pa i<s.heap.objs.size:=fun i hi=>by
  obtain⟨key,m,e,_⟩:=hp i more[i] (by simp [hlen,hi]);exact aC e
 have keep:∀ b u,s.heap.get? b=some u->(h2.push { cls:= .type "list_iterator",data:= .fields #[.ref l, .int 0 0]}).get? b=some u:=fun b u e=>af _ (k2 _ _ (af _ e));refine ah ⟨dS jCG _,upl (knd:=knd) ((g0 (by simp [hA]) _ l hlI its.toArray).toS) s.heap.objs.size ?_ more (by simp [hlen]) pa (fun i hi=>?_) (fun i v q=>hit i v (by simpa using q)) (by simpa using hsz) (its.toArray.size - 0) 0 0 _ rfl (bu _) ⟨⟨_,ax _ rfl,rfl,rfl⟩,hl2.push _⟩ ?_ (fun j p hj=>?_) fun s' mv hD=>?_⟩
 ·simp only [aG,b8,eQ,kg];exact⟨hdI,hdl⟩
 ·have:=hplt i (by simpa using hi);refine⟨aU this,?_⟩;simp only [aG,b8,eQ];exact aU (eD this z2)
 ·obtain⟨o,es,ep,ho,r⟩:=hnew;exact⟨o,es,ep,af _ (k2 _ _ ho),r⟩
 ·obtain⟨key,m,e,q⟩:=hp j p hj;exact⟨key,m,keep _ _ e,q⟩
 ·obtain⟨h',g',d',tk',os'⟩:=s';have e1:g'=s.gens:=mv.gens;have e2:d'=s.drawn:=mv.drawn;have e3:os'=s.os:=mv.os;subst e1; subst e2; subst e3;refine⟨rfl,h h' tk' hD fun b u e=>mv.heap b u ?_ (keep b u e)⟩;have hb:=aC e;simp only [aG,b8,eQ,kg];exact⟨aU hb,aU (eD hb z2)⟩
end
theorem jO5 {P:Program}{w:World}{h:Heap} :∀ (kvs:List (Key×V)) (pa:Nat->Addr),(∀ i k v,kvs[i]?=some (k,v)->∃ key u m,h.get? (pa i)=some { cls:= .type "tuple",data:= .seq #[key,u] m} /\RelV (kV k) key/\RelV v u)->
  ∃ more:List (Key×Value),KV kvs more/\∀ j p,more[j]?=some p->jL9 (y0 P w) h (pa j) p
 | [],_,_=>⟨[], .nil,fun j p e=>by simp at e⟩
 | (k,v)::r,pa,hk=>by
  obtain⟨more,k1,k2⟩:=jO5 (P:=P) (w:=w) r (fun i=>pa (i+1)) fun i k v e=>hk (i+1) k v (by simpa using e);obtain⟨key,u,m,e,r1,r2⟩:=hk 0 k v rfl;refine⟨(k,u)::more, .cons ⟨rfl,r2⟩ k1,fun j p hj=>?_⟩;cases j with
  | zero=>
   simp at hj;subst hj;exact⟨key,m,e,kV_is r1⟩
  | succ j=>exact k2 j p (by simpa using hj)
theorem jM8 (hc:X.calm=true):yJ X (.type "dict") (fun xs H Q=>∃ (p:Addr) (vs:List V) (kvs:List (Key×V)),xs=[.ref p]/\H p=some (.lst vs)/\vs.length=kvs.length/\(∀ (i:Nat) (k:Key) (v:V),kvs[i]?=some (k,v)->∃ a:Addr,vs[i]?=some (V.ref a)/\H a=some (.tup [kV k,v]))/\(kvs.map (·.1)).Nodup/\∀ l:Addr,H l=none->Q (.ref l) (upd H l (.dK kvs))):=by
 intro kh s σ H xs us Q I r h;obtain⟨p,vs,kvs,rfl,hq,hl,hkv,hnd,q⟩:=h;obtain⟨u,rfl,rx⟩:=r.one;cases rx;obtain⟨hz,its,nl,r',e0⟩:=I.hok p _ hq;have hli:=r'.length;obtain⟨more,k1,k2⟩:=jO5 (P:=X.prog) (w:=X.w) (h:=s.heap) kvs (fun i=>match vs[i]? with | some (.ref a)=>a | _=>0) fun i k v e=>by
  obtain⟨a,e1,e2⟩:=hkv i k v e;obtain⟨_,it2,r2,m,e3⟩:=I.hok a _ e2;have l2:=r2.length;obtain⟨k',rest,rfl⟩:∃ k' rest,it2=k'::rest:=by
   cases it2 with
   | nil=>simp at l2
   | cons a b=>exact⟨a,b,rfl⟩
  obtain⟨u',rest',rfl⟩:∃ u' rest',rest=u'::rest':=by
   cases rest with
   | nil=>simp at l2
   | cons a b=>exact⟨a,b,rfl⟩
  obtain rfl:rest'=[]:=by
   cases rest' with
   | nil=>rfl
   | cons a b=>simp at l2
  rw[e1];cases r2 with
  | cons a1 a2=>
   cases a2 with
   | cons b1 b2=>exact⟨k',u',m,e3,a1,b1⟩
 have lm:more.length=kvs.length:=(fj k1).symm;refine jF7 (knd:=y0 X.prog X.w) (I.ok.hd hc) e0 Aa (fun i=>match vs[i]? with | some (.ref a)=>a | _=>0) (fun i v hv=>?_) Aa k2 fun h' tk hD kp=>?_
 ·have hi:i<its.length:=(ai.mp hv).1;have hik:i<kvs.length:=Aa;obtain⟨a,e1,e2⟩:=hkv i kvs[i].1 kvs[i].2 (by simp [hik]);obtain⟨u,e3,e4⟩:=r'.get e1;rw[hv] at e3;cases e3;simp only [e1];exact e4
 ·rw[merged_nil_of_nodup _ (by rw[<- KV.keys k1]; exact hnd)] at hD;have hsz:(s.heap.objs.size==sysModules)=false:=by
   have:=I.big;exact b7.mpr (di this)
  exact⟨.ref s.heap.objs.size,_,I.laid (t':=tk) (o:= .dK kvs) kp (ak _) ⟨Aa,hsz,more,k1,hD⟩,rfl,q _ I.fresh⟩
theorem jPP (hc:X.calm=true):yJ X (.type "set") (fun xs H Q=>∃ (p:Addr) (ns:Ag),xs=[.ref p]/\SqL X.K H p (ns.map V.int)/\ns.length<=1000/\∀ (l:Addr) (S:Int->Bool),H l=none->Q (.ref l) (upd H l (.set S (PyProof.Rows.firstMet (fun i=>ns.getD i 0) ns.length).length))):=by
 intro kh s σ H xs us Q I r h;obtain⟨p,ns,rfl,hq,hl,q⟩:=h;obtain⟨u,rfl,rx⟩:=r.one;cases rx;obtain⟨its,r',pl,hz⟩:=I.list hq;have hlen:=r'.length;rw[ab] at hlen;have hsz:its.toArray.size=ns.length:=by rw[ar,hlen]
 refine call_set_list (I.ok.hd hc) pl.isList (jAL r') (by rw[hsz]; have hb:(2000:Nat)<scanBound:=Ac; lia) fun h' tk S kp=>?_;rw[hsz] at S;exact⟨.ref s.heap.objs.size,_,I.laid (t':=tk) (o:= .set (fun k'=>(PyProof.Rows.firstMet (fun i=>ns.getD i 0) ns.length).any (· ==k')) (PyProof.Rows.firstMet (fun i=>ns.getD i 0) ns.length).length) (fun b u e=>kp b u (aC e) e) (ak _) S,rfl,q _ _ I.fresh⟩
theorem jPS:yJ X (.builtin "len") (fun xs H Q=>∃ p S n,xs=[.ref p]/\H p=some (.set S n)/\Q (.int (n:Nat)) H):=by
 intro kh s σ H xs us Q I r h;obtain⟨p,S,n,rfl,hp,q⟩:=h;obtain⟨u,rfl,rx⟩:=r.one;cases rx;obtain⟨o,es,ep,t,h1,h2,h3,h4,h5,h6,h7,h8⟩:=(show s.heap.SetOf (intKind X.prog X.w) p S n from I.hok p _ hp);subst h8;exact call_len_set h1 h2 h3 h7 (by have hb:(scanBound:Int)<2 ^ 63:=Ac; lia) ⟨.int _,H,I.tok _,⟨_,rfl⟩,q⟩
section
variable {K:W.Frag}
theorem gl_n (h:sc.names.lookup x=some .globalImplicit:=by decide+kernel):Gl1 (cxN P w K mg Aq N qual sc f cd cl A Ap s H) x:=⟨h⟩
theorem qS (h:sc.names.lookup x=some .local:=by decide+kernel):Vis1 (cxN P w K mg Aq N qual sc f cd cl A Ap s H) x:=⟨.inl h⟩
theorem jVZ (h:sc.names.lookup x=some .free):Vis1 (cxN P w K mg Aq N qual sc f cd cl A Ap s H) x:=⟨.inr (.inr h)⟩
theorem loc_n (h:sc.names.lookup x=some .local:=by decide+kernel):Loc1 (cxN P w K mg Aq N qual sc f cd cl A Ap s H) x:=⟨.inl h, .inr h⟩
end
theorem jT1 {x:Str}{args:Arguments}{body:List Stmt}{scope:Scope}{pos:Pos}{c0 T:Addr}{j:Nat}(hN:X.N.Nodup)(hj:X.N[j]?=some x)(lx:Loc1 X x)(hcode:X.env.code= .ref c0)(CH:PySem.W.CodeHd X.Aq c0 T)(hbm:BltAt X.Aq X.mg)
  (hfree:∀ y∈scope.names,y.2= .free->X.env.scope.names.lookup y.1=some .cell\/X.env.scope.names.lookup y.1=some .free) (hdf:defaultsOf args X.env=([],[])) (han:annTrees args none X.env=[]):
  JS X (.FunctionDef x args body [] none [] scope none x pos) (tDef x (qualnameIn X.env x x) args body scope (jS X.env.cells scope.names []) T pos j):=⟨jWF hN hj lx.a hcode CH hbm hfree hdf han lx.b⟩
def iSeq (K:W.Frag)(te:TE):TI:=fun σ H R=>iList K te σ H R\/iTup K te σ H R
theorem jXK {tg a:Expr}{ta:TE}(hl:JE X a ta):JI X tg a (iSeq X.K ta):=⟨fun kh s σ H R I h=>by
 rcases h with h | h
 ·exact(y6 hl).h kh s σ H R I h
 ·exact(qP hl).h kh s σ H R I h⟩
def AtS (tp:Bool)(H:Hp)(a:Addr)(xs:List V):Prop:=match tp with
 | false=>H a=some (.lst xs)
 | true=>H a=some (.tup xs)
theorem AtS.sq {tp:Bool}{K:W.Frag}{H:Hp}{a:Addr}{xs:List V}(h:AtS tp H a xs):Sq tp K H a xs:=by
 cases tp with
 | false=>exact SqL.of h
 | true=>exact SqT.of h
theorem AtS.or {tp:Bool}{K:W.Frag}{H:Hp}{a:Addr}{xs:List V}(h:AtS tp H a xs):SqL K H a xs\/SqT K H a xs:=by
 cases tp with
 | false=>exact .inl (SqL.of h)
 | true=>exact .inr (SqT.of h)
def AtS.ob (tp:Bool)(xs:List V):HO:=match tp with
 | false=> .lst xs
 | true=> .tup xs
theorem AtS.is {tp:Bool}{H:Hp}{a:Addr}{xs:List V} :AtS tp H a xs↔H a=some (AtS.ob tp xs):=by cases tp <;> exact Iff.rfl
theorem AtS.ext {tp:Bool}{H H':Hp}{a:Addr}{xs:List V}(h:AtS tp H a xs)(e:Ext H H'):AtS tp H' a xs:=AtS.is.mpr (e _ _ (AtS.is.mp h))
theorem jXN {i o:Expr}{ty td:TE}{pos:Pos}(hu:X.A.units+1<cLine)(hi:JE X i ty)(ho:JE X o td)(h1:behindInMarks .In o=false):JT X (.Compare i [.In] [o] pos) (tB (tDIn ty td)):=⟨jSS (jWR hu hi.h ho.h) h1⟩
section
variable {K:W.Frag}{σ:St}
theorem jEZ {a:Addr}{xs:List V}(hn:xs.length<sizeLine)(Pv:Addr->Nat->St->Hp->List V->Prop)(h0:∀ D,H1 D=none->Pv D 0 (blkσ m σ) (upd H1 D (.lst [])) [])
  (hD:∀ D i σ' H' zs,H1 D=none->Pv D i σ' H' zs->H' a=some (.lst xs)/\H' D=some (.lst zs)/\zs.length<=i)
  (hs:∀ D i σ' H' zs x,H1 D=none->xs[i]?=some x->Pv D i σ' H' zs->g x σ' H' fun σ2 H2=>tt σ2 H2 fun b H3=>if b=true then te σ2 H3 fun v H4=>H4 D=some (.lst zs)/\Pv D (i+1) σ2 (upd H4 D (.lst (zs++[v]))) (zs++[v]) else Pv D (i+1) σ2 H3 zs)
  (hd:∀ D σ' H' zs,H1 D=none->Pv D xs.length σ' H' zs->Q (.ref D) H'):qJ m g tt te σ Q (Itl K a) H1:=by
 intro D hDn;refine⟨fun i k σ' H' zs=>k=xs.length - i/\i<=xs.length/\Pv D i σ' H' zs,⟨_,rfl,bu _,h0 D hDn⟩,?_⟩;rintro i k σ' H' zs ⟨rfl,hi,p⟩;obtain⟨s1,q1,q2⟩:=hD D i σ' H' zs hDn p;refine⟨q1,Aa,?_⟩;by_cases hlt:i<xs.length
 ·refine .inr ⟨⟨xs,xs[i],SqL.of s1,by simp [hlt]⟩,Pv D (i+1),fun σ2 H2 zs z=>⟨xs.length - (i+1),Aa,rfl,hlt,z⟩,fun v H'' y=>?_⟩;obtain⟨e1,e2⟩:=y;subst e1;exact hs D i σ' _ zs v hDn (e2 xs (SqL.of s1)) p
 ·have e:i=xs.length:=Aa;subst e;exact .inl ⟨⟨xs,SqL.of s1,ak _⟩,hd D σ' H' zs hDn p⟩
theorem jS6 {tp:Bool}{ta:TE}{a:Addr}{xs:List V}(ha:AtS tp H1 a xs)(hta:∀ Q:VK,Q (.ref a) H1->ta σ H1 Q)(hn:xs.length<sizeLine)(Pv:Addr->Nat->St->Hp->List V->Prop)(h0:∀ D,H1 D=none->Pv D 0 (blkσ m σ) (upd H1 D (.lst [])) [])
  (hD:∀ D i σ' H' zs,H1 D=none->Pv D i σ' H' zs->AtS tp H' a xs/\H' D=some (.lst zs)/\zs.length<=i)
  (hs:∀ D i σ' H' zs x,H1 D=none->xs[i]?=some x->Pv D i σ' H' zs->g x σ' H' fun σ2 H2=>tt σ2 H2 fun b H3=>if b=true then te σ2 H3 fun v H4=>H4 D=some (.lst zs)/\Pv D (i+1) σ2 (upd H4 D (.lst (zs++[v]))) (zs++[v]) else Pv D (i+1) σ2 H3 zs)
  (hd:∀ D σ' H' zs,H1 D=none->Pv D xs.length σ' H' zs->Q (.ref D) H'):iSeq K ta σ H1 (qJ m g tt te σ Q):=by
 cases tp with
 | false=>exact .inl (hta _ ⟨a,rfl,⟨xs,SqL.of ha⟩,jEZ hn Pv h0 hD hs hd⟩)
 | true=>exact .inr (hta _ ⟨a,rfl,⟨xs,SqT.of ha⟩,jBX hn Pv h0 hD hs hd⟩)
end
theorem ExtT.of {T:Addr}{H H':Hp}(e:Ext H H'):ExtT T H H':=fun b o h _=>e b o h
theorem ExtT.refl {T:Addr}(H:Hp):ExtT T H H:=fun b o h _=>h
theorem ExtT.trans {T:Addr}{H H' H'':Hp}(a:ExtT T H H')(b:ExtT T H' H''):ExtT T H H'':=fun c o h n=>b c o (a c o h n) n
theorem TabOk.is {H:Hp}{T:Addr}{pos:Pos}{q:Str}(t:TabOk H T pos q):∃ ps,H T=some (.tbl ps):=by
 rcases t with h | ⟨c,h,_⟩
 ·exact⟨_,h⟩
 ·exact⟨_,h⟩
theorem TabOk.ne {H:Hp}{T:Addr}{pos:Pos}{q:Str}(t:TabOk H T pos q){b:Addr}{o:HO}(h:H b=some o)(ho:∀ ps,o≠ .tbl ps):b≠T:=fun e=>by
 obtain⟨ps,z⟩:=t.is;rw[e,z] at h;cases h;exact ho ps rfl
theorem TabOk.ext {H H':Hp}{T:Addr}{pos:Pos}{q:Str}(t:TabOk H T pos q)(e:Ext H H'):TabOk H' T pos q:=by
 rcases t with h | ⟨c,h,h2⟩
 ·exact .inl (e _ _ h)
 ·exact .inr ⟨c,e _ _ h,e _ _ h2⟩
theorem ExtT.at {T:Addr}{H H':Hp}(e:ExtT T H H'){pos:Pos}{q:Str}(t:TabOk H T pos q){b:Addr}{o:HO}(h:H b=some o)(ho:∀ ps,o≠ .tbl ps:=by intro _ z; cases z):H' b=some o:=e b o h (t.ne h ho)
theorem ExtT.seq {T:Addr}{H H':Hp}(e:ExtT T H H'){pos:Pos}{q:Str}(t:TabOk H T pos q){tp:Bool}{b:Addr}{xs:List V}(h:AtS tp H b xs):AtS tp H' b xs:=by
 cases tp with
 | false=>exact e.at t (show H b=some (.lst xs) from h)
 | true=>exact e.at t (show H b=some (.tup xs) from h)
structure FunC (K:W.Frag)(x qual:Str)(st:Stmt)(f:Addr)(fd:FuncData)(c0:Addr):Prop where
 ex:∃ (oc:Value) (od:Option Addr) (kV doc pm:Value) (an:Option Addr) (ct:Value) (osl:Array (Ao)),fd=PySem.W.fnOf x qual (yE st) (jE st) (j8 st) .none kV doc pm an (.ref c0) ct/\K.lookup f=some ⟨oc,od, .func fd,osl⟩/\PySem.W.codeIn K (.ref c0) qual=true
theorem FunC.ok {P:Program}{w:World}{K:W.Frag}{mg:Ak}{Aq:Heap}{x qual:Str}{st:Stmt}{f c0:Addr}{fd:FuncData}{N ps:Am}{k:Nat}{sp:Sp}(F:FunC K x qual st f fd c0)(S:FnScope N ps (j8 st))(len:∀ vs H Q E,sp vs H Q E->vs.length=ps.length)
  (hbody:∀ (A:Around) (Ap:List Env) (s:Shared) (H:Hp) (vs:List V) (Q:VK) (E:XK),Room k (A.deeper (envOfC qual (j8 st) s.heap.objs.size f (.ref c0)))->sp vs H Q E->
   ∃ t,PSs (cxOf CX0 P w K mg Aq N qual (j8 st) f (.ref c0) A Ap s H E).nox (jE st) t/\t { nx:=fun _ H'=>Q .non H',rt:=Q} (yH N vs) H):FnOk P w K mg Aq CX0 (k+1) f fd ps sp:=by
 obtain⟨oc,od,kV,doc,pm,an,ct,osl,rfl,lk,hcd⟩:=F.ex;refine fn_of lk hcd S len fun A Ap s H vs Q E hr hsp=>?_;obtain⟨t,ht,hq⟩:=hbody A Ap s H vs Q E hr hsp;exact⟨t,ht.nox,hq⟩
variable {fp:List Addr}
section
theorem jRY {sc2:Scope}(h:(sc2.names.all fun y=>decide (y.2= .free->sc.names.lookup y.1=some .cell\/sc.names.lookup y.1=some .free))=true):
  ∀ y∈sc2.names,y.2= .free->(blk X sc cl C Nc fp s H).env.scope.names.lookup y.1=some .cell\/(blk X sc cl C Nc fp s H).env.scope.names.lookup y.1=some .free:=fun y hy hf=>by
 rcases aE (bC.mp h y hy) hf with q | q
 ·exact .inl (jA2 Ac q)
 ·exact jA9 q
theorem jRI {tg a:Expr}{ta:TE}(hl:JE (blk X sc cl C Nc fp s H) a ta):JI (blk X sc cl C Nc fp s H) tg a (iTup X.K ta):=qP hl
variable {sc2:Scope}{cl2:Aj}{C2:Addr}{Nc2:Am}{fp2:List Addr}{s2:Shared}{H2:Hp}
theorem jQT:OpR (blk (blk X sc cl C Nc fp s H) sc2 cl2 C2 Nc2 fp2 s2 H2) (compareOp .In) (rIn X.K false):=jBH
theorem jJL:yJ (blk X sc cl C Nc fp s H) (.type "tuple") (fun xs H Q=>∃ p ys,xs=[.ref p]/\((SqL X.K H p ys/\∀ l,H l=none->Q (.ref l) (upd H l (.tup ys)))\/(SqT X.K H p ys/\Q (.ref p) H))):=jT
theorem jJM (hc:X.calm=true):yJ (blk X sc cl C Nc fp s H) (.builtin "all") (fun xs H Q=>∃ (p:Addr) (bs:List Bool),xs=[.ref p]/\SqL X.K H p (bs.map V.bl)/\Q (.bl (bs.all id)) H):=jBM hc
end
theorem jKU {X:Cx}{st:Stmt} :JS X st (fun _ _ _=>False):=⟨fun _ _ _ _ _ _ h=>h.elim⟩
section
variable {K:W.Frag}{σ:St}
abbrev TupsK (H H':Hp):Prop:=∀ b xs,H b=some (.tup xs)->H' b=some (.tup xs)
structure ZOk (Z:Hp->List V->Nat->Prop):Prop where
 z0:∀ H,Z H [] 0
 mono:∀ H H' zs j,TupsK H H'->Z H zs j->Z H' zs j
 len:∀ H zs j,Z H zs j->zs.length<=j
theorem jE5 {H:Hp}{D:Addr}{zs:List V}(h:H D=some (.lst zs))(o:HO):TupsK H (upd H D o):=fun b xs hb=>by
 rw[jA (fun e=>by rw[e,h] at hb; cases hb)];exact hb
def TurnZ (g:TG)(tt:TT)(te:TE)(σP:St->Prop)(Z:Hp->List V->Nat->Prop)(x:V)(j:Nat)(σ':St)(H':Hp)(zs:List V):Prop:=
 ∀ (R:St->V->Hp->Prop) (S:St->Hp->Prop),(∀ σ2 v H2,σP σ2->Ext H' H2->Z H2 (zs++[v]) (j+1)->R σ2 v H2)->(∀ σ2 H2,σP σ2->Ext H' H2->Z H2 zs (j+1)->S σ2 H2)->
  g x σ' H' fun σ2 H2=>tt σ2 H2 fun b H3=>if b=true then te σ2 H3 (R σ2) else S σ2 H3
theorem jPJ {tp:Bool}{a:Addr}{xs:List V}(σP:St->Prop)(Z:Hp->List V->Nat->Prop)(zo:ZOk Z)(ha:AtS tp H a xs)(hn:xs.length<sizeLine)(h0:σP (blkσ m σ))
  (step:∀ j x σ' H' zs,xs[j]?=some x->σP σ'->Ext H H'->Z H' zs j->TurnZ g tt te σP Z x j σ' H' zs)
  (hd:∀ D H' zs,H' D=some (.lst zs)->Ext H H'->H D=none->Z H' zs xs.length->Q (.ref D) H'):qJ m g tt te σ Q (match tp with | false=>Itl K a | true=>Itt K a) H:=by
 have turn:∀ D j σ' H' zs x,H D=none->xs[j]?=some x->(σP σ'/\Ext H H'/\H' D=some (.lst zs)/\H D=none/\Z H' zs j)->g x σ' H' fun σ2 H2=>tt σ2 H2 fun b H3=>if b=true then te σ2 H3 fun v H4=>H4 D=some (.lst zs)/\(σP σ2/\Ext H (upd H4 D (.lst (zs++[v])))/\(upd H4 D (.lst (zs++[v]))) D=some (.lst (zs++[v]))/\H D=none/\Z (upd H4 D (.lst (zs++[v]))) (zs++[v]) (j+1)) else (σP σ2/\Ext H H3/\H3 D=some (.lst zs)/\H D=none/\Z H3 zs (j+1)):=by
  rintro D j σ' H' zs x hD hx ⟨p,e,h2,hn,hz⟩;exact step j x σ' H' zs hx p e hz _ _ (fun σ2 v H2 p2 e2 z2=>⟨e2 _ _ h2,p2,(e.trans e2).updNew hn _,j6,hn,zo.mono _ _ _ _ (jE5 (e2 _ _ h2) _) z2⟩) fun σ2 H2 p2 e2 z2=>⟨p2,e.trans e2,e2 _ _ h2,hn,z2⟩
 cases tp with
 | false=>exact jEZ (xs:=xs) hn (fun D j σ' H' zs=>σP σ'/\Ext H H'/\H' D=some (.lst zs)/\H D=none/\Z H' zs j) (fun D hD=>⟨h0,(Ext.refl _).new hD _,j6,hD,zo.z0 _⟩) (fun D j σ' H' zs hD ⟨_,e,h2,_,hz⟩=>⟨e _ _ ha,h2,zo.len _ _ _ hz⟩) turn fun D σ' H' zs hD ⟨_,e,h2,hn,hz⟩=>hd D H' zs h2 e hn hz
 | true=>exact jBX (xs:=xs) hn (fun D j σ' H' zs=>σP σ'/\Ext H H'/\H' D=some (.lst zs)/\H D=none/\Z H' zs j) (fun D hD=>⟨h0,(Ext.refl _).new hD _,j6,hD,zo.z0 _⟩) (fun D j σ' H' zs hD ⟨_,e,h2,_,hz⟩=>⟨e _ _ ha,h2,zo.len _ _ _ hz⟩) turn fun D σ' H' zs hD ⟨_,e,h2,hn,hz⟩=>hd D H' zs h2 e hn hz
theorem jCV {a:Addr}{xs:List V}(σP:St->Prop)(Z:Hp->List V->Nat->Prop)(zo:ZOk Z)(ha:H a=some (.tup xs))(hn:xs.length<sizeLine)(h0:σP (blkσ m σ))
  (step:∀ j x σ' H' zs,xs[j]?=some x->σP σ'->Ext H H'->Z H' zs j->TurnZ g tt te σP Z x j σ' H' zs)
  (hd:∀ D H' zs,H' D=some (.lst zs)->Ext H H'->H D=none->Z H' zs xs.length->Q (.ref D) H'):qJ m g tt te σ Q (Itt K a) H:=jPJ (tp:=true) σP Z zo ha hn h0 step hd
theorem jAQ {a:Addr}{xs:List V}(σP:St->Prop)(Z:Hp->List V->Nat->Prop)(zo:ZOk Z)(ha:H a=some (.lst xs))(hn:xs.length<sizeLine)(h0:σP (blkσ m σ))
  (step:∀ j x σ' H' zs,xs[j]?=some x->σP σ'->Ext H H'->Z H' zs j->TurnZ g tt te σP Z x j σ' H' zs)
  (hd:∀ D H' zs,H' D=some (.lst zs)->Ext H H'->H D=none->Z H' zs xs.length->Q (.ref D) H'):qJ m g tt te σ Q (Itl K a) H:=jPJ (tp:=false) σP Z zo ha hn h0 step hd
theorem jL6 {n:Nat}(σP:St->Prop)(Z:Hp->List V->Nat->Prop)(zo:ZOk Z)(hn:n<sizeLine)(h0:σP (blkσ m σ))
  (step:∀ j σ' H' zs,j<n->σP σ'->Ext H H'->Z H' zs j->TurnZ g tt te σP Z (.int (0+j)) j σ' H' zs)
  (hd:∀ D H' zs,H' D=some (.lst zs)->Ext H H'->H D=none->Z H' zs n->Q (.ref D) H'):qJ m g tt te σ Q (Itr 0 n) H:=by
 refine jAP (lo:=0) (n:=n) hn (fun D j σ' H' zs=>σP σ'/\Ext H H'/\H' D=some (.lst zs)/\H D=none/\Z H' zs j) (fun D hD=>⟨h0,(Ext.refl _).new hD _,j6,hD,zo.z0 _⟩) (fun D j σ' H' zs hD hj ⟨_,e,h2,_,hz⟩=>⟨h2,zo.len _ _ _ hz⟩) ?_ fun D σ' H' zs hD ⟨_,e,h2,hn,hz⟩=>hd D H' zs h2 e hn hz;rintro D j σ' H' zs hD hj ⟨p,e,h2,hn,hz⟩;exact step j σ' H' zs hj p e hz _ _ (fun σ2 v H2 p2 e2 z2=>⟨e2 _ _ h2,p2,(e.trans e2).updNew hn _,j6,hn,zo.mono _ _ _ _ (jE5 (e2 _ _ h2) _) z2⟩) fun σ2 H2 p2 e2 z2=>⟨p2,e.trans e2,e2 _ _ h2,hn,z2⟩
theorem jS8 {tp:Bool}{l:Addr}{xs:List V}(σP:St->Prop)(Z:Hp->List V->Nat->Prop)(zo:ZOk Z)(ha:AtS tp H l xs)(hn:xs.length<sizeLine)(h0:σP (blkσ m σ))
  (step:∀ (j:Nat) x T σ' H' zs,xs[j]?=some x->σP σ'->Ext H H'->H' T=some (.tup [.int (j:Int),x])->Z H' zs j->TurnZ g tt te σP Z (.ref T) j σ' H' zs)
  (hd:∀ D H' zs,H' D=some (.lst zs)->Ext H H'->H D=none->Z H' zs xs.length->Q (.ref D) H'):qJ m g tt te σ Q (Ite tp K l) H:=by
 refine jCW (xs:=xs) hn (fun D j σ' H' zs=>σP σ'/\Ext H H'/\H' D=some (.lst zs)/\H D=none/\Z H' zs j) (fun D hD=>⟨h0,(Ext.refl _).new hD _,j6,hD,zo.z0 _⟩) (fun D j σ' H' zs hD ⟨_,e,h2,_,hz⟩=>⟨(ha.ext e).sq,h2,zo.len _ _ _ hz⟩) ?_ fun D σ' H' zs hD ⟨_,e,h2,hn,hz⟩=>hd D H' zs h2 e hn hz;rintro D j σ' H' zs x T hD hx hT ⟨p,e,h2,hn,hz⟩;have e1:Ext H' (upd H' T (.tup [.int (j:Int),x])):=(Ext.refl _).new hT _;have h2':=e1 _ _ h2;exact step j x T σ' _ zs hx p (e.trans e1) j6 (zo.mono _ _ _ _ (fun b xs h=>e1 _ _ h) hz) _ _ (fun σ2 v H2 p2 e2 z2=>⟨e2 _ _ h2',p2,((e.trans e1).trans e2).updNew hn _,j6,hn,zo.mono _ _ _ _ (jE5 (e2 _ _ h2') _) z2⟩) fun σ2 H2 p2 e2 z2=>⟨p2,(e.trans e1).trans e2,e2 _ _ h2',hn,z2⟩
end
def outZ {α:Type}(l:List α)(p:α->Bool)(f:α->V):Hp->List V->Nat->Prop:=fun _ zs j=>zs=((l.take j).filter p).map f
theorem outZ.ok {α:Type}(l:List α)(p:α->Bool)(f:α->V):ZOk (outZ l p f):=⟨fun _=>rfl,fun _ _ _ _ _ h=>h,fun _ zs j h=>by
 rw[show zs=_ from h,ab];exact be (bb _ _) (br _ _)⟩
theorem outZ.yes {α:Type}{l:List α}{p:α->Bool}{f:α->V}{H H':Hp}{zs:List V}{j:Nat}{x:α}(h:outZ l p f H zs j)(hx:l[j]?=some x)(hp:p x=true):outZ l p f H' (zs++[f x]) (j+1):=by
 show _=_;rw[aV,hx,bw,aK,<- show zs=_ from h];simp [hp]
theorem outZ.no {α:Type}{l:List α}{p:α->Bool}{f:α->V}{H H':Hp}{zs:List V}{j:Nat}{x:α}(h:outZ l p f H zs j)(hx:l[j]?=some x)(hp:p x=false):outZ l p f H' zs (j+1):=by
 show _=_;rw[aV,hx,bw,aK,<- show zs=_ from h];simp [hp]
theorem outZ.all {α:Type}{l:List α}{p:α->Bool}{f:α->V}{H:Hp}{zs:List V}{n:Nat}(h:outZ l p f H zs n)(hn:l.length<=n):zs=(l.filter p).map f:=by
 rw[show zs=_ from h,bK hn]
def mapZ {α:Type}(l:List α)(f:α->V):Hp->List V->Nat->Prop:=fun _ zs j=>zs=(l.take j).map f
theorem mapZ.ok {α:Type}(l:List α)(f:α->V):ZOk (mapZ l f):=⟨fun _=>rfl,fun _ _ _ _ _ h=>h,fun _ zs j h=>by
 rw[show zs=_ from h,ab];exact br _ _⟩
theorem mapZ.yes {α:Type}{l:List α}{f:α->V}{H H':Hp}{zs:List V}{j:Nat}{x:α}(h:mapZ l f H zs j)(hx:l[j]?=some x):mapZ l f H' (zs++[f x]) (j+1):=by
 show _=_;rw[aV,hx,aK,<- show zs=_ from h];rfl
theorem mapZ.all {α:Type}{l:List α}{f:α->V}{H:Hp}{zs:List V}{n:Nat}(h:mapZ l f H zs n)(hn:l.length<=n):zs=l.map f:=by
 rw[show zs=_ from h,bK hn]
theorem int_at {l:Ag}{j:Nat}{x:V}(h:(l.map V.int)[j]?=some x):∃ z:Int,l[j]?=some z/\x=V.int z:=by
 rw[aL] at h;cases hq:l[j]? with
 | none=>rw[hq] at h; cases h
 | some z=>rw[hq] at h; cases h; exact⟨z,rfl,rfl⟩
theorem jVL {e:Expr}{gs:List Comprehension}{sc:Scope}{pos:Pos} :FoOk (.ListComp e gs sc pos):=⟨fun _ _=>rfl⟩
theorem jV9 {X:Cx}{e:Expr}{te:TE}{x:Str}{pos:Pos}{i:Nat}{pos':Pos}(hN:X.N.Nodup)(hi:X.N[i]?=some x)(hx:Loc1 X x)(he:JE X e te)(hs:swapsWith e (some (.Name x pos')) pos.line X.env=pure false):JS X (.Assign [.Name x pos'] e pos) (tAsg te (kJ i)):=⟨qO hN hi hx.a he.h hs hx.b⟩
theorem jIC (hc:X.calm=true):yJ (blkC X sc cl C Nc fp s H) (.builtin "all") (fun xs H Q=>∃ (p:Addr) (bs:List Bool),xs=[.ref p]/\SqL X.K H p (bs.map V.bl)/\Q (.bl (bs.all id)) H):=jBM hc
open PySem.AutoSeq1 (wpAny_loadPart')
theorem jDU {R:Result->Shared->Prop}(hh:A.handled=none){r:Addr}{a b c:Int}{t u v:Tok}{n:Nat}(hr:IsRange s.heap r a b c t u v)(hsm:Builtin.Range.small a b c=true)(hn:Builtin.Range.rangeSize a b c=n)(hlen:n<=2 ^ 24)
  (k:∀ (h':Heap) (tk:Nat) (acc:An) (c':Nat),(∀ b o,s.heap.get? b=some o->h'.get? b=some o)->h'.get? s.heap.objs.size=some { cls:= .type "list",dict:=none,data:= .seq acc c',slots:=#[]} ->ItemsOf (fun i v=>∃ t,v= .int (a+i*c) t) acc n->R (.ok (.ret (.ref s.heap.objs.size))) { s with heap:=h',toks:=tk}):
  codeAny (model prog w) A (.builtin "proto.collect" ⟨[.ref r],[]⟩) R s:=by
 refine bW F.entry_proto_collect ?_;rw[bM F.plain_proto_collect _];refine(?_:wpAny _ A.in1 (newList [] >>= fun l=>again (.builtin "list.__iadd__" ⟨[l, .ref r],[]⟩)) _ _ s);refine ae (cf (ah ⟨dS F.plain_list_iadd _,bW F.entry_list_iadd ?_⟩));rw[bM F.plain_list_iadd _];refine(?_:wpAny _ A.in1 (Builtin.List.listExtendWith (.ref s.heap.objs.size) (.ref r) (.ref s.heap.objs.size)) _ _ _);have hr1:IsRange (s.heap.push { cls:= .type "list",data:= .seq ([]:Al).toArray}) r a b c t u v:=af _ hr;have hS1:(s.heap.push { cls:= .type "list",data:= .seq ([]:Al).toArray}).get? s.heap.objs.size=some { cls:= .type "list",data:= .seq #[]} :=ax _ rfl;exact wpAny_extend_range (R:=R) (s:= { s with heap:=s.heap.push { cls:= .type "list",data:= .seq ([]:Al).toArray}}) hh hr1 hsm hn hlen s.heap.objs.size _ 0 hS1 fun h' tk acc' c' kp hS' hacc=>k h' tk acc' c' (fun b o e=>kp b o (aU (aC e)) (af _ e)) hS' hacc
theorem jJI {Q:Al->Shared->Prop}(hh:A.handled=none){r:Addr}{a b c:Int}{t u v:Tok}{n:Nat}(hr:IsRange s.heap r a b c t u v)(hsm:Builtin.Range.small a b c=true)(hn:Builtin.Range.rangeSize a b c=n)(hlen:n<=2 ^ 24)
  (k:∀ (h':Heap) (tk:Nat) (acc:An),(∀ b o,s.heap.get? b=some o->h'.get? b=some o)->s.heap.objs.size<=h'.objs.size->ItemsOf (fun i v=>∃ t,v= .int (a+i*c) t) acc n->Q acc.toList { s with heap:=h',toks:=tk}):
  wpAny (model prog w) A (collect (.ref r)) Q E s:=by
 unfold collect;refine ae (gf (jDU hh hr hsm hn hlen fun h' tk acc c' kp hS' hacc=>?_));refine(?_:wpAny _ A (load s.heap.objs.size >>= _) _ _ _);exact ae (fH hS' (ah (k h' tk acc kp (dh (aC hS')) hacc)))
theorem jEH (r:Addr)(a b c:Int)(t u v:Tok)(n:Nat)(hsm:Builtin.Range.small a b c=true)(hn:Builtin.Range.rangeSize a b c=n)(hlen:n<=2 ^ 24):
  Meets (Builtin.«tuple.__new__» ⟨[.type "tuple", .ref r],[]⟩) (fun A R s=>A.handled=none/\IsRange s.heap r a b c t u v/\∀ (h':Heap) (tk:Nat) (acc:An),(∀ b o,s.heap.get? b=some o->h'.get? b=some o)->s.heap.objs.size<=h'.objs.size->ItemsOf (fun i v=>∃ t,v= .int (a+i*c) t) acc n->
   R (.ok (.ret (.ref h'.objs.size))) { s with heap:=h'.push { cls:= .type "tuple",data:= .seq acc},toks:=tk}):=
 .of_wp fun prog w A R s h=>by
  obtain⟨hh,hr,k⟩:=h;have sub:=sub_tuple_self;have ini:=init_tuple_lookup;have mh:=madeHere_tuple;have ty:s.TypeIs (.ref r) "range" :=⟨_,hr,rfl⟩;have hh1:A.in1.handled=none:=hh;have nt:(Value.type "range" ==Value.type "tuple")=false:=Ac
  wp_walk using gR ty,jJI hh1 hr hsm hn hlen
  intro h' tk acc kp hsz hacc;refine(?_:wpAny _ _ (Builtin.Tuple.tupleExact acc.toList.toArray >>= fun v=>ret v) _ _ _);unfold Builtin.Tuple.tupleExact;refine ae (cf (ah ⟨_,rfl,?_⟩) (show acc.toList.toArray.size<=sizeLine by rw[cD,hacc.1,dD]; lia));rw[cD];exact k h' tk acc kp hsz hacc
def jET (a:Int)(n:Nat):Ag:=(List.range n).map fun (i:Nat)=>a+(i:Int)
theorem jMG {a:Int}{n:Nat}{acc:An}(h:ItemsOf (fun i v=>∃ t,v=Value.int (a+(i:Int)*1) t) acc n):Vals ((jET a n).map V.int) acc.toList:=by
 have key:∀ (l:Al) (k:Nat),(∀ j v,l[j]?=some v->∃ t,v=Value.int (a+((k+j:Nat):Int)) t)->Vals ((range' k l.length).map fun (i:Nat)=>V.int (a+(i:Int))) l:=by
  intro l
  induction l with
  | nil=>intro k _; exact .nil
  | cons v l ih=>
   intro k hk;rw[aP,List.range'_succ,bv];refine .cons ?_ (ih (k+1) fun j u hj=>?_)
   ·obtain⟨t,e⟩:=hk 0 v rfl;exact⟨t,by simpa using e⟩
   ·obtain⟨t,e⟩:=hk (j+1) u (by simpa using hj);exact⟨t,by rw[e]; congr 2; lia⟩
 have:=key acc.toList 0 fun j v hj=>by
  obtain⟨t,e⟩:=h.2 j v (by simpa using hj);exact⟨t,by rw[e,Int.mul_one,jz]⟩
 rw[aR,h.1,<- jd] at this;unfold jET;rw[bH];exact this
theorem jCB (hc:X.calm=true):yJ X (.type "tuple") (fun xs H Q=>∃ p i j,xs=[.ref p]/\H p=some (.rng i j)/\0<=i/\i<=j/\j<=1000/\∀ l,H l=none->Q (.ref l) (upd H l (.tup ((jET i (j - i).toNat).map V.int)))):=by
 intro kh s σ H xs us Q I r h;obtain⟨p,i,j,rfl,hp,h0,h1,h2,q⟩:=h;obtain⟨u,rfl,rx⟩:=r.one;cases rx;obtain⟨t,u,v,e⟩:=I.hok p _ hp;have en:Builtin.Range.rangeSize i j 1=((j - i).toNat:Int):=by
  rw[rangeSize_one];split <;> lia
 refine callType_new F.called_tuple Ac (F.typeCall_tuple_1 _) (F.newCall_tuple_1 _) (fun obj=>F.args_object_init_2 obj _) F.entry_tuple_new
  (jEH p i j 1 t u v (j - i).toNat (small_one Aa Aa Aa Aa) en Aa) ⟨I.ok.hd hc,e,fun h' tk acc kp hsz hacc=>⟨⟨_,ax _ rfl,rfl⟩,?_⟩⟩
 have hv:=jMG hacc;refine⟨.ref h'.objs.size,_,I.laid (a:=h'.objs.size) (t':=tk) (o:= .tup ((jET i (j - i).toNat).map V.int)) (fun b o e=>af _ (kp b o e)) hsz ?_,rfl,q _ (I.hok.fresh hsz)⟩;refine⟨?_,acc.toList,hv,0,?_⟩
 ·unfold jET;rw[ab,ab,cz,dD];lia
 ·have:acc.toList.toArray=acc:=by simp
  rw[this];exact ax _ rfl
section
variable {y g:Str}{k:Nat}{te t1:TEX}
end
section
variable {st:Stmt}{sts:List Stmt}{t:TS}
end
end L2
namespace L2
open PySem
end L2
namespace L2
open PySem PySem.Spec PyProof.Rows
section
variable {m:List (Option Nat)}{g:TG}{tt:TT}{te:TE}{σ:St}{H1:Hp}{Q:VK}
end
variable {X:Cx}
def rMinL (K:W.Frag):List V->Hp->VK->Prop:=fun xs H Q=>∃ (p:Addr) (ns:Ag),xs=[.ref p]/\(SqL K H p (ns.map V.int))/\0<ns.length/\∀ m,m∈ns->(∀ a∈ns,m<=a)->Q (.int m) H
theorem jPR (hc:X.calm=true):yJ X (.builtin "min") (rMinL X.K):=by
 intro kh s σ H xs us Q I r h;obtain⟨p,ns,rfl,hq,hn,q⟩:=h;obtain⟨u,rfl,rx⟩:=r.one;cases rx;obtain⟨its,r',pl,hz⟩:=I.list hq;have hlen:=r'.length;rw[ab] at hlen;have val:∀ (i:Nat) (v:Value),its[i]?=some v->∃ t,v=Value.int (ns.getD i 0) t:=fun i v hi=>by
  have hb:i<ns.length:=by
   rw[hlen];exact(ai.mp hi).1
  obtain⟨u,hu,ru⟩:=r'.get (i:=i) (x:= .int (ns[i])) (by simp [hb]);rw[hi] at hu;cases hu;obtain⟨t,rfl⟩:=ru;exact⟨t,by simp [List.getD,hb]⟩
 refine call_min_walk (cV pl.isList ?_);have hne:p≠s.heap.objs.size:=by
  obtain⟨o,ho,_⟩:=pl.isList;exact aU (aC ho)
 refine⟨s.heap.objs.size,_,_,_,_,_,_,rfl,g0 (by simpa using I.ok.hd hc) _ p hne its.toArray,⟨⟨_,ax _ rfl,rfl,rfl⟩,pl.isList.push _⟩,(fun b hb=>?_),by rw[ar]; lia,CmpOf.ints_lt (fun i=>ns.getD i 0) (fun i v hP=>val i v (by simpa using hP)),fun v h' tk hP hk=>?_⟩
 ·show b<(s.heap.push _).objs.size;rw[cA];obtain⟨o,ho,_⟩:=pl.isList;have:=aC ho;rcases aG.mp hb with rfl | hb
  ·exact d0 _
  ·rcases aG.mp hb with rfl | hb
   ·exact bY this
   ·cases hb
 ·obtain⟨h1,h2⟩:=argBest_lt (fun i=>ns.getD i 0) (its.toArray.size - 1);rw[ar] at h1 h2 hP;rw[List.getElem?_toArray] at hP;obtain⟨t,rfl⟩:=val _ v hP;refine⟨.int _,H,I.kept (t':=tk) fun b o e=>hk b o (by
   intro z;have z:b=s.heap.objs.size:=by simpa using z
   exact absurd (aC e) (by rw[z]; exact cj _)) (af _ e),⟨_,rfl⟩,q _ ?_ fun a ha=>?_⟩
  ·generalize argBest _ _=j at h1;have hj:j<ns.length:=Aa;rw[ag,aA hj];exact cm hj
  ·obtain⟨j,hj⟩:=List.mem_iff_getElem?.mp ha;have hjl:=(ai.mp hj).1;have:=h2 j Aa;have e:ns.getD j 0=a:=by rw[ag,hj]; rfl
   rw[e] at this;exact this
structure FnZ (P:Program)(w:World)(K:W.Frag)(mg:Ak)(Aq:Heap)(CX:CXT)(Z:Shared->Hp->Prop)(k:Nat)(f:Addr)(fd:FuncData)(ps:Am)(sp:Sp):Prop where
 len:∀ vs H Q E,sp vs H Q E->vs.length=ps.length
 run:∀ (A:Around) (Ap:List Env) (s:Shared) (H:Hp) (args:Args) (us:Al) (vs:List V) (Q:VK) (E:XK),Room k A->Env0 P w K mg Aq A Ap s H->BindsTo s fd args (ps.zip us)->Vals vs us->Z s H->sp vs H Q E->
  codeAny (model P w) A (.call (.ref f) args) (CR CX Ap P w H s Q E) s
theorem jXR {Z:Shared->Hp->Prop}{CX:CXT}{P:Program}{w:World}{K:W.Frag}{mg:Ak}{Aq:Heap}{k:Nat}{f:Addr}{name qual:Str}{params:Arguments}{body:List Stmt}{scope:Scope}{dV kV doc pm ki ct oc:Value}{an od:Option Addr}
  {osl:Array (Ao)}{N ps:Am}{sp:Sp}(lk:K.lookup f=some ⟨oc,od, .func (PySem.W.fnOf name qual params body scope dV kV doc pm an ki ct),osl⟩) (hcd:PySem.W.codeIn K ki qual=true) (S:FnScope N ps scope)
  (len:∀ vs H Q E,sp vs H Q E->vs.length=ps.length)
  (hbody:∀ (A:Around) (Ap:List Env) (s:Shared) (H:Hp) (vs:List V) (Q:VK) (E:XK),Room k (A.deeper (envOfC qual scope s.heap.objs.size f ki))->Z s H->sp vs H Q E->
   ∃ t,PSs (cxOf CX P w K mg Aq N qual scope f ki A Ap s H E) body t/\t { nx:=fun _ H'=>Q .non H',rt:=Q} (yH N vs) H):
  FnZ P w K mg Aq CX Z (k+1) f (PySem.W.fnOf name qual params body scope dV kV doc pm an ki ct) ps sp:=by
 refine⟨len,fun A Ap s H args us vs Q E hr e0 hb r hz hsp=>?_⟩;have hl:=len _ _ _ _ hsp;have KX:K.In s.heap:=e0.mod.kin.keeps fun b o e=>(e0.bs b o e).1;have lim:s.heap.NoLimit:=e0.mod.nolimit.keeps fun b o e=>(e0.bs b o e).1;have hkind:∀ y∈ps.zip us,scope.names.lookup y.1=some .local\/(scope.names.lookup y.1=some .cell/\((cellsFrom (s.heap.objs.size+1) scope.names []).lookup y.1).isSome=true):=fun ⟨n,v⟩ hy=>by
  rcases S.par n (dL hy).1 with q | q
  ·exact .inl q
  ·exact .inr ⟨q,fZ _ _ _ (.inl q)⟩
 refine codeAny_call_function hr.depth (KX _ _ lk) rfl S.co S.gen rfl (jr KX hcd) (hb _ _ _ _ ?_);refine gY S.kind hkind fun env he s1 x=>?_;subst he;refine⟨lim.keeps x.toInCall.keep,codeAny_func ?_⟩;obtain⟨t,ht,hq⟩:=hbody A Ap s H vs Q E (hr.deeper _) hz hsp;have I:Inv (cxOf CX P w K mg Aq N qual scope f ki A Ap s H E) [] (yH N vs) H s1:=jI1 S hr.hd e0 hl r x;refine cy (ht [] s1 (yH N vs) H _ I hq) (fun fl s' hs=>?_) fun e s' hs=>hs;have fin:∀ {σ':St}{H':Hp}{v:V}{u:Value},Inv (cxOf CX P w K mg Aq N qual scope f ki A Ap s H E) [] σ' H' s'->RelV v u->Q v H'->CE Ap P w H s Q u s':=
  fun {σ' H' v u} J rv q=>⟨v,H',J.os,J.bare,J.Aq,J.hok,rv,q⟩
 cases fl with
 | ret u=>
  obtain⟨v,σ',H',J,rv,q⟩:=hs;exact fin J rv q
 | next=>
  obtain⟨σ',H',J,q⟩:=hs;exact fin (v:=V.non) (u:=Value.none) J rfl q
 | brk=>
  obtain⟨_,_,_,q⟩:=hs;exact False.elim q
 | cont=>
  obtain⟨_,_,_,q⟩:=hs;exact False.elim q
def ZSt (Z:Shared->Hp->Prop):Prop:=∀ (fs:List Addr) (s s':Shared) (H H':Hp),Un fs [] H H' s.heap s'.heap->Z s H->Z s' H'
abbrev ZT:Shared->Hp->Prop:=fun _ _=>True
theorem ZT.st:ZSt ZT:=fun _ _ _ _ _ _ _=>trivial
theorem FnZ.ok {P:Program}{w:World}{K:W.Frag}{mg:Ak}{Aq:Heap}{CX:CXT}{k:Nat}{f:Addr}{fd:FuncData}{ps:Am}{sp:Sp}(F:FnZ P w K mg Aq CX ZT k f fd ps sp):FnOk P w K mg Aq CX k f fd ps sp:=
 ⟨F.len,fun A Ap s H args us vs Q E hr he hb hv hs=>F.run A Ap s H args us vs Q E hr he hb hv trivial hs⟩
section
variable {P:Program}{w:World}{K:W.Frag}{mg:Ak}{Aq:Heap}
theorem Fun.okZ {Z:Shared->Hp->Prop}{x qual:Str}{st:Stmt}{f:Addr}{fd:FuncData}{N ps:Am}{k:Nat}{sp:Sp}(F:Fun K x qual st f fd)(S:FnScope N ps (j8 st))(len:∀ vs H Q E,sp vs H Q E->vs.length=ps.length)
  (hbody:∀ (ki:Value) (A:Around) (Ap:List Env) (s:Shared) (H:Hp) (vs:List V) (Q:VK) (E:XK),Room k (A.deeper (envOfC qual (j8 st) s.heap.objs.size f ki))->Z s H->sp vs H Q E->
   ∃ t,PSs (cxOf CX0 P w K mg Aq N qual (j8 st) f ki A Ap s H E).nox (jE st) t/\t { nx:=fun _ H'=>Q .non H',rt:=Q} (yH N vs) H):FnZ P w K mg Aq CX0 Z (k+1) f fd ps sp:=by
 obtain⟨_,_,_,_,_,_,ki,_,_,rfl,lk,hcd⟩:=F.ex;refine jXR lk hcd S len fun A Ap s H vs Q E hr hz hsp=>?_;obtain⟨t,h,q⟩:=hbody ki A Ap s H vs Q E hr hz hsp;exact⟨t,h.nox,q⟩
end
structure Callee (P:Program)(w:World)(K:W.Frag)(mg:Ak)(Aq:Heap)(Z:Shared->Hp->Prop)(zh:Hp->Prop)(k:Nat)(a:Addr)(sp:Sp):Prop where
 fn:∀ (A:Around) (Ap:List Env) (s:Shared) (H:Hp),Env0 P w K mg Aq A Ap s H->zh H->PySem.W.FnAt a s.heap
 run:∀ (A:Around) (Ap:List Env) (s:Shared) (H:Hp) (us:Al) (vs:List V) (Q:VK) (E:XK),Room k A->Env0 P w K mg Aq A Ap s H->Z s H->zh H->Vals vs us->sp vs H Q E->codeAny (model P w) A (.call (.ref a) ⟨us,[]⟩) (CR CX0 Ap P w H s Q E) s
def jW5 (a:Addr)(zh:Hp->Prop)(sp:Sp)(j:Nat)(t:TA):TE:=fun σ H Q=>σ[j]?=some (some (.ref a))/\t σ H fun vs H1=>zh H1/\sp vs H1 Q E0
section
variable {Z:Shared->Hp->Prop}{zh:Hp->Prop}{k:Nat}{a:Addr}{sp:Sp}{x:Str}{p pos:Pos}{e:Expr}{es:List Expr}{t:TA}{j:Nat}
theorem jRQ (F:Callee X.prog X.w X.K X.mg X.Aq Z zh k a sp)(hr:Room k X.A)(st:ZSt Z)(hz:Z X.s₀ X.H₀)(hex:X.ex=[])(hN:X.N[j]?=some x)(hv:Vis1 X x)
  (ha:JA X (e::es) t) (he:starEach (e::es) X.env=(false,eval e X.env)::starEach es X.env) (hdb:(x==("__debug__" :Str))=false:=by decide) (hcd:(x==("__classdict__" :Str))=false:=by decide) (hpl:(backTo pos (starEach es X.env)).any (·.1)=false:=by rfl):
  JE X (.Call (.Name x p) (e::es) [] pos) (jW5 a zh sp j t):=by
 refine⟨fun kh s σ H Q I h=>?_⟩;obtain⟨hj,h⟩:=h;refine cM (kn (jHK (pos:=p) hN hv.a hdb hcd kh s σ H (fun v H'=>v= .ref a/\H'=H) I ⟨_,hj,rfl,rfl⟩) fun v s1 ⟨v',H1,I1,r1,q1,q2⟩=>?_);subst q1 q2;cases (show v=Value.ref a from r1);have hX:=kn (ha.h pos kh s1 σ H1 _ I1 h) fun us s2 (z:AP X kh σ _ us s2)=>show PySem.W.FnAt a s2.heap/\wpAny (model X.prog X.w) X.A (call (.ref a) ([]++us)) (EP X kh σ Q) X.xe s2 from by
  obtain⟨vs,H2,I2,r,h1,h2⟩:=z;have un:=I2.Aq;rw[hex] at un;refine⟨F.fn _ _ _ _ I2.env0 h1,iN (dO (F.run X.A X.stack s2 H2 us vs Q E0 hr I2.env0 (st _ _ _ _ _ un hz) h1 r h2) fun r s' hq=>?_)⟩;cases r with
  | error e=>exact hq.elim
  | ok fl=>
   cases fl with
   | ret u=>exact I2.after hq
   | next=>exact False.elim hq
   | brk=>exact False.elim hq
   | cont=>exact False.elim hq
 rw[he] at hX ⊢;exact gQ (by show ((false || (backTo pos (starEach es X.env)).any (·.1)) || false)=false; rw[hpl]; rfl) iX (eN hX)
end
def nlP (q:Str)(args:Arguments)(body:Expr)(scope:Scope)(cl:Aj)(a c:Addr):Heap->Prop:=fun h=>∃ pm ctv,h.get? a=some (kla_obj "<lambda>" q args body scope cl pm c ctv)
theorem nlP.stay {q:Str}{args:Arguments}{body:Expr}{scope:Scope}{cl:Aj}{a c:Addr}(h1 h2:Heap)(p:nlP q args body scope cl a c h1)(k:∀ o,h1.get? a=some o->h2.get? a=some o):nlP q args body scope cl a c h2:=by
 obtain⟨m,t,e⟩:=p;exact⟨m,t,k _ e⟩
def tLam (q:Str)(args:Arguments)(body:Expr)(scope:Scope)(cl:Aj)(T:Addr)(pos:Pos):TE:=fun _ H Q=>TabOk H T pos q/\∀ a c H',H' a=some (.ext (nlP q args body scope cl a c))->H' c=some (.ext (ncP q c))->H' T=some (.tbl (onePs pos c))->ExtT T H H'->H a=none->Q (.ref a) H'
theorem jXM {X:Cx}{args:Arguments}{body:Expr}{scope:Scope}{pos:Pos}{c0 T:Addr}(hcode:X.env.code= .ref c0)(CH:PySem.W.CodeHd X.Aq c0 T)(hbm:BltAt X.Aq X.mg)
  (hfree:∀ y∈scope.names,y.2= .free->X.env.scope.names.lookup y.1=some .cell\/X.env.scope.names.lookup y.1=some .free) (hdf:defaultsOf args X.env=([],[])):
  JE X (.Lambda args body scope pos) (tLam (X.env.qual++ "<lambda>") args body scope (jS X.env.cells scope.names []) T pos):=by
 refine⟨fun kh s σ H Q I h=>?_⟩;obtain⟨tab,h⟩:=h;refine PySem.W.kla_eval hdf ?_;have hcl:closureFor scope X.env=pure (jS X.env.cells scope.names []):=jH1 fun y hy hz=>I.ok.has y.1 (hfree y hy hz);have hg:s.heap.Ns mainGlobals X.mg:=I.mod.glob.keeps I.bk;have C:=CH.keeps I.bk;have gT:∀ {ps:An},H T=some (.tbl ps)->mainGlobals≠T:=fun hT z=>by
  obtain⟨o,es,ep,e,_⟩:=I.mod.glob;have:=(I.bs _ _ e).2;rw[z,hT] at this;cases this
 have bT:∀ {ps:An},H T=some (.tbl ps)->s.heap.BuiltinsAt X.mg T:=fun hT=>by
  obtain⟨bm,o,h1,h2,h3,h4,h5,h6,h7⟩:=hbm;refine⟨bm,o,h1,h2,h3,fun z=>?_,(I.bs _ _ h4).1,h5,h6,h7⟩;have:=(I.bs _ _ h4).2;rw[z,hT] at this;cases this
 rcases tab with hT | ⟨c,hT,hc⟩
 ·refine PySem.W.kla_makeFunction hcl I.ok.glob hg hcode C (I.hok T _ hT) trivial rfl (gT hT) (bT hT) fun c ctv h' tk k1 k2 k3 k4 k5=>?_;obtain⟨oc,hoc⟩:=ncP.is (q:=X.env.qual++ "<lambda>") k4;have I1:Inv X kh σ (upd (upd H T (.tbl (#[]++onePs pos c))) c (.ext (ncP (X.env.qual++ "<lambda>") c))) { s with heap:=h',toks:=tk} :=I.grown hT k1 k5 k2 k4 ⟨oc,hoc⟩ ncP.stay;have I2:=I1.laidX (t':=tk) (a:=h'.objs.size) (φ:=nlP (X.env.qual++ "<lambda>") args body scope (jS X.env.cells scope.names []) h'.objs.size c) (h':=h'.push (kla_obj "<lambda>" (X.env.qual++ "<lambda>") args body scope (jS X.env.cells scope.names []) ((X.mg "__name__").getD .none) c ctv)) (fun b u q=>af _ q) (ak _) ⟨_,ctv,ax _ rfl⟩ ⟨_,ax _ rfl⟩ nlP.stay;have hcn:H c=none:=I.hok.fresh k2;have han:H h'.objs.size=none:=I.hok.fresh (be k2 (dh k3));have ca:c≠h'.objs.size:=aU k3;have Tc:T≠c:=fun z=>by rw[z,hcn] at hT; cases hT
  have Ta:T≠h'.objs.size:=fun z=>by rw[z,han] at hT; cases hT
  refine⟨.ref _,_,I2,rfl,h _ c _ j6 (by rw[jA ca,j6]) (by rw[jA Ta,jA Tc,j6,jw]) (fun b o e n=>?_) han⟩;rw[jA (jB e han),jA (jB e hcn),jA n];exact e
 ·refine PySem.W.kla_makeFunctionHit (cv:= .ref c) hcl I.ok.glob hg hcode C (I.hok T _ hT) (by exact trivial) (by simp [codeAmong,rawInt]) (bT hT) fun ctv h' tk k1 k2=>?_;have I2:=I.laidX (t':=tk) (a:=h'.objs.size) (φ:=nlP (X.env.qual++ "<lambda>") args body scope (jS X.env.cells scope.names []) h'.objs.size c) (h':=h'.push (kla_obj "<lambda>" (X.env.qual++ "<lambda>") args body scope (jS X.env.cells scope.names []) ((X.mg "__name__").getD .none) c ctv)) (fun b u q=>af _ (k1 b u q)) k2 ⟨_,ctv,ax _ rfl⟩ ⟨_,ax _ rfl⟩ nlP.stay;have han:H h'.objs.size=none:=I.hok.fresh k2;refine⟨.ref _,_,I2,rfl,h _ c _ j6 (by rw[jA (jB hc han)]; exact hc) (by rw[jA (jB hT han)]; exact hT) (fun b o e n=>?_) han⟩;rw[jA (jB e han)];exact e
theorem jXS {P:Program}{w:World}{K:W.Frag}{mg:Ak}{Aq:Heap}{k:Nat}{q:Str}{args:Arguments}{body:Expr}{scope:Scope}{N ps fs:Am}{sp:Sp}{cl:Aj}{fv:List V}{a c:Addr}(S:NScope N ps fs scope)(len:∀ vs H Q E,sp vs H Q E->vs.length=ps.length)
  (hb:∀ pm ctv (us:Al),us.length=ps.length->bindArgs (PySem.W.kla_fn "<lambda>" q args body scope cl pm (.ref c) ctv) ⟨us,[]⟩=pure (ps.zip us))
  (hbody:∀ (A:Around) (Ap:List Env) (s:Shared) (H:Hp) (vs:List V) (Q:VK) (E:XK),Room k (A.deeper (envX q scope s.heap.objs.size a (.ref c) cl))->sp vs H Q E->
   ∃ t,PE (cxN P w K mg Aq N q scope a (.ref c) cl A Ap s H) body t/\t (jC0 N vs fv) H Q):
  Callee P w K mg Aq (fun s H=>ClOk cl s H/\FvOk fs fv cl s) (fun H=>H a=some (.ext (nlP q args body scope cl a c))/\H c=some (.ext (ncP q c))) (k+1) a sp:=by
 refine⟨fun A Ap s H e z=>?_,fun A Ap s H us vs Q E hr e0 hz zh r hsp=>?_⟩
 ·obtain⟨⟨m,t,g⟩,_,_⟩:=(show ObjOk P w H s.heap a (.ext _) from e.hok a _ z.1);exact⟨_,_,_,_,g⟩
 obtain⟨C,Fv⟩:=hz;obtain⟨⟨pm,ctv,ho⟩,_,_⟩:=(show ObjOk P w H s.heap a (.ext _) from e0.hok a _ zh.1);obtain⟨hc,_,_⟩:=(show ObjOk P w H s.heap c (.ext _) from e0.hok c _ zh.2);have hl:us.length=ps.length:=r.length.symm.trans (len _ _ _ _ hsp);have lim:s.heap.NoLimit:=e0.mod.nolimit.keeps fun b o e=>(e0.bs b o e).1;refine PySem.W.kla_callFunE hr.depth ho rfl S.co S.gen rfl hc ?_;rw[hb pm ctv us hl];refine ah (wpAny_newFunctionEnv S.nocell (fun y hy=>S.par y.1 (dL hy).1) (fun h₁ hns hsb=>⟨lim.fresh _ hsb,?_⟩) S.kind);show codeAny _ _ (.expr body (envX q scope s.heap.objs.size a (.ref c) cl)) _ _;have hk:∀ b o,s.heap.get? b=some o->h₁.get? b=some o:=fun b o e=>hsb.extBut b o (aU (aC e)) (af _ e);obtain⟨t,ht,hq⟩:=hbody A Ap s H vs Q E (hr.deeper _) hsp;have I:Inv (cxN P w K mg Aq N q scope a (.ref c) cl A Ap s H) [] (jC0 N vs fv) H { s with heap:=h₁,toks:=s.toks+(ps.zip us).length} :=jFM S hr.hd e0 hl r C Fv hns hk;refine PySem.W.kla_codeExpr (cy (ht [] _ (jC0 N vs fv) H _ I hq) (fun u s' hs=>?_) fun e s' hs=>False.elim hs);obtain⟨v,H',J,rv,q⟩:=hs;exact⟨v,H',J.os,J.bare,J.Aq,J.hok,rv,q⟩
end L2
namespace TM
open PySem PyProof.Rows
class Od where
 kd:SortKind
 ky:Keyed->Int
 is:Keyed->Prop
abbrev key [Od]:Keyed->Int:=Od.ky
abbrev IsI [Od]:Keyed->Prop:=Od.is
class LtOk (prog:Program) (w:World) (A:Around) (s:Shared) [Od]:Prop where
 lt:∀ {E:Ah}{st:SortSt}{x y:Keyed}{Q:Option Bool->SortSt->Prop},kindOf st=Od.kd->IsI x->IsI y->Q (some (decide (key x<key y))) st->wpS (model prog w) A E s (lt' x y) Q st
variable [Od]
abbrev AllI (l:List Keyed):Prop:=∀ p∈l,IsI p
abbrev LE (x y:Keyed):Prop:=key x<=key y
def jC9:Bool->Keyed->Array Keyed->Nat->Nat->Nat->StateT SortSt Sem (Option Nat):=sortPriv% PySem.Builtin.gallop
def gallopB: { g:Bool->Keyed->Array Keyed->Nat->Nat->Nat->StateT SortSt Sem (Option Nat) // jC9=g} :=⟨fun _ _ _ _ _ _=>bind _ _,rfl⟩
theorem elP:(sortPriv% PySem.Builtin.elem)=elem':=rfl
theorem ltP:(sortPriv% PySem.Builtin.lt)=lt':=rfl
theorem ltAtP:(sortPriv% PySem.Builtin.ltAt)=ltAt':=rfl
theorem jJ9:(sortPriv% PySem.Builtin.gallop)=jC9:=rfl
section
variable {prog:Program}{w:World}{A:Around}{E:Ah}{s:Shared}
theorem jH6 [LtOk prog w A s]{st:SortSt}{x y:Keyed}{Q:Option Bool->SortSt->Prop}(hk:kindOf st=Od.kd)(hx:IsI x)(hy:IsI y)(h:Q (some (decide (key x<key y))) st):wpS (model prog w) A E s (lt' x y) Q st:=LtOk.lt hk hx hy h
theorem kB {st:SortSt}{arr:Array Keyed}{i:Nat}{p:Keyed}{Q:Keyed->SortSt->Prop}(hi:arr[i]?=some p)(h:Q p st):wpS (model prog w) A E s (elem' arr i) Q st:=by
 rw[elem'_eq,hi];exact aM h
end
section
variable {prog:Program}{w:World}{A:Around}{E:Ah}{s:Shared} [LtOk prog w A s]
theorem jBN {left:Bool}{ky:Keyed}{arr:Array Keyed}{Aq n hint:Nat}{st:SortSt}{Q:Option Nat->SortSt->Prop}(hk:kindOf st=Od.kd)(hky:IsI ky)(hI:∀ i,i<n->∃ p,arr[Aq+i]?=some p/\IsI p)(hh:hint<n)(B:Nat->Bool)
  (hB:∀ i p,i<n->arr[Aq+i]?=some p->B i=(if left=true then decide (key p<key ky) else !decide (key ky<key p))) (mono:∀ i j,i<=j->j<n->B j=true->B i=true)
  (h:∀ k,k<=n->(∀ i,i<k->B i=true)->(∀ i,k<=i->i<n->B i=false)->Q (some k) st):wpS (model prog w) A E s (jC9 left ky arr Aq n hint) Q st:=by
 rw[gallopB.2]
 delta gallopB
 dsimp only;simp only [elP,ltP];have bey:∀ i (R:Option Bool->SortSt->Prop),i<n->R (some (B i)) st->wpS (model prog w) A E s (do
   let x <- elem' arr (Aq+i)
   if left=true then lt' x ky else do
    let r <- lt' ky x
    pure (r.map (!·))) R st:=fun i R hi hR=>by
  obtain⟨p,hp,ip⟩:=hI i hi;refine aH (kB hp ?_);have e:=hB i p hi hp;cases left with
  | true=>
   rw[ao rfl] at e ⊢;rw[e] at hR;exact jH6 hk ip hky hR
  | false=>
   rw[am aj] at e ⊢;rw[e] at hR;exact aH (jH6 hk hky ip (aM hR))
 have down:∀ i j,i<=j->j<n->B i=false->B j=false:=fun i j hij hj hi=>by
  cases hb:B j with
  | false=>rfl
  | true=>rw[mono i j hij hj hb] at hi; cases hi
 refine aH (bey hint _ hh ?_);dsimp only;cases hb:B hint with
 | true=>
  rw[ao rfl];refine aH (dq (bZ (I:=fun x c st'=>st'=st/\∃ l o,c=(none,l,o)/\l<o/\x+1<=o/\hint+l<n/\B (hint+l)=true)
   (Q:=fun c st'=>st'=st/\∃ l o,c=(none,l,o)/\l<o/\hint+l<n/\B (hint+l)=true/\(n - hint<=o\/(hint+o<n/\B (hint+o)=false))) ?step ?fin ⟨rfl,0,1,rfl,Aa,Aa,Aa,by rw[ka]; exact hb⟩) ?post)
  case post=>
   rintro c st' ⟨rfl,l,o,rfl,a1,a2,a3,a4⟩;dsimp only;have p3:∀ i,i<hint+l+1->B i=true:=fun i hi=>mono i (hint+l) Aa a2 a3;have p4:∀ i,hint+min o (n - hint)<=i->i<n->B i=false:=fun i h1 h2=>by
    rcases a4 with a4 | ⟨a4,a5⟩
    ·lia
    ·exact down (hint+o) i Aa h2 a5
   refine aH (dq (bZ (I:=fun x c st''=>st''=st'/\∃ lo hi,c=(none,lo,hi)/\lo<=hi/\hi<=n/\hi - lo<=n - x/\(∀ i,i<lo->B i=true)/\(∀ i,hi<=i->i<n->B i=false))
    (Q:=fun c st''=>st''=st'/\∃ k,c=(none,k,k)/\k<=n/\(∀ i,i<k->B i=true)/\(∀ i,k<=i->i<n->B i=false)) ?step2 ?fin2 ⟨rfl,hint+l+1,hint+min o (n - hint),rfl,Aa,Aa,Aa,p3,p4⟩) ?post2)
   case post2=>
    rintro c st'' ⟨rfl,k,rfl,k1,k2,k3⟩;exact aM (h k k1 k2 k3)
   case fin2=>
    rintro c st'' ⟨rfl,lo,hi,rfl,a1,a2,a3,a4,a5⟩;have:lo=hi:=by lia
    subst this;exact⟨rfl,lo,rfl,a2,a4,a5⟩
   case step2=>
    rintro x c st'' _ hx ⟨rfl,lo,hi,rfl,a1,a2,a3,a4,a5⟩;dsimp only;by_cases hge:lo ≥ hi
    ·rw[ao hge];have:lo=hi:=by lia
     subst this;exact aM ⟨rfl,lo,rfl,a2,a4,a5⟩
    ·rw[am hge];refine aH (bey _ _ Aa ?_);dsimp only;cases hb:B (lo+(hi - lo) / 2) with
     | true=>
      rw[ao rfl];exact aM ⟨rfl,lo+(hi - lo) / 2+1,hi,rfl,Aa,a2,Aa,fun i hi'=>mono i _ Aa Aa hb,a5⟩
     | false=>
      rw[am aj];exact aM ⟨rfl,lo,lo+(hi - lo) / 2,rfl,Aa,Aa,Aa,a4,fun i h1 h2=>down _ i h1 h2 hb⟩
  case fin=>
   rintro c st' ⟨rfl,l,o,rfl,a1,a2,a3,a4⟩;exact⟨rfl,l,o,rfl,a1,a3,a4, .inl Aa⟩
  case step=>
   rintro x c st' _ hx ⟨rfl,l,o,rfl,a1,a2,a3,a4⟩;dsimp only;by_cases hge:o ≥ n - hint
   ·rw[ao hge];exact aM ⟨rfl,l,o,rfl,a1,a3,a4, .inl hge⟩
   ·rw[am hge];refine aH (bey _ _ Aa ?_);dsimp only;cases hb2:B (hint+o) with
    | true=>
     rw[am Ac];exact aM ⟨rfl,o,2*o+1,rfl,Aa,Aa,Aa,hb2⟩
    | false=>
     rw[ao Ac];exact aM ⟨rfl,l,o,rfl,a1,a3,a4, .inr ⟨Aa,hb2⟩⟩
 | false=>
  rw[am aj];refine aH (dq (bZ (I:=fun x c st'=>st'=st/\∃ l o,c=(none,l,o)/\l<o/\x+1<=o/\l<=hint/\B (hint - l)=false)
   (Q:=fun c st'=>st'=st/\∃ l o,c=(none,l,o)/\l<o/\l<=hint/\B (hint - l)=false/\(hint+1<=o\/(o<=hint/\B (hint - o)=true))) ?step ?fin ⟨rfl,0,1,rfl,Aa,Aa,Aa,by rw[Nat.sub_zero]; exact hb⟩) ?post)
  case post=>
   rintro c st' ⟨rfl,l,o,rfl,a1,a2,a3,a4⟩;dsimp only;have p3:∀ i,i<hint+1 - min o (hint+1)->B i=true:=fun i hi=>by
    rcases a4 with a4 | ⟨a4,a5⟩
    ·lia
    ·exact mono i (hint - o) Aa Aa a5
   have p4:∀ i,hint - l<=i->i<n->B i=false:=fun i h1 h2=>down (hint - l) i Aa h2 a3;refine aH (dq (bZ (I:=fun x c st''=>st''=st'/\∃ lo hi,c=(none,lo,hi)/\lo<=hi/\hi<=n/\hi - lo<=n - x/\(∀ i,i<lo->B i=true)/\(∀ i,hi<=i->i<n->B i=false))
    (Q:=fun c st''=>st''=st'/\∃ k,c=(none,k,k)/\k<=n/\(∀ i,i<k->B i=true)/\(∀ i,k<=i->i<n->B i=false)) ?step2 ?fin2 ⟨rfl,hint+1 - min o (hint+1),hint - l,rfl,Aa,Aa,Aa,p3,p4⟩) ?post2)
   case post2=>
    rintro c st'' ⟨rfl,k,rfl,k1,k2,k3⟩;exact aM (h k k1 k2 k3)
   case fin2=>
    rintro c st'' ⟨rfl,lo,hi,rfl,a1,a2,a3,a4,a5⟩;have:lo=hi:=by lia
    subst this;exact⟨rfl,lo,rfl,a2,a4,a5⟩
   case step2=>
    rintro x c st'' _ hx ⟨rfl,lo,hi,rfl,a1,a2,a3,a4,a5⟩;dsimp only;by_cases hge:lo ≥ hi
    ·rw[ao hge];have:lo=hi:=by lia
     subst this;exact aM ⟨rfl,lo,rfl,a2,a4,a5⟩
    ·rw[am hge];refine aH (bey _ _ Aa ?_);dsimp only;cases hb:B (lo+(hi - lo) / 2) with
     | true=>
      rw[ao rfl];exact aM ⟨rfl,lo+(hi - lo) / 2+1,hi,rfl,Aa,a2,Aa,fun i hi'=>mono i _ Aa Aa hb,a5⟩
     | false=>
      rw[am aj];exact aM ⟨rfl,lo,lo+(hi - lo) / 2,rfl,Aa,Aa,Aa,a4,fun i h1 h2=>down _ i h1 h2 hb⟩
  case fin=>
   rintro c st' ⟨rfl,l,o,rfl,a1,a2,a3,a4⟩;exact⟨rfl,l,o,rfl,a1,a3,a4, .inl Aa⟩
  case step=>
   rintro x c st' _ hx ⟨rfl,l,o,rfl,a1,a2,a3,a4⟩;dsimp only;by_cases hge:o ≥ hint+1
   ·rw[ao hge];exact aM ⟨rfl,l,o,rfl,a1,a3,a4, .inl hge⟩
   ·rw[am hge];refine aH (bey _ _ Aa ?_);dsimp only;cases hb2:B (hint - o) with
    | true=>
     rw[ao rfl];exact aM ⟨rfl,l,o,rfl,a1,a3,a4, .inr ⟨Aa,hb2⟩⟩
    | false=>
     rw[am aj];exact aM ⟨rfl,o,2*o+1,rfl,Aa,Aa,Aa,hb2⟩
end
abbrev jHI (st:SortSt)(g:Nat):SortSt:=SortSt.mk' (kindOf st) (arrOf st) (pendingOf st) g (failedOf st)
def jCI:Nat->StateT SortSt Sem Unit:=sortPriv% PySem.Builtin.setMinGallop
theorem jMZ:(sortPriv% PySem.Builtin.setMinGallop)=jCI:=rfl
theorem jA3 (g:Nat):jCI g=modify fun s=>jHI s g:=rfl
def jGD:Array Keyed->Array Keyed->StateT SortSt Sem (Array Keyed):=sortPriv% PySem.Builtin.mergeLo
def mergeLoB: { g:Array Keyed->Array Keyed->StateT SortSt Sem (Array Keyed) // jGD=g} :=⟨fun _ _=>bind _ _,rfl⟩
theorem jR7:(sortPriv% PySem.Builtin.mergeLo)=jGD:=rfl
def jGE:Array Keyed->Array Keyed->StateT SortSt Sem (Array Keyed):=sortPriv% PySem.Builtin.mergeHi
def mergeHiB: { g:Array Keyed->Array Keyed->StateT SortSt Sem (Array Keyed) // jGE=g} :=⟨fun _ _=>bind _ _,rfl⟩
theorem jR8:(sortPriv% PySem.Builtin.mergeHi)=jGE:=rfl
abbrev Srt (l:List Keyed):Prop:=l.Pairwise LE
structure ML (a b out:List Keyed)(ia ib:Nat):Prop where
 perm:(out++(a.drop ia++b.drop ib)).Perm (a++b)
 srt:Srt out
 le:∀ x∈out,∀ y∈a.drop ia++b.drop ib,LE x y
theorem Srt.drop {l:List Keyed}(h:Srt l)(i:Nat):Srt (l.drop i):=h.sublist (ig _ _)
theorem Srt.take {l:List Keyed}(h:Srt l)(i:Nat):Srt (l.take i):=h.sublist (dy _ _)
theorem qG {l m:List Keyed}(h1:Srt l)(h2:Srt m)(h:∀ x∈l,∀ y∈m,LE x y):Srt (l++m):=ci.mpr ⟨h1,h2,h⟩
theorem ML.takeA {a b out:List Keyed}{ia ib:Nat}(h:ML a b out ia ib)(sa:Srt a)(k:Nat)(hc:∀ x∈(a.drop ia).take k,∀ y∈b.drop ib,LE x y):ML a b (out++(a.drop ia).take k) (ia+k) ib:=by
 have e:a.drop (ia+k)=(a.drop ia).drop k:=by rw[g6]
 refine⟨?_,qG h.srt ((sa.drop ia).take k) fun x hx y hy=>h.le x hx y (bf _ (bI hy)),fun x hx y hy=>?_⟩
 ·refine List.Perm.trans ?_ h.perm;rw[e];refine iY ?_;rw[aY,<- aY ((a.drop ia).take k),bD]
 ·rcases aN.mp hx with q | q
  ·refine h.le x q y ?_;rcases aN.mp hy with z | z
   ·rw[e] at z;exact bf _ (cO z)
   ·exact aO _ z
  ·rcases aN.mp hy with z | z
   ·rw[e] at z;have s:=sa.drop ia;rw[<- bD k (a.drop ia)] at s;exact(ci.mp s).2.2 x q y z
   ·exact hc x q y z
theorem ML.takeB {a b out:List Keyed}{ia ib:Nat}(h:ML a b out ia ib)(sb:Srt b)(k:Nat)(hc:∀ x∈(b.drop ib).take k,∀ y∈a.drop ia,LE x y):ML a b (out++(b.drop ib).take k) ia (ib+k):=by
 have e:b.drop (ib+k)=(b.drop ib).drop k:=by rw[g6]
 refine⟨?_,qG h.srt ((sb.drop ib).take k) fun x hx y hy=>h.le x hx y (aO _ (bI hy)),fun x hx y hy=>?_⟩
 ·refine List.Perm.trans ?_ h.perm;rw[e,aY];refine cL out ?_;refine dH.trans ?_;rw[aY];refine cL _ ?_;refine dH.trans ?_;rw[bD]
 ·rcases aN.mp hx with q | q
  ·refine h.le x q y ?_;rcases aN.mp hy with z | z
   ·exact bf _ z
   ·rw[e] at z;exact aO _ (cO z)
  ·rcases aN.mp hy with z | z
   ·exact hc x q y z
   ·rw[e] at z;have s:=sb.drop ib;rw[<- bD k (b.drop ib)] at s;exact(ci.mp s).2.2 x q y z
theorem ML.outA {a b out:List Keyed}{ia ib:Nat}(h:ML a b out ia ib)(sa:Srt a)(hb:b.length<=ib):(out++a.drop ia++b.drop ib).Perm (a++b)/\Srt (out++a.drop ia++b.drop ib):=by
 refine⟨by rw[aY]; exact h.perm,?_⟩;rw[iQ hb,ba];exact qG h.srt (sa.drop ia) fun x hx y hy=>h.le x hx y (bf _ hy)
theorem ML.outB {a b out:List Keyed}{ia ib:Nat}(h:ML a b out ia ib)(sb:Srt b)(ha:a.length<=ia):(out++a.drop ia++b.drop ib).Perm (a++b)/\Srt (out++a.drop ia++b.drop ib):=by
 refine⟨by rw[aY]; exact h.perm,?_⟩;rw[iQ ha,ba];exact qG h.srt (sb.drop ib) fun x hx y hy=>h.le x hx y (aO _ hy)
theorem ML.last {a b out:List Keyed}{ia ib:Nat}(h:ML a b out ia ib)(sa:Srt a)(sb:Srt b)(ha:∀ x∈b,∀ y∈a.drop ia,LE x y):(out++b.drop ib++a.drop ia).Perm (a++b)/\Srt (out++b.drop ib++a.drop ia):=by
 refine⟨?_,?_⟩
 ·rw[aY];exact(cL out dH).trans h.perm
 ·refine qG (qG h.srt (sb.drop ib) fun x hx y hy=>h.le x hx y (aO _ hy)) (sa.drop ia) fun x hx y hy=>?_;rcases aN.mp hx with q | q
  ·exact h.le x q y (bf _ hy)
  ·exact ha x (cO q) y hy
theorem jAF {l:List Keyed}{i:Nat}{p:Keyed}(h:l[i]?=some p):(l.drop i).take 1=[p]:=by
 obtain⟨hi,e⟩:=ai.mp h;rw[<- iR (h:=hi),e];rfl
theorem jFB {l:List Keyed}(h:Srt l){i j:Nat}{x y:Keyed}(hx:l[i]?=some x)(hy:l[j]?=some y)(hij:i<=j):LE x y:=by
 obtain⟨h1,rfl⟩:=ai.mp hx;obtain⟨h2,rfl⟩:=ai.mp hy;by_cases e:i=j
 ·subst e; exact cQ _
 ·exact bV.mp h i j h1 h2 Aa
theorem jE0 {l:List Keyed}{i:Nat}{y:Keyed}(h:y∈l.drop i):∃ j,i<=j/\l[j]?=some y:=by
 obtain⟨k,hk⟩:=bN h;rw[g7] at hk;exact⟨i+k,Aa,hk⟩
theorem jA5 {l:List Keyed}{i k:Nat}{y:Keyed}(h:y∈(l.drop i).take k):∃ j,i<=j/\j<i+k/\l[j]?=some y:=by
 obtain⟨n,hn⟩:=bN h;have hlt:n<k:=by
  have:=(ai.mp hn).1;rw[bB] at this;lia
 rw[ck hlt,g7] at hn;exact⟨i+n,Aa,Aa,hn⟩
theorem jDD {a:Array Keyed}{i:Nat} :(a.extract i a.size).toList=a.toList.drop i:=by
 rw[eO,dI];exact bK (by rw[gz,aR]; exact ak _)
theorem ext_k {a:Array Keyed}{i k:Nat} :(a.extract i (i+k)).toList=(a.toList.drop i).take k:=by
 rw[eO,dI,cR]
structure Two (a b:Array Keyed):Prop where
 ia:AllI a.toList
 ib:AllI b.toList
 sa:Srt a.toList
 sb:Srt b.toList
 na:0<a.size
 nb:0<b.size
 last:∀ x∈b.toList,∀ y,a.toList[a.size - 1]?=some y->key x<key y
 first:∀ y∈a.toList,∀ p,b.toList[0]?=some p->key p<key y
def yZ (a b r:Array Keyed):Prop:=r.toList.Perm (a.toList++b.toList)/\Srt r.toList
structure SG (st st':SortSt):Prop where
 k:kindOf st'=kindOf st
 a:arrOf st'=arrOf st
 p:pendingOf st'=pendingOf st
 f:failedOf st'=failedOf st
theorem SG.refl (st:SortSt):SG st st:=⟨rfl,rfl,rfl,rfl⟩
theorem SG.gal {st st':SortSt}(h:SG st st')(g:Nat):SG st (jHI st' g):=⟨h.k,h.a,h.p,h.f⟩
abbrev MA (a b out:Array Keyed)(ia ib:Nat):Prop:=ML a.toList b.toList out.toList ia ib
variable {a b:Array Keyed}{i j:Nat}
section
variable {out:Array Keyed}{k:Nat}
theorem at_list {p:Keyed} :a[i]?=some p↔a.toList[i]?=some p:=by rw[bJ]
theorem xA (h:i<a.size):∃ p,a[i]?=some p/\a.toList[i]?=some p:=⟨a[i],by simp [h],by simp [h]⟩
theorem MA.doneA (T:Two a b)(h:MA a b out i j)(hj:b.size<=j):yZ a b (out++a.extract i a.size++b.extract j b.size):=by
 unfold yZ;rw[bz,bz,jDD,jDD];exact ML.outA h T.sa (by rw[aR]; exact hj)
theorem MA.doneB (T:Two a b)(h:MA a b out i j)(hi:a.size<=i):yZ a b (out++a.extract i a.size++b.extract j b.size):=by
 unfold yZ;rw[bz,bz,jDD,jDD];exact ML.outB h T.sb (by rw[aR]; exact hi)
theorem MA.doneL (T:Two a b)(h:MA a b out i j)(hi:i+1=a.size):yZ a b (out++b.extract j b.size++a.extract i a.size):=by
 unfold yZ;rw[bz,bz,jDD,jDD];refine ML.last h T.sa T.sb fun x hx y hy=>?_;obtain⟨n,h1,h2⟩:=jE0 hy;have:n=a.size - 1:=by
  have:=(ai.mp h2).1;rw[aR] at this;lia
 subst this;exact cI (T.last x hx y h2)
theorem MA.pushB (T:Two a b)(h:MA a b out i j){p q:Keyed}(hp:b[j]?=some p)(hc:∀ y∈a.toList.drop i,LE p y):MA a b (out.push p) i (j+1):=by
 have:=ML.takeB h T.sb 1 (by
  rw[jAF (at_list.mp hp)];intro x hx;rw[aI.mp hx];exact hc)
 rw[jAF (at_list.mp hp)] at this;unfold MA;rw[dP];exact this
theorem MA.pushA (T:Two a b)(h:MA a b out i j){p q:Keyed}(hp:a[i]?=some p)(hc:∀ y∈b.toList.drop j,LE p y):MA a b (out.push p) (i+1) j:=by
 have:=ML.takeA h T.sa 1 (by
  rw[jAF (at_list.mp hp)];intro x hx;rw[aI.mp hx];exact hc)
 rw[jAF (at_list.mp hp)] at this;unfold MA;rw[dP];exact this
theorem MA.appA (T:Two a b)(h:MA a b out i j)(k:Nat)(hc:∀ n x,i<=n->n<i+k->a.toList[n]?=some x->∀ y∈b.toList.drop j,LE x y):MA a b (out++a.extract i (i+k)) (i+k) j:=by
 unfold MA;rw[bz,ext_k];exact ML.takeA h T.sa k fun x hx y hy=>by
  obtain⟨n,h1,h2,h3⟩:=jA5 hx;exact hc n x h1 h2 h3 y hy
theorem MA.appB (T:Two a b)(h:MA a b out i j)(k:Nat)(hc:∀ n x,j<=n->n<j+k->b.toList[n]?=some x->∀ y∈a.toList.drop i,LE x y):MA a b (out++b.extract j (j+k)) i (j+k):=by
 unfold MA;rw[bz,ext_k];exact ML.takeB h T.sb k fun x hx y hy=>by
  obtain⟨n,h1,h2,h3⟩:=jA5 hx;exact hc n x h1 h2 h3 y hy
theorem Two.atA (T:Two a b)(h:i<a.size):∃ p,a[i]?=some p/\IsI p:=by
 obtain⟨p,h1,h2⟩:=xA h;exact⟨p,h1,T.ia p (ay h2)⟩
theorem Two.atB (T:Two a b)(h:i<b.size):∃ p,b[i]?=some p/\IsI p:=by
 obtain⟨p,h1,h2⟩:=xA h;exact⟨p,h1,T.ib p (ay h2)⟩
theorem jGM (s:Srt a.toList){p q:Keyed}(hp:a[i]?=some p)(h:LE q p):∀ y∈a.toList.drop i,LE q y:=fun y hy=>by
 obtain⟨n,h1,h2⟩:=jE0 hy;exact cX h (jFB s (at_list.mp hp) h2 h1)
end
section
variable {prog:Program}{w:World}{A:Around}{E:Ah}{s:Shared} [LtOk prog w A s]
theorem jVJ {st:SortSt}{a:Array Keyed}{i:Nat}{p:Keyed}{Q:Option Nat->SortSt->Prop}(hk:kindOf st=Od.kd)(hp:IsI p)(ha:AllI a.toList)(sa:Srt a.toList)(hi:i<a.size)
  (h:∀ k,i+k<=a.size->(∀ n x,i<=n->n<i+k->a.toList[n]?=some x->LE x p)->(∀ n x,i+k<=n->a.toList[n]?=some x->key p<key x)->Q (some k) st):
  wpS (model prog w) A E s (jC9 false p a i (a.size - i) 0) Q st:=by
 refine jBN hk hp (fun n hn=>?_) Aa (fun n=>match a[i+n]? with | some x=>!decide (key p<key x) | none=>false) (fun n x hn hx=>?_) (fun n m hnm hm hb=>?_) fun k hk1 hk2 hk3=>h k Aa (fun n x h1 h2 h3=>?_) fun n x h1 h2=>?_
 ·obtain⟨q,q1,q2⟩:=xA (a:=a) (i:=i+n) Aa;exact⟨q,q1,ha q (ay q2)⟩
 ·rw[hx,am aj]
 ·obtain⟨x,x1,x2⟩:=xA (a:=a) (i:=i+n) Aa;obtain⟨y,y1,y2⟩:=xA (a:=a) (i:=i+m) Aa;rw[y1] at hb;rw[x1];have:=jFB sa x2 y2 Aa;have hb:¬ key p<key y:=by simpa using hb
  show (!decide (key p<key x))=true;rw[cg,bR];have:key x<=key y:=this;lia
 ·have:=hk2 (n - i) Aa;rw[show i+(n - i)=n by lia,at_list.mpr h3] at this;have this:¬ key p<key x:=by simpa using this
  show key x<=key p;lia
 ·have hn:=(ai.mp h2).1;rw[aR] at hn;have:=hk3 (n - i) Aa Aa;rw[show i+(n - i)=n by lia,at_list.mpr h2] at this;simpa using this
theorem jVK {st:SortSt}{a:Array Keyed}{i:Nat}{p:Keyed}{Q:Option Nat->SortSt->Prop}(hk:kindOf st=Od.kd)(hp:IsI p)(ha:AllI a.toList)(sa:Srt a.toList)(hi:i<a.size)
  (h:∀ k,i+k<=a.size->(∀ n x,i<=n->n<i+k->a.toList[n]?=some x->key x<key p)->(∀ n x,i+k<=n->a.toList[n]?=some x->LE p x)->Q (some k) st):
  wpS (model prog w) A E s (jC9 true p a i (a.size - i) 0) Q st:=by
 refine jBN hk hp (fun n hn=>?_) Aa (fun n=>match a[i+n]? with | some x=>decide (key x<key p) | none=>false) (fun n x hn hx=>?_) (fun n m hnm hm hb=>?_) fun k hk1 hk2 hk3=>h k Aa (fun n x h1 h2 h3=>?_) fun n x h1 h2=>?_
 ·obtain⟨q,q1,q2⟩:=xA (a:=a) (i:=i+n) Aa;exact⟨q,q1,ha q (ay q2)⟩
 ·rw[hx,ao rfl]
 ·obtain⟨x,x1,x2⟩:=xA (a:=a) (i:=i+n) Aa;obtain⟨y,y1,y2⟩:=xA (a:=a) (i:=i+m) Aa;rw[y1] at hb;rw[x1];have:=jFB sa x2 y2 Aa;have hb:key y<key p:=aE hb;show decide (key x<key p)=true;rw[aW];have:key x<=key y:=this;lia
 ·have:=hk2 (n - i) Aa;rw[show i+(n - i)=n by lia,at_list.mpr h3] at this;exact aE this
 ·have hn:=(ai.mp h2).1;rw[aR] at hn;have:=hk3 (n - i) Aa Aa;rw[show i+(n - i)=n by lia,at_list.mpr h2] at this;have this:¬ key x<key p:=fQ this;show key p<=key x;lia
end
section
variable {prog:Program}{w:World}{A:Around}{E:Ah}{s:Shared} [LtOk prog w A s]
theorem bp {a b:Nat}(h:a=b):(a==b)=true:=g8.mpr h
theorem bn {a b:Nat}(h:¬ a=b):¬ (a==b)=true:=fun z=>h (g8.mp z)
structure LoI (a b:Array Keyed)(st:SortSt)(out:Array Keyed)(ia ib:Nat)(st':SortSt):Prop where
 m:MA a b out ia ib
 i:ia+1<a.size
 j:ib<b.size
 s:SG st st'
theorem jIN {a b:Array Keyed}{st:SortSt}{Q:Array Keyed->SortSt->Prop}(hk:kindOf st=Od.kd)(T:Two a b)(h:∀ r st',yZ a b r->SG st st'->Q r st'):wpS (model prog w) A E s (jGD a b) Q st:=by
 rw[mergeLoB.2]
 delta mergeLoB
 dsimp only;simp only [elP,ltP,jJ9,jMZ];have na:=T.na;have nb:=T.nb;refine aH (g9 (df ⟨rfl,?_⟩));obtain⟨p0,hp0,ip0⟩:=T.atB nb;refine aH (kB hp0 ?_);have M0:MA a b #[p0] 0 1:=by
  have z:MA a b #[] 0 0:=⟨by show (([]:List Keyed)++(a.toList.drop 0++b.toList.drop 0)).Perm _; rw[fz,jf,jf],List.Pairwise.nil,fun x hx=>by cases hx⟩;have:=MA.pushB (q:=p0) T z hp0 fun y hy=>cI (T.first y (cO hy) p0 (at_list.mp hp0));exact this
 by_cases e1:1=b.size
 ·rw[ao (bp e1)];exact aM (h _ _ (MA.doneA T M0 Aa) (SG.refl _))
 rw[am (bn e1)];by_cases e2:0+1=a.size
 ·rw[ao (bp e2)];exact aM (h _ _ (MA.doneL T M0 e2) (SG.refl _))
 rw[am (bn e2)];refine aH (gF ?_);refine aH (dq (bZ (I:=fun x c st'=>∃ out ia ib mg,c=(none,out,ia,ib,mg)/\LoI a b st out ia ib st'/\x+1<=ia+ib)
  (Q:=fun c st'=>∃ r,c.1=some r/\yZ a b r/\SG st st') ?step ?fin ⟨_,0,1,_,rfl,⟨M0,Aa,Aa,SG.refl _⟩,Aa⟩) ?post)
 case post=>
  rintro ⟨r0,c⟩ st' ⟨r,hr,d,g⟩;have hr:r0=some r:=hr;subst hr;exact aM (h r st' d g)
 case fin=>
  rintro c st' ⟨out,ia,ib,mg,rfl,I0,hx⟩;have:=I0.i;have:=I0.j;lia
 case step=>
  rintro x c st1 _ hx ⟨out,ia,ib,mg,rfl,I0,hxx⟩;dsimp only;refine aH (dq (bZ (I:=fun y c st'=>∃ out' ia' ib' ac bc,c=(none,out',ia',ib',ac,bc)/\LoI a b st out' ia' ib' st'/\ia+ib<=ia'+ib'/\(y=0\/ia+ib<ia'+ib'))
   (Q:=fun c st'=>(∃ r,c.1=some r/\yZ a b r/\SG st st')\/∃ out' ia' ib' ac bc,c=(none,out',ia',ib',ac,bc)/\LoI a b st out' ia' ib' st'/\ia+ib<ia'+ib') ?step1 ?fin1 ⟨_,_,_,_,_,rfl,I0,Aa, .inl rfl⟩) ?post1)
  case fin1=>
   rintro c st' ⟨out',ia',ib',ac,bc,rfl,I1,h1,h2⟩;exact .inr ⟨_,_,_,_,_,rfl,I1,Aa⟩
  case step1=>
   rintro y c st2 _ hy ⟨out',ia',ib',ac,bc,rfl,I1,h1,h2⟩;dsimp only;obtain⟨pb,hpb,ipb⟩:=T.atB I1.j;obtain⟨pa,hpa,ipa⟩:=T.atA (i:=ia') (by have:=I1.i; lia);have ii:=I1.i;have jj:=I1.j;refine aH (kB hpb (aH (kB hpa (aH (jH6 (I1.s.k.trans hk) ipb ipa ?_)))));dsimp only;by_cases hlt:key pb<key pa
   ·rw[aq hlt,ao rfl];refine aH (kB hpb ?_);have M2:=MA.pushB (q:=pb) T I1.m hpb (jGM T.sa hpa (cI hlt));by_cases f1:ib'+1=b.size
    ·rw[ao (bp f1)];exact aM (.inl ⟨_,rfl,MA.doneA T M2 Aa,I1.s⟩)
    rw[am (bn f1)];split
    ·exact aM (.inr ⟨_,_,_,_,_,rfl,⟨M2,ii,Aa,I1.s⟩,Aa⟩)
    ·exact aM ⟨_,_,_,_,_,rfl,⟨M2,ii,Aa,I1.s⟩,Aa, .inr Aa⟩
   ·rw[aJ hlt,am aj];refine aH (kB hpa ?_);have M2:=MA.pushA (q:=pa) T I1.m hpa (jGM T.sb hpb (by show key pa<=key pb; lia));by_cases f1:ia'+1+1=a.size
    ·rw[ao (bp f1)];exact aM (.inl ⟨_,rfl,MA.doneL T M2 f1,I1.s⟩)
    rw[am (bn f1)];split
    ·exact aM (.inr ⟨_,_,_,_,_,rfl,⟨M2,Aa,jj,I1.s⟩,Aa⟩)
    ·exact aM ⟨_,_,_,_,_,rfl,⟨M2,Aa,jj,I1.s⟩,Aa, .inr Aa⟩
  case post1=>
   rintro c st2 (⟨r,hr,d,g⟩ | ⟨out1,ia1,ib1,ac,bc,rfl,I1,h1⟩)
   ·obtain⟨r0,c⟩:=c;have hr:r0=some r:=hr;subst hr;exact aM ⟨r,rfl,d,g⟩
   dsimp only;refine aH (g9 (df ⟨rfl,?_⟩));refine aH (dq (bZ (I:=fun y c st'=>∃ out' ia' ib' mg' ac bc,c=(none,out',ia',ib',mg',ac,bc)/\LoI a b st out' ia' ib' st'/\ia+ib<ia'+ib')
    (Q:=fun c st'=>(∃ r,c.1=some r/\yZ a b r/\SG st st')\/∃ out' ia' ib' mg' ac bc,c=(none,out',ia',ib',mg',ac,bc)/\LoI a b st out' ia' ib' st'/\ia+ib<ia'+ib') ?step2 ?fin2 ⟨_,_,_,_,_,_,rfl,I1,h1⟩) ?post2)
   case fin2=>
    rintro c st' ⟨out',ia',ib',mg',ac,bc,rfl,I2,h2⟩;exact .inr ⟨_,_,_,_,_,_,rfl,I2,h2⟩
   case post2=>
    rintro c st3 (⟨r,hr,d,g⟩ | ⟨out2,ia2,ib2,mg2,ac,bc,rfl,I2,h2⟩)
    ·obtain⟨r0,c⟩:=c;have hr:r0=some r:=hr;subst hr;exact aM ⟨r,rfl,d,g⟩
    dsimp only;rw[jA3];exact aH (eE (aM ⟨_,_,_,_,rfl,⟨I2.m,I2.i,I2.j,I2.s.gal _⟩,Aa⟩))
   case step2=>
    clear I0 I1;rintro y c st2 _ hy ⟨out,ia,ib,mg',ac,bc,rfl,I0,h2⟩;dsimp only;obtain⟨pb,hpb,ipb⟩:=T.atB I0.j;by_cases hg:mg'>1
    case' pos=>
     rw[ao hg];generalize hgg:mg' - 1=gg
    case' neg=>
     rw[am hg];generalize hgg:mg'=gg
    all_goals
     rw[jA3];refine aH (eE ?_);have G1:=I0.s.gal gg;refine aH (kB hpb ?_);refine aH (jVJ (G1.k.trans hk) ipb T.ia T.sa (by have:=I0.i; lia) fun k1 g1 g2 g3=>?_);dsimp only;have M1:=MA.appA T I0.m k1 (fun n x h1 h2 h3=>jGM T.sb hpb (g2 n x h1 h2 h3));have hgt:∀ y∈a.toList.drop (ia+k1),LE pb y:=fun y hy=>by
      obtain⟨n,h1,h2⟩:=jE0 hy;exact cI (g3 n y h1 h2)
     have jb:=I0.j;by_cases e0:k1>0
     case' pos=>
      rw[ao e0];by_cases f1:ia+k1+1=a.size
      ·rw[ao (bp f1)];exact aM (.inl ⟨_,rfl,MA.doneL T M1 f1,G1⟩)
      rw[am (bn f1)];by_cases f2:ia+k1=a.size
      ·rw[ao (bp f2)];exact aM (.inl ⟨_,rfl,MA.doneB T M1 Aa,G1⟩)
      rw[am (bn f2)];obtain⟨pa,hpa,ipa⟩:=T.atA (i:=ia+k1) Aa;have hz:ia+k1<a.size:=Aa;generalize hiz:ia+k1=iz at*
     case' neg=>
      rw[am e0];have e0':k1=0:=Aa;subst e0';have M1:=I0.m;obtain⟨pa,hpa,ipa⟩:=T.atA (i:=ia) (by have:=I0.i; lia);have hz:ia<a.size:=by have:=I0.i; lia
      rw[ka] at hgt;have hia:=I0.i;generalize hiz:ia=iz at*
     all_goals
      refine aH (kB hpb ?_);have M2:=MA.pushB (q:=pb) T M1 hpb hgt;by_cases e1:ib+1=b.size
      ·rw[ao (bp e1)];exact aM (.inl ⟨_,rfl,MA.doneA T M2 Aa,G1⟩)
      rw[am (bn e1)];refine aH (kB hpa ?_);refine aH (jVK (G1.k.trans hk) ipa T.ib T.sb Aa fun k2 l1 l2 l3=>?_);dsimp only;have M3:=MA.appB T M2 k2 (fun n x h1 h2 h3=>jGM T.sa hpa (cI (l2 n x h1 h2 h3)));have fin3:∀ y∈b.toList.drop (ib+1+k2),LE pa y:=fun y hy=>by
       obtain⟨n,h1,h2⟩:=jE0 hy;exact l3 n y h1 h2
      by_cases e2:k2>0
      ·rw[ao e2];by_cases e3:ib+1+k2=b.size
       ·rw[ao (bp e3)];exact aM (.inl ⟨_,rfl,MA.doneA T M3 Aa,G1⟩)
       rw[am (bn e3)];refine aH (kB hpa ?_);have M4:=MA.pushA (q:=pa) T M3 hpa fin3;by_cases e4:iz+1+1=a.size
       ·rw[ao (bp e4)];exact aM (.inl ⟨_,rfl,MA.doneL T M4 e4,G1⟩)
       rw[am (bn e4)];split
       ·exact aM (.inr ⟨_,_,_,_,_,_,rfl,⟨M4,Aa,Aa,G1⟩,Aa⟩)
       ·exact aM ⟨_,_,_,_,_,_,rfl,⟨M4,Aa,Aa,G1⟩,Aa⟩
      ·rw[am e2];have e0:k2=0:=Aa;subst e0;refine aH (kB hpa ?_);have M4:=MA.pushA (q:=pa) T M2 hpa fin3;by_cases e4:iz+1+1=a.size
       ·rw[ao (bp e4)];exact aM (.inl ⟨_,rfl,MA.doneL T M4 e4,G1⟩)
       rw[am (bn e4)];split
       ·exact aM (.inr ⟨_,_,_,_,_,_,rfl,⟨M4,Aa,Aa,G1⟩,Aa⟩)
       ·exact aM ⟨_,_,_,_,_,_,rfl,⟨M4,Aa,Aa,G1⟩,Aa⟩
end
structure MHL (tot xa xb o:List Keyed):Prop where
 perm:(xa++xb++o).Perm tot
 srt:Srt o
 le:∀ x∈o,∀ y∈xa++xb,LE y x
theorem MHL.takeA {tot u v xb o:List Keyed}(h:MHL tot (u++v) xb o)(s:Srt (u++v))(hc:∀ x∈v,∀ y∈xb,LE y x):MHL tot u xb (v++o):=by
 have sp:=ci.mp s;refine⟨?_,qG sp.2.1 h.srt fun x hx y hy=>h.le y hy x (bf _ (aO _ hx)),fun x hx y hy=>?_⟩
 ·refine List.Perm.trans ?_ h.perm;rw[aY,aY,aY];refine cL u ?_;rw[<- aY,<- aY];exact gn o dH
 ·rcases aN.mp hx with q | q
  ·rcases aN.mp hy with z | z
   ·exact sp.2.2 y z x q
   ·exact hc x q y z
  ·refine h.le x q y ?_;rcases aN.mp hy with z | z
   ·exact bf _ (bf _ z)
   ·exact aO _ z
theorem MHL.takeB {tot u v xa o:List Keyed}(h:MHL tot xa (u++v) o)(s:Srt (u++v))(hc:∀ x∈v,∀ y∈xa,LE y x):MHL tot xa u (v++o):=by
 have sp:=ci.mp s;refine⟨?_,qG sp.2.1 h.srt fun x hx y hy=>h.le y hy x (aO _ (aO _ hx)),fun x hx y hy=>?_⟩
 ·refine List.Perm.trans (iY ?_) h.perm;simp only [aY]
 ·rcases aN.mp hx with q | q
  ·rcases aN.mp hy with z | z
   ·exact hc x q y z
   ·exact sp.2.2 y z x q
  ·refine h.le x q y ?_;rcases aN.mp hy with z | z
   ·exact bf _ z
   ·exact aO _ (bf _ z)
theorem MHL.out {tot xa xb o:List Keyed}(h:MHL tot xa xb o)(s:Srt (xa++xb)):(xa++xb++o).Perm tot/\Srt (xa++xb++o):=
 ⟨h.perm,qG s h.srt fun x hx y hy=>h.le y hy x hx⟩
theorem MHL.outF {tot xa xb o:List Keyed}(h:MHL tot xa xb o)(s:Srt (xb++xa)):(xb++xa++o).Perm tot/\Srt (xb++xa++o):=
 ⟨(gn o dH).trans h.perm,qG s h.srt fun x hx y hy=>h.le y hy x (by
  rcases aN.mp hx with z | z
  ·exact aO _ z
  ·exact bf _ z)⟩
theorem jJS {l:List Keyed}{n:Nat}{p:Keyed}(hn:0<n)(h:l[n - 1]?=some p):l.take n=l.take (n - 1)++[p]:=by
 obtain⟨m,rfl⟩:∃ m,n=m+1:=⟨n - 1,Aa⟩;rw[Nat.add_sub_cancel] at h ⊢;rw[List.take_succ,h];rfl
theorem jJR {l:List Keyed}{k n:Nat}(hk:k<=n):l.take n=l.take k++(l.drop k).take (n - k):=by
 obtain⟨m,rfl⟩:∃ m,n=k+m:=⟨n - k,Aa⟩;rw[cR,List.take_add]
theorem jAV {a:Array Keyed}{k n:Nat} :(a.extract k n).toList=(a.toList.drop k).take (n - k):=by
 rw[eO,dI]
theorem jBW {a:Array Keyed}{n:Nat} :(a.extract 0 n).toList=a.toList.take n:=by
 rw[jAV,jf,Nat.sub_zero]
abbrev MH (a b out:Array Keyed)(na nb:Nat):Prop:=MHL (a.toList++b.toList) (a.toList.take na) (b.toList.take nb) out.toList.reverse
theorem jDZ {l:List Keyed}{n:Nat}{y:Keyed}(h:y∈l.take n):∃ j,j<n/\l[j]?=some y:=by
 obtain⟨k,hk⟩:=bN h;have hlt:k<n:=by
  have:=(ai.mp hk).1;rw[bB] at this;lia
 rw[ck hlt] at hk;exact⟨k,hlt,hk⟩
section
variable {out:Array Keyed}{k:Nat}
theorem jDX (s:Srt a.toList){p q:Keyed}(hp:a[i - 1]?=some p)(h:LE p q):∀ y∈a.toList.take i,LE y q:=fun y hy=>by
 obtain⟨n,h1,h2⟩:=jDZ hy;exact cX (jFB s h2 (at_list.mp hp) Aa) h
theorem MH.pushA (T:Two a b)(h:MH a b out i j){p:Keyed}(hi:0<i)(hp:a[i - 1]?=some p)(hc:∀ y∈b.toList.take j,LE y p):MH a b (out.push p) (i - 1) j:=by
 have e:=jJS hi (at_list.mp hp);have s:=T.sa.take i;unfold MH at h ⊢;rw[e] at h s;rw[dP,fh];exact h.takeA s fun x hx=>by rw[aI.mp hx]; exact hc
theorem MH.pushB (T:Two a b)(h:MH a b out i j){p:Keyed}(hj:0<j)(hp:b[j - 1]?=some p)(hc:∀ y∈a.toList.take i,LE y p):MH a b (out.push p) i (j - 1):=by
 have e:=jJS hj (at_list.mp hp);have s:=T.sb.take j;unfold MH at h ⊢;rw[e] at h s;rw[dP,fh];exact h.takeB s fun x hx=>by rw[aI.mp hx]; exact hc
theorem MH.appA (T:Two a b)(h:MH a b out i j)(hk:k<=i)(hc:∀ n x,k<=n->n<i->a.toList[n]?=some x->∀ y∈b.toList.take j,LE y x):MH a b (out++(a.extract k i).reverse) k j:=by
 have e:=jJR (l:=a.toList) hk;have s:=T.sa.take i;unfold MH at h ⊢;rw[e] at h s;rw[bz,dr,fh,jg,jAV];exact h.takeA s fun x hx y hy=>by
  obtain⟨n,h1,h2,h3⟩:=jA5 hx;exact hc n x h1 Aa h3 y hy
theorem MH.appB (T:Two a b)(h:MH a b out i j)(hk:k<=j)(hc:∀ n x,k<=n->n<j->b.toList[n]?=some x->∀ y∈a.toList.take i,LE y x):MH a b (out++(b.extract k j).reverse) i k:=by
 have e:=jJR (l:=b.toList) hk;have s:=T.sb.take j;unfold MH at h ⊢;rw[e] at h s;rw[bz,dr,fh,jg,jAV];exact h.takeB s fun x hx y hy=>by
  obtain⟨n,h1,h2,h3⟩:=jA5 hx;exact hc n x h1 Aa h3 y hy
theorem MH.doneA (T:Two a b)(h:MH a b out 0 j):yZ a b (a.extract 0 0++b.extract 0 j++out.reverse):=by
 unfold yZ;rw[bz,bz,jBW,jBW,dr];exact h.out (by rw[hG]; exact T.sb.take j)
theorem MH.doneB (T:Two a b)(h:MH a b out i 0):yZ a b (a.extract 0 i++b.extract 0 0++out.reverse):=by
 unfold yZ;rw[bz,bz,jBW,jBW,dr];exact h.out (by rw[hG,ba]; exact T.sa.take i)
theorem MH.doneF (T:Two a b)(h:MH a b out i 1):yZ a b (b.extract 0 1++a.extract 0 i++out.reverse):=by
 unfold yZ;rw[bz,bz,jBW,jBW,dr];refine h.outF (qG (T.sb.take 1) (T.sa.take i) fun x hx y hy=>?_);obtain⟨n,h1,h2⟩:=jDZ hx;have:n=0:=by lia
 subst this;exact cI (T.first y (bI hy) x h2)
end
section
variable {prog:Program}{w:World}{A:Around}{E:Ah}{s:Shared} [LtOk prog w A s]
theorem jL1 {st:SortSt}{a:Array Keyed}{i len hint:Nat}{p:Keyed}{Q:Option Nat->SortSt->Prop}(hk:kindOf st=Od.kd)(hp:IsI p)(ha:AllI a.toList)
  (sa:∀ n m x y,i<=n->n<=m->m<i+len->a[n]?=some x->a[m]?=some y->LE x y) (hh:hint<len) (hl:i+len<=a.size)
  (h:∀ k,k<=len->(∀ n x,i<=n->n<i+k->a[n]?=some x->LE x p)->(∀ n x,i+k<=n->n<i+len->a[n]?=some x->key p<key x)->Q (some k) st):
  wpS (model prog w) A E s (jC9 false p a i len hint) Q st:=by
 refine jBN hk hp (fun n hn=>?_) hh (fun n=>match a[i+n]? with | some x=>!decide (key p<key x) | none=>false) (fun n x hn hx=>?_) (fun n m hnm hm hb=>?_) fun k hk1 hk2 hk3=>h k Aa (fun n x h1 h2 h3=>?_) fun n x h1 h2 h3=>?_
 ·obtain⟨q,q1,q2⟩:=xA (a:=a) (i:=i+n) Aa;exact⟨q,q1,ha q (ay q2)⟩
 ·rw[hx,am aj]
 ·obtain⟨x,x1,x2⟩:=xA (a:=a) (i:=i+n) Aa;obtain⟨y,y1,y2⟩:=xA (a:=a) (i:=i+m) Aa;rw[y1] at hb;rw[x1];have:=sa (i+n) (i+m) x y Aa Aa Aa x1 y1;have hb:¬ key p<key y:=by simpa using hb
  show (!decide (key p<key x))=true;rw[cg,bR];have:key x<=key y:=this;lia
 ·have:=hk2 (n - i) Aa;rw[show i+(n - i)=n by lia,h3] at this;have this:¬ key p<key x:=by simpa using this
  show key x<=key p;lia
 ·have:=hk3 (n - i) Aa Aa;rw[show i+(n - i)=n by lia,h3] at this;simpa using this
theorem jL2 {st:SortSt}{a:Array Keyed}{i len hint:Nat}{p:Keyed}{Q:Option Nat->SortSt->Prop}(hk:kindOf st=Od.kd)(hp:IsI p)(ha:AllI a.toList)
  (sa:∀ n m x y,i<=n->n<=m->m<i+len->a[n]?=some x->a[m]?=some y->LE x y) (hh:hint<len) (hl:i+len<=a.size)
  (h:∀ k,k<=len->(∀ n x,i<=n->n<i+k->a[n]?=some x->key x<key p)->(∀ n x,i+k<=n->n<i+len->a[n]?=some x->LE p x)->Q (some k) st):
  wpS (model prog w) A E s (jC9 true p a i len hint) Q st:=by
 refine jBN hk hp (fun n hn=>?_) hh (fun n=>match a[i+n]? with | some x=>decide (key x<key p) | none=>false) (fun n x hn hx=>?_) (fun n m hnm hm hb=>?_) fun k hk1 hk2 hk3=>h k Aa (fun n x h1 h2 h3=>?_) fun n x h1 h2 h3=>?_
 ·obtain⟨q,q1,q2⟩:=xA (a:=a) (i:=i+n) Aa;exact⟨q,q1,ha q (ay q2)⟩
 ·rw[hx,ao rfl]
 ·obtain⟨x,x1,x2⟩:=xA (a:=a) (i:=i+n) Aa;obtain⟨y,y1,y2⟩:=xA (a:=a) (i:=i+m) Aa;rw[y1] at hb;rw[x1];have:=sa (i+n) (i+m) x y Aa Aa Aa x1 y1;have hb:key y<key p:=aE hb;show decide (key x<key p)=true;rw[aW];have:key x<=key y:=this;lia
 ·have:=hk2 (n - i) Aa;rw[show i+(n - i)=n by lia,h3] at this;exact aE this
 ·have:=hk3 (n - i) Aa Aa;rw[show i+(n - i)=n by lia,h3] at this;have this:¬ key x<key p:=fQ this;show key p<=key x;lia
end
section
variable {prog:Program}{w:World}{A:Around}{E:Ah}{s:Shared} [LtOk prog w A s]
structure HiI (a b:Array Keyed)(st:SortSt)(out:Array Keyed)(na nb:Nat)(st':SortSt):Prop where
 m:MH a b out na nb
 i:0<na
 ia:na<=a.size
 j:1<nb
 jb:nb<=b.size
 s:SG st st'
theorem whole {a:Array Keyed}(s:Srt a.toList){len:Nat} :∀ n m x y,0<=n->n<=m->m<0+len->a[n]?=some x->a[m]?=some y->LE x y:=fun n m x y _ h _ hx hy=>jFB s (at_list.mp hx) (at_list.mp hy) h
theorem jIO {a b:Array Keyed}{st:SortSt}{Q:Array Keyed->SortSt->Prop}(hk:kindOf st=Od.kd)(T:Two a b)(h:∀ r st',yZ a b r->SG st st'->Q r st'):wpS (model prog w) A E s (jGE a b) Q st:=by
 rw[mergeHiB.2]
 delta mergeHiB
 dsimp only;simp only [elP,ltP,jJ9,jMZ];have na:=T.na;have nb:=T.nb;refine aH (g9 (df ⟨rfl,?_⟩));obtain⟨p0,hp0,ip0⟩:=T.atA (i:=a.size - 1) Aa;refine aH (kB hp0 ?_);have M0:MH a b #[p0] (a.size - 1) b.size:=by
  have z:MH a b #[] a.size b.size:=⟨by
   rw[show a.toList.take a.size=a.toList from bK Ad,show b.toList.take b.size=b.toList from bK Ad];show ((a.toList++b.toList)++([]:List Keyed)).Perm _;rw[ba],List.Pairwise.nil,fun x hx=>by cases hx⟩
  have:=MH.pushA T z Aa hp0 fun y hy=>cI (T.last y (bI hy) p0 (at_list.mp hp0));exact this
 by_cases e1:a.size - 1=0
 ·rw[ao (bp e1)];rw[e1] at M0 ⊢;exact aM (h _ _ (MH.doneA T M0) (SG.refl _))
 rw[am (bn e1)];by_cases e2:b.size=1
 ·rw[ao (bp e2)];rw[e2] at M0 ⊢;exact aM (h _ _ (MH.doneF T M0) (SG.refl _))
 rw[am (bn e2)];refine aH (gF ?_);refine aH (dq (bZ (I:=fun x c st'=>∃ out na nb mg,c=(none,na,nb,out,mg)/\HiI a b st out na nb st'/\x+1<=a.size - na+(b.size - nb))
  (Q:=fun c st'=>∃ r,c.1=some r/\yZ a b r/\SG st st') ?step ?fin ⟨_,_,_,_,rfl,⟨M0,Aa,Aa,Aa,Aa,SG.refl _⟩,Aa⟩) ?post)
 case post=>
  rintro ⟨r0,c⟩ st' ⟨r,hr,d,g⟩;have hr:r0=some r:=hr;subst hr;exact aM (h r st' d g)
 case fin=>
  rintro c st' ⟨out,na,nb,mg,rfl,I0,hx⟩;have:=I0.i;have:=I0.j;lia
 case step=>
  rintro x c st1 _ hx ⟨out,na,nb,mg,rfl,I0,hxx⟩;dsimp only;refine aH (dq (bZ (I:=fun y c st'=>∃ out' na' nb' ac bc,c=(none,na',nb',out',ac,bc)/\HiI a b st out' na' nb' st'/\na'+nb'<=na+nb/\(y=0\/na'+nb'<na+nb))
   (Q:=fun c st'=>(∃ r,c.1=some r/\yZ a b r/\SG st st')\/∃ out' na' nb' ac bc,c=(none,na',nb',out',ac,bc)/\HiI a b st out' na' nb' st'/\na'+nb'<na+nb) ?step1 ?fin1 ⟨_,_,_,_,_,rfl,I0,Aa, .inl rfl⟩) ?post1)
  case fin1=>
   rintro c st' ⟨out',na',nb',ac,bc,rfl,I1,h1,h2⟩;exact .inr ⟨_,_,_,_,_,rfl,I1,Aa⟩
  case step1=>
   rintro y c st2 _ hy ⟨out',na',nb',ac,bc,rfl,I1,h1,h2⟩;dsimp only;have i0:=I1.i;have i1:=I1.ia;have j0:=I1.j;have j1:=I1.jb;obtain⟨pb,hpb,ipb⟩:=T.atB (i:=nb' - 1) Aa;obtain⟨pa,hpa,ipa⟩:=T.atA (i:=na' - 1) Aa;refine aH (kB hpb (aH (kB hpa (aH (jH6 (I1.s.k.trans hk) ipb ipa ?_)))));dsimp only;by_cases hlt:key pb<key pa
   ·rw[aq hlt,ao rfl];refine aH (kB hpa ?_);have M2:=MH.pushA T I1.m i0 hpa (jDX T.sb hpb (cI hlt));by_cases f1:na' - 1=0
    ·rw[ao (bp f1)];rw[f1] at M2 ⊢;exact aM (.inl ⟨_,rfl,MH.doneA T M2,I1.s⟩)
    rw[am (bn f1)];split
    ·exact aM (.inr ⟨_,_,_,_,_,rfl,⟨M2,Aa,Aa,j0,j1,I1.s⟩,Aa⟩)
    ·exact aM ⟨_,_,_,_,_,rfl,⟨M2,Aa,Aa,j0,j1,I1.s⟩,Aa, .inr Aa⟩
   ·rw[aJ hlt,am aj];refine aH (kB hpb ?_);have M2:=MH.pushB T I1.m Aa hpb (jDX T.sa hpa (by show key pa<=key pb; lia));by_cases f1:nb' - 1=1
    ·rw[ao (bp f1)];rw[f1] at M2 ⊢;exact aM (.inl ⟨_,rfl,MH.doneF T M2,I1.s⟩)
    rw[am (bn f1)];split
    ·exact aM (.inr ⟨_,_,_,_,_,rfl,⟨M2,i0,i1,Aa,Aa,I1.s⟩,Aa⟩)
    ·exact aM ⟨_,_,_,_,_,rfl,⟨M2,i0,i1,Aa,Aa,I1.s⟩,Aa, .inr Aa⟩
  case post1=>
   rintro c st2 (⟨r,hr,d,g⟩ | ⟨out1,na1,nb1,ac,bc,rfl,I1,h1⟩)
   ·obtain⟨r0,c⟩:=c;have hr:r0=some r:=hr;subst hr;exact aM ⟨r,rfl,d,g⟩
   dsimp only;refine aH (g9 (df ⟨rfl,?_⟩));refine aH (dq (bZ (I:=fun y c st'=>∃ out' na' nb' mg' ac bc,c=(none,na',nb',out',mg',ac,bc)/\HiI a b st out' na' nb' st'/\na'+nb'<na+nb)
    (Q:=fun c st'=>(∃ r,c.1=some r/\yZ a b r/\SG st st')\/∃ out' na' nb' mg' ac bc,c=(none,na',nb',out',mg',ac,bc)/\HiI a b st out' na' nb' st'/\na'+nb'<na+nb) ?step2 ?fin2 ⟨_,_,_,_,_,_,rfl,I1,h1⟩) ?post2)
   case fin2=>
    rintro c st' ⟨out',na',nb',mg',ac,bc,rfl,I2,h2⟩;exact .inr ⟨_,_,_,_,_,_,rfl,I2,h2⟩
   case post2=>
    have q1:=I0.ia;have q2:=I0.jb;rintro c st3 (⟨r,hr,d,g⟩ | ⟨out2,na2,nb2,mg2,ac,bc,rfl,I2,h2⟩)
    ·obtain⟨r0,c⟩:=c;have hr:r0=some r:=hr;subst hr;exact aM ⟨r,rfl,d,g⟩
    dsimp only;rw[jA3];have q3:=I2.ia;have q4:=I2.jb;exact aH (eE (aM ⟨_,_,_,_,rfl,⟨I2.m,I2.i,I2.ia,I2.j,I2.jb,I2.s.gal _⟩,Aa⟩))
   case step2=>
    clear I0 I1;rename_i na00 nb00;generalize hbd:na+nb=bd;clear hxx h1;rintro y c st2 _ hy ⟨out,na,nb,mg',ac,bc,rfl,I0,h2⟩;dsimp only;obtain⟨pb,hpb,ipb⟩:=T.atB (i:=nb - 1) (by have:=I0.j; have:=I0.jb; lia);by_cases hg:mg'>1
    case' pos=>
     rw[ao hg];generalize hgg:mg' - 1=gg
    case' neg=>
     rw[am hg];generalize hgg:mg'=gg
    all_goals
     rw[jA3];refine aH (eE ?_);have G1:=I0.s.gal gg;have na0:=I0.i;have na1:=I0.ia;have nb0:=I0.j;have nb1:=I0.jb;refine aH (kB hpb ?_);refine aH (jL1 (G1.k.trans hk) ipb T.ia (whole T.sa) Aa Aa fun k1 g1 g2 g3=>?_);dsimp only;have M1:=MH.appA T I0.m g1 (fun n x h1 h2 h3=>jDX T.sb hpb (cI (g3 n x Aa Aa (at_list.mpr h3))));have hle:∀ y∈a.toList.take k1,LE y pb:=fun y hy=>by
      obtain⟨n,h1,h2⟩:=jDZ hy;exact g2 n y Aa Aa (at_list.mpr h2)
     by_cases e0:na - k1>0
     case' pos=>
      rw[ao e0];by_cases f1:k1=0
      ·rw[ao (bp f1)];rw[f1] at M1 ⊢;exact aM (.inl ⟨_,rfl,MH.doneA T M1,G1⟩)
      rw[am (bn f1)];obtain⟨pa,hpa,ipa⟩:=T.atA (i:=k1 - 1) Aa;have hz:0<k1:=Aa;generalize hiz:k1=iz at*
     case' neg=>
      rw[am e0];have e0':k1=na:=Aa;subst e0';have M1:=I0.m;obtain⟨pa,hpa,ipa⟩:=T.atA (i:=k1 - 1) Aa;have hz:0<k1:=Aa;generalize hiz:k1=iz at*
     all_goals
      refine aH (kB hpb ?_);have M2:=MH.pushB T M1 Aa hpb hle;by_cases e1:nb - 1=1
      ·rw[ao (bp e1)];rw[e1] at M2 ⊢;exact aM (.inl ⟨_,rfl,MH.doneF T M2,G1⟩)
      rw[am (bn e1)];refine aH (kB hpa ?_);refine aH (jL2 (G1.k.trans hk) ipa T.ib (whole T.sb) Aa Aa fun k2 l1 l2 l3=>?_);dsimp only;have M3:=MH.appB T M2 l1 (fun n x h1 h2 h3=>jDX T.sa hpa (l3 n x Aa Aa (at_list.mpr h3)));have fin3:∀ y∈b.toList.take k2,LE y pa:=fun y hy=>by
       obtain⟨n,h1,h2⟩:=jDZ hy;exact cI (l2 n y Aa Aa (at_list.mpr h2))
      by_cases e2:nb - 1 - k2>0
      ·rw[ao e2];by_cases e3:k2=1
       ·rw[ao (bp e3)];rw[e3] at M3 ⊢;exact aM (.inl ⟨_,rfl,MH.doneF T M3,G1⟩)
       rw[am (bn e3)];by_cases e5:k2=0
       ·rw[ao (bp e5)];rw[e5] at M3 ⊢;exact aM (.inl ⟨_,rfl,MH.doneB T M3,G1⟩)
       rw[am (bn e5)];refine aH (kB hpa ?_);have M4:=MH.pushA T M3 hz hpa fin3;by_cases e4:iz - 1=0
       ·rw[ao (bp e4)];rw[e4] at M4 ⊢;exact aM (.inl ⟨_,rfl,MH.doneA T M4,G1⟩)
       rw[am (bn e4)];split
       ·exact aM (.inr ⟨_,_,_,_,_,_,rfl,⟨M4,Aa,Aa,Aa,Aa,G1⟩,Aa⟩)
       ·exact aM ⟨_,_,_,_,_,_,rfl,⟨M4,Aa,Aa,Aa,Aa,G1⟩,Aa⟩
      ·rw[am e2];have e0:k2=nb - 1:=Aa;subst e0;refine aH (kB hpa ?_);have M4:=MH.pushA T M2 hz hpa fin3;by_cases e4:iz - 1=0
       ·rw[ao (bp e4)];rw[e4] at M4 ⊢;exact aM (.inl ⟨_,rfl,MH.doneA T M4,G1⟩)
       rw[am (bn e4)];split
       ·exact aM (.inr ⟨_,_,_,_,_,_,rfl,⟨M4,Aa,Aa,Aa,Aa,G1⟩,Aa⟩)
       ·exact aM ⟨_,_,_,_,_,_,rfl,⟨M4,Aa,Aa,Aa,Aa,G1⟩,Aa⟩
end
def KI (xs:Array Keyed)(i:Nat):Int:=match xs[i]? with
 | some p=>key p
 | none=>0
def STo (xs:Array Keyed)(k:Nat):Prop:=∀ i j,i<=j->j<k->KI xs i<=KI xs j
structure SB (a₀:Array Keyed)(st:SortSt):Prop where
 perm:(arrOf st).Perm a₀
 kind:kindOf st=Od.kd
 failed:failedOf st=none
 pend:pendingOf st=#[]
theorem SB.size {a₀:Array Keyed}{st:SortSt}(h:SB a₀ st):(arrOf st).size=a₀.size:=h.perm.size_eq
theorem jBZ {xs ys:Array Keyed}{i j:Nat}(h:xs[i]?=ys[j]?):KI xs i=KI ys j:=by unfold KI; rw[h]
theorem jQ2 {xs:Array Keyed}{src d:Nat}(hs:src<xs.size)(hd:d<=src)(k:Nat):
  KI (bubble xs src d) k=if k=src - d then KI xs src else if src - d<k/\k<=src then KI xs (k - 1) else KI xs k:=by
 have e:=getElem?_bubble hs d hd k;by_cases h1:k=src - d
 ·rw[ao h1] at e ⊢; exact jBZ e
 ·rw[am h1] at e ⊢;by_cases h2:src - d<k/\k<=src
  ·rw[ao h2] at e ⊢; exact jBZ e
  ·rw[am h2] at e ⊢; exact jBZ e
theorem jCY {xs:Array Keyed}{i j:Nat}(hj:j<=xs.size)(k:Nat):
  KI (mirror xs i j ((j - i) / 2)) k=if i<=k/\k<j then KI xs (i+j - 1 - k) else KI xs k:=by
 have e:=getElem?_mirror_all (i:=i) hj k;by_cases h1:i<=k/\k<j
 ·rw[ao h1] at e;rw[ao h1];exact jBZ e
 ·rw[am h1] at e;rw[am h1];exact jBZ e
theorem jA1 {xs:Array Keyed}{i j:Nat}(hj:j<=xs.size)(heq:∀ k,i<=k->k<j->KI xs k=KI xs (j - 1))(k:Nat):
  KI (mirror xs i j ((j - i) / 2)) k=KI xs k:=by
 rw[jCY hj];split
 ·rename_i h;rw[heq _ Aa Aa,heq k h.1 h.2]
 ·rfl
def Up (xs:Array Keyed)(lo n:Nat):Prop:=∀ i j,lo<=i->i<=j->j<lo+n->KI xs i<=KI xs j
def Dn (xs:Array Keyed)(lo n:Nat):Prop:=∀ i j,lo<=i->i<=j->j<lo+n->KI xs j<=KI xs i
structure BB (a₀:Array Keyed)(p:Array (Nat×Nat×Nat))(F:Nat->Int)(lo:Nat)(st:SortSt):Prop where
 perm:(arrOf st).Perm a₀
 kind:kindOf st=Od.kd
 failed:failedOf st=none
 pend:pendingOf st=p
 low:∀ k,k<lo->KI (arrOf st) k=F k
theorem jSZ {a₀ xs:Array Keyed}(hp:xs.Perm a₀)(h0:AllI a₀.toList){i:Nat}(hi:i<a₀.size):∃ q,xs[i]?=some q/\IsI q/\key q=KI xs i:=by
 have hi':i<xs.size:=by rw[hp.size_eq]; exact hi
 have hm:xs[i]∈a₀.toList:=(cY.mp hp).mem_iff.mp Ad;have e:xs[i]?=some xs[i]:=ke _ i hi';exact⟨xs[i],e,h0 _ hm,by unfold KI; rw[e]⟩
section
variable {prog:Program}{w:World}{A:Around}{E:Ah}{s:Shared} [LtOk prog w A s]{a₀:Array Keyed}{p:Array (Nat×Nat×Nat)}{F:Nat->Int}{lo:Nat}
theorem BB.sz {st:SortSt}(h:BB a₀ p F lo st):(arrOf st).size=a₀.size:=h.perm.size_eq
theorem BB.arr {st:SortSt}(h:BB a₀ p F lo st){xs:Array Keyed}(hp:xs.Perm (arrOf st))(hl:∀ k,k<lo->KI xs k=KI (arrOf st) k):BB a₀ p F lo (setArr st xs):=
 ⟨hp.trans h.perm,h.kind,h.failed,h.pend,fun k hk=>(hl k hk).trans (h.low k hk)⟩
theorem jCZ {st:SortSt}{i j:Nat}{Q:Option Bool->SortSt->Prop}(hB:BB a₀ p F lo st)(h0:AllI a₀.toList)(hi:i<a₀.size)(hj:j<a₀.size)
  (h:Q (some (decide (KI (arrOf st) i<KI (arrOf st) j))) st):wpS (model prog w) A E s (ltAt' i j) Q st:=by
 obtain⟨x,e1,i1,k1⟩:=jSZ hB.perm h0 hi;obtain⟨y,e2,i2,k2⟩:=jSZ hB.perm h0 hj;rw[ltAt'_eq];refine aH (gF ?_);show wpS _ _ _ _ (do let x <- elem' (arrOf st) i; let y <- elem' (arrOf st) j; lt' x y) Q st;rw[elem'_eq,elem'_eq,e1,e2];refine aH (aM (aH (aM (jH6 hB.kind i1 i2 ?_))));rw[k1,k2];exact h
theorem Up.one {xs:Array Keyed} :Up xs lo 1:=fun i j h1 h2 h3=>by
 have:i=j:=by lia
 rw[this];exact cQ _
theorem Dn.one {xs:Array Keyed} :Dn xs lo 1:=fun i j h1 h2 h3=>by
 have:i=j:=by lia
 rw[this];exact cQ _
theorem Up.more {xs:Array Keyed}{n:Nat}(h:Up xs lo n)(hn:0<n)(hc:KI xs (lo+n - 1)<=KI xs (lo+n)):Up xs lo (n+1):=fun i j h1 h2 h3=>by
 by_cases e:j<lo+n
 ·exact h i j h1 h2 e
 ·have ej:j=lo+n:=Aa;subst ej;by_cases ei:i=lo+n
  ·rw[ei];exact cQ _
  ·exact cX (h i (lo+n - 1) h1 Aa Aa) hc
theorem Dn.more {xs:Array Keyed}{n:Nat}(h:Dn xs lo n)(hn:0<n)(hc:KI xs (lo+n)<=KI xs (lo+n - 1)):Dn xs lo (n+1):=fun i j h1 h2 h3=>by
 by_cases e:j<lo+n
 ·exact h i j h1 h2 e
 ·have ej:j=lo+n:=Aa;subst ej;by_cases ei:i=lo+n
  ·rw[ei];exact cQ _
  ·exact cX hc (h i (lo+n - 1) h1 Aa Aa)
theorem Dn.congr {xs ys:Array Keyed}{n:Nat}(h:Dn xs lo n)(e:∀ k,KI ys k=KI xs k):Dn ys lo n:=fun i j h1 h2 h3=>by
 rw[e i,e j];exact h i j h1 h2 h3
theorem jFU {st:SortSt}{nrem:Nat}{Q:Option Nat->SortSt->Prop}(h0:AllI a₀.toList)(hn:lo+nrem<=a₀.size)(hn1:1<=nrem)(hB:BB a₀ p F lo st)
  (h:∀ m st',BB a₀ p F lo st'->1<=m->m<=nrem->Up (arrOf st') lo m->Q (some m) st'):wpS (model prog w) A E s (countRun' lo nrem) Q st:=by
 rw[countRun'_eq];dsimp only;refine aH (dq (bZ (I:=fun x c st'=>st'=st/\c=(none,x)/\Up (arrOf st) lo x)
  (Q:=fun c st'=>st'=st/\∃ n,c=(none,n)/\1<=n/\n<=nrem/\Up (arrOf st) lo n/\(n=nrem\/KI (arrOf st) (lo+n)<KI (arrOf st) (lo+n - 1))) ?step ?fin ⟨rfl,rfl,Up.one⟩) ?post)
 case fin=>
  rintro c st' ⟨rfl,rfl,hu⟩;rw[show max 1 nrem=nrem by lia] at hu ⊢;exact⟨rfl,nrem,rfl,hn1,ak _,hu, .inl rfl⟩
 case step=>
  rintro x c st' h1 h2 ⟨rfl,rfl,hu⟩;dsimp only;refine aH (jCZ hB h0 Aa Aa ?_);dsimp only;by_cases hl:KI (arrOf st') (lo+x)<KI (arrOf st') (lo+x - 1)
  ·rw[aq hl,ao rfl];exact aM ⟨rfl,x,rfl,Aa,Aa,hu, .inr hl⟩
  ·rw[aJ hl,am aj];exact aM ⟨rfl,rfl,hu.more Aa Aa⟩
 case post=>
  rintro c st' ⟨rfl,n,rfl,n1,n2,hu,hor⟩;dsimp only;by_cases hnn:n=nrem
  ·rw[ao (bp hnn)];exact aM (h n st' hB n1 n2 hu)
  rw[am (bn hnn)];have hlt:=hor.resolve_left hnn;have hz:lo+n<=(arrOf st').size:=by rw[hB.sz]; lia
  by_cases hgt:n>1
  case' pos=>
   rw[ao hgt];refine aH (jCZ hB h0 Aa Aa ?_);dsimp only;by_cases hr:KI (arrOf st') lo<KI (arrOf st') (lo+n - 1)
   ·rw[aq hr,ao rfl];exact aM (h n st' hB n1 n2 hu)
   rw[aJ hr,am aj];have hall:∀ k,lo<=k->k<lo+n->KI (arrOf st') k=KI (arrOf st') (lo+n - 1):=fun k h1 h2=>by
    have a1:=hu lo k Aa h1 h2;have a2:=hu k (lo+n - 1) h1 Aa Aa;lia
   refine aH (wpS_reverse ?_);have hB1:=hB.arr (xs:=mirror (arrOf st') lo (lo+n) ((lo+n - lo) / 2)) (mirror_perm _ _ _ _) fun k _=>jA1 hz hall k;have hs0:Dn (arrOf st') lo n:=fun i j h1 h2 h3=>by
    rw[hall i h1 Aa,hall j Aa h3];exact cQ _
   have hs1:Dn (arrOf (setArr st' (mirror (arrOf st') lo (lo+n) ((lo+n - lo) / 2)))) lo (n+1):=(hs0.more Aa (cI hlt)).congr (jA1 hz hall);generalize setArr st' (mirror (arrOf st') lo (lo+n) ((lo+n - lo) / 2))=st1 at*
  case' neg=>
   rw[am hgt];have en:n=1:=Aa;have hB1:=hB;have hs1:Dn (arrOf st') lo (n+1):=by
    rw[en] at hlt ⊢;exact Dn.one.more Aa (cI hlt)
  all_goals
   refine aH (g9 (df ⟨rfl,?_⟩));refine aH (dq (bZ (I:=fun x c st'=>∃ q,c=(none,x,q)/\BB a₀ p F lo st'/\Dn (arrOf st') lo x/\q+1<=x/\∀ i,lo+x - (q+1)<=i->i<lo+x->KI (arrOf st') i=KI (arrOf st') (lo+x - 1))
    (Q:=fun c st'=>∃ m q,c=(none,m,q)/\1<=m/\m<=nrem/\BB a₀ p F lo st'/\Dn (arrOf st') lo m/\q+1<=m/\∀ i,lo+m - (q+1)<=i->i<lo+m->KI (arrOf st') i=KI (arrOf st') (lo+m - 1)) ?dstep ?dfin ⟨0,rfl,hB1,hs1,Aa,fun i h1 h2=>by congr 1; lia⟩) ?dpost)
   case dfin=>
    rintro c st' ⟨q,rfl,hb,hd,hq,he⟩;rw[show max (n+1) nrem=nrem by lia] at hd hq he ⊢;exact⟨nrem,q,rfl,Aa,Aa,hb,hd,hq,he⟩
   case dstep=>
    rintro x c st' h1 h2 ⟨q,rfl,hb,hd,hq,he⟩;dsimp only;have hz:lo+x<=(arrOf st').size:=by rw[hb.sz]; lia
    refine aH (jCZ hb h0 Aa Aa ?_);dsimp only;by_cases hl:KI (arrOf st') (lo+x)<KI (arrOf st') (lo+x - 1)
    ·rw[aq hl,ao rfl];have d1:=hd.more Aa (cI hl);by_cases hq0:q>0
     ·rw[ao hq0];refine aH (wpS_reverse (aM ⟨0,rfl,hb.arr (mirror_perm _ _ _ _) fun k _=>jA1 hz he k,d1.congr (jA1 hz he),Aa,fun i h1 h2=>by congr 1; lia⟩))
     ·rw[am hq0];exact aM ⟨0,rfl,hb,d1,Aa,fun i h1 h2=>by congr 1; lia⟩
    ·rw[aJ hl,am aj];refine aH (jCZ hb h0 Aa Aa ?_);dsimp only;by_cases hg:KI (arrOf st') (lo+x - 1)<KI (arrOf st') (lo+x)
     ·rw[aq hg,ao rfl];exact aM ⟨x,q,rfl,Aa,Aa,hb,hd,hq,he⟩
     ·rw[aJ hg,am aj];have ex:KI (arrOf st') (lo+x)=KI (arrOf st') (lo+x - 1):=Aa;refine aM ⟨q+1,rfl,hb,hd.more Aa Aa,Aa,fun i h1 h2=>?_⟩;rw[show lo+(x+1) - 1=lo+x by lia];by_cases hix:i=lo+x
      ·rw[hix]
      ·rw[ex];exact he i Aa Aa
   case dpost=>
    rintro c st2 ⟨m,q,rfl,m1,m2,hB2,hs2,hq,he⟩;dsimp only;have hz2:lo+m<=(arrOf st2).size:=by rw[hB2.sz]; lia
    by_cases hq0:q>0
    case' pos=>
     rw[ao hq0];refine aH (wpS_reverse ?_);have hB3:=hB2.arr (xs:=mirror (arrOf st2) (lo+m - (q+1)) (lo+m) ((lo+m - (lo+m - (q+1))) / 2)) (mirror_perm _ _ _ _) fun k _=>jA1 hz2 he k;have hs3:Dn (arrOf (setArr st2 (mirror (arrOf st2) (lo+m - (q+1)) (lo+m) ((lo+m - (lo+m - (q+1))) / 2)))) lo m:=hs2.congr (jA1 hz2 he);generalize setArr st2 (mirror (arrOf st2) (lo+m - (q+1)) (lo+m) ((lo+m - (lo+m - (q+1))) / 2))=st3 at*
    case' neg=>
     rw[am hq0];have hB3:=hB2;have hs3:=hs2;generalize st2=st3 at*
    all_goals
     have hz3:lo+m<=(arrOf st3).size:=by rw[hB3.sz]; lia
     refine aH (wpS_reverse ?_);have hB4:=hB3.arr (xs:=mirror (arrOf st3) lo (lo+m) ((lo+m - lo) / 2)) (mirror_perm _ _ _ _) fun k hk=>by
      rw[jCY hz3,am Aa]
     have hU:Up (mirror (arrOf st3) lo (lo+m) ((lo+m - lo) / 2)) lo m:=fun i j h1 h2 h3=>by
      rw[jCY hz3,jCY hz3,ao ⟨h1,Aa⟩,ao ⟨Aa,h3⟩];exact hs3 _ _ Aa Aa Aa
     generalize mirror (arrOf st3) lo (lo+m) ((lo+m - lo) / 2)=xs4 at*;refine aH (dq (bZ (I:=fun x c st'=>st'=setArr st3 xs4/\c=(none,x)/\Up xs4 lo x)
      (Q:=fun c st'=>st'=setArr st3 xs4/\∃ n,c=(none,n)/\1<=n/\n<=nrem/\Up xs4 lo n) ?tstep ?tfin ⟨rfl,rfl,hU⟩) ?tpost)
     case tfin=>
      rintro c st' ⟨rfl,rfl,hu⟩;rw[show max m nrem=nrem by lia] at hu ⊢;exact⟨rfl,nrem,rfl,Aa,Aa,hu⟩
     case tstep=>
      rintro x c st' h1 h2 ⟨rfl,rfl,hu⟩;dsimp only;refine aH (jCZ hB4 h0 Aa Aa ?_);dsimp only;by_cases hl:KI xs4 (lo+x)<KI xs4 (lo+x - 1)
      ·rw[aq hl,ao rfl];exact aM ⟨rfl,x,rfl,Aa,Aa,hu⟩
      ·rw[aJ hl,am aj];exact aM ⟨rfl,rfl,hu.more Aa Aa⟩
     case tpost=>
      rintro c st' ⟨rfl,n,rfl,n1,n2,hu⟩;exact aM (h n _ hB4 n1 n2 hu)
theorem jE4 {st:SortSt}{n ok:Nat}{Q:Bool->SortSt->Prop}(h0:AllI a₀.toList)(hn:lo+n<=a₀.size)(hok:ok<=n)(hB:BB a₀ p F lo st)(hs:Up (arrOf st) lo ok)
  (h:∀ st',BB a₀ p F lo st'->Up (arrOf st') lo n->Q true st'):wpS (model prog w) A E s (binarySort' lo n ok) Q st:=by
 rw[binarySort'_eq];dsimp only;refine aH (dq (bZ (I:=fun k c st'=>c=(none,())/\BB a₀ p F lo st'/\Up (arrOf st') lo (min k n))
  (Q:=fun c st'=>c=(none,())/\BB a₀ p F lo st'/\Up (arrOf st') lo n) ?step ?fin ⟨rfl,hB,?init⟩) ?post)
 case post=>
  rintro c st' ⟨rfl,hb,hu⟩;exact aM (h st' hb hu)
 case init=>
  by_cases e:ok=0
  ·intro i j h1 h2 h3;have:i=j:=by lia
   rw[this];exact cQ _
  ·exact fun i j h1 h2 h3=>hs i j h1 h2 Aa
 case fin=>
  rintro c st' ⟨hc,hb,hu⟩;rw[show min (max (max ok 1) n) n=n by lia] at hu;exact⟨hc,hb,hu⟩
 case step=>
  rintro k c st1 hk1 hk2 ⟨rfl,hb,hu⟩;rw[show min k n=k by lia] at hu;refine aH (dq (bZ (I:=fun x c st'=>st'=st1/\∃ l r,c=(none,l,r)/\l<=r/\r<=k/\r - l<=k - x/\
    (∀ i,i<l->KI (arrOf st1) (lo+i)<=KI (arrOf st1) (lo+k))/\∀ i,r<=i->i<k->KI (arrOf st1) (lo+k)<KI (arrOf st1) (lo+i))
   (Q:=fun c st'=>st'=st1/\∃ l r,c=(none,l,r)/\l<=k/\
    (∀ i,i<l->KI (arrOf st1) (lo+i)<=KI (arrOf st1) (lo+k))/\∀ i,l<=i->i<k->KI (arrOf st1) (lo+k)<KI (arrOf st1) (lo+i)) ?step1 ?fin1 ⟨rfl,0,k,rfl,Aa,Aa,Aa,fun i hi=>by lia,fun i h1 h2=>by lia⟩) ?post1)
  case fin1=>
   rintro c st' ⟨rfl,l,r,rfl,b1,b2,b3,b4,b5⟩;have:l=r:=by lia
   subst this;exact⟨rfl,l,l,rfl,b2,b4,b5⟩
  case step1=>
   rintro x c st' _ hx ⟨rfl,l,r,rfl,b1,b2,b3,b4,b5⟩;dsimp only;by_cases hge:l ≥ r
   ·rw[ao hge];have:l=r:=by lia
    subst this;exact aM ⟨rfl,l,l,rfl,b2,b4,b5⟩
   rw[am hge];refine aH (jCZ hb h0 Aa Aa ?_);dsimp only;by_cases hl:KI (arrOf st') (lo+k)<KI (arrOf st') (lo+(l+r) / 2)
   ·rw[aq hl,ao rfl];exact aM ⟨rfl,l,(l+r) / 2,rfl,Aa,Aa,Aa,b4,fun i h1 h2=>Int.lt_of_lt_of_le hl (hu _ _ Aa Aa Aa)⟩
   ·rw[aJ hl,am aj];exact aM ⟨rfl,(l+r) / 2+1,r,rfl,Aa,Aa,Aa,fun i h1=>cX (hu (lo+i) (lo+(l+r) / 2) Aa Aa Aa) (Int.not_lt.mp hl),b5⟩
  case post1=>
   rintro c st' ⟨rfl,l,r,rfl,hlk,b4,b5⟩;dsimp only;rw[moveDown'_eq];have hks:lo+k<(arrOf st').size:=by rw[hb.sz]; lia
   have kb:∀ x,KI (bubble (arrOf st') (lo+k) (lo+k - (lo+l))) x=if x=lo+l then KI (arrOf st') (lo+k) else if lo+l<x/\x<=lo+k then KI (arrOf st') (x - 1) else KI (arrOf st') x:=fun x=>by
    have:=jQ2 hks (d:=lo+k - (lo+l)) Aa x;rw[show lo+k - (lo+k - (lo+l))=lo+l by lia] at this;exact this
   refine aH (eE (aM ⟨rfl,hb.arr (bubble_perm _ _ _) fun x hx=>?_,?_⟩))
   ·rw[kb,am Aa,am Aa]
   rw[show min (k+1) n=k+1 by lia];intro i j h1 h2 h3;show KI (bubble _ _ _) i<=KI (bubble _ _ _) j;rw[kb,kb];have lo1:∀ i,lo<=i->i<lo+l->KI (arrOf st') i<=KI (arrOf st') (lo+k):=fun i h1 h2=>by
    have:=b4 (i - lo) Aa;rw[show lo+(i - lo)=i by lia] at this;exact this
   have hi1:∀ i,lo+l<=i->i<lo+k->KI (arrOf st') (lo+k)<=KI (arrOf st') i:=fun i h1 h2=>by
    have:=b5 (i - lo) Aa Aa;rw[show lo+(i - lo)=i by lia] at this;exact cI this
   repeat' split
   all_goals first
    | (exfalso; lia)
    | exact cQ _
    | exact lo1 _ Aa Aa
    | exact hi1 _ Aa Aa
    | exact hu _ _ Aa Aa Aa
end
def mergeAtB: { g:Nat->StateT SortSt Sem Bool // mergeAt'=g} :=⟨fun _=>bind _ _,rfl⟩
theorem yX {xs:Array Keyed}{i:Nat}{p:Keyed}(h:xs[i]?=some p):KI xs i=key p:=by
 unfold KI;rw[h]
theorem jK6 (s1:Nat):∀ (l:List Keyed) (j0:Nat) (a:Array Keyed) (P M S:List Keyed),P.length=s1+j0->M.length=l.length->a.toList=P++(M++S)->
  ((l.zipIdx j0).foldl (fun (a:Array Keyed) (x:Keyed×Nat)=>a.setIfInBounds (s1+x.2) x.1) a).toList=P++(l++S)
 | [],j0,a,P,M,S,h1,h2,h3=>by
  rw[gI h2] at h3;exact h3
 | q::l,j0,a,P,[],S,h1,h2,h3=>by cases h2
 | q::l,j0,a,P,m::M,S,h1,h2,h3=>by
  rw[List.zipIdx_cons,List.foldl_cons];have:=jK6 s1 l (j0+1) (a.setIfInBounds (s1+j0) q) (P++[q]) M S (by rw[aF,h1]; rfl) (Nat.succ.inj h2) (by
   rw[hV,h3,<- h1,i9 _ _ (ak _),gU,aY];rfl)
  rw[this,aY];rfl
theorem jV0 {P m1 m2 S:List Keyed}(e:m1.length=m2.length){k:Nat}(h:k<P.length\/P.length+m1.length<=k):(P++(m1++S))[k]?=(P++(m2++S))[k]?:=by
 rcases h with h | h
 ·rw[bU h,bU h]
 ·rw[bh Aa,bh Aa,bh Aa,bh Aa,e]
theorem jX7 {P m S:List Keyed}{k:Nat}(h1:P.length<=k)(h2:k<P.length+m.length):(P++(m++S))[k]?=m[k - P.length]?:=by
 rw[bh h1,bU Aa]
theorem jL4 {xs:Array Keyed}{i j t:Nat}(h:t<j - i):(xs.extract i j).toList[t]?=xs[i+t]?:=by
 rw[jAV,ck h,g7,bJ]
theorem jDC {xs:Array Keyed}{i j:Nat}{p:Keyed}(h:p∈(xs.extract i j).toList):∃ t,i<=t/\t<j/\xs[t]?=some p:=by
 rw[jAV] at h;obtain⟨t,h1,h2,h3⟩:=jA5 h;exact⟨t,h1,Aa,at_list.mpr h3⟩
theorem jEV {xs:Array Keyed}{i j:Nat}(h:j<=xs.size):(xs.extract i j).size=j - i:=by
 rw[Array.size_extract];lia
theorem jP9 {xs:Array Keyed}{i j:Nat}(h:∀ n m x y,i<=n->n<=m->m<j->xs[n]?=some x->xs[m]?=some y->LE x y):Srt (xs.extract i j).toList:=by
 refine bV.mpr fun a b ha hb hab=>?_;have hl:(xs.extract i j).toList.length<=j - i:=by rw[jAV,bB]; lia
 have e1:=jL4 (xs:=xs) (i:=i) (j:=j) (t:=a) Aa;have e2:=jL4 (xs:=xs) (i:=i) (j:=j) (t:=b) Aa;rw[aA ha] at e1;rw[aA hb] at e2;exact h (i+a) (i+b) _ _ Aa Aa Aa e1.symm e2.symm
theorem KI_at {xs ys:Array Keyed}{i j:Nat}(h:xs.toList[i]?=ys.toList[j]?):KI xs i=KI ys j:=jBZ (by rw[<- bJ,<- bJ]; exact h)
theorem jLQ {xs r R:Array Keyed}{sa na sb nb k1 k2:Nat}(hsb:sb=sa+na)(hk1:k1<na)(hk2:0<k2)(hk2':k2<=nb)(hz:sb+nb<=xs.size)
  (u1:Up xs sa na) (u2:Up xs sb nb) (g2:∀ t,sa<=t->t<sa+k1->KI xs t<=KI xs sb) (l3:∀ t,sb+k2<=t->t<sb+nb->KI xs (sb - 1)<=KI xs t)
  (D:yZ (xs.extract (sa+k1) sb) (xs.extract sb (sb+k2)) r)
  (hR:R.toList=xs.toList.take (sa+k1)++(r.toList++xs.toList.drop (sb+k2))):
  R.Perm xs/\(∀ k,k<sa\/sa+(na+nb)<=k->KI R k=KI xs k)/\Up R sa (na+nb):=by
 have lr:r.toList.length=sb+k2 - (sa+k1):=by
  rw[D.1.length_eq,aF,aR,aR,jEV Aa,jEV Aa];lia
 have lP:(xs.toList.take (sa+k1)).length=sa+k1:=by rw[bB,aR]; lia
 have hX:xs.toList=xs.toList.take (sa+k1)++(((xs.extract (sa+k1) sb).toList++(xs.extract sb (sb+k2)).toList)++xs.toList.drop (sb+k2)):=by
  have a1:=bD (sa+k1) xs.toList;have a2:=bD (sb - (sa+k1)) (xs.toList.drop (sa+k1));have a3:=bD k2 (xs.toList.drop sb);rw[g6] at a2 a3;rw[show sa+k1+(sb - (sa+k1))=sb by lia] at a2;rw[jAV,jAV,cR,aY,a3,a2,a1]
 have lm:((xs.extract (sa+k1) sb).toList++(xs.extract sb (sb+k2)).toList).length=r.toList.length:=D.1.length_eq.symm;have out:∀ k,k<sa+k1\/sb+k2<=k->KI R k=KI xs k:=fun k hk=>KI_at (by
  have:=jV0 (P:=xs.toList.take (sa+k1)) (S:=xs.toList.drop (sb+k2)) lm.symm (k:=k) (by rw[lP,lr]; lia);exact(bL (·[k]?) hR).trans (this.trans (bL (·[k]?) hX).symm))
 have inn:∀ k,sa+k1<=k->k<sb+k2->R.toList[k]?=r.toList[k - (sa+k1)]?:=fun k h1 h2=>by
  rw[hR,jX7 (by rw[lP]; exact h1) (by rw[lP,lr]; lia),lP]
 have mem:∀ k,sa+k1<=k->k<sb+k2->∃ t,sa+k1<=t/\t<sb+k2/\KI R k=KI xs t:=fun k h1 h2=>by
  have hk:k - (sa+k1)<r.toList.length:=Aa;have e:=inn k h1 h2;rw[aA hk] at e;have hm:=D.1.mem_iff.mp (cm hk);rcases aN.mp hm with q | q
  ·obtain⟨t,t1,t2,t3⟩:=jDC q;exact⟨t,t1,Aa,(yX (at_list.mpr e)).trans (yX t3).symm⟩
  ·obtain⟨t,t1,t2,t3⟩:=jDC q;exact⟨t,Aa,t2,(yX (at_list.mpr e)).trans (yX t3).symm⟩
 have srt:∀ i j,sa+k1<=i->i<=j->j<sb+k2->KI R i<=KI R j:=fun i j h1 h2 h3=>by
  have hi:i - (sa+k1)<r.toList.length:=Aa;have hj:j - (sa+k1)<r.toList.length:=Aa;have e1:=inn i h1 Aa;have e2:=inn j Aa h3;rw[aA hi] at e1;rw[aA hj] at e2;rw[yX (at_list.mpr e1),yX (at_list.mpr e2)];exact jFB D.2 (aA hi) (aA hj) Aa
 have low:∀ t u,sa<=t->t<sa+k1->t<=u->u<sb+nb->KI xs t<=KI xs u:=fun t u h1 h2 h3 h4=>by
  by_cases e:u<sb
  ·exact u1 t u h1 h3 Aa
  ·exact cX (g2 t h1 h2) (u2 sb u (ak _) Aa h4)
 have high:∀ t u,sa<=t->t<=u->sb+k2<=u->u<sb+nb->KI xs t<=KI xs u:=fun t u h1 h2 h3 h4=>by
  by_cases e:t<sb
  ·exact cX (u1 t (sb - 1) h1 Aa Aa) (l3 u h3 h4)
  ·exact u2 t u Aa h2 h4
 refine⟨?_,fun k hk=>out k Aa,fun i j h1 h2 h3=>?_⟩
 ·refine cY.mpr ?_;rw[hR];refine List.Perm.trans ?_ (iY hX.symm);exact cL _ (gn _ D.1)
 ·have h3:j<sb+nb:=Aa;by_cases i1:i<sa+k1
  ·rw[out i (.inl i1)];by_cases j1:j<sa+k1
   ·rw[out j (.inl j1)];exact low i j h1 i1 h2 h3
   by_cases j2:j<sb+k2
   ·obtain⟨t,t1,t2,t3⟩:=mem j Aa j2;rw[t3];exact low i t h1 i1 Aa Aa
   ·rw[out j (.inr Aa)];exact low i j h1 i1 h2 h3
  by_cases i2:i<sb+k2
  ·by_cases j2:j<sb+k2
   ·exact srt i j Aa h2 j2
   ·obtain⟨t,t1,t2,t3⟩:=mem i Aa i2;rw[t3,out j (.inr Aa)];exact high t j Aa Aa Aa h3
  ·rw[out i (.inr Aa),out j (.inr Aa)];exact high i j h1 h2 Aa h3
section
variable {prog:Program}{w:World}{A:Around}{E:Ah}{s:Shared} [LtOk prog w A s]
theorem jTC {st st':SortSt}{Q:PUnit->SortSt->Prop}(h:Q ⟨⟩ st'):wpS (model prog w) A E s (set st':StateT SortSt Sem PUnit) Q st:=eE (f:=fun _=>st') h
theorem jMD {α:Type}{a b:α}{Q:α->SortSt->Prop}{st:SortSt}(e:a=b)(h:Q b st):wpS (model prog w) A E s (pure a:StateT SortSt Sem α) Q st:=aM (e ▸ h)
structure Merged (st st':SortSt)(i sa na sb nb pw:Nat):Prop where
 perm:(arrOf st').Perm (arrOf st)
 kind:kindOf st'=Od.kd
 failed:failedOf st'=none
 pend:pendingOf st'=((pendingOf st).setIfInBounds i (sa,na+nb,pw)).eraseIdxIfInBounds (i+1)
 out:∀ k,k<sa\/sa+(na+nb)<=k->KI (arrOf st') k=KI (arrOf st) k
 up:Up (arrOf st') sa (na+nb)
theorem jIP {st:SortSt}{i sa na pw sb nb w2:Nat}{Q:Bool->SortSt->Prop}(hk:kindOf st=Od.kd)(hf:failedOf st=none)(hI:AllI (arrOf st).toList)
  (h1:(pendingOf st)[i]?=some (sa,na,pw)) (h2:(pendingOf st)[i+1]?=some (sb,nb,w2)) (hsb:sb=sa+na) (hna:0<na) (hnb:0<nb) (hz:sb+nb<=(arrOf st).size)
  (u1:Up (arrOf st) sa na) (u2:Up (arrOf st) sb nb) (h:∀ st',Merged st st' i sa na sb nb pw->Q true st'):wpS (model prog w) A E s (mergeAt' i) Q st:=by
 rw[mergeAtB.2]
 delta mergeAtB
 dsimp only;simp only [elP,ltP,ltAtP,jJ9,jR7,jR8];refine aH (gF ?_);rw[h1,h2];dsimp only;refine aH (jTC ?_);generalize hpp:((pendingOf st).setIfInBounds i (sa,na+nb,pw)).eraseIdxIfInBounds (i+1)=pp;show wpS _ _ _ _ _ _ (SortSt.mk' (kindOf st) (arrOf st) pp (gallopOf st) (failedOf st));generalize hst1:SortSt.mk' (kindOf st) (arrOf st) pp (gallopOf st) (failedOf st)=st1;have G1:kindOf st1=kindOf st/\arrOf st1=arrOf st/\pendingOf st1=pp/\failedOf st1=failedOf st:=by rw[<- hst1]; exact⟨rfl,rfl,rfl,rfl⟩
 have at_:∀ t,t<(arrOf st).size->∃ q,(arrOf st)[t]?=some q/\IsI q:=fun t ht=>by
  obtain⟨q,q1,q2⟩:=xA ht;exact⟨q,q1,hI q (ay q2)⟩
 have m1:∀ n m x y,sa<=n->n<=m->m<sa+na->(arrOf st)[n]?=some x->(arrOf st)[m]?=some y->LE x y:=fun n m x y a1 a2 a3 hx hy=>by
  have:=u1 n m a1 a2 a3;rw[yX hx,yX hy] at this;exact this
 have m2:∀ n m x y,sb<=n->n<=m->m<sb+nb->(arrOf st)[n]?=some x->(arrOf st)[m]?=some y->LE x y:=fun n m x y a1 a2 a3 hx hy=>by
  have:=u2 n m a1 a2 a3;rw[yX hx,yX hy] at this;exact this
 obtain⟨pb,hpb,ipb⟩:=at_ sb Aa;refine aH (kB hpb ?_);refine aH (jL1 (G1.1.trans hk) ipb hI m1 hna (show sa+na<=(arrOf st).size by lia) fun k1 g1 g2 g3=>?_);dsimp only;have g2:∀ t,sa<=t->t<sa+k1->KI (arrOf st) t<=KI (arrOf st) sb:=fun t t1 t2=>by
  obtain⟨q,hq,_⟩:=at_ t Aa;rw[yX hq,yX hpb];exact g2 t q t1 t2 hq
 by_cases e1:na - k1=0
 ·rw[ao (bp e1)];refine aM (h _ ⟨?_,G1.1.trans hk,G1.2.2.2.trans hf,G1.2.2.1.trans hpp.symm,fun k _=>?_,?_⟩)
  ·rw[G1.2.1]
  ·rw[G1.2.1]
  ·rw[G1.2.1];intro i j i1 i2 i3;by_cases a:i<sb
   ·by_cases b:j<sb
    ·exact u1 i j i1 i2 Aa
    ·exact cX (g2 i i1 Aa) (u2 sb j (ak _) Aa Aa)
   ·exact u2 i j Aa i2 Aa
 rw[am (bn e1)];obtain⟨pa,hpa,ipa⟩:=at_ (sa+k1+(na - k1) - 1) Aa;refine aH (kB hpa ?_);refine aH (jL2 (G1.1.trans hk) ipa hI m2 Aa (show sb+nb<=(arrOf st).size by lia) fun k2 l1 l2 l3=>?_);dsimp only;have epa:sa+k1+(na - k1) - 1=sb - 1:=Aa;rw[epa] at hpa;have l3':∀ t,sb+k2<=t->t<sb+nb->KI (arrOf st) (sb - 1)<=KI (arrOf st) t:=fun t t1 t2=>by
  obtain⟨q,hq,_⟩:=at_ t Aa;rw[yX hq,yX hpa];exact l3 t q t1 t2 hq
 by_cases e2:k2=0
 ·rw[ao (bp e2)];refine aM (h _ ⟨?_,G1.1.trans hk,G1.2.2.2.trans hf,G1.2.2.1.trans hpp.symm,fun k _=>?_,?_⟩)
  ·rw[G1.2.1]
  ·rw[G1.2.1]
  ·rw[G1.2.1];intro i j i1 i2 i3;by_cases a:i<sb
   ·by_cases b:j<sb
    ·exact u1 i j i1 i2 Aa
    ·exact cX (u1 i (sb - 1) i1 Aa Aa) (l3' j Aa Aa)
   ·exact u2 i j Aa i2 Aa
 rw[am (bn e2)];have T:Two ((arrOf st).extract (sa+k1) sb) ((arrOf st).extract sb (sb+k2)):=by
  refine⟨fun q hq=>?_,fun q hq=>?_,jP9 fun n m x y a1 a2 a3=>m1 n m x y Aa a2 Aa,jP9 fun n m x y a1 a2 a3=>m2 n m x y Aa a2 Aa,?_,?_,fun x hx y hy=>?_,fun y hy q hq=>?_⟩
  ·obtain⟨t,_,_,t3⟩:=jDC hq;exact hI q (ay (at_list.mp t3))
  ·obtain⟨t,_,_,t3⟩:=jDC hq;exact hI q (ay (at_list.mp t3))
  ·rw[jEV Aa]; lia
  ·rw[jEV Aa]; lia
  ·obtain⟨t,t1,t2,t3⟩:=jDC hx;rw[jEV Aa,jL4 Aa,show sa+k1+(sb - (sa+k1) - 1)=sb - 1 by lia,hpa] at hy;cases hy;exact l2 t x t1 t2 t3
  ·obtain⟨t,t1,t2,t3⟩:=jDC hy;rw[jL4 Aa,ka,hpb] at hq;cases hq;exact g3 t y t1 Aa t3
 by_cases e3:na - k1<=k2
 case' pos=>
  rw[ao e3];refine aH (jIN (G1.1.trans hk) T fun r st2 D G0=>?_);have G:SG (SortSt.mk' (kindOf st) (arrOf st) pp (gallopOf st) (failedOf st)) st2:=by rw[hst1]; exact G0
  subst hpp
 case' neg=>
  rw[am e3];refine aH (jIO (G1.1.trans hk) T fun r st2 D G0=>?_);have G:SG (SortSt.mk' (kindOf st) (arrOf st) pp (gallopOf st) (failedOf st)) st2:=by rw[hst1]; exact G0
  subst hpp
 all_goals
  refine aH (eE (aH (gF ?_)));have ea:arrOf st2=arrOf st:=G.a;have W:=jLQ (R:=((r.toList.zipIdx 0).foldl (fun (a:Array Keyed) (x:Keyed×Nat)=>a.setIfInBounds (sa+k1+x.2) x.1) (arrOf st))) hsb Aa Aa l1 hz u1 u2 g2 l3' D (jK6 (sa+k1) r.toList 0 (arrOf st) ((arrOf st).toList.take (sa+k1)) (((arrOf st).extract (sa+k1) sb).toList++((arrOf st).extract sb (sb+k2)).toList) ((arrOf st).toList.drop (sb+k2)) (by rw[bB,aR]; lia) D.1.length_eq.symm (by
   have a1:=bD (sa+k1) (arrOf st).toList;have a2:=bD (sb - (sa+k1)) ((arrOf st).toList.drop (sa+k1));have a3:=bD k2 ((arrOf st).toList.drop sb);rw[g6] at a2 a3;rw[show sa+k1+(sb - (sa+k1))=sb by lia] at a2;rw[jAV,jAV,cR,aY,a3,a2,a1]))
  rw[<- ea] at W;refine jMD (by show (failedOf st2).isNone=true; rw[G.f]; show (failedOf st).isNone=true; rw[hf]; rfl) (h _ ⟨?_,G.k.trans hk,G.f.trans hf,G.p,?_,?_⟩)
  ·rw[<- ea];exact W.1
  ·rw[<- ea];exact W.2.1
  ·exact W.2.2
end
def Runs (xs:Array Keyed):List (Nat×Nat×Nat)->Nat->Nat->Prop
 | [],a,b=>a=b
 | (s,n,_)::t,a,b=>s=a/\0<n/\Up xs s n/\Runs xs t (a+n) b
section
variable {xs ys:Array Keyed}
theorem Runs.le:∀ {l:List (Nat×Nat×Nat)}{a b:Nat},Runs xs l a b->a+l.length<=b
 | [],a,b,h=>by have:a=b:=h; rw[cH]; lia
 | (s,n,_)::t,a,b,⟨_,h2,_,h4⟩=>by
  have:=Runs.le h4;rw[aP];lia
theorem Runs.app:∀ {l m:List (Nat×Nat×Nat)}{a b:Nat},Runs xs (l++m) a b->∃ c,Runs xs l a c/\Runs xs m c b
 | [],m,a,b,h=>⟨a,rfl,h⟩
 | (s,n,_)::t,m,a,b,⟨h1,h2,h3,h4⟩=>by
  obtain⟨c,c1,c2⟩:=Runs.app h4;exact⟨c,⟨h1,h2,h3,c1⟩,c2⟩
theorem Runs.put:∀ {l m:List (Nat×Nat×Nat)}{a b c:Nat},Runs xs l a c->Runs xs m c b->Runs xs (l++m) a b
 | [],m,a,b,c,h,g=>by have:a=c:=h; subst this; exact g
 | (s,n,_)::t,m,a,b,c,⟨h1,h2,h3,h4⟩,g=>⟨h1,h2,h3,Runs.put h4 g⟩
theorem Up.same {lo n:Nat}(h:Up xs lo n)(e:∀ k,lo<=k->k<lo+n->KI ys k=KI xs k):Up ys lo n:=fun i j h1 h2 h3=>by
 rw[e i h1 Aa,e j Aa h3];exact h i j h1 h2 h3
theorem Runs.same:∀ {l:List (Nat×Nat×Nat)}{a b:Nat},Runs xs l a b->(∀ k,a<=k->k<b->KI ys k=KI xs k)->Runs ys l a b
 | [],a,b,h,_=>h
 | (s,n,_)::t,a,b,⟨h1,h2,h3,h4⟩,e=>by
  have:=Runs.le h4;exact⟨h1,h2,h3.same fun k k1 k2=>e k Aa Aa,Runs.same h4 fun k k1 k2=>e k Aa k2⟩
theorem Runs.mod {f:Nat×Nat×Nat->Nat×Nat×Nat}(hf:∀ x,(f x).1=x.1/\(f x).2.1=x.2.1):∀ {l:List (Nat×Nat×Nat)}{i a b:Nat},Runs xs l a b->Runs xs (l.modify i f) a b
 | [],i,a,b,h=>by rw[List.modify_nil]; exact h
 | (s,n,w)::t,0,a,b,⟨h1,h2,h3,h4⟩=>by
  rw[List.modify_zero_cons];obtain⟨e1,e2⟩:=hf (s,n,w);generalize f (s,n,w)=v at e1 e2 ⊢;obtain⟨s',n',w'⟩:=v;have e1:s'=s:=e1;have e2:n'=n:=e2;subst e1 e2;exact⟨h1,h2,h3,h4⟩
 | (s,n,w)::t,i+1,a,b,⟨h1,h2,h3,h4⟩=>by
  rw[List.modify_succ_cons];exact⟨h1,h2,h3,Runs.mod hf h4⟩
end
structure RI (a₀:Array Keyed)(lo:Nat)(st:SortSt):Prop where
 perm:(arrOf st).Perm a₀
 kind:kindOf st=Od.kd
 failed:failedOf st=none
 runs:Runs (arrOf st) (pendingOf st).toList 0 lo
theorem jHD:∀ (l:List (Nat×Nat×Nat)) (i:Nat),i+1<l.length->∃ u x y t,l=u++x::y::t/\u.length=i
 | [],i,h=>absurd h (dM _)
 | [x],i,h=>by rw[i7] at h; lia
 | x::y::t,0,h=>⟨[],x,y,t,rfl,rfl⟩
 | x::y::t,i+1,h=>by
  obtain⟨u,x',y',t',e,hu⟩:=jHD (y::t) i (by rw[aP] at h; lia);exact⟨x::u,x',y',t',by rw[e]; rfl,by rw[aP,hu]⟩
theorem jVV {a₀ xs:Array Keyed}(h0:AllI a₀.toList)(hp:xs.Perm a₀):AllI xs.toList:=fun p hp'=>h0 p ((cY.mp hp).mem_iff.mp hp')
section
variable {prog:Program}{w:World}{A:Around}{E:Ah}{s:Shared} [LtOk prog w A s]{a₀:Array Keyed}
theorem jE3 {st:SortSt}{i lo:Nat}{Q:Bool->SortSt->Prop}(h0:AllI a₀.toList)(R:RI a₀ lo st)(hlo:lo<=a₀.size)(hi:i+1<(pendingOf st).size)
  (h:∀ st',RI a₀ lo st'->(pendingOf st').size+1=(pendingOf st).size->(∀ k,lo<=k->KI (arrOf st') k=KI (arrOf st) k)->Q true st'):wpS (model prog w) A E s (mergeAt' i) Q st:=by
 obtain⟨u,⟨sa,na,pw⟩,⟨sb,nb,w2⟩,t,e,hu⟩:=jHD (pendingOf st).toList i (by rw[aR]; exact hi);have rr:=R.runs;rw[e] at rr;obtain⟨c,r1,a1,a2,a3,a4,a5,a6,a7⟩:=Runs.app rr;have r2:=Runs.le a7;have r3:=Runs.le r1;subst a1;have e1:(pendingOf st)[i]?=some (sa,na,pw):=by
  rw[<- bJ,e,bh Aa,hu,gU];rfl
 have e2:(pendingOf st)[i+1]?=some (sb,nb,w2):=by
  rw[<- bJ,e,bh Aa,hu,cR];rfl
 have z:=R.perm.size_eq;refine jIP R.kind R.failed (jVV h0 R.perm) e1 e2 a4 a2 a5 Aa a3 a6 fun st' M=>?_;have ep:(pendingOf st').toList=u++(sa,na+nb,pw)::t:=by
  rw[M.pend,Array.toList_eraseIdxIfInBounds,hV,e,i9 _ _ Aa,hu,gU,List.set_cons_zero,List.eraseIdx_append_of_length_le Aa,hu,cR];rfl
 refine h st' ⟨M.perm.trans R.perm,M.kind,M.failed,?_⟩ ?_ fun k hk=>M.out k Aa
 ·rw[ep];refine Runs.put (Runs.same r1 fun k k1 k2=>M.out k Aa) ⟨rfl,Aa,M.up,?_⟩;have:=Runs.same (ys:=arrOf st') a7 fun k k1 k2=>M.out k Aa;rw[Nat.add_assoc] at this;exact this
 ·have q1:=bL List.length ep;have q2:=bL List.length e;rw[aR,aF,aP] at q1;rw[aR,aF,aP,aP] at q2;lia
theorem RI.of {st:SortSt}{F:Nat->Int}{lo:Nat}{p:Array (Nat×Nat×Nat)}{xs:Array Keyed}(h:BB a₀ p F lo st)(hr:Runs xs p.toList 0 lo)(hF:∀ k,F k=KI xs k):RI a₀ lo st:=
 ⟨h.perm,h.kind,h.failed,by rw[h.pend]; exact hr.same fun k _ hk=>(h.low k hk).trans (hF k)⟩
theorem jE2 {st:SortSt}{Q:Unit->SortSt->Prop}(h0:AllI a₀.toList)(hB:SB a₀ st)(h1:1<=a₀.size)
  (h:∀ st',(arrOf st').Perm a₀->failedOf st'=none->STo (arrOf st') a₀.size->Q () st'):wpS (model prog w) A E s sortRuns' Q st:=by
 rw[sortRuns'_eq];refine aH (gF ?_)
 try dsimp only
 have hz:=hB.size;rw[hz];generalize minRun' a₀.size a₀.size 0=mr;refine aH (dq (bZ (I:=fun x c st'=>∃ lo,c=(none,lo)/\x<=lo/\lo<=a₀.size/\RI a₀ lo st')
  (Q:=fun c st'=>c=(none,a₀.size)/\RI a₀ a₀.size st') ?step ?fin ⟨0,rfl,ak _,bu _,hB.perm,hB.kind,hB.failed,by rw[hB.pend]; rfl⟩) ?post)
 case fin=>
  rintro c st' ⟨lo,rfl,l1,l2,R⟩;have:lo=a₀.size:=by lia
  subst this;exact⟨rfl,R⟩
 case step=>
  rintro x c st1 _ hx ⟨lo,rfl,l1,l2,R1⟩
  try dsimp only
  by_cases hl:lo ≥ a₀.size
  ·rw[ao hl];have:lo=a₀.size:=by lia
   subst this;exact aM ⟨rfl,R1⟩
  rw[am hl];refine aH (jFU (F:=fun k=>KI (arrOf st1) k) (p:=pendingOf st1) h0 Aa Aa ⟨R1.perm,R1.kind,R1.failed,rfl,fun _ _=>rfl⟩ fun m st2 B2 m1 m2 U2=>?_)
  try dsimp only
  by_cases hm:m<mr
  case' pos=>
   rw[ao hm];refine aH (g9 (df ⟨rfl,?_⟩));refine aH (jE4 h0 Aa Aa B2 U2 fun st4 B4 U4=>?_);have R4:=RI.of B4 R1.runs fun _=>rfl;have n0:0<min (a₀.size - lo) mr:=Aa;have n9:min (a₀.size - lo) mr<=a₀.size - lo:=Aa;generalize min (a₀.size - lo) mr=n at*
  case' neg=>
   rw[am hm];have R4:=RI.of B2 R1.runs fun _=>rfl;have U4:=U2;generalize st2=st4 at*;generalize m=n at*
  all_goals
   refine aH (gF ?_);have last:∀ st5:SortSt,RI a₀ lo st5->Up (arrOf st5) lo n->∃ lo',(none,lo+n)=((none:Option PUnit),lo')/\x+1<=lo'/\lo'<=a₀.size/\RI a₀ lo' (setPending st5 ((pendingOf st5).push (lo,n,0))):=fun st5 R5 U5=>
    ⟨lo+n,rfl,Aa,Aa,R5.perm,R5.kind,R5.failed,by
     show Runs (arrOf st5) ((pendingOf st5).push (lo,n,0)).toList 0 (lo+n);rw[dP];exact R5.runs.put ⟨rfl,Aa,U5,rfl⟩⟩
   cases hb:(pendingOf st4).back? with
   | none=>
    try dsimp only
    exact aH (eE (aM (last st4 R4 U4)))
   | some v=>
    obtain⟨s1,n1,w1⟩:=v
    try dsimp only
    refine aH (dq (bZ (I:=fun _ c st'=>c=(none,())/\RI a₀ lo st'/\Up (arrOf st') lo n) (Q:=fun c st'=>c=(none,())/\RI a₀ lo st'/\Up (arrOf st') lo n) ?mstep (fun _ _ z=>z) ⟨rfl,R4,U4⟩) ?mpost)
    case mstep=>
     rintro y c st5 _ _ ⟨rfl,R5,U5⟩
     try dsimp only
     refine aH (gF ?_);by_cases hs:(pendingOf st5).size>1
     ·rw[ao hs];obtain⟨v,hv⟩:∃ v,(pendingOf st5)[(pendingOf st5).size - 2]?=some v:=⟨_,Array.getElem?_eq_getElem Aa⟩;rw[hv];obtain⟨v1,v2,older⟩:=v
      try dsimp only
      by_cases ho:older<=power' a₀.size (2*s1+n1) (2*s1+n1+n1+n) a₀.size
      ·rw[ao ho];exact aM ⟨rfl,R5,U5⟩
      rw[am ho];refine aH (jE3 h0 R5 Aa Aa fun st6 R6 _ E6=>?_);exact aM ⟨rfl,R6,U5.same fun k k1 _=>E6 k k1⟩
     ·rw[am hs];exact aM ⟨rfl,R5,U5⟩
    case mpost=>
     rintro c st5 ⟨rfl,R5,U5⟩
     try dsimp only
     refine aH (eE (aH (eE (aM (last (setPending st5 ((pendingOf st5).modify ((pendingOf st5).size - 1) fun x=>(x.1,x.2.1,power' a₀.size (2*s1+n1) (2*s1+n1+n1+n) a₀.size))) ⟨R5.perm,R5.kind,R5.failed,?_⟩ U5)))));show Runs (arrOf st5) (Array.modify _ _ _).toList 0 lo;rw[Array.toList_modify];exact Runs.mod (f:=fun x=>(x.1,x.2.1,power' a₀.size (2*s1+n1) (2*s1+n1+n1+n) a₀.size)) (fun _=>⟨rfl,rfl⟩) R5.runs
 case post=>
  rintro c st1 ⟨rfl,R1⟩
  try dsimp only
  refine aH (dq (bZ (I:=fun x c st'=>c=(none,())/\RI a₀ a₀.size st'/\1<=(pendingOf st').size/\(pendingOf st').size+x<=a₀.size)
   (Q:=fun c st'=>c=(none,())/\RI a₀ a₀.size st'/\(pendingOf st').size=1) ?step2 ?fin2 ⟨rfl,R1,?a1,?a2⟩) ?post2)
  case a1=>
   have:=R1.runs;cases hp:(pendingOf st1).toList with
   | nil=>
    rw[hp] at this;have:0=a₀.size:=this;lia
   | cons v t=>
    have:=bL List.length hp;rw[aR,aP] at this;lia
  case a2=>
   have:=R1.runs.le;rw[aR] at this;lia
  case fin2=>
   rintro c st2 ⟨_,_,h2,h3⟩;lia
  case post2=>
   rintro c st2 ⟨rfl,R2,h2⟩
   try dsimp only
   refine aM (h st2 R2.perm R2.failed ?_);have rr:=R2.runs;cases hp:(pendingOf st2).toList with
   | nil=>
    rw[<- aR,hp] at h2;cases h2
   | cons v t=>
    have:=bL List.length hp;rw[aR,h2,aP] at this;have:t=[]:=gI Aa;subst this;rw[hp] at rr;obtain⟨v1,v2,v3⟩:=v;obtain⟨q1,q2,q3,q4⟩:=rr;have q4:0+v2=a₀.size:=q4;subst q1;exact fun i j hij hj=>q3 i j (bu _) hij Aa
  case step2=>
   rintro x c st2 _ hx ⟨rfl,R2,h2,h3⟩
   try dsimp only
   refine aH (gF ?_);by_cases hs:(pendingOf st2).size<=1
   ·rw[ao hs];exact aM ⟨rfl,R2,Aa⟩
   rw[am hs];refine aH (jE3 h0 R2 (ak _) ?_ fun st3 R3 e3 _=>?_)
   ·have ite_le:∀ (c:Prop) [Decidable c] (a b:Nat),(if c then a else b)<=max a b:=fun c _ a b=>by
     by_cases z:c
     ·rw[ao z]; lia
     ·rw[am z]; lia
    refine jt (Nat.add_le_add_right (ite_le _ _ _) 1) ?_;lia
   ·exact aM ⟨rfl,R3,Aa,Aa⟩
end
end TM
namespace TM
open PySem PySem.Spec PyProof.Rows
section
variable {prog:Program}{w:World}{A:Around}{E:Ah}{s:Shared}
abbrev turned (b:Bool)(xs:An):An:=if b then xs.reverse else xs
theorem jIS {b:Bool}{xs:An} :(turned b xs).size=xs.size:=by
 cases b
 ·rfl
 ·exact Array.size_reverse
theorem jD0 (b:Bool)(vs:Al):(if b=true then (vs.toArray.zip vs.toArray).reverse else vs.toArray.zip vs.toArray).Perm (pairsOf vs):=by
 cases b with
 | false=>exact Array.Perm.refl _
 | true=>exact cY.mpr (by show ((vs.toArray.zip vs.toArray).reverse).toList.Perm _; rw[dr]; exact List.reverse_perm _)
def AskOk [Od](prog:Program)(w:World)(A:Around)(s:Shared)(a:Addr)(vs:Al):Prop:=
 ∀ h6:Heap,(∀ c o,s.heap.get? c=some o->c≠a->h6.get? c=some o)->
  (∀ (Q:SortKind->Shared->Prop) (E:Ah),Q Od.kd { s with heap:=h6} ->wpAny (model prog w) A (keyKind' vs.toArray) Q E { s with heap:=h6})/\LtOk prog w A { s with heap:=h6}
theorem jK1 [Od]{a:Addr}{vs:Al}{n:Nat}{b:Bool}{P:Fin->Shared->Prop}(ho:s.heap.get? a=some (seqObj "list" vs.toArray n))(hz:vs.length<=sizeLine)(hI:AllI (pairsOf vs).toList)(hk:2<=vs.length->AskOk prog w A s a vs)
  (h:∀ xs:Array Keyed,xs.Perm (pairsOf vs)->STo xs (pairsOf vs).size->P (.done (.ret .none)) { s with heap:=sortedHeap s.heap a vs (turned b (xs.map (·.2)))}):
  wpAny (model prog w) A (Builtin.«list.sort» ⟨[.ref a],[(Str.ofString "reverse", .bool b)]⟩) P E s:=by
 rw[list_sort_rev];have ha:=aC ho;have hz':vs.toArray.size<=sizeLine:=by rw[ar]; exact hz
 refine ae (listItems_at ho rfl (ae (ir ho rfl ?_ hz' (bu _))));obtain⟨e1,ho1⟩:∃ e1,(s.heap.update a (Obj.mapSeq fun _=>#[])).get? a=some (seqObj "list" #[] e1):=⟨_,get?_update_seq ho _⟩;refine ae (seqEpoch_at ho1 rfl (ae (wpAny_newTuple ?_ hz)));refine ae (fq (bS ?_));generalize hh6:((s.heap.update a (Obj.mapSeq fun _=>#[])).push (seqObj "tuple" vs.toArray 0)).push (seqObj "list" #[] 0)=h6;have ho6:h6.get? a=some (seqObj "list" #[] e1):=by
  rw[<- hh6];exact af _ (af _ ho1)
 have k6:∀ c o,s.heap.get? c=some o->c≠a->h6.get? c=some o:=fun c o q ne=>by
  rw[<- hh6];exact af _ (af _ ((cW _ _ (fw ne)).trans q))
 have sh:∀ out,sortedHeap s.heap a vs out=h6.update a (Obj.mapSeq fun _=>out):=fun out=>by rw[<- hh6]; rfl
 have go:∀ X:Sem Fin,wpAny (model prog w) A X P E { s with heap:=h6} ->wpAny (model prog w) A (if b=true then (do let _ <- rule "list.sort.reverse"; X) else X) P E { s with heap:=h6} :=fun X hX=>by
  cases b with
  | false=>exact hX
  | true=>exact ae (df hX)
 have hend:∀ st':SortSt,(arrOf st').Perm (pairsOf vs)->STo (arrOf st') (pairsOf vs).size->P (.done (.ret .none)) { s with heap:=h6.update a (Obj.mapSeq fun _=>turned b ((arrOf st').map (·.2)))} :=fun st' p1 p2=>by
  rw[<- sh];exact h _ p1 p2
 have hfit:∀ st':SortSt,(arrOf st').Perm (pairsOf vs)->(turned b ((arrOf st').map (·.2))).size<=sizeLine+1:=fun st' p1=>by
  rw[jIS,Array.size_map,p1.size_eq,pairsOf_size];lia
 dsimp only;refine go _ ?_;by_cases few:vs.toArray.size<2
 ·rw[ao few,ao few];refine ae (ah ?_);rw[StateT.run_pure];refine ae (ah ?_);dsimp only;refine ae (seqEpoch_at ho6 rfl (ae (ir ho6 rfl ?_ (bu _) (hfit (SortSt.mk' general' _ #[] 7 none) (jD0 b vs)))));rw[bne_self_eq_false,am aj];refine ah (hend (SortSt.mk' general' _ #[] 7 none) (jD0 b vs) fun i j hij hj=>?_);have:i=j:=by
   rw[pairsOf_size] at hj;rw[ar] at few;lia
  rw[this];exact cQ _
 ·rw[am few,am few];rw[ar] at few;obtain⟨kk,ll⟩:=hk Aa h6 k6;refine ae (kk _ _ (ae (cy (jE2 (a₀:=pairsOf vs) (st:=SortSt.mk' Od.kd _ #[] 7 none)
   (Q:=fun _ st'=>(arrOf st').Perm (pairsOf vs)/\failedOf st'=none/\STo (arrOf st') (pairsOf vs).size)
   hI ⟨jD0 b _,rfl,rfl,rfl⟩ (by rw[pairsOf_size]; lia) fun st' a1 a2 a3=>⟨a1,a2,a3⟩) ?_ fun _ _ e=>e)))
  rintro ⟨⟨⟩,st'⟩ s' ⟨rfl,p1,p2,p3⟩;dsimp only;refine ae (seqEpoch_at ho6 rfl (ae (ir ho6 rfl ?_ (bu _) (hfit st' p1))));rw[p2];dsimp only;rw[bne_self_eq_false,am aj];exact ah (hend st' p1 p3)
theorem jN9 (a:Addr):Builtin.«list.sort» ⟨[.ref a],[]⟩=Builtin.«list.sort» ⟨[.ref a],[(Str.ofString "reverse", .bool false)]⟩:=by
 rw[list_sort_plain,list_sort_rev];rfl
abbrev odI:Od:=⟨oneType',fun p=>numOf p.1,fun p=>∃ n t,p.1=Value.int n t⟩
theorem ltI: @LtOk prog w A s odI:= @LtOk.mk prog w A s odI fun {E st x y Q} hk hx hy h=>by
 obtain⟨a,t,ha⟩:=hx;obtain⟨b,u,hb⟩:=hy;have e1: @key odI x=a:=by show numOf x.1=a; rw[ha]; rfl
 have e2: @key odI y=b:=by show numOf y.1=b; rw[hb]; rfl
 rw[e1,e2] at h;rw[lt'_eq];refine aH (gF ?_);rw[show kindOf st=oneType' from hk,keyLt'_oneType,ha,hb];exact aH (g9 (fo (oneLt_int ⟨rfl,aM h⟩)))
theorem stoI {xs:Array Keyed}{k:Nat}(h: @STo odI xs k):SortedTo xs k:=h
theorem askI {a:Addr}{vs:Al}{ns:Ag}(hI:IntsAre vs ns)(h2:2<=vs.length): @AskOk odI prog w A s a vs:=fun h6 _=>⟨fun Q E h=>by
 obtain⟨u,v,r,rfl⟩:∃ u v r,vs=u::v::r:=by
  match vs,h2 with
  | [_],few=>exact absurd few (show ¬ 2<=1 by decide)
  | u::v::r,_=>exact⟨u,v,r,rfl⟩
 rw[keyKind_ints hI];exact ah h,ltI⟩
theorem sort_rev_any {a:Addr}{vs:Al}{ns:Ag}{n:Nat}{b:Bool}{P:Fin->Shared->Prop}(ho:s.heap.get? a=some (seqObj "list" vs.toArray n))(hI:IntsAre vs ns)(hz:vs.length<=sizeLine)
  (h:∀ (out:An) (ns':Ag),IntsAre out.toList ns'->ns'.Perm ns->Ordered b ns'->P (.done (.ret .none)) { s with heap:=sortedHeap s.heap a vs out}):
  wpAny (model prog w) A (Builtin.«list.sort» ⟨[.ref a],[(Str.ofString "reverse", .bool b)]⟩) P E s:=
 @jK1 prog w A E s odI a vs n b P ho hz hI.intKeys (fun h2=>askI hI h2) fun xs p1 p2=>by
  obtain⟨ns',q1,q2,q3⟩:=sorted_out_rev hI p1 (stoI p2) b;exact h _ ns' q1 q2 q3
end
end TM
namespace L2
open PySem PySem.Spec PyProof.Rows
section
variable {prog:Program}{w:World}{A:Around}{E:Ah}{s:Shared}{d:Addr}{kvs:List (Key×Value)}
theorem jFN:∀ {vs:Al}{ks:Ag},vs.length=ks.length->(∀ (j:Nat) (v:Value),vs[j]?=some v->∃ i t,ks[j]?=some i/\v=Value.int i t)->IntsAre vs ks
 | [],[],_,_=> .nil
 | [],_::_,h,_=>by cases h
 | _::_,[],h,_=>by cases h
 | v::vs,a::r,h,hat=>by
  obtain⟨i,t,e1,rfl⟩:=hat 0 v rfl;cases e1;exact .cons _ t (jFN (Nat.succ.inj h) fun j v e=>hat (j+1) v e)
theorem jHE {Q:Ah}{ks:Ag}{b:Bool}(hh:A.handled=none)(lo:(d==sysModules)=false)(D:s.heap.DictOf (y0 prog w) d kvs)(hk:kvs.map (·.1)=ks.map Sum.inl)(hz:ks.length<=sizeLine)
  (h:∀ (hf:Heap) (tk:Nat) (l:Addr) (vs:Al) (ns:Ag) (e:Nat),s.heap.objs.size<=l->(∀ b u,s.heap.get? b=some u->hf.get? b=some u)->
   hf.get? l=some { cls:= .type "list",data:= .seq vs.toArray e} ->IntsAre vs ns->ns.Perm ks->Ordered b ns->Q (.ref l) { s with heap:=hf,toks:=tk}):
  wpAny (model prog w) A (call (.builtin "sorted") [.ref d] [(Str.ofString "reverse", .bool b)]) Q E s:=by
 obtain⟨ep,hat⟩:=D.dictAt;have hlen:kvs.length=ks.length:=by
  have:=bL List.length hk
  rwa [ab,ab] at this
 refine call_function_entry_kw kind_sorted plain_sorted entry_sorted (args_sorted_rev _ _) ?_;unfold Builtin.«sorted»;refine ae (m:=checkCount "sorted" 1 1 _) (ah ?_);refine ae (jJG (A:=A.in1) (PySem.W.kdl_dict (knd:=y0 prog w) (kvs:=kvs) (ep:=ep) lo) hh hat Aa fun h1 tk acc hk1 hlt1 hacc=>?_);have hal:acc.toList.length=ks.length:=by rw[aR,hacc.1,hlen]
 have hI:IntsAre acc.toList ks:=jFN hal fun j v e=>by
  obtain⟨k,x,hx,hv⟩:=hacc.2 j v (by rw[<- bJ]; exact e);have e2:(kvs.map (·.1))[j]?=some k:=by rw[aL,hx]; rfl
  rw[hk,aL] at e2;cases hq:ks[j]? with
  | none=>rw[hq] at e2; cases e2
  | some i=>
   rw[hq] at e2;cases e2;rcases jA0 (show keyIs (Sum.inl i) v=true from hv) with ⟨i',t,q1,q2⟩ | ⟨x,t,q1,q2⟩
   ·cases q1;exact⟨i,t,rfl,q2⟩
   ·cases q1
 refine ae (fq ?_ Aa);have hL:(h1.push (seqObj "list" acc.toList.toArray 0)).get? h1.objs.size=some (seqObj "list" acc.toList.toArray 0):=ax _ rfl;show wpAny _ _ _ _ _ { s with heap:=h1.push (seqObj "list" acc.toList.toArray 0),toks:=tk};refine ae (bS (wpAny_call_entry_kw g5 ⟨_,hL,rfl⟩ gM (TM.sort_rev_any hL hI Aa fun out ns' a1 a2 a3=>⟨_,rfl,?_⟩) (args_list_sort_rev _ _)));obtain⟨e,he⟩:=sortedHeap_at (out:=out) hL;have kept:∀ b u,s.heap.get? b=some u->(sortedHeap (h1.push (seqObj "list" acc.toList.toArray 0)) h1.objs.size acc.toList out).get? b=some u:=fun b u q=>by
  have q1:=hk1 b u q;have hb:b<h1.objs.size:=aC q1;rw[sortedHeap_old (aU hb) (by rw[size_push']; exact bY hb)];exact af _ q1
 generalize sortedHeap (h1.push (seqObj "list" acc.toList.toArray 0)) h1.objs.size acc.toList out=hf at he kept ⊢;exact ah ⟨_,rfl,h hf tk h1.objs.size out.toList ns' e (dh hlt1) kept (by rw[cD]; exact he) a1 a2 a3⟩
end
def jTB (X:Cx)(f:Value)(ks:Am)(r:List V->List V->Hp->VK->Prop):Prop:=
 ∀ (kh:Ai) (s:Shared) (σ:St) (H:Hp) (xs zs:List V) (us ws:Al) (Q:VK),Inv X kh σ H s->Vals xs us->Vals zs ws->r xs zs H Q->
  wpAny (model X.prog X.w) X.A (call f us (ks.zip ws)) (EP X kh σ Q) X.xe s
def tCBK (r:List V->List V->Hp->VK->Prop)(t tk:TA):TE:=fun σ H Q=>t σ H fun vs H1=>tk σ H1 fun zs H2=>r vs zs H2 Q
structure JK (X:Cx)(kws:List Keyword)(t:TA):Prop where
 h:PK X kws t
variable {X:Cx}
section
variable {x:Str}{p pos kpos:Pos}{e:Expr}{es:List Expr}{kws:List Keyword}{t tk:TA}{te:TE}{nm:Option Str}{ks:Am}{id:String}{r:List V->List V->Hp->VK->Prop}
theorem jXJ:JK X [] tNil:=⟨jWG⟩
theorem jVA (ha:JE X e te)(hr:JK X kws t):JK X (⟨nm,e,kpos⟩::kws) (tCons te t):=⟨jU3 ha.h hr.h⟩
theorem jOO (hc:jTB X (.builtin id) ks r)(hg:Gl1 X x)(hm:X.mg x=none)(hv:bootBuiltins x=some (.builtin id))(ha:JA X (e::es) t)(hkw:JK X kws tk)(he:starEach (e::es) X.env=(false,eval e X.env)::starEach es X.env)
  (hn:x≠ "__name__" :=by decide) (hdb:(x==("__debug__" :Str))=false:=by decide) (hall:(backToKw pos (keywordEach kws X.env)).all (·.1.isSome)=true:=by rfl) (hks:(backToKw pos (keywordEach kws X.env)).filterMap (·.1)=ks:=by rfl)
  (hpl:(backTo pos (starEach es X.env)).any (·.1)=false:=by rfl) (hkn:(backToKw pos (keywordEach kws X.env)).any (·.1.isNone)=false:=by rfl):JE X (.Call (.Name x p) (e::es) kws pos) (tCBK r t tk):=by
 refine⟨fun kh s σ H Q I h=>?_⟩;refine cM (jEO I hg.a hm hv ?_ hn hdb);refine callWith_kw (kn (ha.h pos kh s σ H _ I h) fun us s1 ⟨vs,H1,I1,r1,q1⟩=>kn (hkw.h pos kh s1 σ H1 _ I1 q1) fun ws s2 ⟨zs,H2,I2,rz,q2⟩=>?_) (by rw[he]; rfl) (by rw[he]; exact hpl) hall hkn;rw[hks];exact hc kh s2 σ H2 vs zs us ws Q I2 r1 rz q2
theorem jH2 (hc:X.calm=true):jTB X (.builtin "sorted") [Str.ofString "reverse"] (fun xs zs H Q=>∃ (p:Addr) (kvs:List (Key×V)) (ks:Ag) (b:Bool),xs=[.ref p]/\zs=[.bl b]/\H p=some (.dK kvs)/\kvs.map (·.1)=ks.map Sum.inl/\ks.length<=sizeLine/\
  ∀ (l:Addr) (ns:Ag),H l=none->Ordered b ns->ns.Perm ks->Q (.ref l) (upd H l (.lst (ns.map V.int)))):=by
 intro kh s σ H xs zs us ws Q I r rz h;obtain⟨p,kvs,ks,b,rfl,rfl,hp,hk,hn,q⟩:=h;obtain⟨u,rfl,rx⟩:=r.one;obtain⟨v,rfl,ry⟩:=rz.one;cases rx;cases ry;obtain⟨z,lo,vs,rel,dd⟩:=dk_of I.hok hp;refine jHE (I.ok.hd hc) lo dd (by rw[<- rel.keys]; exact hk) hn fun hf tk l vs ns e hl kp he hi pm srt=>?_;have hz:(ns.map V.int).length<=sizeLine:=by rw[ab,pm.length_eq]; exact hn
 have I2:Inv X kh σ (upd H l (.lst (ns.map V.int))) { s with heap:=hf,toks:=tk} :=I.laid (t':=tk) kp hl ⟨hz,vs,e,jAE hi,he⟩;exact⟨.ref l,_,I2,rfl,q l ns (I.hok.fresh hl) srt pm⟩
end
theorem jT2 {o:Expr}{to:TE}{name:Str}{apos cpos:Pos}{T id:String}{r:V->List V->Hp->VK->Prop}(pa:PlainAttrs T)(slot:Slot T name id)(hty:typeOf (.builtin id)=pure (.type "method_descriptor"))(hm:MtR X id r)(ho:JE X o to)
  (hbase:attributeBase o name X.env (eval o X.env)=eval o X.env:=by rfl) (hline:(apos.endLine==cpos.line)=true:=by rfl):JE X (.Call (.Attribute o name apos) [] [] cpos) (tBM0 X.K T r to):=⟨jWO pa slot hty hm ho.h hbase hline⟩
def rBits:V->List V->Hp->VK->Prop:=fun x vs H Q=>∃ i,x= .int i/\vs=[]/\Q (.int (Builtin.Int.intBits i)) H
theorem jUY:MtR X "int.bit_length" rBits:=by
 intro kh s σ H x vs v us Q I rx rv h;obtain⟨i,rfl,rfl,q⟩:=h;obtain⟨t,rfl⟩:=rx;have hus:=rv.zero;subst hus;exact call_int_bit_length ⟨.int _,H,I.tok _,⟨_,rfl⟩,q⟩
theorem jON {i o:Expr}{ty td:TE}{pos:Pos}(hu:X.A.units+1<cLine)(hi:JE X i ty)(ho:JE X o td)(h1:behindInMarks .NotIn o=false):JT X (.Compare i [.NotIn] [o] pos) (tB (jMQ ty td)):=⟨jSS (jNC hu hi.h ho.h) h1⟩
def jW2 (i:Int)(b:Bool):TE:=fun _ H Q=>∀ p H',H' p=some (.dK [(.inl i, .bl b)])->Ext H H'->H p=none->Q (.ref p) H'
theorem jRL {i:Int}{b:Bool}{k1 k2:Nat}{p1 p2 pos:Pos} :JE X (.Dict [some (.Constant (.int i) k1 p1)] [.Constant (.bool b) k2 p2] pos) (jW2 i b):=
 ⟨fun kh s σ H Q I h=>jU9 (jQG je_int.h je_bl.h jU0) rfl rfl (by intro z; cases z) (by show 1<=15; decide) kh s σ H Q I fun p hp=>⟨j6,[(.inl i, .bl b)],rfl,by show 1<=15; decide,h p _ j6 (((Ext.refl H).new hp _).updNew hp _) hp⟩⟩
theorem jRZ {K:W.Frag}{tp:Bool}{l:Addr}{xs:List V}{g:TG}{tb:TS}{D:Ends}{σ:St}{H:Hp}(Pv:Nat->St->Hp->Prop)(h0:Pv 0 σ H)(hl:∀ i σ H,Pv i σ H->Sq tp K H l xs)
  (hs:∀ i x T σ H,xs[i]?=some x->H T=none->Pv i σ H->g (.ref T) σ (upd H T (.tup [.int (i:Int),x])) fun σ2 H2=>tb { D with nx:=Pv (i+1),ct:=Pv (i+1),bk:=D.nx} σ2 H2) (hd:∀ σ H,Pv xs.length σ H->D.nx σ H):
  ∃ W:Nat->Nat->St->Hp->Prop,(∃ m,W 0 m σ H)/\∀ i m σ H,W i m σ H->
   ((Ite tp K l).stop i H/\D.nx σ H)\/((Ite tp K l).go i H/\∃ N:St->Hp->Prop,(∀ σ' H',N σ' H'->∃ m',m'<m/\W (i+1) m' σ' H')/\∀ x H',(Ite tp K l).yld i H x H'->g x σ H' fun σ2 H2=>tb { D with nx:=N,ct:=N,bk:=D.nx} σ2 H2):=by
 refine⟨fun i m σ H=>m=xs.length - i/\i<=xs.length/\Pv i σ H,⟨_,rfl,bu _,h0⟩,?_⟩;rintro i m σ H ⟨rfl,hi,p⟩;have s1:=hl i σ H p;by_cases hlt:i<xs.length
 ·refine .inr ⟨⟨xs,xs[i],s1,by simp [hlt]⟩,Pv (i+1),fun σ' H' p'=>⟨xs.length - (i+1),Aa,rfl,hlt,p'⟩,fun v H'' y=>?_⟩;obtain⟨T,x,e1,e2,e3,e4⟩:=y;subst e2 e3;exact hs i x T σ _ (e4 xs s1) e1 p
 ·have e:i=xs.length:=Aa;subst e;exact .inl ⟨⟨xs,s1,ak _⟩,hd σ H p⟩
def All2 {α β:Type}(R:α->β->Prop):List α->List β->Prop
 | [],[]=>True
 | a::as,b::bs=>R a b/\All2 R as bs
 | _,_=>False
section
variable {α β:Type}{R S:α->β->Prop}
theorem All2.len:∀ {as:List α}{bs:List β},All2 R as bs->as.length=bs.length
 | [],[],_=>rfl
 | _::_,_::_,h=>bL (· +1) (All2.len h.2)
theorem All2.imp (f:∀ a b,R a b->S a b):∀ {as:List α}{bs:List β},All2 R as bs->All2 S as bs
 | [],[],_=>trivial
 | _::_,_::_,h=>⟨f _ _ h.1,All2.imp f h.2⟩
theorem All2.snoc {a:α}{b:β} :∀ {as:List α}{bs:List β},All2 R as bs->R a b->All2 R (as++[a]) (bs++[b])
 | [],[],_,h=>⟨h,trivial⟩
 | _::_,_::_,h,k=>⟨h.1,All2.snoc h.2 k⟩
theorem All2.get:∀ {as:List α}{bs:List β}{i:Nat}{b:β},All2 R as bs->bs[i]?=some b->∃ a,as[i]?=some a/\R a b
 | [],[],i,b,_,h=>by simp at h
 | a::_,_::_,0,b,h,e=>by
  simp at e;subst e;exact⟨a,rfl,h.1⟩
 | _::_,_::_,i+1,b,h,e=>by
  obtain⟨a,h1,h2⟩:=All2.get h.2 (i:=i) (b:=b) (by simpa using e);exact⟨a,by simpa using h1,h2⟩
theorem All2.get':∀ {as:List α}{bs:List β}{i:Nat}{a:α},All2 R as bs->as[i]?=some a->∃ b,bs[i]?=some b/\R a b
 | [],[],i,b,_,h=>by simp at h
 | a::_,b::_,0,x,h,e=>by
  simp at e;subst e;exact⟨b,rfl,h.1⟩
 | _::_,_::_,i+1,x,h,e=>by
  obtain⟨b,h1,h2⟩:=All2.get' h.2 (i:=i) (a:=x) (by simpa using e);exact⟨b,by simpa using h1,h2⟩
theorem All2.append:∀ {as as':List α}{bs bs':List β},All2 R as bs->All2 R as' bs'->All2 R (as++as') (bs++bs')
 | [],_,[],_,_,h=>h
 | _::_,_,_::_,_,h,k=>⟨h.1,All2.append h.2 k⟩
theorem All2.of_get {as:List α}{bs:List β}(hl:as.length=bs.length)(h:∀ (i:Nat) a b,as[i]?=some a->bs[i]?=some b->R a b):All2 R as bs:=by
 induction as generalizing bs with
 | nil=>cases bs with
  | nil=>trivial
  | cons b bs=>cases hl
 | cons a as ih=>cases bs with
  | nil=>cases hl
  | cons b bs=>exact⟨h 0 a b rfl rfl,ih (by simpa using hl) fun i a b h1 h2=>h (i+1) a b (by simpa using h1) (by simpa using h2)⟩
end
def lowN (m:Nat):Nat:=if m % 2=1 then lowN (m / 2)+1 else 0
theorem jEK {m:Nat}(h:m % 2=0):lowN m=0:=by
 unfold lowN;rw[am Aa]
theorem jGG {m:Nat}(h:m % 2=1):lowN m=lowN (m / 2)+1:=by
 rw[lowN,ao h]
theorem jVU (a b:Nat):a&&&b=2*((a / 2)&&&(b / 2))+(a % 2)*(b % 2):=by
 have h1:(a&&&b) / 2=(a / 2)&&&(b / 2):=Nat.and_div_two;have h2:(a&&&b) % 2=(a % 2)*(b % 2):=by
  have t:=db a b 0;rw[eX,eX,eX] at t;have t':((a&&&b) % 2=1)↔(a % 2=1/\b % 2=1):=by
   rw[<- gJ.trans (and_congr aW aW),<- t,aW]
  rcases cZ a with ha | ha <;> rcases cZ b with hb | hb <;> rw[ha,hb] at t' ⊢ <;> lia
 lia
theorem jV3 (m:Nat):(m+1) - ((m+1)&&&m)=2 ^ lowN m:=by
 induction m using strongRecOn with
 | _ m ih=>
  rw[jVU];rcases cZ m with h | h
  ·rw[jEK h,show (m+1) / 2=m / 2 by lia,Nat.and_self,h];lia
  ·have:=ih (m / 2) Aa;rw[jGG h,Nat.pow_succ,show (m+1) / 2=m / 2+1 by lia,show (m+1) % 2=0 by lia];lia
theorem jR9 (m:Nat):Builtin.Int.intBits (Builtin.bitAnd (Builtin.bitNot (m:Int)) ((m:Int)+1))=lowN m+1:=by
 have e:Builtin.bitAnd (Builtin.bitNot (m:Int)) ((m:Int)+1)=((2 ^ lowN m:Nat):Int):=by
  unfold Builtin.bitAnd;have h1:¬ (0<=Builtin.bitNot (m:Int)):=by unfold Builtin.bitNot; lia
  have h2:(0:Int)<=(m:Int)+1:=Aa;have h3:(Builtin.bitNot (Builtin.bitNot (m:Int))).toNat=m:=by unfold Builtin.bitNot; lia
  rw[aJ h1,aq h2];show ((m:Int)+1) - ((((m:Int)+1).toNat&&&(Builtin.bitNot (Builtin.bitNot (m:Int))).toNat:Nat):Int)=_;rw[h3,show ((m:Int)+1).toNat=m+1 by lia,<- jV3 m];have:(m+1)&&&m<=m+1:=Nat.and_le_left;lia
 rw[e];unfold Builtin.Int.intBits;have hp:0<2 ^ lowN m:=dB _;have h0:((((2 ^ lowN m:Nat):Int))==0)=false:=by
  rw[b7];lia
 rw[h0];simp [Nat.log2_two_pow]
theorem jEJ (m:Nat):m.testBit (lowN m)=false:=by
 induction m using strongRecOn with
 | _ m ih=>
  rcases cZ m with h | h
  ·rw[jEK h,eX,h];rfl
  ·rw[jGG h,Nat.testBit_succ];exact ih _ Aa
theorem jGF (m:Nat):∀ j,j<lowN m->m.testBit j=true:=by
 induction m using strongRecOn with
 | _ m ih=>
  intro j hj;rcases cZ m with h | h
  ·rw[jEK h] at hj;lia
  ·rw[jGG h] at hj;cases j with
   | zero=>rw[eX,h]; rfl
   | succ j=>
    rw[Nat.testBit_succ];exact ih _ Aa j Aa
theorem jSY {m t:Nat}(h1:m.testBit t=false)(h2:∀ j,j<t->m.testBit j=true):lowN m=t:=by
 rcases ie (lowN m) t with h | h | h
 ·have:=h2 _ h;rw[jEJ] at this;cases this
 ·exact h
 ·have:=jGF m t h;rw[h1] at this;cases this
theorem jP1 {m w:Nat}(h:m<2 ^ w)(a:∀ j,j<w->m.testBit j=true):m=2 ^ w - 1:=by
 apply dv;intro i;rw[cU];by_cases hi:i<w
 ·rw[a i hi,aq hi]
 ·rw[aJ hi];exact iS (bg h (cS Ac Aa))
theorem jCO {m w:Nat}(h:m<2 ^ w)(hn:m≠2 ^ w - 1):lowN m<w:=by
 refine cJ fun z=>hn (jP1 h fun j hj=>jGF m j Aa)
abbrev Ch:=List (List (Int×Nat))
def fullN (ch:Ch):Nat:=2 ^ ch.length - 1
def chAt (ch:Ch)(m:Nat):List (Int×Nat):=(ch.getD (lowN m) []).filter fun c=>c.2&&&m==0
structure ChOk (ch:Ch):Prop where
 w:ch.length<=16
 len:∀ (t:Nat) (cs:List (Int×Nat)),ch[t]?=some cs->cs.length<=33
 it:∀ (t:Nat) (cs:List (Int×Nat)),ch[t]?=some cs->∀ c∈cs,c.2.testBit t=true/\c.2<2 ^ ch.length/\ -1<=c.1/\c.1<32
theorem ChOk.mem {ch:Ch}{m:Nat}{c:Int×Nat}(o:ChOk ch)(h:m<2 ^ ch.length)(hn:m≠fullN ch)(hc:c∈chAt ch m):c.2.testBit (lowN m)=true/\c.2<2 ^ ch.length/\c.2&&&m=0/\ -1<=c.1/\c.1<32:=by
 obtain⟨h1,h2⟩:=aS.mp hc;have hl:=jCO h hn;rw[ag,aA hl] at h1;obtain⟨a,b,c1,c2⟩:=o.it _ _ (aA hl) c h1;exact⟨a,b,by simpa using h2,c1,c2⟩
theorem ChOk.up {ch:Ch}{m:Nat}{c:Int×Nat}(o:ChOk ch)(h:m<2 ^ ch.length)(hn:m≠fullN ch)(hc:c∈chAt ch m):m<m|||c.2/\m|||c.2<2 ^ ch.length:=by
 obtain⟨a,b,z,_⟩:=o.mem h hn hc;refine⟨?_,ik h b⟩;refine Nat.lt_of_le_of_ne Nat.left_le_or fun e=>?_;have t:m.testBit (lowN m)=(m|||c.2).testBit (lowN m):=bL (fun z=>z.testBit (lowN m)) e;rw[bQ,a,eW,jEJ] at t;cases t
def gvN {α:Type}(ch:Ch)(e:α)(J:List (Int×α)->α):Nat->Nat->α
 | 0,_=>e
 | n+1,m=>if m=fullN ch then e else J ((chAt ch m).map fun c=>(c.1,gvN ch e J n (m|||c.2)))
def gv {α:Type}(ch:Ch)(e:α)(J:List (Int×α)->α)(m:Nat):α:=gvN ch e J (fullN ch - m) m
theorem jVG {α:Type}{ch:Ch}{e:α}{J:List (Int×α)->α}(o:ChOk ch):∀ (k n m:Nat),fullN ch - m<=k->fullN ch - m<=n->m<2 ^ ch.length->gvN ch e J n m=gvN ch e J k m:=by
 intro k
 induction k with
 | zero=>
  intro n m h1 h2 h3;have:m=fullN ch:=by
   unfold fullN at h1 ⊢;lia
  subst this;cases n with
  | zero=>rfl
  | succ n=>show gvN ch e J (n+1) (fullN ch)=e; rw[gvN,ao rfl]
 | succ k ih=>
  intro n m h1 h2 h3;by_cases hm:m=fullN ch
  ·subst hm;cases n with
   | zero=>show e=gvN ch e J (k+1) (fullN ch); rw[gvN,ao rfl]
   | succ n=>
    have q:∀ i,gvN ch e J (i+1) (fullN ch)=e:=fun i=>by rw[gvN,ao rfl]
    rw[q,q]
  ·have hlt:m<fullN ch:=by
    unfold fullN at hm ⊢;lia
   cases n with
   | zero=>lia
   | succ n=>
    rw[gvN,am hm,gvN,am hm];congr 1;refine bF fun c hc=>?_;obtain⟨u1,u2⟩:=o.up h3 hm hc;rw[ih n (m|||c.2) Aa Aa u2]
theorem jVF {α:Type}{ch:Ch}{e:α}{J:List (Int×α)->α} :gv ch e J (fullN ch)=e:=by
 unfold gv;rw[gU,gvN]
theorem jVE {α:Type}{ch:Ch}{e:α}{J:List (Int×α)->α}{m:Nat}(o:ChOk ch)(h:m<2 ^ ch.length)(hn:m≠fullN ch):gv ch e J m=J ((chAt ch m).map fun c=>(c.1,gv ch e J (m|||c.2))):=by
 have hlt:m<fullN ch:=by
  unfold fullN at hn ⊢;lia
 have:gv ch e J m=gvN ch e J ((fullN ch - m - 1)+1) m:=by
  unfold gv;rw[show fullN ch - m - 1+1=fullN ch - m by lia]
 rw[this,gvN,am hn];congr 1;refine bF fun c hc=>?_;obtain⟨u1,u2⟩:=o.up h hn hc;unfold gv;rw[jVG o (fullN ch - (m|||c.2)) _ _ (ak _) Aa u2]
end L2
namespace L2
open PySem
variable {X:Cx}
section
variable {tg iter elt:Expr}{ifs:List Expr}{sc:Scope}{pos:Pos}{wi:TI}{g:TG}{tt:TT}{te:TE}{m:List (Option Nat)}{Nc:Am}
end
end L2
namespace L2
open PySem PySem.Spec PyProof.Rows
def ZC (cl:Aj)(fs:Am)(fv:List V):Shared->Hp->Prop:=fun s H=>ClOk cl s H/\FvOk fs fv cl s
theorem ZC.st (cl:Aj)(fs:Am)(fv:List V):ZSt (ZC cl fs fv):=by
 rintro fr s s' H H' u ⟨C,F1,F2⟩;have kc:∀ {x c v},cl.lookup x=some c->s.heap.IsCell c v->s'.heap.IsCell c v:=fun {x c v} hc ⟨o,ho,hd⟩=>by
  obtain⟨sl,e⟩:=u.any ho (C.cell x c hc).2 Ad;exact⟨_,e,hd⟩
 refine⟨⟨C.inj,fun x c hc=>?_⟩,F1,fun i x v h1 h2=>?_⟩
 ·obtain⟨⟨v,o,ho,hd⟩,n⟩:=C.cell x c hc;exact⟨⟨v,kc hc ⟨o,ho,hd⟩⟩,u.free c o ho n Ad⟩
 ·obtain⟨c,w,a1,a2,a3⟩:=F2 i x v h1 h2;exact⟨c,w,a1,a2,kc a1 a3⟩
theorem Callee.ofN {P:Program}{w:World}{K:W.Frag}{mg:Ak}{Aq:Heap}{k:Nat}{x q:Str}{args:Arguments}{body:List Stmt}{scope:Scope}{ps fs:Am}{sp:List V->Sp}{cl:Aj}{fv:List V}{a c:Addr}(F:FnN P w K mg Aq k x q args body scope ps fs sp):
  Callee P w K mg Aq (ZC cl fs fv) (fun H=>H a=some (.ext (nfP x q args body scope cl a c))/\H c=some (.ext (ncP q c))) k a (sp fv):=by
 refine⟨fun A Ap s H e z=>?_,fun A Ap s H us vs Q E hr e0 hz zh r hsp=>?_⟩
 ·obtain⟨⟨d,m,t,g⟩,_,_⟩:=(show ObjOk P w H s.heap a (.ext _) from e.hok a _ z.1);exact⟨_,_,_,_,g⟩
 ·obtain⟨p1,_,_⟩:=(show ObjOk P w H s.heap a (.ext _) from e0.hok a _ zh.1);obtain⟨p2,_,_⟩:=(show ObjOk P w H s.heap c (.ext _) from e0.hok c _ zh.2);exact F.run A Ap s H a c cl us vs fv Q E hr e0 p1 p2 hz.1 hz.2 r hsp
def jW4 {ι:Type}(G:ι->St->Prop)(sp:ι->Sp)(t:TA):TE:=fun σ H Q=>t σ H fun vs H1=>∃ i,G i σ/\sp i vs H1 Q E0
theorem jRP {ι:Type}{X:Cx}{Z:ι->Shared->Hp->Prop}{G:ι->St->Prop}{k:Nat}{f:Addr}{fd:FuncData}{ps:Am}{sp:ι->Sp}{x:Str}{p pos:Pos}{e:Expr}{es:List Expr}{t:TA}(F:∀ i,FnZ X.prog X.w X.K X.mg X.Aq CX0 (Z i) k f fd ps (sp i))(hr:Room k X.A)(hg:Gl1 X x)(hm:X.mg x=some (.ref f))(hk:keepIn X.K (.ref f)=true)(hb:Binds X.K fd ps [])
  (hZ:∀ i kh s σ H,Inv X kh σ H s->G i σ->Z i s H) (ha:JA X (e::es) t) (he:starEach (e::es) X.env=(false,eval e X.env)::starEach es X.env) (hdb:(x==("__debug__" :Str))=false:=by decide) (hpl:(backTo pos (starEach es X.env)).any (·.1)=false:=by rfl):
  JE X (.Call (.Name x p) (e::es) [] pos) (jW4 G sp t):=by
 refine⟨fun kh s σ H Q I h=>?_⟩;refine cM (jOC I hg.a hm ?_ hdb);refine jq (h₀:=X.Aq) I.ok.mod.kin hk (kn (ha.h pos kh s σ H _ I h) fun us s1 ⟨vs,H1,I1,r,i,gi,q⟩=>⟨I1.kIn,?_⟩) he hpl;have hl:(us++[]).length=ps.length:=by rw[ba,<- r.length]; exact(F i).len _ _ _ _ q
 have b:=hb s1 us I1.kIn hl;rw[ba] at b;refine iN (dO ((F i).run X.A X.stack s1 H1 ⟨us,[]⟩ us vs Q E0 hr I1.env0 b r (hZ i _ _ _ _ I1 gi) q) fun r s' hq=>?_);cases r with
 | error e=>exact hq.elim
 | ok fl=>
  cases fl with
  | ret u=>exact I1.after hq
  | next=>exact False.elim hq
  | brk=>exact False.elim hq
  | cont=>exact False.elim hq
theorem jRJ {P:Program}{w:World}{K:W.Frag}{mg:Ak}{Aq:Heap}{N:Am}{qual:Str}{sc:Scope}{f:Addr}{cd:Value}{cl:Aj}{A:Around}{Ap:List Env}{s:Shared}{H:Hp}{x y:Str}{p1 p2 pos:Pos}{k i j:Nat}(hN:N.Nodup)(hi:N[i]?=some x)(hj:N[j]?=some y)(hx:sc.names.lookup x=some .local)(hy:sc.names.lookup y=some .local):
  JG (cxN P w K mg Aq N qual sc f cd cl A Ap s H) (.Tuple [.Name x p1, .Name y p2] k pos) (gTup K 2 (gCons (kJ i) (gCons (kJ j) gNil))):=
 jKW (X:=cxN P w K mg Aq N qual sc f cd cl A Ap s H) rfl (jAD (jL hN hi (loc_n hx)) (jAD (jL hN hj (loc_n hy)) jGP jAW) jAW)
end L2
namespace TM
open PySem PySem.Spec PyProof.Rows PySem.W
open HT (lexLt jAI)
open L2 (All2)
theorem lex_irr:∀ x:Ag,lexLt x x=false
 | []=>rfl
 | a::x=>by rw[jAI,ao rfl]; exact lex_irr x
theorem jOA:∀ {x y z:Ag},lexLt x y=true->lexLt y z=true->lexLt x z=true
 | [],[],_,h,_=>by cases h
 | [],_::_,[],_,h=>by cases h
 | [],_::_,_::_,_,_=>rfl
 | _::_,[],_,h,_=>by cases h
 | _::_,_::_,[],_,h=>by cases h
 | a::x,b::y,c::z,h,k=>by
  rw[jAI] at h k ⊢;by_cases e1:a=b
  ·rw[ao e1] at h;by_cases e2:b=c
   ·rw[ao e2] at k;rw[ao (e1.trans e2)];exact jOA h k
   ·rw[am e2] at k;rw[am (e1 ▸ e2),e1];exact k
  ·rw[am e1] at h;have h:=aE h;by_cases e2:b=c
   ·rw[am (e2 ▸ e1),<- e2];exact aq h
   ·rw[am e2] at k;have k:=aE k;rw[am Aa];exact aq Aa
theorem lex_tot:∀ {x y:Ag},lexLt x y=false->lexLt y x=false->x=y
 | [],[],_,_=>rfl
 | [],_::_,h,_=>by cases h
 | _::_,[],_,h=>by cases h
 | a::x,b::y,h,k=>by
  rw[jAI] at h k;by_cases e:a=b
  ·rw[ao e] at h;rw[ao e.symm] at k;rw[e,lex_tot h k]
  ·rw[am e] at h;rw[am (fun z=>e z.symm)] at k;have:=fQ h;have:=fQ k;lia
def rk (ws:Af)(x:Ag):Int:=((ws.countP fun z=>lexLt z x:Nat):Int)
theorem jGZ {p q:Ag->Bool}(h:∀ z,p z=true->q z=true):∀ ws:Af,ws.countP p<=ws.countP q
 | []=>ak _
 | a::ws=>by
  have:=jGZ h ws;rw[cq,cq];have:=h a;cases hp:p a <;> cases hq:q a <;> simp_all <;> lia
theorem jL5 {p q:Ag->Bool}(h:∀ z,p z=true->q z=true){x:Ag}(hp:p x=false)(hq:q x=true):∀ {ws:Af},x∈ws->ws.countP p<ws.countP q
 | a::ws,hx=>by
  rw[cq,cq];rcases aG.mp hx with e | hx
  ·have:=jGZ h ws;rw[<- e,hp,hq];simp;lia
  ·have:=jL5 h hp hq hx;have:=h a;cases hpa:p a <;> cases hqa:q a <;> simp_all <;> lia
theorem rk_lt {ws:Af}{x y:Ag}(hx:x∈ws):decide (rk ws x<rk ws y)=lexLt x y:=by
 unfold rk;cases h:lexLt x y with
 | true=>
  have:=jL5 (p:=fun z=>lexLt z x) (q:=fun z=>lexLt z y) (fun z hz=>jOA hz h) (lex_irr x) h hx;exact aq Aa
 | false=>
  refine aJ ?_;by_cases k:lexLt y x=true
  ·have:=jGZ (p:=fun z=>lexLt z y) (q:=fun z=>lexLt z x) (fun z hz=>jOA hz k) ws;lia
  ·have:=lex_tot h (eL.mpr k);rw[this];lia
variable {prog:Program}{w:World}{A:Around}{E:Ah}{s:Shared}
section
variable {kd:SortKind}{f:Value->Ag}
abbrev odL (kd:SortKind)(f:Value->Ag)(ks:Al):Od:=⟨kd,fun p=>rk (ks.map f) (f p.1),fun p=>p.1∈ks⟩
theorem ltL {ks:Al}(hlt:∀ u∈ks,∀ v∈ks,∀ (Q:Bool->Shared->Prop) (E:Ah),Q (lexLt (f u) (f v)) s->wpAny (model prog w) A (keyLt' kd u v) Q E s): @LtOk prog w A s (odL kd f ks):= @LtOk.mk prog w A s (odL kd f ks) fun {E st x y Q} hk hx hy h=>by
 have e:decide (@key (odL kd f ks) x< @key (odL kd f ks) y)=lexLt (f x.1) (f y.1):=rk_lt (cx hx);rw[e] at h;rw[lt'_eq];refine aH (gF ?_);rw[show kindOf st=kd from hk];exact aH (g9 (fo (hlt x.1 hx y.1 hy _ _ ⟨rfl,aM h⟩)))
theorem jHL {vs:Al}{p:Keyed}(h:p∈(pairsOf vs).toList):p.1=p.2/\p.1∈vs:=by
 rw[pairsOf_toList] at h;exact mem_zip_self h
theorem allL {vs:Al} : @AllI (odL kd f vs) (pairsOf vs).toList:=fun p hp=>(jHL hp).2
theorem sto_out {vs:Al}{xs:Array Keyed}(p:xs.Perm (pairsOf vs))(h: @STo (odL kd f vs) xs (pairsOf vs).size):(xs.map (·.2)).toList.Perm vs/\(xs.map (·.2)).toList.Pairwise fun u v=>lexLt (f v) (f u)=false:=by
 have pl:=cY.mp p;have me:∀ q∈xs.toList,q.1=q.2/\q.1∈vs:=fun q hq=>jHL (pl.mem_iff.mp hq);have sz:xs.size=(pairsOf vs).size:=p.size_eq;rw[Array.toList_map];constructor
 ·have:=pl.map Prod.snd;rw[pairsOf_toList,List.map_snd_zip (ak _)] at this;exact this
 ·rw[bA,bV];intro i j hi hj hij;rw[aR] at hi hj;have k:=h i j (dh hij) Aa;have ei:xs[i]?=some xs[i]:=ke _ i hi;have ej:xs[j]?=some xs[j]:=ke _ j hj;have m1:=me xs[i] Ad;have m2:=me xs[j] Ad;rw[@yX (odL kd f vs) _ _ _ ei,@yX (odL kd f vs) _ _ _ ej] at k;have e:decide (@key (odL kd f vs) xs[j]< @key (odL kd f vs) xs[i])=lexLt (f xs[j].1) (f xs[i].1):=rk_lt (cx m2.2);rw[jh,jh,<- m1.1,<- m2.1,<- e];exact aJ Aa
end
def TupI (h:Heap)(v:Value)(l:Ag):Prop:=∃ a n its,v= .ref a/\h.get? a=some { cls:= .type "tuple",data:= .seq its n} /\IntsAre its.toList l
def decV (h:Heap):Value->Ag
 | .ref a=>match h.get? a with
  | some o=>match o.data with
   | .seq xs _=>xs.toList.map numOf
   | _=> []
  | none=> []
 | _=> []
theorem TupI.dec {h:Heap}{v:Value}{l:Ag}(t:TupI h v l):decV h v=l:=by
 obtain⟨a,n,its,rfl,ho,hi⟩:=t;dsimp only [decV];rw[ho];exact hi.nums
theorem jUJ {b:Bool}{x y:Int}{t u:Tok}{Q:Bool->Shared->Prop}(h:Q (decide (x<y)) s):wpAny (model prog w) A (oneLt' b (.int x t) (.int y u)) Q E s:=by
 cases b with
 | true=>exact oneLt_int h
 | false=>exact kat_one _ _ (HT.rcLt_int A s x t y u prog w E _ h)
theorem jT0 {b fin:Bool}{Q:Bool->Shared->Prop} :∀ {us:Al}{x:Ag}{vs:Al}{y:Ag}(i:Nat),IntsAre us x->IntsAre vs y->fin=decide (us.length<vs.length)->Q (lexLt x y) s->KatLex prog w A b fin Q (us.zip vs) i s
 | _,_,_,_,i, .nil, .nil,hf,h=>by rw[hf]; exact h
 | _,_,_,_,i, .nil, .cons _ _ _,hf,h=>by rw[hf]; exact h
 | _,_,_,_,i, .cons _ _ _, .nil,hf,h=>by rw[hf]; exact h
 | _,_,_,_,i, .cons (ns:=ns) a t h1, .cons (ns:=ms) c u h2,hf,h=>by
  rw[eC];refine kat_cons (gZ a t c u prog w _ _ ?_);rw[jAI] at h;by_cases e:a=c
  ·rw[ao e] at h;rw[show (a==c)=true by simp [e]];refine kat_yes (jT0 (i+1) h1 h2 ?_ h);rw[hf,aP,aP];exact decide_eq_decide.mpr Aa
  ·rw[am e] at h;rw[show (a==c)=false by simp [e]];exact kat_no (jUJ h)
theorem jO8 {b:Bool}{u v:Value}{x y:Ag}{Q:Bool->Shared->Prop}(hu:TupI s.heap u x)(hv:TupI s.heap v y)(h:Q (lexLt x y) s):wpAny (model prog w) A (keyLt' (tuples' b) u v) Q E s:=by
 obtain⟨a,n,its,rfl,ho,hi⟩:=hu;obtain⟨a2,n2,its2,rfl,ho2,hi2⟩:=hv;exact kat_lt ho rfl ho2 rfl (jT0 0 hi hi2 rfl h)
theorem jM4 (x y:Value):keyLt' general' x y=oneLt' false x y:=rfl
theorem jLU {u v:Value}{x y:Ag}{Q:Bool->Shared->Prop}(hu:TupI s.heap u x)(hv:TupI s.heap v y)(room:A.units<cLine)(h:Q (lexLt x y) s):wpAny (model prog w) A (keyLt' general' u v) Q E s:=by
 obtain⟨a,n,its,rfl,ho,hi⟩:=hu;obtain⟨a2,n2,its2,rfl,ho2,hi2⟩:=hv;rw[jM4];exact kat_one _ _ (HT.lt_tupInts (items:=its) (items2:=its2) ⟨_,ho,rfl,n,rfl⟩ ⟨_,ho2,rfl,n2,rfl⟩ hi hi2 room h)
theorem jLT {u v:Value}{x y:Ag}{Q:Bool->Shared->Prop}(hu:TupI s.heap u x)(hv:TupI s.heap v y)(room:A.units<cLine)(h:Q (lexLt x y) s):wpAny (model prog w) A (keyLt' oneType' u v) Q E s:=by
 obtain⟨a,n,its,rfl,ho,hi⟩:=hu;obtain⟨a2,n2,its2,rfl,ho2,hi2⟩:=hv;rw[keyLt'_oneType,oneLt'_eq];simp only [gc];refine ae (wpAny_cRoomFor room ?_);have hT:s.TypeIs (.ref a) "tuple" :=⟨_,ho,rfl⟩;refine ae (wpAny_callSpecialIfBound?_slot hT gx (gA gx hT iO (iG _ _) (HT.tuple_lt_ints a a2 its its2 n n2 _ _ _ _ x y hi hi2) ⟨ho,ho2,?_⟩));exact dw h
def FsOf:List (Ao)->Af->Prop:=All2 fun o l=>(o=none/\l=[])\/∃ n t r,o=some (Value.int n t)/\l=n::r
theorem jT6:∀ {vs:Al}{ws:Af},All2 (TupI s.heap) vs ws->∃ fs,FsOf fs ws/\∀ (Q:List (Ao)->Shared->Prop) (E:Ah),Q fs s->wpAny (model prog w) A (vs.mapM firstOfTuple') Q E s
 | [],[],_=>⟨[],trivial,fun Q E h=>by rw[List.mapM_nil]; exact ah h⟩
 | v::vs,l::ws,⟨⟨a,n,its,e,ho,hi⟩,r⟩=>by
  obtain⟨fs,h1,h2⟩:=jT6 r;refine⟨its[0]?::fs,⟨?_,h1⟩,fun Q E h=>?_⟩
  ·obtain⟨li⟩:=its;cases hi with
   | nil=>exact .inl ⟨rfl,rfl⟩
   | cons c t _=>exact .inr ⟨c,t,_,rfl,rfl⟩
  ·rw[List.mapM_cons,e];refine ae ?_;rw[kas_first_eq];refine ae (Looks.here (show Looks (model prog w) s.heap (typeOf (.ref a)) (.type "tuple") from(Looks.ld ho).andThen .now) ?_);rw[am (by first | decide | simp)];refine ae (listItems_at ho rfl (ah ?_));exact ae (h2 _ _ (ah h))
theorem jP2:∀ {fs:List (Ao)}{ws:Af},FsOf fs ws->fs.all (·.isSome)=ws.all fun x=>!x.isEmpty
 | [],[],_=>rfl
 | o::fs,l::ws,⟨h,r⟩=>by
  rw[eG,eG,jP2 r];rcases h with ⟨rfl,rfl⟩ | ⟨n,t,r,rfl,rfl⟩ <;> rfl
theorem jJA:∀ {fs:List (Ao)}{ws:Af},FsOf fs ws->∀ v∈fs.filterMap id,∃ n t,v=Value.int n t
 | [],[],_,v,h=>by cases h
 | o::fs,l::ws,⟨h,r⟩,v,hv=>by
  rcases h with ⟨rfl,rfl⟩ | ⟨n,t,r',rfl,rfl⟩
  ·exact jJA r v (by simpa using hv)
  ·rw[dW] at hv;rcases aG.mp hv with e | hv
   ·exact⟨n,t,e⟩
   ·exact jJA r v hv
def kdOf (ws:Af):SortKind:=if (ws.all fun x=>!x.isEmpty)=true then tuples' true else if (ws.headD []).isEmpty=true then oneType' else general'
theorem jKF {T:Value}{vs:Al}(ne:vs≠ [])(hT:∀ v∈vs,Looks (model prog w) s.heap (typeOf v) T)(hT2:(T==T)=true){Q:Ao->Shared->Prop}(h:Q (some T) s):wpAny (model prog w) A (oneTypeOnly' vs.toArray) Q E s:=by
 obtain⟨v,r,rfl⟩:=eR ne;rw[oneTypeOnly'_eq,List.mapM_toArray,map_eq_pure_bind];refine ae (ae (kas_mapM (r:=T) _ (fun v hv Q' hq=>(hT v hv).here hq) (ah ?_)));have hall2:((List.map (fun _=>T) (v::r)).toArray.all fun x=>x==T)=true:=by
  simp only [List.all_toArray,gj,bC];intro _ _;exact hT2
 have h0:(List.map (fun _=>T) (v::r)).toArray[0]?=some T:=Ad;rw[h0];simp only [hall2,gc];exact ah h
theorem jQ8 {v:Value}{l:Ag}(h:TupI s.heap v l):Looks (model prog w) s.heap (typeOf v) (.type "tuple"):=by
 obtain⟨a,n,its,rfl,ho,_⟩:=h;exact(Looks.ld ho).andThen .now
theorem jV6 {vs:Al}{ws:Af}{Q:SortKind->Shared->Prop}(t:All2 (TupI s.heap) vs ws)(h2:vs≠ [])(h:Q (kdOf ws) s):wpAny (model prog w) A (keyKind' vs.toArray) Q E s:=by
 obtain⟨fs,f1,f2⟩:=jT6 (prog:=prog) (w:=w) (A:=A) t;rw[kat_kind_eq,List.mapM_toArray,map_eq_pure_bind];refine ae (ae (f2 _ _ (ah ?_)));have e:=jP2 f1;have ha:(fs.toArray.all fun x=>x.isSome)=fs.all (·.isSome):=Ad;unfold kdOf at h;rw[ha,e];cases hc:(ws.all fun x=>!x.isEmpty) with
 | true=>
  rw[hc,ao rfl] at h;rw[ao rfl];refine ae (df ?_);have hf:(fs.toArray.filterMap id)=(fs.filterMap id).toArray:=Ad;rw[hf];have ne:fs.filterMap id≠ []:=by
   intro z;obtain⟨v,vs',rfl⟩:=eR h2;cases ws with
   | nil=>exact t.elim
   | cons l ws=>
    cases fs with
    | nil=>exact f1.elim
    | cons o fs=>
     rcases f1.1 with ⟨_,q⟩ | ⟨n,t',r,q,_⟩
     ·rw[q] at hc; simp at hc
     ·rw[q,dW] at z; cases z
  refine ae (jKF (T:= .type "int") ne (fun v hv=>?_) rfl (ah ?_))
  ·obtain⟨n,t',e⟩:=jJA f1 v hv;rw[e];exact .now
  ·exact h
 | false=>
  rw[hc,am aj] at h;rw[am aj];obtain⟨v,vs',rfl⟩:=eR h2;cases ws with
  | nil=>exact t.elim
  | cons l ws=>
   cases fs with
   | nil=>exact f1.elim
   | cons o fs=>
    have h0:(o::fs).toArray[0]?=some o:=Ad;rw[h0];rcases f1.1 with ⟨q,q2⟩ | ⟨n,t',r,q,q2⟩
    ·rw[q2] at h;rw[q,am Ad];refine ae (jKF (T:= .type "tuple") h2 (fun u hu=>?_) rfl (ah h));obtain⟨i,hi⟩:=bN hu;obtain⟨l',_,hl⟩:=t.get' hi;exact jQ8 hl
    ·rw[q2] at h;rw[q,ao Ad];exact ah h
theorem lt_kd {ws:Af}{u v:Value}{x y:Ag}{Q:Bool->Shared->Prop}(hu:TupI s.heap u x)(hv:TupI s.heap v y)(room:A.units<cLine)(h:Q (lexLt x y) s):wpAny (model prog w) A (keyLt' (kdOf ws) u v) Q E s:=by
 unfold kdOf;split
 ·exact jO8 hu hv h
 ·split
  ·exact jLT hu hv room h
  ·exact jLU hu hv room h
theorem askT {f:Value->Ag}{a:Addr}{vs:Al}{ws:Af}(t:All2 (TupI s.heap) vs ws)(hf:∀ v l,v∈vs->TupI s.heap v l->f v=l)(na:∀ v∈vs,v≠ .ref a)(room:A.units<cLine)(h2:2<=vs.length): @AskOk (odL (kdOf ws) f vs) prog w A s a vs:=fun h6 k6=>by
 have keep:∀ v l,v∈vs->TupI s.heap v l->TupI h6 v l:=fun v l hv ⟨c,n,its,e,ho,hi⟩=>⟨c,n,its,e,k6 _ _ ho fun z=>na v hv (by rw[e,z]),hi⟩;have t6:All2 (TupI h6) vs ws:=by
  have go:∀ {us:Al}{ls:Af},(∀ v∈us,v∈vs)->All2 (TupI s.heap) us ls->All2 (TupI h6) us ls:=by
   intro us
   induction us with
   | nil=>intro ls _ h; cases ls with
    | nil=>trivial
    | cons _ _=>exact h.elim
   | cons u us ih=>intro ls hm h; cases ls with
    | nil=>exact h.elim
    | cons l ls=>exact⟨keep u l (hm u (az ..)) h.1,ih (fun v hv=>hm v (aB _ hv)) h.2⟩
  exact go (fun v hv=>hv) t
 have ne:vs≠ []:=fun z=>by rw[z] at h2; exact absurd h2 Ac
 refine⟨fun Q E h=>jV6 (s:= { s with heap:=h6}) t6 ne h,ltL fun u hu v hv Q E h=>?_⟩;obtain⟨i,hi⟩:=bN hu;obtain⟨j,hj⟩:=bN hv;obtain⟨x,_,hx⟩:=t.get' hi;obtain⟨y,_,hy⟩:=t.get' hj;rw[hf u x hu hx,hf v y hv hy] at h;exact lt_kd (s:= { s with heap:=h6}) (keep _ _ hu hx) (keep _ _ hv hy) room h
theorem sorted_gen [Od]{l:Addr}{vs:Al}{Q:Ah}(hl:s.heap.IsList l vs.toArray)(hz:vs.length<=sizeLine)(hI:AllI (pairsOf vs).toList)
  (hk:2<=vs.length->∀ (h5:Heap) (a:Addr),(∀ c o,s.heap.get? c=some o->h5.get? c=some o)->s.heap.objs.size<=a->AskOk prog w A.in1.in1 { s with heap:=h5} a vs)
  (h:∀ xs:Array Keyed,xs.Perm (pairsOf vs)->STo xs (pairsOf vs).size->Q (.ref (s.heap.objs.size+1)) { s with heap:=sortedAll s.heap vs (xs.map (·.2))}):
  wpAny (model prog w) A (call (.builtin "sorted") [.ref l]) Q E s:=by
 refine fb kind_sorted plain_sorted entry_sorted (args_sorted1 _) ?_;unfold Builtin.«sorted»;refine ae (m:=checkCount "sorted" 1 1 _) (ah ?_);refine ae (collect_list hl ?_ hz);refine ae (fq ?_ hz);have hsz:((s.heap.push (seqObj "list" #[] 0)).update s.heap.objs.size (Obj.mapSeq (· ++vs.toArray))).objs.size=s.heap.objs.size+1:=by
  rw[Heap.size_update,size_push']
 have hoL:(((s.heap.push (seqObj "list" #[] 0)).update s.heap.objs.size (Obj.mapSeq (· ++vs.toArray))).push (seqObj "list" vs.toArray 0)).get? (s.heap.objs.size+1)=some (seqObj "list" vs.toArray 0):=by
  rw[<- hsz]; exact ax _ rfl
 have k5:∀ c o,s.heap.get? c=some o->(((s.heap.push (seqObj "list" #[] 0)).update s.heap.objs.size (Obj.mapSeq (· ++vs.toArray))).push (seqObj "list" vs.toArray 0)).get? c=some o:=fun c o q=>by
  refine af _ ?_;rw[cW _ _ (di (aC q))];exact af _ q
 show wpAny _ _ _ _ _ { s with heap:=((s.heap.push (seqObj "list" #[] 0)).update s.heap.objs.size (Obj.mapSeq (· ++vs.toArray))).push (seqObj "list" vs.toArray 0)};rw[hsz];refine ae (bS (cn g5 ⟨_,hoL,rfl⟩ gM (by
  rw[jN9];exact jK1 hoL hz hI (fun h2=>hk h2 _ _ k5 (dE _)) fun xs p1 p2=>⟨_,rfl,ah ⟨_,rfl,h xs p1 p2⟩⟩) (args_list_sort _)))
end TM
namespace L2
open PySem PySem.Spec PyProof.Rows
section
variable {X:Cx}
def TsOf (H:Hp)(us:List V)(ws:Af):Prop:=All2 (fun v x=>∃ a,v=V.ref a/\H a=some (.tup (x.map V.int))) us ws
theorem TsOf.tups {kh:Ai}{σ:St}{H:Hp}{s:Shared}(I:Inv X kh σ H s):∀ {us:List V}{its:Al}{ws:Af},Vals us its->TsOf H us ws->All2 (TM.TupI s.heap) its ws
 | [],_,[], .nil,_=>trivial
 | _::_,_,_::_, .cons r rs,⟨⟨a,e,h⟩,t⟩=>by
  subst e;cases r;obtain⟨_,its,r2,n,ho⟩:=(show ObjOk X.prog X.w H s.heap a (.tup _) from I.hok a _ h);exact⟨⟨a,n,its.toArray,rfl,ho,jM1 r2⟩,TsOf.tups I rs t⟩
def refV:Value->V
 | .ref a=> .ref a
 | _=> .non
theorem jJQ {h:Heap} :∀ {its:Al}{ws:Af},All2 (TM.TupI h) its ws->its.map (TM.decV h)=ws
 | [],[],_=>rfl
 | _::_,_::_,⟨t,r⟩=>by rw[bv,t.dec,jJQ r]
theorem ts_at {H:Hp}{us:List V}{its:Al}{ws:Af}{h:Heap}(r:Vals us its)(t:TsOf H us ws)(d:All2 (TM.TupI h) its ws){v:Value}(hv:v∈its):∃ a,v= .ref a/\H a=some (.tup ((TM.decV h v).map V.int)):=by
 induction r generalizing ws with
 | nil=>cases hv
 | cons q rs ih=>
  cases ws with
  | nil=>exact t.elim
  | cons l ws=>
   obtain⟨⟨a,e,ha⟩,t⟩:=t;rcases aG.mp hv with z | hv
   ·subst e;cases q;rw[z,d.1.dec];exact⟨a,rfl,ha⟩
   ·exact ih t d.2 hv
theorem jW1 {H:Hp}{h:Heap}{out:Al} :(∀ v∈out,∃ a,v= .ref a/\H a=some (.tup ((TM.decV h v).map V.int)))->Vals (out.map refV) out/\TsOf H (out.map refV) (out.map (TM.decV h)):=by
 induction out with
 | nil=>exact fun _=>⟨.nil,trivial⟩
 | cons v out ih=>
  intro k;obtain⟨a,rfl,ha⟩:=k v (az ..);obtain⟨i1,i2⟩:=ih fun u hu=>k u (aB _ hu);exact⟨.cons rfl i1,⟨a,rfl,ha⟩,i2⟩
theorem jAG (hu:X.A.units+101<cLine):yJ X (.builtin "sorted") (fun xs H Q=>∃ (p:Addr) (us:List V) (ws:Af),xs=[.ref p]/\SqL X.K H p us/\TsOf H us ws/\
  ∀ (l:Addr) (us':List V) (ws':Af),H l=none->TsOf H us' ws'->ws'.Perm ws->ws'.Pairwise (fun x y=>HT.lexLt y x=false)->Q (.ref l) (upd H l (.lst us'))):=by
 intro kh s σ H xs us Q I r h;obtain⟨p,us,ws,rfl,hp,ht,q⟩:=h;obtain⟨u,rfl,rx⟩:=r.one;cases rx;obtain⟨its,r',pl,hz⟩:=I.list hp;have hlen:=r'.length;have d:=TsOf.tups I r' ht;have hat:=fun v (hv:v∈its)=>ts_at r' ht d hv;refine @TM.sorted_gen _ _ _ _ _ (TM.odL (TM.kdOf ws) (TM.decV s.heap) its) _ _ _ pl.isList Aa TM.allL (fun h2 h5 a k5 ha=>?_) fun out p1 p2=>?_
 ·have keep:∀ {vs:Al}{ls:Af},All2 (TM.TupI s.heap) vs ls->All2 (TM.TupI h5) vs ls:=fun h=>All2.imp (fun v l ⟨c,n,its,e,ho,hi⟩=>⟨c,n,its,e,k5 _ _ ho,hi⟩) h;refine TM.askT (s:= { s with heap:=h5}) (keep d) (fun v l hv t=>?_) (fun v hv e=>?_) (by rw[eh,eh]; lia) h2
  ·obtain⟨i,hi⟩:=bN hv;obtain⟨l',hl',t'⟩:=d.get' hi;obtain⟨l2,hl2,t2⟩:=(keep d).get' hi;rw[hl'] at hl2;cases hl2;rw[t'.dec,<- t2.dec];exact t.dec
  ·obtain⟨c,e2,hc⟩:=hat v hv;obtain⟨_,its2,_,n,ho⟩:=(show ObjOk X.prog X.w H s.heap c (.tup _) from I.hok c _ hc);rw[e2] at e;cases e;exact absurd (aC ho) (Nat.not_lt.mpr ha)
 ·obtain⟨o1,o2⟩:=TM.sto_out p1 p2;obtain⟨v1,v2⟩:=jW1 (H:=H) (h:=s.heap) (out:=(out.map (·.2)).toList) fun v hv=>hat v (o1.mem_iff.mp hv);obtain⟨e,he⟩:=sortedAll_at s.heap its (out.map (·.2));have hz2:((out.map (·.2)).toList.map refV).length<=sizeLine:=by
   rw[ab,o1.length_eq];lia
  have I2:Inv X kh σ (upd H (s.heap.objs.size+1) (.lst ((out.map (·.2)).toList.map refV))) { s with heap:=sortedAll s.heap its (out.map (·.2))} :=I.laid (t':=s.toks) (fun b o e=>sortedAll_old e) (dE _) ⟨hz2,(out.map (·.2)).toList,e,v1,by rw[cD]; exact he⟩;refine⟨.ref _,_,I2,rfl,q _ _ ((out.map (·.2)).toList.map (TM.decV s.heap)) (I.hok.fresh (dE _)) v2 ?_ ?_⟩
  ·rw[<- jJQ d];exact o1.map _
  ·exact bA.mpr o2
theorem jGK:∀ {x y:Af},x.Perm y->x.Pairwise (fun a b=>HT.lexLt b a=false)->y.Pairwise (fun a b=>HT.lexLt b a=false)->x=y
 | [],y,p,_,_=>(List.nil_perm.mp p).symm
 | a::x,[],p,_,_=>absurd (List.perm_nil.mp p) Ad
 | a::x,b::y,p,h,k=>by
  obtain⟨h1,h2⟩:=cB.mp h;obtain⟨k1,k2⟩:=cB.mp k;have e:a=b:=by
   refine TM.lex_tot ?_ ?_
   ·rcases aG.mp (p.mem_iff.mp (az ..)) with z | z
    ·rw[z]; exact TM.lex_irr b
    ·exact k1 a z
   ·rcases aG.mp (p.mem_iff.mpr (az ..)) with z | z
    ·rw[z]; exact TM.lex_irr a
    ·exact h1 b z
  subst e;rw[jGK (List.perm_cons a |>.mp p) h2 k2]
end
end L2
section
open PySem L2
variable {P:Program}{w:World}{K:W.Frag}{mg:Ak}{Aq:Heap}{f fT fL fW fR fG fI fC fP fB c0 tb fK fM fU fS fF fA a c tb1 tb2 tb3:Addr}{fdT fdL fdW fdR fdG fdI fdC fdP fdB fdK fdM fdU fdS fdF fdA:FuncData}{ki cd:Value}{A:Around}{Ap:List Env}{s:Shared}{H0:Hp}{E:XK}{cl:Aj}{ms tk:Ag}{Ar:Ae}
namespace Eo
open PySem L2
def Keep (H H':Hp)(p:Addr):Prop:=∀ b o,H b=some o->b≠p->H' b=some o
structure Txt (mg:Ak):Prop where
 len:mg "len" =none
 range:mg "range" =none
 tuple:mg "tuple" =none
 sorted:mg "sorted" =none
 set:mg "set" =none
 list:mg "list" =none
 int:mg "int" =none
 isinstance:mg "isinstance" =none
 bool:mg "bool" =none
 str:mg "str" =none
 all:mg "all" =none
 zip:mg "zip" =none
 max:mg "max" =none
 min:mg "min" =none
 any:mg "any" =none
 abs:mg "abs" =none
 sum:mg "sum" =none
 enumerate:mg "enumerate" =none
 dict:mg "dict" =none
structure Can (P:Program)(w:World)(K:W.Frag)(mg:Ak)(Aq:Heap)(x:Str)(k:Nat)(f:Addr)(fd:FuncData)(ps:Am)(sp:Sp):Prop where
 G:FnOk P w K mg Aq CX0 k f fd ps sp
 m:mg x=some (.ref f)
 kp:keepIn K (.ref f)=true
 b:Binds K fd ps []
theorem Can.pe {X:Cx}{x:Str}{k:Nat}{f:Addr}{fd:FuncData}{ps:Am}{sp:Sp}{e:Expr}{es:List Expr}{t:TA}{p pos:Pos}(C:Can X.prog X.w X.K X.mg X.Aq x k f fd ps sp)(hr:Room k X.A)(hg:Gl X x)(ha:PA X (e::es) t)(hdb:(x==("__debug__" :Str))=false:=by decide)
  (he:starEach (e::es) X.env=(false,eval e X.env)::starEach es X.env:=by rfl) (hpl:(backTo pos (starEach es X.env)).any (·.1)=false:=by rfl):PE X (.Call (.Name x p) (e::es) [] pos) (tCall sp [] E0 t):=
 jUE C.G hr hg C.m C.kp C.b .nil pass0 ha hdb he hpl
theorem Can.je {X:Cx}{x:Str}{k:Nat}{f:Addr}{fd:FuncData}{ps:Am}{sp:Sp}{e:Expr}{es:List Expr}{t:TA}{p pos:Pos}(C:Can X.prog X.w X.K X.mg X.Aq x k f fd ps sp)(hr:Room k X.A)(hg:Gl1 X x)(ha:JA X (e::es) t)(he:starEach (e::es) X.env=(false,eval e X.env)::starEach es X.env)
  (hdb:(x==("__debug__" :Str))=false:=by decide) (hpl:(backTo pos (starEach es X.env)).any (·.1)=false:=by rfl):JE X (.Call (.Name x p) (e::es) [] pos) (tCall sp [] E0 t):=
 ⟨C.pe hr hg.a ha.h hdb he hpl⟩
def jK0 (K:W.Frag):Sp:=fun vs H Q _=>∃ (a:Addr) (ns:Ag) (k:Int),vs=[.ref a, .int k]/\SqL K H a (ns.map V.int)/\0<=k/\∀ c:Int,Q (.int c) H
theorem jW8:FnScope ["script","k"] ["script","k"] (j8 sCell):= {}
theorem jUU {f:Addr}{fd:FuncData}(F:Fun K "_law_cell_at" "_law_cell_at" sCell f fd)(T:Txt mg):FnOk P w K mg Aq CX0 1 f fd ["script","k"] (jK0 K):=by
 refine F.ok jW8 (fun vs H Q E h=>?_) (fun ki A Ap s H vs Q E hr h=>?_)
 ·obtain⟨a,ns,k,rfl,_⟩:=h;rfl
 ·obtain⟨a,ns,k,rfl,hS,h0,q⟩:=h;refine⟨_,y9 (ps_if (jE8 op_lt (pv 1) (jG8 jW (by rfl) T.len PySem.boot_len (kO (pv 0) yS)) (jV _)) (jB4 (jDP (pe_ix jBL (pv 0) (pv 1) (fun _ _=>rfl)))) jG5) (jB4 (jDP jX)),?_⟩;refine⟨_,rfl,_,rfl,a,_,rfl, .inl hS,_,_,rfl,rfl,_,rfl,?_⟩;refine ite2 (fun hlt=>?_) (fun _=>?_)
  ·have hlt:k<((ns.map V.int).length:Int):=aE hlt;have hk:k.toNat<ns.length:=by rw[ab] at hlt; lia
   refine⟨_,rfl,_,rfl,a,_,k, .int (ns[k.toNat]),rfl,rfl,hS,?_,q _⟩;have e:(k.toNat:Int)=k:=Aa;have q2:=yQ (xs:=ns.map V.int) (j:=k.toNat) (v:=V.int ns[k.toNat]) (by simp [hk]);rw[e] at q2;exact q2
  ·exact q 0
def yW:Sp:=fun vs H Q _=>∃ (p:Addr) (N w:Int),vs=[.ref p, .int w]/\H p=some (.lst [.int N])/\0<=N/\0<w/\w<2 ^ 64/\∀ N' r:Int,0<=N'->0<=r->r<w->Q (.int r) (upd H p (.lst [.int N']))
theorem scTake:FnScope ["pot","wide","found"] ["pot","wide"] (j8 sTake):= {}
theorem jUL {f:Addr}{fd:FuncData}(F:Fun K "_law_take" "_law_take" sTake f fd):FnOk P w K mg Aq CX0 1 f fd ["pot","wide"] yW:=by
 refine F.ok scTake (fun vs H Q E h=>?_) (fun ki A Ap s H vs Q E hr h=>?_)
 ·obtain⟨a,ns,k,rfl,_⟩:=h;rfl
 ·obtain⟨p,N,w,rfl,hp,h0,h1,h2,q⟩:=h;refine⟨_,y9 (qO (i:=2) scTake.nd rfl (Or.inl rfl) (kX jHO (pe_ix jBL (pv 0) jX (fun _ _=>rfl)) (pv 1)))
   (y9 (jSU (kX jKD (pe_ix jBL (pv 0) jX (fun _ _=>rfl)) (pv 1)) (jWJ (pv 0) jX jQB))
   (jB4 (jDP (pv 2)))),?_⟩
  refine⟨_,rfl,p,_,0, .int N,rfl,rfl,SqL.of hp,rfl,_,rfl,_,_,rfl,rfl,h1,?_⟩;refine⟨_,rfl,p,_,0, .int N,rfl,rfl,SqL.of hp,rfl,_,rfl,_,_,rfl,rfl,⟨h1,h2⟩,?_⟩;refine⟨_,rfl,p,_,0,0,rfl,rfl,hp,rfl,_,rfl,?_⟩;exact q _ _ (Int.ediv_nonneg h0 Aa) (Int.emod_nonneg _ Aa) (jx _ h1)
def spPot:Sp:=fun vs H Q _=>∃ c:Int,vs=[.int c]/\∀ (p:Addr) (N:Int),H p=none->0<=N->Q (.ref p) (upd H p (.lst [.int N]))
theorem scPot:FnScope ["cell","number","j","more"] ["cell"] (j8 sPot):= {}
theorem jWW {f:Addr}{fd:FuncData}(F:Fun K "_law_pot" "_law_pot" sPot f fd)(T:Txt mg):FnOk P w K mg Aq CX0 1 f fd ["cell"] spPot:=by
 refine F.ok scPot (fun vs H Q E h=>?_) (fun ki A Ap s H vs Q E hr h=>?_)
 ·obtain⟨c,rfl,_⟩:=h;rfl
 ·obtain⟨c,rfl,q⟩:=h;have one: [V.int 0].length<=sizeLine:=by show 1<=sizeLine; decide
  refine⟨_,y9 (ps_if (jE8 op_ge (pv 0) (kX jNE jX jX) (jV _)) (jB4 (jDP (jKA (kO (kX jEB (pv 0) (kX jNE jX jX)) yS)))) jG5)
   (y9 (qO (i:=1) scPot.nd rfl (Or.inl rfl) jX)
   (y9 (jST bX rfl (jCK rfl T.range (kO jX yS)) (jG7 (i:=2) scPot.nd rfl (Or.inl rfl))
    (y9 (qO (i:=3) scPot.nd rfl (Or.inl rfl) (kX jHO (kX jDR (kX yF (kX yF (kX jHO (pv 0) jX) (kX jDR jX (pv 2))) jX) jX) jX))
    (y9 (qO (i:=3) scPot.nd rfl (Or.inl rfl) (kX jHO (kX yF (kX yF (kX jDR (pv 3) (pv 3)) (kX jDR jX (pv 2))) jX) jX))
    (jB4 (qO (i:=1) scPot.nd rfl (Or.inl rfl) (kX yF (kX jDR (pv 1) jX) (pv 3)))))))
   (jB4 (jDP (jKA (kO (pv 1) yS)))))),?_⟩
  refine⟨_,rfl,_,_,rfl,rfl,⟨Ac,Ac,Ac⟩,_,_,rfl,rfl,_,rfl,?_⟩;refine ite2 (fun hge=>?_) (fun _=>?_)
  ·refine⟨_,rfl,_,_,rfl,rfl,⟨Ac,Ac,Ac⟩,_,_,rfl,rfl,one,fun p hp=>q p _ hp ?_⟩;exact Int.sub_nonneg_of_le (aE hge)
  ·refine⟨64,rfl,Ac,Ac,jCS (n:=64) (fun i σ H2=>∃ (num:Int) (v1 v2:Option V),σ=[some (.int c),some (.int num),v1,v2]/\0<=num/\H2=H) ⟨0,none,none,rfl,cQ _,rfl⟩ ?_ ?_⟩
   ·rintro i σ H2 hi ⟨num,v1,v2,rfl,hn,rfl⟩;refine⟨_,rfl,_,_,rfl,rfl,(by show (0:Int)<2147483629; decide),_,rfl,_,_,rfl,rfl, .inl ⟨Ac,Ac⟩,_,_,rfl,rfl,_,_,rfl,rfl,_,_,rfl,rfl, .inr ⟨Ac,Ac⟩,_,_,rfl,rfl,(by show (0:Int)<2147483647; decide),?_⟩;refine⟨_,rfl,_,rfl,_,_,rfl,rfl, .inl ⟨?_,?_⟩,_,rfl,_,_,rfl,rfl, .inl ⟨Ac,Ac⟩,_,_,rfl,rfl,_,_,rfl,rfl,_,_,rfl,rfl,(by show (0:Int)<2147483587; decide),?_⟩
    ·lia
    ·lia
    ·refine⟨_,rfl,_,_,rfl,rfl, .inr ⟨Ac,Ac⟩,_,rfl,_,_,rfl,rfl,?_⟩;refine⟨_,_,_,rfl,?_,rfl⟩;lia
   ·rintro σ H2 ⟨num,v1,v2,rfl,hn,rfl⟩;exact⟨_,rfl,one,fun p hp=>q p num hp hn⟩
theorem jBB {H:Hp}{a:Addr}{o o':HO} :upd (upd H a o) a o'=upd H a o':=by
 funext b;unfold upd;by_cases h:b=a
 ·rw[ao h,ao h]
 ·rw[am h,am h,am h]
theorem yK {H:Hp}{a b:Addr}{o:HO}(h:upd H a o b=none):b≠a/\H b=none:=by
 have h1:b≠a:=fun e=>by rw[e,j6] at h; cases h
 exact⟨h1,by rw[jA h1] at h; exact h⟩
theorem Keep.refl (H:Hp)(p:Addr):Keep H H p:=fun _ _ h _=>h
theorem Keep.trans {H H1 H2:Hp}{p:Addr}(a:Keep H H1 p)(b:Keep H1 H2 p):Keep H H2 p:=fun c o h n=>b c o (a c o h n) n
theorem Keep.upd {H H1:Hp}{p:Addr}(a:Keep H H1 p)(o:HO):Keep H (upd H1 p o) p:=fun c u h n=>by rw[jA n]; exact a c u h n
theorem Keep.new {H H1:Hp}{p l:Addr}(a:Keep H H1 p)(hl:H1 l=none)(o:HO):Keep H (L2.upd H1 l o) p:=fun c u h n=>by
 have:=a c u h n;rw[jA (jB this hl)];exact this
theorem pw {w:Int}(h1:1<=w)(h2:w<=16):(2:Int)<=2 ^ w.toNat/\(2:Int) ^ w.toNat<=65536:=by
 have e:∀ n:Nat,n<17->1<=n->(2:Int)<=2 ^ n/\(2:Int) ^ n<=65536:=Ab;exact e w.toNat Aa Aa
structure Lot (w:Int)(ts:Ag):Prop where
 ris:ts.Pairwise (· < ·)
 bnd:∀ z∈ts,0<=z/\z<w
 ne:ts≠ []
def bits (n:Int)(k:Nat):Ag:=((List.range k).filter fun t=>decide (Builtin.bitAnd (n / 2 ^ t) 1=1)).map fun (t:Nat)=>(t:Int)
theorem jIG (n:Int)(k:Nat):bits n (k+1)=bits n k++(if decide (Builtin.bitAnd (n / 2 ^ k) 1=1)=true then [(k:Int)] else []):=by
 unfold bits;rw[gN,bw,aK];congr 1;rw[b9];split <;> rfl
theorem jSD {n w:Int}(h1:1<=n)(hw:0<=w)(h2:n<2 ^ w.toNat):Lot w (bits n w.toNat):=by
 refine⟨?_,fun z hz=>?_,?_⟩
 ·unfold bits;rw[bA];have:=(gq (n:=w.toNat)).filter (fun t=>decide (Builtin.bitAnd (n / 2 ^ t) 1=1));exact this.imp fun h=>by lia
 ·unfold bits at hz;obtain⟨t,ht,rfl⟩:=aQ.mp hz;have:=bo.mp (aS.mp ht).1;lia
 ·obtain⟨m,rfl⟩:∃ m:Nat,n=(m:Int):=⟨n.toNat,Aa⟩;have hm:m≠0:=Aa;have hlt:m<2 ^ w.toNat:=by
   have:((m:Nat):Int)<((2 ^ w.toNat:Nat):Int):=by rw[Int.natCast_pow]; exact h2
   lia
  obtain⟨i,hi⟩:=Nat.exists_testBit_of_ne_zero hm;have hiw:i<w.toNat:=by
   rcases eY i w.toNat with h | h
   ·exact h
   ·rw[iS (bg hlt (cS Aa h))] at hi;cases hi
  have hb:Builtin.bitAnd ((m:Int) / 2 ^ i) 1=1:=by
   have e:((m:Int) / 2 ^ i)=((m / 2 ^ i:Nat):Int):=by rw[Int.natCast_ediv,Int.natCast_pow]; rfl
   rw[e,PyProof.Rows.bitAnd_pp (fJ _) Ac];have e2:(((m / 2 ^ i:Nat):Int).toNat&&&(1:Int).toNat)=1:=by
    rw[bE];show (m / 2 ^ i)&&&1=1;rw[Nat.and_one_is_mod];have:=hi;rw[Nat.testBit_eq_decide_div_mod_eq] at this;exact aE this
   rw[e2];rfl
  intro z;have hmem:(i:Int)∈bits (m:Int) w.toNat:=by
   unfold bits;exact aQ.mpr ⟨i,aS.mpr ⟨bo.mpr hiw,aq hb⟩,rfl⟩
  rw[z] at hmem;cases hmem
def xC:Sp:=fun vs H Q _=>∃ (p:Addr) (N w:Int),vs=[.ref p, .int w]/\H p=some (.lst [.int N])/\0<=N/\1<=w/\w<=16/\
 ∀ (q:Addr) (N':Int) (ts:Ag) (H':Hp),0<=N'->Lot w ts->H' q=some (.tup (ts.map V.int))->H' p=some (.lst [.int N'])->Keep H H' p->Q (.ref q) H'
theorem scLot:FnScope ["pot","wide","way","number","start","step","size"] ["pot","wide"] (j8 sLot):= {}
theorem jWY {f fT:Addr}{fd fdT:FuncData}(F:Fun K "_law_lot" "_law_lot" sLot f fd)(T:Txt mg)(CT:Can P w K mg Aq "_law_take" 1 fT fdT ["pot","wide"] yW):FnOk P w K mg Aq CX0 2 f fd ["pot","wide"] xC:=by
 refine F.ok scLot (fun vs H Q E h=>?_) (fun ki A Ap s H vs Q E hr h=>?_)
 ·obtain⟨a,ns,k,rfl,_⟩:=h;rfl
 ·obtain⟨p,N,w,rfl,hp,hN,h1,h2,q⟩:=h;have hpw:=pw h1 h2;have nd:=scLot.nd;refine⟨_,y9 (qO (i:=2) nd rfl (Or.inl rfl) (CT.pe hr rfl (kO (pv 0) (kO jX yS))))
   (y9 (ps_if (jE8 qX (pv 2) jX (jV _))
    (y9 (qO (i:=3) nd rfl (Or.inr rfl) (kX yF jX (CT.pe hr rfl (kO (pv 0) (kO (kX jEB (kX jKC jX (pv 1)) jX) yS)))))
    (jB4 (jDP (jCL jT rfl T.tuple Ab (kO
     (jIW (m:=[none,some 3]) (Nc:=["t","number"]) rfl (jCK rfl T.range (kO (pv 1) yS)) rfl Ab Ab (jQ (psc:=j8 sLot))
      (jJ (N:=["pot","wide","way","number","start","step","size"]) rfl rfl Ab)
      (fun cl C fp s H=>jG7 (i:=0) (show (["t","number"]:Am).Nodup by decide+kernel) rfl (Or.inl rfl))
      (fun cl C fp s H=>jN4 (jE8 qX (kX jKE (kX jWT (pv 1) (pv 0)) jX) jX (jV _)))
      (fun cl C fp s H=>pv 0)) yS)))))
    jG5)
   (y9 (qO (i:=4) nd rfl (Or.inr rfl) (CT.pe hr rfl (kO (pv 0) (kO (pv 1) yS))))
   (y9 (qO (i:=5) nd rfl (Or.inr rfl) (kX yF jX (CT.pe hr rfl (kO (pv 0) (kO jX yS)))))
   (y9 (qO (i:=6) nd rfl (Or.inl rfl) (kX yF jX (CT.pe hr rfl (kO (pv 0) (kO (pe_ix jBL (jKA (kO jX (kO jX (kO jX yS)))) (kX jEB (pv 2) jX) (fun _ _=>rfl)) yS)))))
   (jB4 (jDP (jCL jT rfl T.tuple Ab (kO (jG8 (jF6 rfl) rfl T.sorted Ab (kO (jCL (jPQ rfl) rfl T.set Ab (kO
     (jIW (m:=[none,some 4,some 5,some 1]) (Nc:=["j","start","step","wide"]) rfl (jCK rfl T.range (kO (pv 6) yS)) rfl Ab Ab (jQ (psc:=j8 sLot))
      (jJ (N:=["pot","wide","way","number","start","step","size"]) rfl rfl Ab)
      (fun cl C fp s H=>jG7 (i:=0) (show (["j","start","step","wide"]:Am).Nodup by decide+kernel) rfl (Or.inl rfl))
      (fun cl C fp s H=>jN5)
      (fun cl C fp s H=>kX jHO (kX yF (pv 1) (kX jDR (pv 2) (pv 0))) (pv 3))) yS)) yS)) yS)))))))),?_⟩
  refine⟨_,rfl,p,N,4,rfl,hp,hN,Ac,Ac,fun N1 way b1 b2 b3=>?_⟩;have hp1:∀ M,(upd H p (.lst [.int M])) p=some (.lst [.int M]):=fun _=>j6;refine⟨_,rfl,rfl,_,rfl,?_⟩;refine ite2 (fun _=>?_) (fun hw0=>?_)
  ·refine⟨_,rfl,_,rfl,_,_,rfl,rfl,⟨Aa,Aa,Ac⟩,_,_,rfl,rfl,p,N1,_,rfl,hp1 _,b1,Aa,Aa,fun N2 r2 c1 c2 c3=>⟨_,_,rfl,rfl,?_⟩⟩;have hnum:1+r2<2 ^ w.toNat:=Aa;refine⟨_,rfl,w,rfl,Aa,Aa,jAP (n:=w.toNat) (by rw[aw]; lia) (fun D i σ' H' ys=>(∃ v,σ'=[v,some (.int (1+r2))])/\ys=(bits (1+r2) i).map V.int/\H'=upd (upd (upd H p (.lst [.int N1])) p (.lst [.int N2])) D (.lst ys)) ?_ ?_ ?_ ?_⟩
   ·intro D hD;exact⟨⟨_,rfl⟩,rfl,rfl⟩
   ·rintro D i σ' H' ys hD hi ⟨_,e1,e2⟩;refine⟨by rw[e2]; exact j6,?_⟩;rw[e1,ab];unfold bits;rw[ab];exact be (bb _ _) (by rw[cz]; exact ak _)
   ·rintro D i σ' H' ys hD hi ⟨⟨v,rfl⟩,rfl,rfl⟩;refine⟨_,rfl,_,rfl,_,_,rfl,rfl,(by show (0:Int)<=0+(i:Int); lia),_,_,rfl,rfl,rfl,_,rfl,?_⟩;have ei:(0+(i:Int)).toNat=i:=Aa;refine ite2 (fun hb=>?_) (fun hb=>?_)
    ·have hb:Builtin.bitAnd ((1+r2) / 2 ^ i) 1=1:=by
      have:=aE hb;rw[ei] at this;exact V.int.inj this
     refine⟨_,rfl,j6,⟨_,rfl⟩,?_,jBB⟩;rw[jIG,ao (aq hb),aK];congr 1;show [V.int (0+(i:Int))]=[V.int (i:Int)];rw[iT]
    ·have hb:¬ Builtin.bitAnd ((1+r2) / 2 ^ i) 1=1:=fun e=>hb (aq (by rw[ei]; exact bL V.int e));refine⟨⟨_,rfl⟩,?_,rfl⟩;rw[jIG,am (by simpa using hb),ba]
   ·rintro D σ' H' ys hD ⟨_,rfl,rfl⟩;refine⟨D,_,rfl, .inl ⟨SqL.of j6,fun qq hqq=>?_⟩⟩;obtain⟨n1,n2⟩:=yK hqq;have pD:p≠D:=jB j6 hD;have pq:p≠qq:=jB j6 n2;exact q qq N2 (bits (1+r2) w.toNat) _ c1 (jSD Aa Aa hnum) j6 (by rw[jA pq,jA pD,j6]) (((((Keep.refl H p).upd _).upd _).new hD _).new hqq _)
  ·have hway:1<=way:=by
    have:¬ way=0:=fun e=>hw0 (aq (by rw[e]));lia
   refine⟨_,rfl,_,rfl,p,N1,w,rfl,hp1 _,b1,Aa,Aa,fun N2 yH c1 c2 c3=>?_⟩;rw[jBB];refine⟨_,rfl,p,N2,3,rfl,hp1 _,c1,Ac,Ac,fun N3 st d1 d2 d3=>⟨_,_,rfl,rfl,?_⟩⟩;rw[jBB];refine⟨_,rfl,(by show 3<=sizeLine; decide),fun l hl=>?_⟩;have pl:p≠l:=jB (hp1 _) hl;obtain⟨wd,hwd,e1,e2⟩:∃ wd:Int,atI [V.int 1,V.int 2,V.int 4] (way - 1)=some (.int wd)/\1<=wd/\wd<=4:=by
    rcases (show way=1\/way=2\/way=3 by lia) with e | e | e
    ·subst e; exact⟨1,rfl,Ac,Ac⟩
    ·subst e; exact⟨2,rfl,Ac,Ac⟩
    ·subst e; exact⟨4,rfl,Ac,Ac⟩
   refine⟨_,rfl,_,_,rfl,rfl,l,_,_,_,rfl,rfl,SqL.of j6,hwd,p,N3,wd,rfl,by rw[jA pl]; exact hp1 _,d1,Aa,Aa,fun N4 r4 g1 g2 g3=>⟨_,_,rfl,rfl,?_⟩⟩;have kp:Keep H (upd (upd (upd H p (.lst [.int N3])) l (.lst [V.int 1,V.int 2,V.int 4])) p (.lst [.int N4])) p:=(((Keep.refl H p).upd _).new hl _).upd _;have hp4:(upd (upd (upd H p (.lst [.int N3])) l (.lst [V.int 1,V.int 2,V.int 4])) p (.lst [.int N4])) p=some (.lst [.int N4]):=j6;generalize (upd (upd (upd H p (.lst [.int N3])) l (.lst [V.int 1,V.int 2,V.int 4])) p (.lst [.int N4]))=H4 at kp hp4 ⊢;refine⟨_,rfl,1+r4,rfl,Aa,Aa,jAP (n:=(1+r4).toNat) (by rw[aw]; lia) (fun D i σ' H' ys=>(∃ v,σ'=[v,some (.int yH),some (.int (1+st)),some (.int w)])/\(∃ ns:Ag,ys=ns.map V.int/\ns.length=i/\∀ z∈ns,0<=z/\z<w)/\H'=upd H4 D (.lst ys)) ?_ ?_ ?_ ?_⟩
   ·intro D hD;exact⟨⟨_,rfl⟩,⟨[],rfl,rfl,fun z hz=>by cases hz⟩,rfl⟩
   ·rintro D i σ' H' ys hD hi ⟨_,⟨ns,rfl,e,_⟩,rfl⟩;exact⟨j6,by rw[ab,e]; exact ak _⟩
   ·rintro D i σ' H' ys hD hi ⟨⟨v,rfl⟩,⟨ns,rfl,e,hb⟩,rfl⟩;dsimp only [kJ,yL];rw[ao rfl];refine⟨_,rfl,_,rfl,_,rfl,_,_,rfl,rfl, .inl ⟨Aa,Aa⟩,_,_,rfl,rfl,_,rfl,_,_,rfl,rfl,(by show 0<w; lia),j6,⟨_,rfl⟩,⟨ns++[(yH+(1+st)*(0+(i:Int))) % w],Ad,by simp [e],fun z hz=>?_⟩,jBB⟩;rcases aN.mp hz with hz | hz
    ·exact hb z hz
    ·have:z=(yH+(1+st)*(0+(i:Int))) % w:=by simpa using hz
     rw[this];exact⟨Int.emod_nonneg _ Aa,jx _ Aa⟩
   ·rintro D σ' H' ys hD ⟨_,⟨ns,rfl,e,hb⟩,rfl⟩;refine⟨D,ns,rfl,SqL.of j6,Aa,fun z hz=>⟨(hb z hz).1,by have:=(hb z hz).2; lia⟩,fun l1 ks h11 hm1=>?_⟩;refine⟨l1,ks,rfl,j6,fun l2 ms h12 srt hm2=>?_⟩;refine⟨l2,_,rfl, .inl ⟨SqL.of j6,fun qq hqq=>?_⟩⟩;have pD:p≠D:=jB hp4 hD;have p1:p≠l1:=jB hp4 (yK h11).2;have p2:p≠l2:=jB hp4 (yK (yK h12).2).2;have pq:p≠qq:=jB hp4 (yK (yK (yK hqq).2).2).2;refine q qq N4 ms _ g1 ⟨srt,fun z hz=>hb z ((hm1 z).mp ((hm2 z).mp hz)),fun z=>?_⟩ j6 (by rw[jA pq,jA p2,jA p1,jA pD]; exact hp4) ((((kp.new hD _).new h11 _).new h12 _).new hqq _);subst z;cases ns with
    | nil=>simp at e; lia
    | cons x r=>
     have:=(hm2 x).mpr ((hm1 x).mpr az);cases this
structure Ris (w:Int)(ts:Ag):Prop where
 ris:ts.Pairwise (· < ·)
 bnd:∀ z∈ts,0<=z/\z<w
theorem Ris.nil (w:Int):Ris w []:=⟨.nil,fun z hz=>by cases hz⟩
theorem Ris.take {w:Int}{ts:Ag}(h:Ris w ts)(k:Nat):Ris w (ts.take k):=⟨h.ris.sublist (dy _ _),fun z hz=>h.bnd z (bI hz)⟩
theorem Ris.drop {w:Int}{ts:Ag}(h:Ris w ts)(k:Nat):Ris w (ts.drop k):=⟨h.ris.sublist (ig _ _),fun z hz=>h.bnd z (cO hz)⟩
theorem Ris.snoc {i:Nat}{ts:Ag}(h:Ris i ts):Ris (i+1:Nat) (ts++[(i:Int)]):=by
 refine⟨ci.mpr ⟨h.ris,ev _ _,fun a ha b hb=>?_⟩,fun z hz=>?_⟩
 ·have:=(h.bnd a ha).2;have e:b=i:=by simpa using hb
  lia
 ·rcases aN.mp hz with q | q
  ·have:=h.bnd z q;lia
  ·have e:z=i:=by simpa using q
   lia
theorem Ris.step {i:Nat}{ts:Ag}(h:Ris i ts):Ris (i+1:Nat) ts:=⟨h.ris,fun z hz=>by have:=h.bnd z hz; lia⟩
def upto (n:Nat):Ag:=(List.range n).map fun (i:Nat)=>(i:Int)
theorem jOV (n:Nat):jES n=(upto n).map V.int:=by
 unfold jES upto;rw[bH];rfl
theorem kT (n:Nat):Ris n (upto n):=by
 refine⟨?_,fun z hz=>?_⟩
 ·unfold upto;rw[bA];exact gq.imp fun h=>by lia
 ·unfold upto at hz;obtain⟨t,ht,rfl⟩:=aQ.mp hz;have:=bo.mp ht;lia
def Tups (H H':Hp):Prop:=∀ b xs,H b=some (.tup xs)->H' b=some (.tup xs)
theorem Tups.trans {H H1 H2:Hp}(a:Tups H H1)(b:Tups H1 H2):Tups H H2:=fun c o h=>b c o (a c o h)
theorem Keep.tups {H H':Hp}{p:Addr}{xs:List V}(k:Keep H H' p)(hp:H p=some (.lst xs)):Tups H H':=fun b ys hb=>k b _ hb fun e=>by
 subst e;rw[hb] at hp;cases hp
theorem Tups.upd {H:Hp}{p:Addr}{xs:List V}(hp:H p=some (.lst xs))(o:HO):Tups H (upd H p o):=fun b ys hb=>by
 rw[jA (fun e=>by subst e; rw[hb] at hp; cases hp)];exact hb
theorem Tups.new {H:Hp}{p:Addr}(hp:H p=none)(o:HO):Tups H (L2.upd H p o):=fun b ys hb=>by
 rw[jA (jB hb hp)];exact hb
def PcAt (H:Hp)(v:V)(pc:List Int×Int):Prop:=∃ a q,v= .ref a/\H a=some (.tup [.ref q, .int pc.2])/\H q=some (.tup (pc.1.map V.int))
def PcsAt (H:Hp):List V->Ae->Prop
 | [],[]=>True
 | v::vs,p::ps=>PcAt H v p/\PcsAt H vs ps
 | _,_=>False
theorem PcAt.mono {H H':Hp}{v:V}{pc:List Int×Int}(h:PcAt H v pc)(t:Tups H H'):PcAt H' v pc:=by
 obtain⟨a,q,rfl,h1,h2⟩:=h;exact⟨a,q,rfl,t _ _ h1,t _ _ h2⟩
theorem PcsAt.mono {H H':Hp}(t:Tups H H'):∀ {vs:List V}{ps:Ae},PcsAt H vs ps->PcsAt H' vs ps
 | [],[],_=>trivial
 | _::_,_::_,h=>⟨h.1.mono t,PcsAt.mono t h.2⟩
 | [],_::_,h=>h.elim
 | _::_,[],h=>h.elim
theorem PcsAt.len {H:Hp} :∀ {vs:List V}{ps:Ae},PcsAt H vs ps->vs.length=ps.length
 | [],[],_=>rfl
 | _::_,_::_,h=>bL (· +1) (PcsAt.len h.2)
 | [],_::_,h=>h.elim
 | _::_,[],h=>h.elim
theorem PcsAt.put {H:Hp}{v:V}{p:List Int×Int}(hv:PcAt H v p):∀ (k:Nat) {vs:List V}{ps:Ae},PcsAt H vs ps->PcsAt H (vs.take k++v::vs.drop k) (ps.take k++p::ps.drop k)
 | 0,_,_,h=>⟨hv,h⟩
 | _+1,[],[],_=>⟨hv,trivial⟩
 | k+1,_::_,_::_,h=>⟨h.1,PcsAt.put hv k h.2⟩
 | _+1,[],_::_,h=>h.elim
 | _+1,_::_,[],h=>h.elim
structure GoodPc (w:Int)(pc:List Int×Int):Prop where
 lot:Lot w pc.1
 lo: -1000000000000<=pc.2
 hi:pc.2<=1000000000000
structure BoxAt (H:Hp)(b:Addr)(w:Int)(mays:Ag)(Ar:Ae):Prop where
 ex:∃ qm qp vs,H b=some (.tup [.int w, .ref qm, .ref qp])/\H qm=some (.tup (mays.map V.int))/\H qp=some (.tup vs)/\PcsAt H vs Ar
theorem BoxAt.mono {H H':Hp}{b:Addr}{w:Int}{mays:Ag}{Ar:Ae}(h:BoxAt H b w mays Ar)(t:Tups H H'):BoxAt H' b w mays Ar:=by
 obtain⟨qm,qp,vs,h1,h2,h3,h4⟩:=h.ex;exact⟨qm,qp,vs,t _ _ h1,t _ _ h2,t _ _ h3,h4.mono t⟩
structure Good (mt mp:Int)(w:Int)(mays:Ag)(Ar:Ae):Prop where
 w0:0<=w
 w1:w<=mt
 mr:Ris w mays
 pl:(Ar.length:Int)<=mp
 pg:∀ pc∈Ar,GoodPc w pc
theorem Keep.updNew {H H1:Hp}{p l:Addr}(a:Keep H H1 p)(hl:H l=none)(o:HO):Keep H (L2.upd H1 l o) p:=fun c u h n=>by
 rw[jA (jB h hl)];exact a c u h n
def spBox:Sp:=fun vs H Q _=>∃ (p:Addr) (N mt mp:Int),vs=[.ref p, .int mt, .int mp]/\H p=some (.lst [.int N])/\0<=N/\0<=mt/\mt<=16/\0<=mp/\mp<=32/\
 ∀ (b:Addr) (N' w:Int) (mays:Ag) (Ar:Ae) (H':Hp),0<=N'->H' p=some (.lst [.int N'])->BoxAt H' b w mays Ar->Good mt mp w mays Ar->Keep H H' p->Q (.ref b) H'
abbrev nBox:Am:=["pot","most_things","most_pieces","wide","mays","left","far","pieces","k","size","things"]
theorem scBox:FnScope nBox ["pot","most_things","most_pieces"] (j8 sBox):= {}
abbrev XBox (P:Program)(w:World)(K:W.Frag)(mg:Ak)(Aq:Heap)(f:Addr)(ki:Value)(A:Around)(Ap:List Env)(s:Shared)(H:Hp)(E:XK):Cx:=(cxOf CX0 P w K mg Aq nBox "_law_box" (j8 sBox) f ki A Ap s H E).nox
def jEM:Stmt->List Stmt
 | .For _ _ b _ _=>b
 | _=> []
def boxI {f fT fL:Addr}{fdT fdL:FuncData}{ki:Value}{A:Around}{Ap:List Env}{s:Shared}{H:Hp}{E:XK}(T:Txt mg)(CT:Can P w K mg Aq "_law_take" 1 fT fdT ["pot","wide"] yW)(CL:Can P w K mg Aq "_law_lot" 2 fL fdL ["pot","wide"] xC)(hr:Room 2 (XBox P w K mg Aq f ki A Ap s H E).A): { t:TS // JSs (XBox P w K mg Aq f ki A Ap s H E) ((jEM ((jE sBox).getD 7 (.Pass ⟨0,0,0,0⟩))).drop 4) t} :=
 have nd:=scBox.nd
 ⟨_,(jD (jEP (je_bm ce PySem.F.slot_list_insert PySem.F.type_list_insert jO4 (jv 7 rfl vL) (j3 (CT.je (hr.mono Ac) gD (j3 (jv 0 rfl vC) (j3 (kY yF (jK jW gD T.len Ab (j3 (jv 7 rfl vL) j7 j4) j4) (je_int)) j7 yP) j4) j4) (j3 (jKX (j3 (jv 10 rfl vL) (j3 (kY jEB (CT.je (hr.mono Ac) gD (j3 (jv 0 rfl vC) (j3 (jv 6 rfl vL) j7 j4) j4) j4) (kY jKD (jv 6 rfl vL) (je_int))) j7 yP) j4)) j7 qN) jG) jG) jY))⟩
def boxL {f fT fL:Addr}{fdT fdL:FuncData}{ki:Value}{A:Around}{Ap:List Env}{s:Shared}{H:Hp}{E:XK}(T:Txt mg)(CT:Can P w K mg Aq "_law_take" 1 fT fdT ["pot","wide"] yW)(CL:Can P w K mg Aq "_law_lot" 2 fL fdL ["pot","wide"] xC)(hr:Room 2 (XBox P w K mg Aq f ki A Ap s H E).A): { t:TS // JSs (XBox P w K mg Aq f ki A Ap s H E) (jEM ((jE sBox).getD 7 (.Pass ⟨0,0,0,0⟩))) t} :=
 have nd:=scBox.nd
 ⟨_,(j9 (jR (i:=9) nd rfl lL (kY yF (je_int) (CT.je (hr.mono Ac) gD (j3 (jv 0 rfl vC) (j3 (je_int) j7 kN) j4) j4)) jJV)
   (j9 (jR (i:=10) nd rfl lL (jU jT gD T.tuple Ab (j3 (jKY jMY (jv 5 rfl vL) jOJ (jOI (jv 9 rfl vL))) j7 jF) jF) jY)
   (j9 (jR (i:=5) nd rfl lL (jKY jMY (jv 5 rfl vL) (jOI (jv 9 rfl vL)) jOJ) jF9)
   (j9 (yA (jO (jWU hr.units0) (jv 10 rfl vL) (jKX j7) (jV _)) (jD (jR (i:=10) nd rfl lL (CL.je hr gD (j3 (jv 0 rfl vC) (j3 (jv 3 rfl vL) j7 j4) j4) j4) jY)) jZ)
   (boxI T CT CL hr).2))))⟩
def boxC {f fT fL:Addr}{fdT fdL:FuncData}{ki:Value}{A:Around}{Ap:List Env}{s:Shared}{H:Hp}{E:XK}(T:Txt mg)(CT:Can P w K mg Aq "_law_take" 1 fT fdT ["pot","wide"] yW)(CL:Can P w K mg Aq "_law_lot" 2 fL fdL ["pot","wide"] xC)(hr:Room 2 (XBox P w K mg Aq f ki A Ap s H E).A): { t:TS // JSs (XBox P w K mg Aq f ki A Ap s H E) ((jE sBox).drop 5) t} :=
 have nd:=scBox.nd
 ⟨_,(j9 (jR (i:=6) nd rfl lL (jH jBL (jOL (j3 (je_int) (j3 (je_int) (j3 (jXO) j7 yP) kN) kN)) (CT.je (hr.mono Ac) gD (j3 (jv 0 rfl vC) (j3 (je_int) j7 kN) j4) j4) jTU) jF9)
   (j9 (jR (i:=7) nd rfl lL (jOL j7) jFA)
   (j9 (x6 bX rfl (jA7 gD T.range (j3 (kY jDR (CT.je (hr.mono Ac) gD (j3 (jv 0 rfl vC) (j3 (kY yF (jv 2 rfl vL) (je_int)) j7 yP) j4) j4) (jU jPT gD T.int Ab (j3 (yV op_gt (jv 3 rfl vL) (je_int) (jV _)) j7 jSQ) jSQ)) j7 yP) yP) (jL (i:=8) nd rfl lL) (boxL T CT CL hr).2 kS)
   (jD (jP (jKX (j3 (jv 3 rfl vL) (j3 (jv 4 rfl vL) (j3 (jU jT gD T.tuple Ab (j3 (jv 7 rfl vL) j7 j4) j4) j7 jG) j4) j4)))))))⟩
def boxB {f fT fL:Addr}{fdT fdL:FuncData}{ki:Value}{A:Around}{Ap:List Env}{s:Shared}{H:Hp}{E:XK}(T:Txt mg)(CT:Can P w K mg Aq "_law_take" 1 fT fdT ["pot","wide"] yW)(CL:Can P w K mg Aq "_law_lot" 2 fL fdL ["pot","wide"] xC)(hr:Room 2 (XBox P w K mg Aq f ki A Ap s H E).A): { t:TS // JSs (XBox P w K mg Aq f ki A Ap s H E) ((jE sBox).drop 3) t} :=
 have nd:=scBox.nd
 ⟨_,(j9 (jR (i:=5) nd rfl lL (jU (jIA rfl) gD T.list Ab (j3 (jU jB7 gD T.range Ab (j3 (jv 3 rfl vL) j7 j4) j4) j7 jG) jG) jY)
   (j9 (yA (jO qX (CT.je (hr.mono Ac) gD (j3 (jv 0 rfl vC) (j3 (je_int) j7 kN) j4) j4) (je_int) (jV _)) (jD (jR (i:=5) nd rfl lL (jOL j7) jFA)) jZ)
   (boxC T CT CL hr).2))⟩
def boxA {f fT fL:Addr}{fdT fdL:FuncData}{ki:Value}{A:Around}{Ap:List Env}{s:Shared}{H:Hp}{E:XK}(T:Txt mg)(CT:Can P w K mg Aq "_law_take" 1 fT fdT ["pot","wide"] yW)(CL:Can P w K mg Aq "_law_lot" 2 fL fdL ["pot","wide"] xC)(hr:Room 2 (XBox P w K mg Aq f ki A Ap s H E).A): { t:TS // JSs (XBox P w K mg Aq f ki A Ap s H E) (jE sBox) t} :=
 have nd:=scBox.nd
 ⟨_,(j9 (jR (i:=3) nd rfl lL (CT.je (hr.mono Ac) gD (j3 (jv 0 rfl vC) (j3 (kY yF (jv 1 rfl vL) (je_int)) j7 yP) j4) j4) jY)
   (j9 (jR (i:=4) nd rfl lL (jKX j7) jJT)
   (j9 (yA (jO qX (CT.je (hr.mono Ac) gD (j3 (jv 0 rfl vC) (j3 (je_int) j7 kN) j4) j4) (je_int) (jV _)) (jD (jR (i:=4) nd rfl lL (jU jT gD T.tuple Ab (j3 (kI (m:=[none,some 0]) (Nc:=["t","pot"]) rfl (jA7 gD T.range (j3 (jv 3 rfl vL) j7 j4) j4) rfl Ab Ab (jQ (psc:=j8 sBox)) (jJ (N:=nBox) rfl rfl Ab) (fun cl C fp s H=>jL (i:=0) (show (["t","pot"]:Am).Nodup by decide+kernel) rfl yD) (fun cl C fp s H=>qD (jO qX (CT.je (hr.mono Ac) gl_b (j3 (jv 1 rfl kD) (j3 (je_int) j7 kN) j4) j4) (je_int) (jV _))) (fun cl C fp s H=>(jv 0 rfl jM)) kS) j7 jN) jN) jY)) jZ)
   (boxB T CT CL hr).2)))⟩
structure St0 (H H2:Hp)(p:Addr)(w:Int)(qm ql:Addr)(mays lf:Ag)(N:Int):Prop where
 hp:H2 p=some (.lst [.int N])
 hN:0<=N
 hm:H2 qm=some (.tup (mays.map V.int))
 rm:Ris w mays
 hl:H2 ql=some (.lst (lf.map V.int))
 rl:Ris w lf
 ne:ql≠p
 kp:Keep H H2 p
theorem St0.step {H H2 H3:Hp}{p:Addr}{w:Int}{qm ql:Addr}{mays lf:Ag}{N N':Int}(S:St0 H H2 p w qm ql mays lf N)(k:Keep H2 H3 p)(hp:H3 p=some (.lst [.int N']))(hN:0<=N'):St0 H H3 p w qm ql mays lf N':=
 ⟨hp,hN,k qm _ S.hm (ne_of S.hm S.hp (by intro z; cases z)),S.rm,k ql _ S.hl S.ne,S.rl,S.ne,S.kp.trans k⟩
theorem jPF {w:Int}{lf:Ag}(h:Ris w lf)(lo hi:Option Int):∃ l',cutV (lf.map V.int) lo hi=l'.map V.int/\Ris w l':=by
 refine⟨(lf.drop (HT.sIx lf.length 0 lo)).take (HT.sIx lf.length lf.length hi - HT.sIx lf.length 0 lo),?_,(h.drop _).take _⟩;unfold cutV;rw[ab,jo,List.map_drop]
theorem jID (T:Txt mg)(CT:Can P w K mg Aq "_law_take" 1 fT fdT ["pot","wide"] yW)(CL:Can P w K mg Aq "_law_lot" 2 fL fdL ["pot","wide"] xC)(hr:Room 2 (XBox P w K mg Aq f ki A Ap s H0 E).A)
  {D:Ends}{H H5:Hp}{p qm ql qp qt:Addr}{mt mp w N far:Int}{mays lf ts:Ag}{vs:List V}{Ar:Ae}{v8 v9:Option V}
  (S:St0 H H5 p w qm ql mays lf N) (hqp:H5 qp=some (.lst vs)) (hv:PcsAt H5 vs Ar) (hg:∀ pc∈Ar,GoodPc w pc) (hqt:H5 qt=some (.tup (ts.map V.int))) (lt:Lot w ts) (hf:far=1\/far=10\/far=2000000000001) (hn:Ar.length<=100) (hH:H qp=none) (hne:ql≠qp) (hpp:p≠qp)
  (nx:∀ H6 N' vs' Ar',St0 H H6 p w qm ql mays lf N'->H6 qp=some (.lst vs')->PcsAt H6 vs' Ar'->(∀ pc∈Ar',GoodPc w pc)->Ar'.length=Ar.length+1->D.nx [some (.ref p),some (.int mt),some (.int mp),some (.int w),some (.ref qm),some (.ref ql),some (.int far),some (.ref qp),v8,v9,some (.ref qt)] H6):
  (boxI T CT CL hr).1 D [some (.ref p),some (.int mt),some (.int mp),some (.int w),some (.ref qm),some (.ref ql),some (.int far),some (.ref qp),v8,v9,some (.ref qt)] H5:=by
 have hlen:=hv.len;have h64:(0:Int)<far/\far<2 ^ 64:=by rcases hf with e | e | e <;> subst e <;> decide
 refine⟨_,rfl, .inl ⟨rfl,_,SqL.of hqp⟩,_,rfl,_,rfl,qp,vs,rfl, .inl (SqL.of hqp),_,_,rfl,rfl,p,N,_,rfl,S.hp,S.hN,Aa,Aa,fun N1 i a1 a2 a3=>?_⟩;refine⟨_,rfl,_,rfl,_,rfl,p,N1,far,rfl,j6,a1,h64.1,h64.2,fun N2 r b1 b2 b3=>?_⟩;rw[jBB];refine⟨_,rfl,_,_,rfl,rfl,⟨Ac,Ac⟩,_,_,rfl,rfl,(by show 2<=sizeLine; decide),fun tq htq=>?_⟩;obtain⟨t1,t2⟩:=yK htq;have ht:tq≠qp:=fun e=>by subst e; rw[hqp] at t2; cases t2
 refine⟨qp,vs,i,_,rfl,rfl,by rw[jA ht.symm,jA hpp.symm]; exact hqp,a2,Aa,by rw[aw]; lia,?_⟩;have T1:Tups H5 (upd (upd H5 p (.lst [.int N2])) tq (.tup [.ref qt, .int (r - far / 2)])):=(Tups.upd S.hp _).trans (Tups.new htq _);have k1:Keep H5 (upd (upd H5 p (.lst [.int N2])) tq (.tup [.ref qt, .int (r - far / 2)])) p:=((Keep.refl _ _).upd _).new htq _;have S1:=S.step k1 (by rw[jA t1.symm]; exact j6) b1;have hq1:(upd (upd H5 p (.lst [.int N2])) tq (.tup [.ref qt, .int (r - far / 2)])) qp=some (.lst vs):=by rw[jA ht.symm,jA hpp.symm]; exact hqp
 have T2:=T1.trans (Tups.upd hq1 (.lst (vs.take i.toNat++V.ref tq::vs.drop i.toNat)));have pc:PcAt (upd (upd H5 p (.lst [.int N2])) tq (.tup [.ref qt, .int (r - far / 2)])) (.ref tq) (ts,r - far / 2):=⟨tq,qt,rfl,j6,T1 _ _ hqt⟩;refine nx _ N2 _ (Ar.take i.toNat++(ts,r - far / 2)::Ar.drop i.toNat) ⟨?_,b1,?_,S.rm,?_,S.rl,S.ne,S1.kp.updNew hH _⟩ j6 ?_ ?_ ?_
 ·rw[jA hpp]; exact S1.hp
 ·exact(Tups.upd hq1 _) _ _ S1.hm
 ·rw[jA hne]; exact S1.hl
 ·exact PcsAt.put (pc.mono (Tups.upd hq1 _)) _ (hv.mono T2)
 ·intro c hc;rcases aN.mp hc with h | h
  ·exact hg c (bI h)
  ·rcases aG.mp h with h | h
   ·subst h;refine⟨lt,?_,?_⟩
    ·show -1000000000000<=r - far / 2;rcases hf with e | e | e <;> subst e <;> lia
    ·show r - far / 2<=1000000000000;rcases hf with e | e | e <;> subst e <;> lia
   ·exact hg c (cO h)
 ·rw[aF,aP,bB,gz];lia
theorem jPU (T:Txt mg)(CT:Can P w K mg Aq "_law_take" 1 fT fdT ["pot","wide"] yW)(CL:Can P w K mg Aq "_law_lot" 2 fL fdL ["pot","wide"] xC)(hr:Room 2 (XBox P w K mg Aq f ki A Ap s H0 E).A)
  {D:Ends}{H H5:Hp}{p qm ql qp:Addr}{mt mp w N far:Int}{mays lf:Ag}{vs:List V}{Ar:Ae}{v8 v9 v10:Option V}
  (S:St0 H H5 p w qm ql mays lf N) (hqp:H5 qp=some (.lst vs)) (hv:PcsAt H5 vs Ar) (hg:∀ pc∈Ar,GoodPc w pc) (hf:far=1\/far=10\/far=2000000000001) (hn:Ar.length<=100) (hH:H qp=none) (hpp:p≠qp) (w1:1<=w) (w2:w<=16)
  (nx:∀ H6 N' vs' Ar' ql' lf' v9' v10',St0 H H6 p w qm ql' mays lf' N'->ql'≠qp->H6 qp=some (.lst vs')->PcsAt H6 vs' Ar'->(∀ pc∈Ar',GoodPc w pc)->Ar'.length=Ar.length+1->D.nx [some (.ref p),some (.int mt),some (.int mp),some (.int w),some (.ref qm),some (.ref ql'),some (.int far),some (.ref qp),v8,v9',v10'] H6):
  (boxL T CT CL hr).1 D [some (.ref p),some (.int mt),some (.int mp),some (.int w),some (.ref qm),some (.ref ql),some (.int far),some (.ref qp),v8,v9,v10] H5:=by
 refine⟨_,rfl,p,N,3,rfl,S.hp,S.hN,Ac,Ac,fun N1 r1 a1 a2 a3=>⟨_,_,rfl,rfl,?_⟩⟩;have S1:=S.step ((Keep.refl _ _).upd (.lst [.int N1])) j6 a1;have hq1:(upd H5 p (.lst [.int N1])) qp=some (.lst vs):=by rw[jA hpp.symm]; exact hqp
 have hv1:=hv.mono (Tups.upd S.hp (.lst [.int N1]));generalize upd H5 p (.lst [.int N1])=H6 at S1 hq1 hv1 ⊢;clear S hqp hv;obtain⟨l1,e1,g1⟩:=jPF S1.rl none (some (1+r1));obtain⟨l2,e2,g2⟩:=jPF S1.rl (some (1+r1)) none;refine⟨_,rfl,_,rfl,1+r1,rfl,ql,_,rfl,SqL.of S1.hl,fun x hx=>⟨x,_,rfl, .inl ⟨SqL.of j6,fun qt hqt=>?_⟩⟩⟩;rw[e1] at hqt ⊢;have k1:Keep H6 (upd (upd H6 x (.lst (l1.map V.int))) qt (.tup (l1.map V.int))) p:=((Keep.refl _ _).new hx _).new hqt _;obtain⟨t1,t2⟩:=yK hqt;have px:p≠x:=jB S1.hp hx;have pt:p≠qt:=jB S1.hp t2;have qx:qp≠x:=jB hq1 hx;have qq:qp≠qt:=jB hq1 t2;have S2:=S1.step k1 (by rw[jA pt,jA px]; exact S1.hp) S1.hN;have hq2:(upd (upd H6 x (.lst (l1.map V.int))) qt (.tup (l1.map V.int))) qp=some (.lst vs):=by rw[jA qq,jA qx]; exact hq1
 have hv2:=hv1.mono (k1.tups S1.hp);have ht2:(upd (upd H6 x (.lst (l1.map V.int))) qt (.tup (l1.map V.int))) qt=some (.tup (l1.map V.int)):=j6;generalize upd (upd H6 x (.lst (l1.map V.int))) qt (.tup (l1.map V.int))=H7 at S2 hq2 hv2 ht2 ⊢;clear k1 hqt t2 hx S1 hq1 hv1;refine⟨_,rfl,_,rfl,1+r1,rfl,ql,_,rfl,SqL.of S2.hl,fun ql' hql=>?_⟩;rw[e2];have pl:p≠ql':=jB S2.hp hql;have k2:Keep H7 (upd H7 ql' (.lst (l2.map V.int))) p:=(Keep.refl _ _).new hql _;have S3':=S2.step k2 (by rw[jA pl]; exact S2.hp) S2.hN;have S3:St0 H (upd H7 ql' (.lst (l2.map V.int))) p w qm ql' mays l2 N1:=⟨S3'.hp,S3'.hN,S3'.hm,S3'.rm,j6,g2,pl.symm,S3'.kp⟩;have hne:qp≠ql':=jB hq2 hql;have hq3:(upd H7 ql' (.lst (l2.map V.int))) qp=some (.lst vs):=by rw[jA hne]; exact hq2
 have hv3:=hv2.mono (k2.tups S2.hp);have ht3:=k2.tups S2.hp _ _ ht2;generalize upd H7 ql' (.lst (l2.map V.int))=H8 at S3 hq3 hv3 ht3 ⊢;clear k2 S3' S2 hq2 hv2 ht2 hql;refine⟨_,rfl,(by show 0<=sizeLine; exact bu _),fun z hz=>⟨qt,z,l1.map V.int,rfl,rfl,SqT.of ?_,SqT.of j6,_,rfl,?_⟩⟩
 ·rw[jA (jB ht3 hz)]; exact ht3
 have pz:p≠z:=jB S3.hp hz;have qz:qp≠z:=jB hq3 hz;have k3:Keep H8 (upd H8 z (.tup [])) p:=(Keep.refl _ _).new hz _;have S4:=S3.step k3 (by rw[jA pz]; exact S3.hp) S3.hN;have hq4:(upd H8 z (.tup [])) qp=some (.lst vs):=by rw[jA qz]; exact hq3
 have hv4:=hv3.mono (k3.tups S3.hp);have ht4:=k3.tups S3.hp _ _ ht3;generalize upd H8 z (.tup [])=H9 at S4 hq4 hv4 ht4 ⊢;clear k3 S3 hq3 hv3 ht3 hz pz qz;refine ite2 (fun hy=>?_) (fun hy=>?_)
 ·refine⟨_,rfl,_,rfl,p,N1,w,rfl,S4.hp,S4.hN,w1,w2,fun q N2 ts H' b1 lt b2 b3 b4=>?_⟩;exact jID T CT CL hr (S4.step b4 b3 b1) (b4 _ _ hq4 hpp.symm) (hv4.mono (b4.tups S4.hp)) hg b2 lt hf hn hH hne.symm hpp fun H6 N' vs' Ar' z1 z2 z3 z4 z5=>nx H6 N' vs' Ar' ql' l2 _ _ z1 hne.symm z2 z3 z4 z5
 ·have nl:l1≠ []:=fun e=>hy (aq (by rw[e]; rfl));exact jID T CT CL hr S4 hq4 hv4 hg ht4 ⟨g1.ris,g1.bnd,nl⟩ hf hn hH hne.symm hpp fun H6 N' vs' Ar' z1 z2 z3 z4 z5=>nx H6 N' vs' Ar' ql' l2 _ _ z1 hne.symm z2 z3 z4 z5
def Told (H:Hp)(p:Addr)(mt mp:Int)(R:VK):Prop:=∀ (b:Addr) (N' w:Int) (mays:Ag) (Ar:Ae) (H':Hp),0<=N'->H' p=some (.lst [.int N'])->BoxAt H' b w mays Ar->Good mt mp w mays Ar->Keep H H' p->R (.ref b) H'
theorem jIE (T:Txt mg)(CT:Can P w K mg Aq "_law_take" 1 fT fdT ["pot","wide"] yW)(CL:Can P w K mg Aq "_law_lot" 2 fL fdL ["pot","wide"] xC)(hr:Room 2 (XBox P w K mg Aq f ki A Ap s H0 E).A)
  {D:Ends}{H H5:Hp}{p qm ql:Addr}{mt mp w N:Int}{mays lf:Ag}{v6 v7 v8 v9 v10:Option V}
  (S:St0 H H5 p w qm ql mays lf N) (hpH:∃ o,H p=some o) (w0:0<=w) (w1:w<=mt) (w2:mt<=16) (n0:0<=mp) (n1:mp<=32) (q:Told H p mt mp D.rt):
  (boxC T CT CL hr).1 D [some (.ref p),some (.int mt),some (.int mp),some (.int w),some (.ref qm),some (.ref ql),v6,v7,v8,v9,v10] H5:=by
 refine⟨(by show 3<=sizeLine; decide),fun l hl=>?_⟩;have pl:p≠l:=jB S.hp hl;refine⟨_,rfl,p,N,3,rfl,by rw[jA pl]; exact S.hp,S.hN,Ac,Ac,fun N1 r a1 a2 a3=>?_⟩;obtain⟨far,hfar,hf⟩:∃ far:Int,atI [V.int 1,V.int 10,V.int 2000000000001] r=some (.int far)/\(far=1\/far=10\/far=2000000000001):=by
  rcases (show r=0\/r=1\/r=2 by lia) with e | e | e
  ·subst e; exact⟨_,rfl, .inl rfl⟩
  ·subst e; exact⟨_,rfl, .inr (.inl rfl)⟩
  ·subst e; exact⟨_,rfl, .inr (.inr rfl)⟩
 refine⟨l,_,r,_,rfl,rfl,SqL.of (by rw[jA pl.symm]; exact j6),hfar,?_⟩;have S1:=S.step ((((Keep.refl _ _).new hl (.lst [V.int 1,V.int 10,V.int 2000000000001])).upd (.lst [.int N1]))) j6 a1;generalize upd (upd H5 l (.lst [V.int 1,V.int 10,V.int 2000000000001])) p (.lst [.int N1])=H6 at S1 ⊢;clear hl S;refine⟨(by show 0<=sizeLine; exact bu _),fun qp hqp=>?_⟩;have pq:p≠qp:=jB S1.hp hqp;have hHq:H qp=none:=by
  cases e:H qp with
  | none=>rfl
  | some o=>
   have:=S1.kp _ _ e pq.symm;rw[hqp] at this;cases this
 have lq:ql≠qp:=jB S1.hl hqp;have S2:=S1.step ((Keep.refl _ _).new hqp (.lst [])) (by rw[jA pq]; exact S1.hp) S1.hN;have hq2:(upd H6 qp (.lst [])) qp=some (.lst []):=j6;generalize upd H6 qp (.lst [])=H7 at S2 hq2 ⊢;clear hqp S1;refine⟨_,rfl,_,rfl,_,_,rfl,rfl,p,N1,_,rfl,S2.hp,S2.hN,Aa,Aa,fun N2 n b1 b2 b3=>?_⟩;refine⟨_,rfl,_,_,rfl,rfl, .inr ⟨_,rfl,_,_,rfl,rfl, .inl ⟨Aa,Aa⟩,_,rfl,?_⟩⟩;have S3:=S2.step ((Keep.refl _ _).upd (.lst [.int N2])) j6 b1;have hq3:(upd H7 p (.lst [.int N2])) qp=some (.lst []):=by rw[jA pq.symm]; exact hq2
 generalize upd H7 p (.lst [.int N2])=H8 at S3 hq3 ⊢;clear S2 hq2;obtain⟨m,em,hm,hw⟩:∃ m:Int,n*(if decide (0<w)=true then 1 else 0)=m/\(0<=m/\m<=mp)/\(0<m->1<=w):=by
  by_cases h:0<w
  ·exact⟨n,by simp [h],⟨b2,Aa⟩,fun _=>h⟩
  ·exact⟨0,by simp [h],⟨Aa,n0⟩,fun z=>by lia⟩
 show _/\_/\_;rw[show (n*(if decide (0<w)=true then 1 else 0))=m from em];refine⟨Aa,Aa,jCS (n:=m.toNat) (fun i σ H5=>∃ ql' lf' N' vs Ar v8 v9 v10,σ=[some (.ref p),some (.int mt),some (.int mp),some (.int w),some (.ref qm),some (.ref ql'),some (.int far),some (.ref qp),v8,v9,v10]/\St0 H H5 p w qm ql' mays lf' N'/\ql'≠qp/\H5 qp=some (.lst vs)/\PcsAt H5 vs Ar/\(∀ pc∈Ar,GoodPc w pc)/\Ar.length=i) ?_ ?_ ?_⟩
 ·exact⟨ql,lf,N2,[],[],_,_,_,rfl,S3,lq,hq3,trivial,(fun _ h=>by cases h),rfl⟩
 ·rintro i σ H9 hi ⟨ql',lf',N',vs,Ar,x8,x9,x10,rfl,S4,l4,hq4,hv4,hg4,e4⟩;exact jPU T CT CL hr S4 hq4 hv4 hg4 hf Aa hHq pq (hw Aa) Aa fun H6 N' vs' Ar' ql' lf' v9' v10' z1 z2 z3 z4 z5 z6=>⟨ql',lf',N',vs',Ar',_,_,_,rfl,z1,z2,z3,z4,z5,Aa⟩
 ·rintro σ H9 ⟨ql',lf',N',vs,Ar,x8,x9,x10,rfl,S4,l4,hq4,hv4,hg4,e4⟩;refine⟨_,rfl,_,rfl,_,rfl,qp,vs,rfl, .inl ⟨SqL.of hq4,fun tq htq=>⟨(by show 3<=sizeLine; decide),fun b hb=>?_⟩⟩⟩;have k1:Keep H9 (upd H9 tq (.tup vs)) p:=(Keep.refl _ _).new htq _;have k2:Keep H9 (upd (upd H9 tq (.tup vs)) b (.tup [.int w, .ref qm, .ref tq])) p:=k1.new hb _;have tb:=jB j6 hb;have S5:=S4.step k2 (by rw[jA (yK hb |>.2 |> fun h=>jB S4.hp h),jA (jB S4.hp htq)]; exact S4.hp) S4.hN;exact q b N' w mays Ar _ S4.hN S5.hp ⟨qm,tq,vs,j6,S5.hm,by rw[jA tb]; exact j6,hv4.mono (k2.tups S4.hp)⟩ ⟨w0,w1,S4.rm,Aa,hg4⟩ S5.kp
theorem jIF (T:Txt mg)(CT:Can P w K mg Aq "_law_take" 1 fT fdT ["pot","wide"] yW)(CL:Can P w K mg Aq "_law_lot" 2 fL fdL ["pot","wide"] xC)(hr:Room 2 (XBox P w K mg Aq f ki A Ap s H0 E).A)
  {D:Ends}{H H5:Hp}{p qm:Addr}{mt mp w N:Int}{mays:Ag}{v5 v6 v7 v8 v9 v10:Option V}
  (hp:H5 p=some (.lst [.int N])) (hN:0<=N) (hm:H5 qm=some (.tup (mays.map V.int))) (rm:Ris w mays) (kp:Keep H H5 p) (hpH:∃ o,H p=some o) (w0:0<=w) (w1:w<=mt) (w2:mt<=16) (n0:0<=mp) (n1:mp<=32) (q:Told H p mt mp D.rt):
  (boxB T CT CL hr).1 D [some (.ref p),some (.int mt),some (.int mp),some (.int w),some (.ref qm),v5,v6,v7,v8,v9,v10] H5:=by
 refine⟨_,rfl,w,rfl,fun x hx=>⟨x,w,rfl,j6,w0,Aa,fun ql hql=>?_⟩⟩;rw[jOV];have px:p≠x:=jB hp hx;have pl:p≠ql:=jB hp (yK hql).2;have k1:Keep H5 (upd (upd H5 x (.rng 0 w)) ql (.lst ((upto w.toNat).map V.int))) p:=((Keep.refl _ _).new hx _).new hql _;have e:((w.toNat:Nat):Int)=w:=Aa;have rl:Ris w (upto w.toNat):=by
  have:=kT w.toNat;rw[e] at this;exact this
 have S:St0 H (upd (upd H5 x (.rng 0 w)) ql (.lst ((upto w.toNat).map V.int))) p w qm ql mays (upto w.toNat) N:=
  ⟨by rw[jA pl,jA px]; exact hp,hN,k1 qm _ hm (ne_of hm hp (by intro z; cases z)),rm,j6,rl,pl.symm,kp.trans k1⟩
 generalize upd (upd H5 x (.rng 0 w)) ql (.lst ((upto w.toNat).map V.int))=H6 at S ⊢;clear k1 hql hx hp hm kp;refine⟨_,rfl,p,N,3,rfl,S.hp,S.hN,Ac,Ac,fun N1 r a1 a2 a3=>⟨rfl,_,rfl,?_⟩⟩;have S1:=S.step ((Keep.refl _ _).upd (.lst [.int N1])) j6 a1;generalize upd H6 p (.lst [.int N1])=H7 at S1 ⊢;clear S;refine ite2 (fun hy=>?_) (fun hy=>?_)
 ·refine⟨(by show 0<=sizeLine; exact bu _),fun l hl=>?_⟩;have pl2:p≠l:=jB S1.hp hl;have S2:=S1.step ((Keep.refl _ _).new hl (.lst [])) (by rw[jA pl2]; exact S1.hp) S1.hN;have S3:St0 H (upd H7 l (.lst [])) p w qm l mays [] N1:=⟨S2.hp,S2.hN,S2.hm,S2.rm,j6,Ris.nil w,pl2.symm,S2.kp⟩;exact jIE T CT CL hr S3 hpH w0 w1 w2 n0 n1 q
 ·exact jIE T CT CL hr S1 hpH w0 w1 w2 n0 n1 q
theorem jPV (T:Txt mg)(CT:Can P w K mg Aq "_law_take" 1 fT fdT ["pot","wide"] yW)(CL:Can P w K mg Aq "_law_lot" 2 fL fdL ["pot","wide"] xC)(hr:Room 2 (XBox P w K mg Aq f ki A Ap s H0 E).A)
  {D:Ends}{H:Hp}{p:Addr}{mt mp N:Int}
  (hp:H p=some (.lst [.int N])) (hN:0<=N) (w0:0<=mt) (w2:mt<=16) (n0:0<=mp) (n1:mp<=32) (q:Told H p mt mp D.rt):
  (boxA T CT CL hr).1 D [some (.ref p),some (.int mt),some (.int mp),none,none,none,none,none,none,none,none] H:=by
 refine⟨_,rfl,_,rfl,_,_,rfl,rfl,p,N,_,rfl,hp,hN,Aa,Aa,fun N1 w a1 a2 a3=>?_⟩;refine⟨(by show 0<=sizeLine; exact bu _),fun t ht=>?_⟩;have pt:p≠t:=(yK ht).1.symm;refine⟨_,rfl,p,N1,3,rfl,by rw[jA pt]; exact j6,a1,Ac,Ac,fun N2 r b1 b2 b3=>⟨rfl,_,rfl,?_⟩⟩;have k1:Keep H (upd (upd (upd H p (.lst [.int N1])) t (.tup [])) p (.lst [.int N2])) p:=(((Keep.refl _ _).upd _).new ht _).upd _;have hp1:(upd (upd (upd H p (.lst [.int N1])) t (.tup [])) p (.lst [.int N2])) p=some (.lst [.int N2]):=j6;have ht1:(upd (upd (upd H p (.lst [.int N1])) t (.tup [])) p (.lst [.int N2])) t=some (.tup []):=by rw[jA pt.symm]; exact j6
 generalize upd (upd (upd H p (.lst [.int N1])) t (.tup [])) p (.lst [.int N2])=H1 at k1 hp1 ht1 ⊢;clear ht;refine ite2 (fun hy=>?_) (fun hy=>?_)
 ·refine⟨_,rfl,w,rfl,Aa,Aa,jAP (n:=w.toNat) (by rw[aw]; lia) (fun D i σ' H' ys=>(∃ v,σ'=[v,some (.ref p)])/\(∃ (ms:Ag) (N':Int),ys=ms.map V.int/\ms.length<=i/\Ris i ms/\0<=N'/\H' p=some (.lst [.int N']))/\Keep H1 H' p/\H' D=some (.lst ys)/\D≠p/\H1 D=none) ?_ ?_ ?_ ?_⟩
  ·intro D hD;have:p≠D:=jB hp1 hD;exact⟨⟨_,rfl⟩,⟨[],N2,rfl,ak _,Ris.nil _,b1,by rw[jA this]; exact hp1⟩,(Keep.refl _ _).new hD _,j6,this.symm,hD⟩
  ·rintro D i σ' H' ys hD hi ⟨_,⟨ms,N',rfl,e,_⟩,_,e2,_⟩;exact⟨e2,by rw[ab]; exact e⟩
  ·rintro D i σ' H' ys hD hi ⟨⟨v,rfl⟩,⟨ms,N',rfl,e,rs,n',hp'⟩,kk,e2,dp,hn⟩;refine⟨_,rfl,p,N',3,rfl,hp',n',Ac,Ac,fun N3 r3 c1 c2 c3=>⟨rfl,_,rfl,?_⟩⟩;have k2:Keep H1 (upd H' p (.lst [.int N3])) p:=kk.upd _;have e3:(upd H' p (.lst [.int N3])) D=some (.lst (ms.map V.int)):=by rw[jA dp]; exact e2
   have hp3:(upd H' p (.lst [.int N3])) p=some (.lst [.int N3]):=j6;generalize upd H' p (.lst [.int N3])=H'' at k2 e3 hp3 ⊢;refine ite2 (fun hz=>?_) (fun hz=>?_)
   ·refine⟨_,rfl,e3,⟨_,rfl⟩,⟨ms++[(i:Int)],N3,?_,?_,rs.snoc,c1,by rw[jA dp.symm]; exact hp3⟩,k2.updNew hn _,j6,dp,hn⟩
    ·rw[aK];show _++[V.int (0+(i:Int))]=_++[V.int (i:Int)];rw[iT]
    ·rw[aF];show ms.length+1<=i+1;lia
   ·exact⟨⟨_,rfl⟩,⟨ms,N3,rfl,Aa,rs.step,c1,hp3⟩,k2,e3,dp,hn⟩
  ·rintro D σ' H' ys hD ⟨_,⟨ms,N',rfl,e,rs,n',hp'⟩,kk,e2,dp,hn⟩;refine⟨D,_,rfl, .inl ⟨SqL.of e2,fun qm hqm=>?_⟩⟩;have pm:p≠qm:=jB hp' hqm;have e':((w.toNat:Nat):Int)=w:=Aa;rw[e'] at rs;exact jIF T CT CL hr (by rw[jA pm]; exact hp') n' j6 rs ((k1.trans kk).new hqm _) ⟨_,hp⟩ a2 Aa w2 n0 n1 q
 ·exact jIF T CT CL hr hp1 b1 (mays:=[]) ht1 (Ris.nil w) k1 ⟨_,hp⟩ a2 Aa w2 n0 n1 q
theorem jX1 {f fT fL:Addr}{fd fdT fdL:FuncData}(F:Fun K "_law_box" "_law_box" sBox f fd)(T:Txt mg)(CT:Can P w K mg Aq "_law_take" 1 fT fdT ["pot","wide"] yW)(CL:Can P w K mg Aq "_law_lot" 2 fL fdL ["pot","wide"] xC):
  FnOk P w K mg Aq CX0 3 f fd ["pot","most_things","most_pieces"] spBox:=by
 refine F.ok scBox (fun vs H Q E h=>?_) (fun ki A Ap s H vs Q E hr h=>?_)
 ·obtain⟨_,_,_,_,rfl,_⟩:=h;rfl
 ·obtain⟨p,N,mt,mp,rfl,hp,hN,m0,m1,n0,n1,q⟩:=h;exact⟨_,(boxA T CT CL hr).2.h,jPV T CT CL hr hp hN m0 m1 n0 n1 q⟩
inductive Ob where
 | int (i:Int)
 | oth
 | tup (os:List Ob)
def OthAt (H:Hp)(v:V):Prop:=v= .non\/(∃ b,v= .bl b)\/(∃ x,v= .str x)\/∃ a,v= .ref a/\((∃ xs,H a=some (.lst xs))\/∃ kvs,H a=some (.dK kvs))
mutual
def At (H:Hp):Ob->V->Prop
 | .int i,v=>v= .int i
 | .oth,v=>OthAt H v
 | .tup os,v=>∃ a vs,v= .ref a/\H a=some (.tup vs)/\vs.length<=100/\Ats H os vs
def Ats (H:Hp):List Ob->List V->Prop
 | [],vs=>vs=[]
 | o::os,vs=>∃ v r,vs=v::r/\At H o v/\Ats H os r
end
structure Kp (H H':Hp):Prop where
 t:Tups H H'
 l:∀ a xs,H a=some (.lst xs)->∃ ys,H' a=some (.lst ys)
 d:∀ a xs,H a=some (.dK xs)->∃ ys,H' a=some (.dK ys)
theorem Kp.of {H H':Hp}(e:Ext H H'):Kp H H':=⟨fun b xs h=>e b _ h,fun a xs h=>⟨xs,e a _ h⟩,fun a xs h=>⟨xs,e a _ h⟩⟩
theorem OthAt.mono {H H':Hp}(k:Kp H H'){v:V}(h:OthAt H v):OthAt H' v:=by
 rcases h with h | h | h | ⟨a,rfl,⟨xs,h⟩ | ⟨xs,h⟩⟩
 ·exact .inl h
 ·exact .inr (.inl h)
 ·exact .inr (.inr (.inl h))
 ·exact .inr (.inr (.inr ⟨a,rfl, .inl (k.l _ _ h)⟩))
 ·exact .inr (.inr (.inr ⟨a,rfl, .inr (k.d _ _ h)⟩))
mutual
theorem At.mono {H H':Hp}(k:Kp H H'):∀ (o:Ob) (v:V),At H o v->At H' o v
 | .int _,_,h=>h
 | .oth,_,h=>OthAt.mono k h
 | .tup os,_,⟨a,vs,e,h,n,r⟩=>⟨a,vs,e,k.t _ _ h,n,Ats.mono k os vs r⟩
theorem Ats.mono {H H':Hp}(k:Kp H H'):∀ (os:List Ob) (vs:List V),Ats H os vs->Ats H' os vs
 | [],_,h=>h
 | o::os,_,⟨v,r,e,h,t⟩=>⟨v,r,e,At.mono k o v h,Ats.mono k os r t⟩
end
theorem At.ext {H H':Hp}(e:Ext H H'){o:Ob}{v:V}(h:At H o v):At H' o v:=At.mono (.of e) o v h
theorem Ats.len {H:Hp} :∀ {os:List Ob}{vs:List V},Ats H os vs->vs.length=os.length
 | [],_,h=>by cases (show _=[] from h); rfl
 | o::os,_,⟨v,r,e,h,t⟩=>by rw[e,aP,aP,Ats.len t]
theorem Ats.get {H:Hp} :∀ {os:List Ob}{vs:List V},Ats H os vs->∀ {i:Nat}{v:V},vs[i]?=some v->∃ o,os[i]?=some o/\At H o v
 | [],_,h,i,v,e=>by cases (show _=[] from h); cases e
 | o::os,_,⟨v,r,e,h,t⟩,0,v',e'=>by subst e; cases e'; exact⟨o,rfl,h⟩
 | o::os,_,⟨v,r,e,h,t⟩,i+1,v',e'=>by subst e; exact Ats.get t (i:=i) e'
theorem Ats.ints {H:Hp} :∀ (l:Ag),Ats H (l.map Ob.int) (l.map V.int)
 | []=>rfl
 | i::r=>⟨.int i,_,rfl,rfl,Ats.ints r⟩
def isInt:Ob->Bool
 | .int _=>true
 | _=>false
def isTup:Ob->Bool
 | .tup _=>true
 | _=>false
def upB (lo hi:Int):Ob->Bool
 | .int i=>decide (lo<=i)&&decide (i<=hi)
 | _=>false
def val:Ob->Int
 | .int i=>i
 | _=>0
def adj (is:Ag):List Bool:=(List.range (is.length - 1)).map fun k=>decide (is.getD k 0<is.getD (k+1) 0)
def risB:Ob->Bool
 | .tup os=>os.all isInt&&(adj (os.map val)).all id
 | _=>false
def lotB (w:Int):Ob->Bool
 | .tup os=>os.all (upB 0 (w - 1))&&(adj (os.map val)).all id
 | _=>false
def lotB' (w:Int)(o:Ob):Bool:=risB o&&match o with
 | .tup os=>decide (os=[]) || (decide (0<=(os.map val).getD 0 0)&&decide ((os.map val).getLastD 0<w))
 | _=>false
theorem jVX {is:Ag}(h:(adj is).all id=true){k:Nat}(hk:k+1<is.length):is.getD k 0<is.getD (k+1) 0:=by
 rw[bC] at h;exact aE (h _ (aQ.mpr ⟨k,bo.mpr Aa,rfl⟩))
theorem jQ0 {is:Ag}(h:(adj is).all id=true):∀ (j k:Nat),j<=k->k<is.length->is.getD j 0<=is.getD k 0
 | j,0,h1,_=>by
  have:j=0:=by lia
  subst this;exact cQ _
 | j,k+1,h1,h2=>by
  rcases eY k j with q | q
  ·have:j=k+1:=by lia
   subst this;exact cQ _
  ·have a:=jQ0 h j k q Aa;have b:=jVX h h2;lia
theorem jX9 (w:Int)(o:Ob):lotB' w o=lotB w o:=by
 cases o with
 | int i=>rfl
 | oth=>rfl
 | tup os=>
  rw[bP];unfold lotB' risB lotB;simp only [bG,iZ,im];constructor
  ·rintro ⟨⟨a,b⟩,c⟩;refine⟨?_,b⟩;rw[bC] at a ⊢;intro x hx;obtain⟨j,hj,rfl⟩:=dX hx;have hi:=a _ hx;have e:os≠ []:=fun e=>by subst e; cases hx
   obtain⟨c1,c2⟩:=c.resolve_left e;have hl:(os.map val).length=os.length:=ab _;have g:(os.map val).getD j 0=val os[j]:=by
    rw[ag,aL];simp [hj]
   have l1:=jQ0 b 0 j Aa Aa;have l2:=jQ0 b j (os.length - 1) Aa Aa;have l3:(os.map val).getLastD 0=(os.map val).getD (os.length - 1) 0:=by
    rw[fe,ff,ag,hl]
   rw[g] at l1 l2;rw[l3] at c2;cases e2:os[j] with
   | int i=>
    rw[e2] at l1 l2;simp only [val] at l1 l2;simp only [upB,bG,im];lia
   | oth=>rw[e2] at hi; cases hi
   | tup r=>rw[e2] at hi; cases hi
  ·rintro ⟨a,b⟩;rw[bC] at a;refine⟨⟨?_,b⟩,?_⟩
   ·rw[bC];intro x hx;have:=a x hx;cases x with
    | int i=>rfl
    | oth=>cases this
    | tup r=>cases this
   ·by_cases e:os=[]
    ·exact .inl e
    ·refine .inr ?_;have key:∀ j,j<os.length->0<=(os.map val).getD j 0/\(os.map val).getD j 0<w:=fun j hj=>by
      have g:(os.map val).getD j 0=val os[j]:=by
       rw[ag,aL];simp [hj]
      have:=a os[j] (cm hj);rw[g];cases e2:os[j] with
      | int i=>
       rw[e2] at this;simp only [upB,bG,im] at this;simp only [val];lia
      | oth=>rw[e2] at this; cases this
      | tup r=>rw[e2] at this; cases this
     have hpos:0<os.length:=by
      cases os with
      | nil=>exact absurd rfl e
      | cons _ _=>simp
     have l3:(os.map val).getLastD 0=(os.map val).getD (os.length - 1) 0:=by
      rw[fe,ff,ag,ab]
     rw[l3];exact⟨(key 0 hpos).1,(key (os.length - 1) Aa).2⟩
theorem Ats.allInt {H:Hp} :∀ {os:List Ob}{vs:List V},Ats H os vs->os.all isInt=true->vs=(os.map val).map V.int
 | [],_,h,_=>by cases (show _=[] from h); rfl
 | o::os,_,⟨v,r,e,h,t⟩,ha=>by
  rw[eG,bG] at ha;subst e;rw[bv,bv,<- Ats.allInt t ha.2];cases o with
  | int i=>cases (show v= .int i from h); rfl
  | oth=>cases ha.1
  | tup _=>cases ha.1
theorem jY0 (l:List Ob)(F:Ob->Bool):(l.map F).all id=l.all F:=by
 rw[gj];rfl
theorem jVW (is:Ag):(adj is).length=is.length - 1:=by
 unfold adj;rw[ab,cz]
theorem jY2 {is:Ag}{k:Nat}(h:k<is.length - 1):(adj is)[k]?=some (decide (is.getD k 0<is.getD (k+1) 0)):=by
 unfold adj;rw[aL,dY h];rfl
theorem jSF {is:Ag}{k:Nat}(h:k<is.length - 1):(adj is).take (k+1)=(adj is).take k++[decide (is.getD k 0<is.getD (k+1) 0)]:=by
 rw[aV,jY2 h];rfl
theorem getI {is:Ag}{k:Nat}(h:k<is.length):(is.map V.int)[k]?=some (.int (is.getD k 0)):=by
 rw[aL,ag];simp [h]
theorem At.ty (K:W.Frag){H:Hp}{o:Ob}{v:V}(h:At H o v):∃ t,TyOf K H v t/\kitOne K t (.type "tuple")=some (isTup o)/\∃ b1 b2,kitOne K t (.type "int")=some b1/\kitOne K t (.type "bool")=some b2/\(b1&&!b2)=isInt o:=by
 cases o with
 | int i=>
  cases (show v= .int i from h);exact⟨_, .int i,rfl,true,false,rfl,rfl,rfl⟩
 | oth=>
  rcases (show OthAt H v from h) with rfl | ⟨b,rfl⟩ | ⟨x,rfl⟩ | ⟨a,rfl,⟨xs,e⟩ | ⟨xs,e⟩⟩
  ·exact⟨_, .non,rfl,false,false,rfl,rfl,rfl⟩
  ·exact⟨_, .bl b,rfl,true,true,rfl,rfl,rfl⟩
  ·exact⟨_, .str x,rfl,false,false,rfl,rfl,rfl⟩
  ·exact⟨_, .lst e,rfl,false,false,rfl,rfl,rfl⟩
  ·exact⟨_, .dK e,rfl,false,false,rfl,rfl,rfl⟩
 | tup os=>
  obtain⟨a,vs,rfl,e,_⟩:=h;exact⟨_, .tup e,rfl,false,false,rfl,rfl,rfl⟩
theorem At.tupOf {H:Hp}{o:Ob}{v:V}(h:At H o v)(t:isTup o=true):∃ os a vs,o= .tup os/\v= .ref a/\H a=some (.tup vs)/\vs.length<=100/\Ats H os vs:=by
 cases o with
 | int i=>cases t
 | oth=>cases t
 | tup os=>
  obtain⟨a,vs,e1,e2,e4,e3⟩:=h;exact⟨os,a,vs,rfl,e1,e2,e4,e3⟩
theorem jPI {K:W.Frag}{m:List (Option Nat)}{g:TG}{tt:TT}{te:TE}{σ:St}{H1:Hp}{Q:VK}{a:Addr}{xs:List V}{os:List Ob}{F:Ob->Bool}(ha:H1 a=some (.tup xs))(hx:Ats H1 os xs)(hn:xs.length<sizeLine)(σP:St->Prop)(h0:σP (blkσ m σ))
  (step:∀ (σ':St) (H':Hp) (v:V) (o:Ob) (R:St->V->Hp->Prop) (S:St->Hp->Prop),σP σ'->Ext H1 H'->At H' o v->(∀ σ2 H'',σP σ2->Ext H' H''->R σ2 (.bl (F o)) H'')->g v σ' H' fun σ2 H2=>tt σ2 H2 fun b H3=>if b=true then te σ2 H3 (R σ2) else S σ2 H3)
  (hd:∀ D H',Ext H1 H'->H' D=some (.lst ((os.map F).map V.bl))->Q (.ref D) H'):qJ m g tt te σ Q (Itt K a) H1:=by
 have hl:=hx.len;refine jBX (xs:=xs) hn (fun D i σ' H' zs=>σP σ'/\Ext H1 H'/\H' D=some (.lst zs)/\H1 D=none/\zs=((os.take i).map F).map V.bl) ?_ ?_ ?_ ?_
 ·intro D hD;exact⟨h0,(Ext.refl _).new hD _,j6,hD,rfl⟩
 ·rintro D i σ' H' zs hD ⟨_,e,h2,_,rfl⟩;refine⟨e _ _ ha,h2,?_⟩;rw[ab,ab,bB];lia
 ·rintro D i σ' H' zs x hD hi ⟨p,e,h2,hn,rfl⟩;obtain⟨o,ho,hAt⟩:=hx.get hi;refine step σ' H' x o _ _ p e (hAt.ext e) fun σ2 H'' p2 e2=>⟨e2 _ _ h2,p2,(e.trans e2).updNew hn _,j6,hn,?_⟩;have:os.take (i+1)=os.take i++[o]:=by
   rw[aV,ho];rfl
  rw[this,aK,aK];rfl
 ·rintro D σ' H' zs hD ⟨_,e,h2,_,rfl⟩;rw[hl,aZ] at h2;exact hd D H' e h2
abbrev XOf (N:Am)(q:Str)(st:Stmt)(P:Program)(w:World)(K:W.Frag)(mg:Ak)(Aq:Heap)(f:Addr)(ki:Value)(A:Around)(Ap:List Env)(s:Shared)(H:Hp)(E:XK):Cx:=(cxOf CX0 P w K mg Aq N q (j8 st) f ki A Ap s H E).nox
abbrev jNX:Am:=["thing"]
theorem scWhole0:FnScope jNX ["thing"] (j8 jC4):= {}
def spWh:Sp:=fun vs H Q _=>∃ v o,vs=[v]/\At H o v/\Q (.bl (isInt o)) H
def jTE (T:Txt mg): { t:TS // JSs (XOf jNX "is_whole" jC4 P w K mg Aq f ki A Ap s H0 E) (jE jC4) t} :=
 have nd:=scWhole0.nd
 ⟨_,(jD (jP ((jOQ (jK jCC gD T.isinstance Ab (j3 (jv 0 rfl vL) (j3 (jJ6 (v:= .ty "int") gD T.int Ab rfl) j7 j4) j4) j4) (jHZ (jXL (jK jCC gD T.isinstance Ab (j3 (jv 0 rfl vL) (j3 (jJ6 (v:= .ty "bool") gD T.bool Ab rfl) j7 j4) j4) j4)))))))⟩
theorem jNG {fd:FuncData}(F:Fun K "is_whole" "is_whole" jC4 f fd)(T:Txt mg):FnOk P w K mg Aq CX0 1 f fd ["thing"] spWh:=by
 refine F.ok scWhole0 (fun vs H Q E h=>?_) (fun ki A Ap s H vs Q E hr h=>?_)
 ·obtain⟨_,_,rfl,_⟩:=h;rfl
 ·obtain⟨v,o,rfl,hA,q⟩:=h;obtain⟨t,ty,_,b1,b2,k1,k2,e⟩:=hA.ty K;refine⟨_,(jTE T).2.h,?_⟩;refine⟨_,rfl,_,_,_,b1,rfl,ty,k1,b1,rfl,?_⟩;rw[<- e] at q;cases b1 with
  | true=>exact iteT ⟨_,rfl,_,_,_,b2,rfl,ty,k2,b2,rfl,q⟩
  | false=>exact iteF q
abbrev jED:Am:=["thing"]
theorem scRising:FnScope jED ["thing"] (j8 jAS):= {}
def spB (F:Ob->Bool):Sp:=fun vs H Q _=>∃ v o,vs=[v]/\At H o v/\∀ H',Ext H H'->Q (.bl (F o)) H'
def jTQ (T:Txt mg)(CW:Can P w K mg Aq "is_whole" 1 fW fdW ["thing"] spWh)(hr:Room 1 (XOf jED "is_rising" jAS P w K mg Aq f ki A Ap s H0 E).A): { t:TS // JSs (XOf jED "is_rising" jAS P w K mg Aq f ki A Ap s H0 E) (jE jAS) t} :=
 have nd:=scRising.nd
 ⟨_,(j9 (yA (jDS (qZ (jK jCC gD T.isinstance Ab (j3 (jv 0 rfl vC) (j3 (jJ6 (v:= .ty "tuple") gD T.tuple Ab rfl) j7 j4) j4) j4) qF)) (jD (jP (je_bl))) jZ)
   (j9 (yA (jDS (qZ (jK (jBM rfl) gD T.all Ab (j3 (kI (m:=[none]) (Nc:=["number"]) rfl (qP (jv 0 rfl vC)) rfl Ab Ab (jQ (psc:=j8 jAS)) (jJ (N:=jED) rfl rfl Ab) (fun cl C fp s H=>jL (i:=0) (show (["number"]:Am).Nodup by decide+kernel) rfl yD) (fun cl C fp s H=>kR) (fun cl C fp s H=>(CW.je hr gl_b (j3 (jv 0 rfl jM) j7 j4) j4)) y8) j7 jN) jN) qF)) (jD (jP (je_bl))) jZ)
   (jD (jP (jK (jBM rfl) gD T.all Ab (j3 (kI (m:=[none,some 0]) (Nc:=["k","thing"]) rfl (jOK gD T.range (j3 (je_int) (j3 (jK jW gD T.len Ab (j3 (jv 0 rfl vC) j7 j4) j4) j7 jG) kN) kN jG) rfl Ab Ab (jQ (psc:=j8 jAS)) (jJ (N:=jED) rfl rfl Ab) (fun cl C fp s H=>jL (i:=0) (show (["k","thing"]:Am).Nodup by decide+kernel) rfl yD) (fun cl C fp s H=>kR) (fun cl C fp s H=>(yV op_lt (jH kG (jv 1 rfl kD) (kY jEB (jv 0 rfl jM) (je_int)) jSR) (jH kG (jv 1 rfl kD) (jv 0 rfl jM) yU) (jV _))) kS) j7 jN) jN)))))⟩
theorem jNL {fd:FuncData}(F:Fun K "is_rising" "is_rising" jAS f fd)(T:Txt mg)(CW:Can P w K mg Aq "is_whole" 1 fW fdW ["thing"] spWh):FnOk P w K mg Aq CX0 2 f fd ["thing"] (spB risB):=by
 refine F.ok scRising (fun vs H Q E h=>?_) (fun ki A Ap s H vs Q E hr h=>?_)
 ·obtain⟨_,_,rfl,_⟩:=h;rfl
 ·obtain⟨v,o,rfl,hA,q⟩:=h;obtain⟨t,ty,kt,_⟩:=hA.ty K;refine⟨_,(jTQ T CW hr).2.h,?_⟩;refine⟨_,rfl,_,_,_,_,rfl,ty,kt,_,rfl,?_⟩;cases ht:isTup o with
  | false=>
   refine iteT ?_;have:risB o=false:=by cases o <;> first | rfl | cases ht
   rw[<- this];exact q H (Ext.refl H)
  | true=>
   refine iteF ?_;obtain⟨os,a,vs,rfl,rfl,ha,h100,hx⟩:=hA.tupOf ht;have hl:=hx.len;have hn:vs.length<sizeLine:=by rw[aw]; lia
   ·refine⟨_,rfl,a,rfl,⟨_,SqT.of ha⟩,jPI (F:=isInt) ha hx hn (fun σ'=>∃ v,σ'=[v]) ⟨_,rfl⟩ ?_ ?_⟩
    ·rintro σ' H' v o R S ⟨u,rfl⟩ e hA k;dsimp only [kJ,yL];rw[ao rfl];exact⟨_,rfl,v,o,rfl,hA,k _ H' ⟨_,rfl⟩ (Ext.refl _)⟩
    ·intro D H1 e1 hD;refine⟨D,_,rfl,SqL.of hD,_,rfl,?_⟩;rw[jY0];cases hi:os.all isInt with
     | false=>
      refine iteT ?_;have:risB (.tup os)=false:=by
       show (os.all isInt&&_)=false;rw[hi];rfl
      rw[<- this];exact q H1 e1
     | true=>
      refine iteF ?_;have hv:=hx.allInt hi;have hN:(os.map val).length=os.length:=ab _;refine⟨_,rfl,a,_,rfl, .inr (SqT.of (e1 _ _ ha)),1,_,rfl,⟨Ac,Ac,Aa,by rw[aw] at hn; lia⟩,jAP (n:=((vs.length:Int) - 1).toNat) Aa (fun D i σ' H' zs=>(∃ v,σ'=[v,some (.ref a)])/\zs=((adj (os.map val)).take i).map V.bl/\H'=upd H1 D (.lst zs)) ?_ ?_ ?_ ?_⟩
      ·intro D hD;exact⟨⟨_,rfl⟩,rfl,rfl⟩
      ·rintro D i σ' H' zs hD hi2 ⟨_,rfl,rfl⟩;refine⟨j6,?_⟩;rw[ab,bB];lia
      ·rintro D i σ' H' zs hD hi2 ⟨⟨v,rfl⟩,rfl,rfl⟩;have hi3:i<(os.map val).length - 1:=Aa;have ha':(upd H1 D (.lst (((adj (os.map val)).take i).map V.bl))) a=some (.tup ((os.map val).map V.int)):=by
        rw[jA (jB (e1 _ _ ha) hD),e1 _ _ ha,hv]
       dsimp only [kJ,yL];rw[ao rfl];have e0:(1+(i:Int)) - 1=(i:Int):=Aa;have e2:(1+(i:Int))=((i+1:Nat):Int):=Aa;refine⟨_,rfl,_,rfl,_,_,rfl,rfl,a,_,_,_,rfl,rfl,SqT.of ha',by rw[e0]; exact yQ (getI Aa),_,rfl,_,rfl,a,_,_,_,rfl,rfl,SqT.of ha',by rw[e2]; exact yQ (getI Aa),_,_,rfl,rfl,j6,⟨_,rfl⟩,?_,jBB⟩;rw[jSF hi3,aK];rfl
      ·rintro D2 σ' H' zs hD2 ⟨_,rfl,rfl⟩;have hlen:((vs.length:Int) - 1).toNat=(adj (os.map val)).length:=by rw[jVW]; lia
       rw[hlen,aZ];refine⟨D2,_,rfl,SqL.of j6,?_⟩;have:(adj (os.map val)).all id=risB (.tup os):=by
        show _=(os.all isInt&&(adj (os.map val)).all id);rw[hi,iw]
       rw[this];exact q _ (e1.new hD2 _)
end Eo
end
namespace L2
open PySem
theorem px_un {op:UnaryOp}{a:Expr}{pos:Pos} :jB8 (.UnaryOp op a pos):=fun _ _=>rfl
theorem jVT {α:Type}{xs:List α}{v:α}(h:xs[xs.length - 1]?=some v):atI xs (-1)=some v:=by
 have hj:xs.length - 1<xs.length:=(ai.mp h).1;have e:ixN xs.length (-1)=some (xs.length - 1):=by
  unfold ixN;rw[am Aa,ao Aa];congr 1;lia
 unfold atI;rw[e];exact h
theorem qb {Q:VK}{H:Hp}{a b:Bool}(q:Q (.bl a) H)(e:a=b):Q (.bl b) H:=e ▸ q
end L2
namespace Eo
open PySem L2
section
variable {fPs:Addr}{fdPs:FuncData}
abbrev jO1:Am:=["thing","many"]
theorem scIsLot:FnScope jO1 ["thing","many"] (j8 jDN):= {}
def spB2 (F:Int->Ob->Bool):Sp:=fun vs H Q _=>∃ v o w,vs=[v, .int w]/\At H o v/\∀ H',Ext H H'->Q (.bl (F w o)) H'
def jXP (T:Txt mg)(CR:Can P w K mg Aq "is_rising" 2 fR fdR ["thing"] (spB risB))(hr:Room 2 (XOf jO1 "is_lot" jDN P w K mg Aq f ki A Ap s H0 E).A): { t:TS // JSs (XOf jO1 "is_lot" jDN P w K mg Aq f ki A Ap s H0 E) (jE jDN) t} :=
 have nd:=scIsLot.nd
 ⟨_,(j9 (yA (jDS (qZ (CR.je hr gD (j3 (jv 0 rfl vL) j7 j4) j4) qF)) (jD (jP (je_bl))) jZ)
   (jD (jP ((je_or (yV qX (jK jW gD T.len Ab (j3 (jv 0 rfl vL) j7 j4) j4) (je_int) (jV _)) (jHZ ((jOQ (yV op_ge (jH jI (jv 0 rfl vL) (je_int) jC) (je_int) (jV _)) (jHZ (yV op_lt (jH jI (jv 0 rfl vL) (je_un jSH (je_int)) px_un) (jv 1 rfl vL) (jV _)))))))))))⟩
theorem jR0 {fd:FuncData}(F:Fun K "is_lot" "is_lot" jDN f fd)(T:Txt mg)(CR:Can P w K mg Aq "is_rising" 2 fR fdR ["thing"] (spB risB)):FnOk P w K mg Aq CX0 3 f fd ["thing","many"] (spB2 lotB):=by
 refine F.ok scIsLot (fun vs H Q E h=>?_) (fun ki A Ap s H vs Q E hr h=>?_)
 ·obtain⟨_,_,_,rfl,_⟩:=h;rfl
 ·obtain⟨v,o,w,rfl,hA,q⟩:=h;refine⟨_,(jXP T CR hr).2.h,?_⟩;refine⟨_,rfl,v,o,rfl,hA,fun H1 e1=>⟨_,rfl,?_⟩⟩;have eq:=jX9 w o;cases hR:risB o with
  | false=>
   refine iteT (qb (q H1 e1) ?_);rw[<- eq];unfold lotB';rw[hR];rfl
  | true=>
   refine iteF ?_;have ht:isTup o=true:=by cases o <;> first | rfl | cases hR
   obtain⟨os,a,vs,rfl,rfl,ha,h100,hx⟩:=hA.tupOf ht;have hl:=hx.len;have hi:os.all isInt=true:=by
    have:(os.all isInt&&(adj (os.map val)).all id)=true:=hR;rw[bG] at this;exact this.1
   have hv:=hx.allInt hi;have ha1:=e1 _ _ ha;refine⟨_,rfl,a,_,rfl, .inr (SqT.of ha1),rfl,_,rfl,ite2 (fun hy=>?_) (fun hy=>?_)⟩
   ·have h0:=V.int.inj (aE hy);have e0:os=[]:=dZ.mp Aa;refine qb (q H1 e1) ?_;rw[<- eq];unfold lotB';rw[hR];simp [e0]
   ·have h0:0<vs.length:=Nat.pos_of_ne_zero fun h=>hy (aq (by rw[h]; rfl));have hml:(os.map val).length=vs.length:=by rw[ab,hl]
    refine⟨_,rfl,a,_,0, .int ((os.map val).getD 0 0),rfl,rfl,SqT.of ha1,?_,_,_,rfl,rfl,_,rfl,ite2 (fun hz=>?_) (fun hz=>?_)⟩
    ·rw[hv];exact yQ (j:=0) (getI Aa)
    ·refine⟨_,rfl,_,rfl,a,_,_, .int ((os.map val).getLastD 0),rfl,rfl,SqT.of ha1,?_,_,rfl,_,_,rfl,rfl,qb (q H1 e1) ?_⟩
     ·show atI vs (-1)=_;refine jVT ?_;rw[hv,ab,getI Aa,fe,ff,ag]
     ·rw[<- eq];unfold lotB';rw[hR];have e0:¬ os=[]:=fun e=>by rw[e] at hl; have:vs.length=0:=hl; lia
      have hz:=aE hz;simp [e0];intro hh;simpa using hz
    ·refine qb (q H1 e1) ?_;rw[<- eq];unfold lotB';rw[hR];have e0:¬ os=[]:=fun e=>by rw[e] at hl; have:vs.length=0:=hl; lia
     have hz:¬ (0<=(os.map val).getD 0 0):=fun h=>hz (aq h);simp only [e0,decide_false,iu,iw,aJ hz,eM]
end
end Eo
namespace L2
open PySem
section
variable {P:Program}{w:World}{K:W.Frag}{mg:Ak}{Aq:Heap}{N:Am}{qual:Str}{sc:Scope}{f:Addr}{ki:Value}{A:Around}{Ap:List Env}{s:Shared}{H:Hp}{E:XK}{x y z:Str}{p1 p2 p3 pos:Pos}{k i j l:Nat}
theorem jKV (hN:N.Nodup)(hi:N[i]?=some x)(hj:N[j]?=some y)(hx:sc.names.lookup x=some .local)(hy:sc.names.lookup y=some .local):
  JG (cxOf CX0 P w K mg Aq N qual sc f ki A Ap s H E).nox (.Tuple [.Name x p1, .Name y p2] k pos) (gTup K 2 (gCons (kJ i) (gCons (kJ j) gNil))):=
 jKW (X:=(cxOf CX0 P w K mg Aq N qual sc f ki A Ap s H E).nox) rfl (jAD (jL hN hi (loc_l hx)) (jAD (jL hN hj (loc_l hy)) jGP jAW) jAW)
end
section
variable {K:W.Frag}{m:List (Option Nat)}{g:TG}{tt:TT}{te:TE}{σ:St}{H1:Hp}{Q:VK}
theorem jS7 {a:Addr}{xs:List V}(hn:xs.length<sizeLine)(Pv:Addr->Nat->St->Hp->List V->Prop)(h0:∀ D,H1 D=none->Pv D 0 (blkσ m σ) (upd H1 D (.lst [])) [])
  (hD:∀ D i σ' H' zs,H1 D=none->Pv D i σ' H' zs->H' a=some (.lst xs)/\H' D=some (.lst zs)/\zs.length<=i)
  (hs:∀ D i σ' H' zs x,H1 D=none->xs[i]?=some x->Pv D i σ' H' zs->g x σ' H' fun σ2 H2=>tt σ2 H2 fun b H3=>if b=true then te σ2 H3 fun v H4=>H4 D=some (.lst zs)/\Pv D (i+1) σ2 (upd H4 D (.lst (zs++[v]))) (zs++[v]) else Pv D (i+1) σ2 H3 zs)
  (hd:∀ D σ' H' zs,H1 D=none->Pv D xs.length σ' H' zs->Q (.ref D) H'):qJ m g tt te σ Q (Itl K a) H1:=by
 intro D hDn;refine⟨fun i k σ' H' zs=>k=xs.length - i/\i<=xs.length/\Pv D i σ' H' zs,⟨_,rfl,bu _,h0 D hDn⟩,?_⟩;rintro i k σ' H' zs ⟨rfl,hi,p⟩;obtain⟨s1,q1,q2⟩:=hD D i σ' H' zs hDn p;refine⟨q1,Aa,?_⟩;by_cases hlt:i<xs.length
 ·refine .inr ⟨⟨xs,xs[i],SqL.of s1,by simp [hlt]⟩,Pv D (i+1),fun σ2 H2 zs z=>⟨xs.length - (i+1),Aa,rfl,hlt,z⟩,fun v H'' y=>?_⟩;obtain⟨e1,e2⟩:=y;subst e1;exact hs D i σ' _ zs v hDn (e2 xs (SqL.of s1)) p
 ·have e:i=xs.length:=Aa;subst e;exact .inl ⟨⟨xs,SqL.of s1,ak _⟩,hd D σ' H' zs hDn p⟩
end
end L2
namespace Eo
open PySem L2
theorem jGS {α:Type}{l:List α}{i:Nat}{d:α}(h:i<l.length):l.getD i d=l[i]:=by
 rw[ag,aA h];rfl
theorem kQ (l:Ag):(l.map V.int).all xE=true:=by
 rw[bC];intro x hx;obtain⟨i,_,rfl⟩:=aQ.mp hx;rfl
theorem yG (i:Int)(l:Ag):inV (.int i) (l.map V.int)=decide (i∈l):=by
 unfold inV;rw[bP,dF,aW];constructor
 ·rintro ⟨x,hx,e⟩;obtain⟨j,hj,rfl⟩:=aQ.mp hx;have:j=i:=eq_of_beq e;rw[<- this];exact hj
 ·intro h;exact⟨.int i,aQ.mpr ⟨i,h,rfl⟩,by simp [eqV]⟩
theorem jPH (i:Int):∀ (l:Ag),((l.map V.int).countP fun z=>eqV z (.int i))=l.count i
 | []=>rfl
 | a::r=>by
  rw[bv,cq,jPH i r,List.count_cons];rfl
theorem yT:∀ (ts:Ag) (lo w:Int),ts.Pairwise (· < ·)->(∀ z∈ts,lo<=z/\z<w)->(ts.length:Int)<=max (w - lo) 0
 | [],lo,w,_,_=>by show (0:Int)<=_; lia
 | a::r,lo,w,hp,hb=>by
  have h1:=hb a az;have hp':=cB.mp hp;have:=yT r (a+1) w hp'.2 fun z hz=>⟨by have:=hp'.1 z hz; lia,(hb z (aB _ hz)).2⟩;rw[aP];lia
def j5 (Ar:Ae)(k:Int):Ag:=(Ar.getD k.toNat ([],0)).1
theorem PcsAt.get {H:Hp} :∀ {vs:List V}{ps:Ae},PcsAt H vs ps->∀ {k:Nat},k<ps.length->∃ v,vs[k]?=some v/\PcAt H v (ps.getD k ([],0))
 | v::vs,p::ps,h,0,_=>⟨v,rfl,h.1⟩
 | v::vs,p::ps,h,k+1,hk=>PcsAt.get h.2 (k:=k) (by simpa using hk)
 | [],[],_,k,hk=>absurd hk (dM _)
 | [],_::_,h,_,_=>h.elim
 | _::_,[],h,_,_=>h.elim
theorem Good.at {mt mp w:Int}{ms:Ag}{Ar:Ae}(g:Good mt mp w ms Ar){k:Nat}(hk:k<Ar.length):GoodPc w (Ar.getD k ([],0)):=by
 have e:Ar.getD k ([],0)=Ar[k]:=by simp [List.getD,hk]
 rw[e];exact g.pg _ (cm hk)
theorem jQK {H:Hp}{vs:List V}{Ar:Ae}(h:PcsAt H vs Ar){k:Int}(h0:0<=k)(h1:k<Ar.length):∃ a q wt,atI vs k=some (.ref a)/\H a=some (.tup [.ref q, .int wt])/\H q=some (.tup ((j5 Ar k).map V.int)):=by
 obtain⟨v,hv,a,q,rfl,b1,b2⟩:=h.get (k:=k.toNat) Aa;refine⟨a,q,_,?_,b1,b2⟩;have e:((k.toNat:Nat):Int)=k:=Aa;have:=yQ hv;rw[e] at this;exact this
theorem jCF {n i:Nat}(h:i<n):(upto n).take (i+1)=(upto n).take i++[(i:Int)]:=by
 unfold upto;rw[<- jo,<- jo,List.take_range,List.take_range,show min (i+1) n=i+1 by lia,show min i n=i by lia,gN,aK];rfl
theorem kU (n:Nat):(upto n).length=n:=by
 unfold upto;rw[ab,cz]
theorem jAC {n i:Nat}(h:i<n):(upto n)[i]?=some (i:Int):=by
 unfold upto;rw[aL,dY h];rfl
theorem jTA {H:Hp}{a:Addr}{vs:List V}{os:List Ob}(h:H a=some (.tup vs))(n:vs.length<=100)(r:Ats H os vs):At H (.tup os) (.ref a):=⟨a,vs,rfl,h,n,r⟩
theorem _root_.L2.Ext.tups {H H':Hp}(e:Ext H H'):Tups H H':=fun b xs h=>e b _ h
theorem PcsAt.at {H:Hp} :∀ {vs:List V}{ps:Ae},PcsAt H vs ps->∀ {i:Nat}{v:V},vs[i]?=some v->∃ pc,ps[i]?=some pc/\PcAt H v pc
 | [],[],_,i,v,e=>by cases e
 | x::vs,p::ps,h,0,v,e=>by cases e; exact⟨p,rfl,h.1⟩
 | x::vs,p::ps,h,i+1,v,e=>PcsAt.at h.2 (i:=i) e
 | [],_::_,h,_,_,_=>h.elim
 | _::_,[],h,_,_,_=>h.elim
theorem PcsAt.snoc {H:Hp}{v:V}{p:List Int×Int}(hv:PcAt H v p):∀ {vs:List V}{ps:Ae},PcsAt H vs ps->PcsAt H (vs++[v]) (ps++[p])
 | [],[],_=>⟨hv,trivial⟩
 | x::vs,q::ps,h=>⟨h.1,PcsAt.snoc hv h.2⟩
 | [],_::_,h=>h.elim
 | _::_,[],h=>h.elim
def fitM (dn:Nat)(pc:List Int×Int):Bool:=decide (maskN pc.1&&&dn=0)
def fitS (ds:Ag)(pc:List Int×Int):Bool:=!pc.1.any fun t=>decide (t∈ds)
def Done (dn:Nat)(ds:Ag):Prop:=(∀ n:Nat,dn.testBit n=decide ((n:Int)∈ds))/\∀ t∈ds,0<=t/\t<64
theorem jS0 {dn:Nat}{ds:Ag}(h:Done dn ds){w:Int}{pc:List Int×Int}(g:GoodPc w pc):fitM dn pc=fitS ds pc:=by
 have hb:∀ n,(maskN pc.1).testBit n=decide ((n:Int)∈pc.1):=fun n=>jA6 pc.1 n g.lot.ris fun t ht=>(g.lot.bnd t ht).1;unfold fitM fitS;rw[bP,aW,cg,eJ];constructor
 ·intro e t ht hd;have hd:t∈ds:=aE hd;obtain⟨n,rfl⟩:∃ n:Nat,t=(n:Int):=⟨t.toNat,by have:=(g.lot.bnd t ht).1; lia⟩;have:(maskN pc.1&&&dn).testBit n=true:=by rw[db,hb,h.1,aq ht,aq hd]; rfl
  rw[e,cr] at this;cases this
 ·intro e;refine dv fun n=>?_;rw[cr,db,hb,h.1];by_cases h1:(n:Int)∈pc.1
  ·have:=e _ h1;have h2:¬ (n:Int)∈ds:=fun z=>this (aq z);rw[aJ h2,cC]
  ·rw[aJ h1,eM]
def mus (mays:Ag)(n:Nat):Ag:=((List.range n).filter fun (t:Nat)=>!decide ((t:Int)∈mays)).map fun (t:Nat)=>(t:Int)
theorem jKJ (mays:Ag)(n:Nat):mus mays (n+1)=mus mays n++(if (!decide ((n:Int)∈mays))=true then [(n:Int)] else []):=by
 unfold mus;rw[gN,bw,aK];congr 1;rw[b9];split <;> rfl
theorem jO3 (mays:Ag)(n:Nat):(mus mays n).length<=n:=by
 unfold mus;rw[ab];exact be (bb _ _) (by rw[cz]; exact ak _)
theorem Keep.ext {H H':Hp}{p:Addr}{o:HO}(k:Keep (L2.upd H p o) H' p)(hp:H p=none):Ext H H':=fun b u hb=>by
 have n:b≠p:=jB hb hp;exact k b u (by rw[jA n]; exact hb) n
theorem Good.wide {mt mp w mt' mp':Int}{ms:Ag}{Ar:Ae}(g:Good mt mp w ms Ar)(h1:mt<=mt')(h2:mp<=mp'):Good mt' mp' w ms Ar:=⟨g.w0,cX g.w1 h1,g.mr,cX g.pl h2,g.pg⟩
theorem jNT (n:Nat):∀ (ds:Ag),ds.Nodup->(∀ t∈ds,0<=t/\t<(n:Int))->ds.length<=n:=by
 intro ds h1 h2;have h3:(ds.map Int.toNat).Nodup:=by
  rw[List.Nodup,bA];refine dU (R:=(· ≠ ·)) (fun {a b} ha hb hne e=>hne ?_) h1;have:=h2 a ha;have:=h2 b hb;lia
 have h4:(ds.map Int.toNat).length<=(List.range n).length:=h3.length_le_of_subset fun x hx=>by
  obtain⟨t,ht,rfl⟩:=aQ.mp hx;have:=h2 t ht;exact bo.mpr Aa
 rw[ab,cz] at h4;exact h4
def jBE (K:W.Frag):Sp:=fun vs H Q _=>∃ (sc:Addr) (ns:Ag) (k mt mp:Int),vs=[.ref sc, .int k, .int mt, .int mp]/\SqL K H sc (ns.map V.int)/\0<=k/\0<=mt/\mt<=16/\0<=mp/\mp<=16/\
 ∀ b w ms Ar H',BoxAt H' b w ms Ar->Good 16 16 w ms Ar->Ext H H'->Q (.ref b) H'
abbrev jO2:Am:=["script","k","things","pieces","pot"]
theorem scDrawn:FnScope jO2 ["script","k","things","pieces"] (j8 jDO):= {}
def jXU (T:Txt mg)(CC:Can P w K mg Aq "_law_cell_at" 1 fC fdC ["script","k"] (jK0 K))(CP:Can P w K mg Aq "_law_pot" 1 fP fdP ["cell"] spPot)(CT:Can P w K mg Aq "_law_take" 1 fT fdT ["pot","wide"] yW)(CB:Can P w K mg Aq "_law_box" 3 fB fdB ["pot","most_things","most_pieces"] spBox)(hr:Room 3 (XOf jO2 "_law_drawn" jDO P w K mg Aq f ki A Ap s H0 E).A): { t:TS // JSs (XOf jO2 "_law_drawn" jDO P w K mg Aq f ki A Ap s H0 E) (jE jDO) t} :=
 have nd:=scDrawn.nd
 ⟨_,(j9 (jR (i:=4) nd rfl lL (CP.je (hr.mono Ac) gD (j3 (CC.je (hr.mono Ac) gD (j3 (jv 0 rfl vL) (j3 (jv 1 rfl vL) j7 j4) j4) j4) j7 jG) jG) jY)
   (j9 (yA (jO qX (CT.je (hr.mono Ac) gD (j3 (jv 4 rfl vL) (j3 (je_int) j7 kN) j4) j4) (je_int) (jV _)) (jD (jP (CB.je hr gD (j3 (jv 4 rfl vL) (j3 (je_int) (j3 (je_int) j7 kN) kN) j4) j4))) jZ)
   (jD (jP (CB.je hr gD (j3 (jv 4 rfl vL) (j3 (jv 2 rfl vL) (j3 (jv 3 rfl vL) j7 j4) j4) j4) j4)))))⟩
theorem jR1 {fd:FuncData}(F:Fun K "_law_drawn" "_law_drawn" jDO f fd)(T:Txt mg)(CC:Can P w K mg Aq "_law_cell_at" 1 fC fdC ["script","k"] (jK0 K))(CP:Can P w K mg Aq "_law_pot" 1 fP fdP ["cell"] spPot)(CT:Can P w K mg Aq "_law_take" 1 fT fdT ["pot","wide"] yW)(CB:Can P w K mg Aq "_law_box" 3 fB fdB ["pot","most_things","most_pieces"] spBox):FnOk P w K mg Aq CX0 4 f fd ["script","k","things","pieces"] (jBE K):=by
 refine F.ok scDrawn (fun vs H Q E h=>?_) (fun ki A Ap s H vs Q E hr h=>?_)
 ·obtain⟨_,_,_,_,_,rfl,_⟩:=h;rfl
 ·obtain⟨a,ns,k,mt,mp,rfl,hS,k0,m0,m1,p0,p1,q⟩:=h;refine⟨_,(jXU T CC CP CT CB hr).2.h,?_⟩;refine⟨_,rfl,_,rfl,a,ns,k,rfl,hS,k0,fun c=>?_⟩;refine⟨c,rfl,fun p N hp hN=>?_⟩;refine⟨_,rfl,p,N,8,rfl,j6,hN,Ac,Ac,fun N1 r a1 a2 a3=>?_⟩;rw[jBB];refine⟨rfl,_,rfl,ite2 (fun _=>?_) (fun _=>?_)⟩
  ·refine⟨_,rfl,p,N1,16,7,rfl,j6,a1,Ac,Ac,Ac,Ac,fun b N' w ms Ar H1 c1 c2 c3 c4 c5=>?_⟩;exact q b w ms Ar H1 c3 (c4.wide Ac Ac) (c5.ext hp)
  ·refine⟨_,rfl,_,rfl,_,rfl,p,N1,mt,mp,rfl,j6,a1,m0,m1,p0,Aa,fun b N' w ms Ar H1 c1 c2 c3 c4 c5=>?_⟩;exact q b w ms Ar H1 c3 (c4.wide m1 p1) (c5.ext hp)
theorem jT3 {H:Hp} :∀ l:Ag,TsAt H (l.map Tr.int) (l.map V.int)
 | []=>rfl
 | i::r=>⟨.int i,_,rfl,rfl,jT3 r⟩
theorem jI5:∀ l:Ag,deps (l.map Tr.int)=0
 | []=>by simp [deps]
 | i::r=>by simp [deps,dep,jI5 r]
theorem iteN {A B:Prop}{c:Bool}(hc:c=false)(h:B):if c=true then A else B:=by
 rw[hc];exact iteF h
abbrev leI:Int->Int->Bool:=fun a b=>decide (a<=b)
def srt (l:Ag):Ag:=l.mergeSort leI
theorem kW (l:Ag):(srt l).Perm l:=List.mergeSort_perm _ _
theorem jHC (l:Ag):(srt l).Pairwise (· <= ·):=by
 have:=List.pairwise_mergeSort (le:=leI) (fun a b c h1 h2=>aq (cX (aE h1) (aE h2))) (fun a b=>by
  rw[iZ];rcases Int.le_total a b with h | h
  ·exact .inl (aq h)
  ·exact .inr (aq h)) l
 exact this.imp fun h=>aE h
theorem jC1 {l m:Ag}(h1:m.Pairwise (· <= ·))(h2:m.Perm l):m=srt l:=
 List.Perm.eq_of_pairwise (fun a b _ _ h1 h2=>Int.le_antisymm h1 h2) h1 (jHC l) (h2.trans (kW l).symm)
theorem jMU {l:Ag}(h:l.Pairwise (· <= ·)):srt l=l:=(jC1 h (.refl _)).symm
theorem jTO (l:Ag):(srt l).length=l.length:=(kW l).length_eq
theorem jN3 {a b:Ag}(ra:a.Pairwise (· < ·))(rb:b.Pairwise (· < ·))(h:∀ x,x∈a↔x∈b):a=b:=by
 have na:a.Nodup:=ra.imp fun {a b} h=>by lia
 have nb:b.Nodup:=rb.imp fun {a b} h=>by lia
 have pm:a.Perm b:=(eS na nb).mpr h;rw[jC1 (ra.imp fun {a b} h=>by lia) pm,jMU (rb.imp fun {a b} h=>by lia)]
def plcs (ts lot:Ag):Ag:=(lot.filter fun t=>decide (t∈ts)).map fun t=>((ts.idxOf t:Nat):Int)
def nmd (ts lot:Ag):Ag:=srt (plcs ts lot)
theorem jK9 (ts lot:Ag):(plcs ts lot).length<=lot.length:=by
 unfold plcs;rw[ab];exact bb _ _
def pick (ts:Ag)(Ar:Ae)(ks:Ag):Ae:=ks.map fun k=>(nmd ts (j5 Ar k),(Ar.getD k.toNat ([],0)).2)
def plKv (ts:Ag):List (Key×V):=(List.range ts.length).map fun i=>(Sum.inl (ts.getD i 0),V.int (i:Int))
theorem jQI (ts:Ag):(plKv ts).length=ts.length:=by
 unfold plKv;rw[ab,cz]
theorem jEA (ts:Ag):(plKv ts).map (·.1)=ts.map Sum.inl:=by
 unfold plKv;rw[bH];refine List.ext_getElem Ad fun i h1 h2=>?_;have:i<ts.length:=by simpa using h1
 simp [List.getD,this]
theorem jQJ {ts:Ag}{i:Nat}{k:Key}{v:V}(h:(plKv ts)[i]?=some (k,v)):∃ t,ts[i]?=some t/\k=Sum.inl t/\v=V.int (i:Int):=by
 unfold plKv at h;rw[aL] at h;by_cases hi:i<ts.length
 ·rw[dY hi] at h;simp only [map_some,gd,Prod.mk.injEq] at h;refine⟨ts[i],by simp [hi],?_,h.2.symm⟩;rw[<- h.1];simp [List.getD,hi]
 ·rw[de (by simp; lia)] at h;cases h
theorem jQ6 {κ:Type} [DecidableEq κ]{kvs:List (κ×V)}{k:κ}(h:k∉kvs.map (·.1)):valV kvs k=none:=by
 unfold valV;rw[h9.mpr fun x hx=>?_]
 ·rfl
 ·intro e;exact h (aQ.mpr ⟨x,hx,aE e⟩)
theorem jSG {κ:Type} [DecidableEq κ]:∀ {kvs:List (κ×V)}{i:Nat}{k:κ}{v:V},(kvs.map (·.1)).Nodup->kvs[i]?=some (k,v)->valV kvs k=some v
 | [],_,_,_,_,h=>by simp at h
 | p::r,0,k,v,_,h=>by
  simp at h;subst h;exact jBO rfl
 | p::r,i+1,k,v,nd,h=>by
  rw[bv,cF] at nd;have h:r[i]?=some (k,v):=by simpa using h
  have hm:k∈r.map (·.1):=aQ.mpr ⟨_,ay h,rfl⟩;have ne:¬ p.1=k:=fun e=>nd.1 (by rw[e]; exact hm);have:=jSG (i:=i) nd.2 h;unfold valV at this ⊢;rw[dN,aJ ne];exact this
theorem jHP {ts:Ag}(h:ts.Nodup):(ts.map (Sum.inl:Int->Key)).Nodup:=by
 rw[List.Nodup,bA];exact h.imp fun hne e=>hne (gG e)
theorem jQH {ts:Ag}(nd:ts.Nodup)(t:Int):valV (plKv ts) (Sum.inl t)=if t∈ts then some (.int ((ts.idxOf t:Nat):Int)) else none:=by
 by_cases h:t∈ts
 ·rw[ao h];have hi:=bO.mpr h;refine jSG (i:=ts.idxOf t) (by rw[jEA]; exact jHP nd) ?_;unfold plKv;rw[aL,dY hi];show some (Sum.inl (ts.getD (ts.idxOf t) 0),_)=_;rw[show ts.getD (ts.idxOf t) 0=t by simp [List.getD,hi,fX]]
 ·rw[am h];refine jQ6 ?_;rw[jEA];intro z;obtain⟨x,hx,e⟩:=aQ.mp z;exact h (gG e ▸ hx)
abbrev qH:Stmt:=(jE yB).getD 1 (.Pass ⟨0,0,0,0⟩)
abbrev jKH:Am:=["lot","places"]
theorem scNamed:NScope jKH ["lot"] ["places"] (j8 qH):=⟨rfl,rfl,rfl,Ab,rfl,Ab,Ab,fun x h=>by
 have:=cw h;revert this;have hl:∀ y∈(j8 qH).names,y.2= .free->y.1= "places" :=Ab;intro m;have:=hl _ m rfl;exact this ▸ az,Ab⟩
def jMV:List V->Sp:=fun fv vs H Q _=>∃ (d a:Addr) (ts lot:Ag),fv=[.ref d]/\vs=[.ref a]/\ts.Nodup/\H d=some (.dK (plKv ts))/\H a=some (.tup (lot.map V.int))/\lot.length<64/\∀ r H',H' r=some (.tup ((nmd ts lot).map V.int))->Ext H H'->Q (.ref r) H'
def jX4 (T:Txt mg)(hr:Room 0 (cxN P w K mg Aq jKH "picked.<locals>.named" (j8 qH) f cd cl A Ap s H0).A): { t:TS // JSs (cxN P w K mg Aq jKH "picked.<locals>.named" (j8 qH) f cd cl A Ap s H0) (jE qH) t} :=
 have nd:=scNamed.nd
 ⟨_,(jD (jP (jU jT gl_n T.tuple Ab (j3 (jK jI9 gl_n T.sorted Ab (j3 (kI (m:=[none,some 1]) (Nc:=["thing","places"]) rfl (qP (jv 0 rfl qS)) rfl Ab Ab (jQ (psc:=j8 qH)) (jJ (N:=jKH) rfl rfl Ab) (fun cl C fp s H=>jL (i:=0) (show (["thing","places"]:Am).Nodup by decide+kernel) rfl yD) (fun cl C fp s H=>qD (jXN (hu_of hr) (jv 0 rfl jM) (jv 1 rfl kD) rfl)) (fun cl C fp s H=>(jGQ (hu_of hr) (jv 1 rfl kD) (jv 0 rfl jM) yU)) y8) j7 jN) jN) j7 jG) jG)))⟩
theorem jQV (T:Txt mg):FnN P w K mg Aq 1 "named" "picked.<locals>.named" (yE qH) (jE qH) (j8 qH) ["lot"] ["places"] jMV:=by
 refine jT5 scNamed (fun fv vs H Q E h=>?_) (fun cl doc pm c ctv us hl=>?_) (fun A Ap s H a c cl vs fv Q E hr h=>?_)
 ·obtain⟨_,_,_,_,_,rfl,_⟩:=h;rfl
 ·match us,hl with
  | [u],_=>rfl
 ·obtain⟨d,a,ts,lot,rfl,rfl,nd,hd,ha,hl,q⟩:=h;refine⟨_,(jX4 T hr).2.h,?_⟩;refine⟨_,rfl,a,rfl,⟨_,SqT.of ha⟩,jBX (xs:=lot.map V.int) (by rw[ab,aw]; lia) (fun D j σ' H' zs=>(∃ v,σ'=[v,some (.ref d)])/\Ext H H'/\H' D=some (.lst zs)/\H D=none/\zs=(plcs ts (lot.take j)).map V.int) ?_ ?_ ?_ ?_⟩
  ·intro D hD;exact⟨⟨_,rfl⟩,(Ext.refl _).new hD _,j6,hD,rfl⟩
  ·rintro D j σ' H' zs hD ⟨_,e,h2,_,rfl⟩;refine⟨e _ _ ha,h2,?_⟩;rw[ab];have:=jK9 ts (lot.take j);have:=br j lot;lia
  ·rintro D j σ' H' zs x hD hx ⟨⟨v,rfl⟩,e,h2,hn,rfl⟩;obtain⟨z,hz,rfl⟩:∃ z:Int,lot[j]?=some z/\V.int z=x:=by
    rw[aL] at hx;cases hq:lot[j]? with
    | none=>rw[hq] at hx; cases hx
    | some z=>rw[hq] at hx; cases hx; exact⟨z,rfl,rfl⟩
   have ht:plcs ts (lot.take (j+1))=plcs ts (lot.take j)++(if z∈ts then [((ts.idxOf z:Nat):Int)] else []):=by
    unfold plcs;rw[aV,hz,bw,aK];congr 1;by_cases hzz:z∈ts <;> simp [hzz]
   have hD':H' d=some (.dK (plKv ts)):=e _ _ hd;have gv:=jQH nd z;refine⟨_,rfl,_,rfl,d,_,rfl,DGet.k (k:=Sum.inl z) hD',_,rfl,?_⟩;rw[gv];by_cases hzz:z∈ts
   ·rw[ao hzz] at gv ht ⊢;refine⟨_,rfl,_,rfl,d,_,rfl,by rw[<- gv]; exact DGet.k (k:=Sum.inl z) hD',h2,⟨_,rfl⟩,e.updNew hn _,j6,hn,?_⟩;rw[ht,aK];rfl
   ·rw[am hzz] at gv ht ⊢;refine⟨⟨_,rfl⟩,e,h2,hn,?_⟩;rw[ht,ba]
  ·rintro D σ' H' zs hD ⟨_,e,h2,hn,rfl⟩;rw[ab,aZ] at h2;refine⟨D,_,rfl,SqL.of h2,?_,fun l ns hl hs hp=>?_⟩
   ·have:=jK9 ts lot;lia
   refine⟨l,_,rfl, .inl ⟨SqL.of j6,fun r hr=>?_⟩⟩;refine q r _ ?_ ((e.new hl _).new hr _);rw[j6,jC1 hs hp];rfl
theorem jCJ {H:Hp}{vs:List V}{Ar:Ae}(h:PcsAt H vs Ar){k:Int}(h0:0<=k)(h1:k<Ar.length):∃ a q,atI vs k=some (.ref a)/\H a=some (.tup [.ref q, .int (Ar.getD k.toNat ([],0)).2])/\H q=some (.tup ((j5 Ar k).map V.int)):=by
 obtain⟨v,hv,a,q,rfl,b1,b2⟩:=h.get (k:=k.toNat) Aa;refine⟨a,q,?_,b1,b2⟩;have e:((k.toNat:Nat):Int)=k:=Aa;have:=yQ hv;rw[e] at this;exact this
abbrev jD8:Am:=["box","things","pieces","places","named"]
theorem scPicked:FnScope jD8 ["box","things","pieces"] (j8 yB):= {}
abbrev jWS:Pos:=match qH with
 | .FunctionDef _ _ _ _ _ _ _ _ _ p=>p
 | _=>⟨0,0,0,0⟩
abbrev TabP (H:Hp)(tb:Addr):Prop:=TabOk H tb jWS "picked.<locals>.named"
theorem jL3:∀ x∈(["places"]:Am),(j8 qH).names.lookup x=some .free:=by decide+kernel
theorem jEU:FsAt (XOf jD8 "picked" yB P w K mg Aq f (.ref c0) A Ap s H0 E) ["places"] [3]:=⟨rfl,fun k x h=>by
 cases k with
 | zero=>cases h; exact⟨3,rfl,rfl, .inl (show (j8 yB).names.lookup ("places" :Str)=some NameKind.cell by decide+kernel)⟩
 | succ k=>cases h⟩
def jBS (tb:Addr):Sp:=fun vs H Q _=>∃ (b a c:Addr) (tp tq:Bool) (w:Int) (ms:Ag) (Ar:Ae) (ts ks:Ag),vs=[.ref b, .ref a, .ref c]/\BoxAt H b w ms Ar/\AtS tp H a (ts.map V.int)/\AtS tq H c (ks.map V.int)/\ts.Nodup/\ts.length<=100/\ms.length<64/\(∀ p∈Ar,p.1.length<64)/\(∀ k∈ks,0<=k/\k<Ar.length)/\ks.length<=1000/\TabP H tb/\
 ∀ r H',BoxAt H' r ts.length (nmd ts ms) (pick ts Ar ks)->ExtT tb H H'->TabP H' tb->Q (.ref r) H'
def jU4 (T:Txt mg)(CH:PySem.W.CodeHd Aq c0 tb)(BM:BltAt Aq mg)(FN:FnN P w K mg Aq 1 "named" "picked.<locals>.named" (yE qH) (jE qH) (j8 qH) ["lot"] ["places"] jMV)(hr:Room 1 (XOf jD8 "picked" yB P w K mg Aq f (.ref c0) A Ap s H0 E).A): { t:TS // JSs (XOf jD8 "picked" yB P w K mg Aq f (.ref c0) A Ap s H0 E) (jE yB) t} :=
 have nd:=scPicked.nd
 ⟨_,(j9 (jR (i:=3) nd rfl qY (jU (jM8 rfl) gD T.dict Ab (j3 (kI (m:=[none,none]) (Nc:=["place","thing"]) rfl (jEQ gD T.enumerate (j3 (jv 1 rfl vL) j7 j4) j4) rfl Ab Ab (jQ (psc:=j8 yB)) (jJ (N:=jD8) rfl rfl Ab) (fun cl C fp s H=>jAZ (i:=0) (j:=1) rfl (show (["place","thing"]:Am).Nodup by decide+kernel) rfl rfl Ab Ab) (fun cl C fp s H=>kR) (fun cl C fp s H=>(kP (j3 (jv 1 rfl jM) (j3 (jv 0 rfl jM) j7 j4) j4))) kS) j7 jN) jN) jY)
   (j9 (jT1 (j:=4) nd rfl qY rfl CH BM (jQ (psc:=j8 yB)) rfl rfl)
   (jD (jP (kP (j3 (jK jW gD T.len Ab (j3 (jv 1 rfl vL) j7 j4) j4) (j3 (jVB (j:=4) FN hr rfl vC (jQ (psc:=j8 yB)) jL3 jEU (j3 (jH jI (jv 0 rfl vC) (je_int) jC) j7 jF) jF) (j3 (jU jT gD T.tuple Ab (j3 (jRN (m:=[none,some 4,some 0]) (Nc:=["piece","named","box"]) rfl (jXK (jv 2 rfl vL)) rfl Ab Ab (jQ (psc:=j8 yB)) (jJ (N:=jD8) rfl rfl Ab) (fun cl C fp s H=>jL (i:=0) (show (["piece","named","box"]:Am).Nodup by decide+kernel) rfl yD) (fun cl C fp s H=>kR) (fun cl C fp s H kh σ I0 hfp=>(kP (j3 (jRK (j:=1) I0 hfp FN hr rfl kD (jQ (psc:=j8 yB)) jL3 jEU (j3 (jH kG (jH kG (jH kG (jv 2 rfl kD) (je_int) jC) (jv 0 rfl jM) yU) (je_int) jC) j7 jF) jF) (j3 (jH kG (jH kG (jH kG (jv 2 rfl kD) (je_int) jC) (jv 0 rfl jM) yU) (je_int) jC) j7 jF) jG))) y8) j7 jN) jN) j7 jG) jG) jG))))))⟩
theorem jNM {fd:FuncData}(F:FunC K "picked" "picked" yB f fd c0)(T:Txt mg)(CH:PySem.W.CodeHd Aq c0 tb)(BM:BltAt Aq mg):FnOk P w K mg Aq CX0 2 f fd ["box","things","pieces"] (jBS tb):=by
 refine F.ok scPicked (fun vs H Q E h=>?_) (fun A Ap s H vs Q E hr h=>?_)
 ·obtain⟨_,_,_,_,_,_,_,_,_,_,rfl,_⟩:=h;rfl
 ·obtain⟨b,a,c,tp,tq,w,ms,Ar,ts,ks,rfl,hB,ha,hc,nd,lts,lms,lpc,hks,lks,tab,q⟩:=h;refine⟨_,(jU4 T CH BM (jQV T) hr).2.h,?_⟩;obtain⟨qm,qp,ps,b1,b2,b3,b4⟩:=id hB.ex;have pl:=b4.len;refine⟨_,rfl,tp,a,rfl,⟨_,ha.sq⟩,jCW (xs:=ts.map V.int) (by rw[ab,aw]; lia) (fun D j σ' H' zs=>(∃ v v',σ'=[v,v'])/\Ext H H'/\H' D=some (.lst zs)/\H D=none/\zs.length=j/\∀ i,i<j->∃ r:Addr,zs[i]?=some (V.ref r)/\H' r=some (.tup [.int (ts.getD i 0), .int (i:Int)])) ?_ ?_ ?_ ?_⟩
  ·intro D hD;exact⟨⟨_,_,rfl⟩,(Ext.refl _).new hD _,j6,hD,rfl,fun i hi=>absurd hi (dM _)⟩
  ·rintro D j σ' H' zs hD ⟨_,e,h2,_,hl,_⟩;exact⟨(ha.ext e).sq,h2,Aa⟩
  ·rintro D j σ' H' zs x X hD hx hX ⟨⟨v,v',rfl⟩,e,h2,hn,hl,hz⟩;obtain⟨z,hz1,rfl⟩:∃ z:Int,ts[j]?=some z/\V.int z=x:=by
    rw[aL] at hx;cases hq:ts[j]? with
    | none=>rw[hq] at hx; cases hx
    | some z=>rw[hq] at hx; cases hx; exact⟨z,rfl,rfl⟩
   have hgd:ts.getD j 0=z:=by rw[ag,hz1]; rfl
   refine⟨X,_,rfl,SqT.of j6,rfl,_,_,rfl,_,_,rfl,rfl,?_⟩;dsimp only [kJ,yL];rw[ao rfl];refine⟨_,rfl,_,rfl,by show (2:Nat)<=_; decide,fun r H2 d2 e2=>?_⟩;have e1:Ext H' (L2.upd H' X (.tup [.int (j:Int), .int z])):=(Ext.refl _).new hX _;have hD2:H2 D=some (.lst zs):=e2 _ _ (e1 _ _ h2);have rD:r≠D:=fun z=>by rw[z,hD2] at d2; cases d2
   refine⟨hD2,⟨_,_,rfl⟩,((e.trans e1).trans e2).updNew hn _,j6,hn,by rw[aF,hl]; rfl,fun i hi=>?_⟩;by_cases hij:i=j
   ·subst hij;refine⟨r,?_,?_⟩
    ·rw[bh Aa,hl,gU];rfl
    ·rw[jA rD,d2,hgd]
   ·obtain⟨r',z1,z2⟩:=hz i Aa;have z3:=e2 _ _ (e1 _ _ z2);refine⟨r',?_,?_⟩
    ·rw[bU Aa];exact z1
    ·rw[jA (fun y=>by rw[y,hD2] at z3; cases z3)];exact z3
  ·rintro D σ' H1 zs hD ⟨_,e1,h2,hn,hl,hz⟩;rw[ab] at hl hz;refine⟨D,zs,plKv ts,rfl,h2,by rw[jQI]; exact hl,fun i k v hk=>?_,by rw[jEA]; exact jHP nd,fun d hd=>?_⟩
   ·obtain⟨t,z1,rfl,rfl⟩:=jQJ hk;obtain⟨r,z2,z3⟩:=hz i (ai.mp z1).1;refine⟨r,z2,?_⟩;rw[z3];show _=some (HO.tup [V.int t,V.int (i:Int)]);rw[ag,z1];rfl
   have e2:Ext H (L2.upd H1 d (.dK (plKv ts))):=e1.new hd _;have d2:(L2.upd H1 d (.dK (plKv ts))) d=some (.dK (plKv ts)):=j6;generalize L2.upd H1 d (.dK (plKv ts))=H2 at e2 d2;refine⟨tab.ext e2,fun fa fc H3 k1 k2 k3 k4 k5=>?_⟩;have tab3:TabP H3 tb:= .inr ⟨fc,k3,k2⟩;have E3:ExtT tb H H3:=(ExtT.of e2).trans k4;have B1:=E3.at tab b1;have B2:=E3.at tab b2;have B3:=E3.at tab b3;have dd:=k4.at (tab.ext e2) d2;have aa:=E3.seq tab ha;have cc:=E3.seq tab hc;refine⟨_,rfl,a,_,rfl,aa.or,?_⟩;refine⟨fa,rfl,_,rfl,b,_,1,_,rfl,rfl,SqT.of B1,rfl,fc,[.ref d],k1,k2,rfl,d,qm,ts,ms,rfl,rfl,nd,dd,B2,lms,fun r1 H4 d4 e4=>?_⟩;refine jS6 (tp:=tq) (xs:=ks.map V.int) (cc.ext e4) (fun Q h=>⟨_,rfl,h⟩) (by rw[ab,aw]; lia) (fun D j σ' H' zs=>(∃ v,σ'=[v,some (.ref fa),some (.ref b)])/\Ext H4 H'/\H' D=some (.lst zs)/\H4 D=none/\PcsAt H' zs (pick ts Ar (ks.take j))) ?_ ?_ ?_ ?_
   ·intro D hD;exact⟨⟨_,rfl⟩,(Ext.refl _).new hD _,j6,hD,trivial⟩
   ·rintro D j σ' H' zs hD ⟨_,e,h2,_,pz⟩;refine⟨cc.ext (e4.trans e),h2,?_⟩;rw[pz.len];unfold pick;rw[ab];exact br _ _
   ·rintro D j σ' H' zs x hD hx ⟨⟨v,rfl⟩,e,h2,hn,pz⟩;obtain⟨k,hk,rfl⟩:∃ z:Int,ks[j]?=some z/\V.int z=x:=by
     rw[aL] at hx;cases hq:ks[j]? with
     | none=>rw[hq] at hx; cases hx
     | some z=>rw[hq] at hx; cases hx; exact⟨z,rfl,rfl⟩
    have hkb:=hks k (ay hk);have e34:=e4.trans e;obtain⟨pa,pq,g1,g2,g3⟩:=jCJ b4 hkb.1 hkb.2;have g2':=e34 _ _ (E3.at tab g2);have g3':=e34 _ _ (E3.at tab g3);have hlen:(j5 Ar k).length<64:=by
     unfold j5;rw[jGS Aa];exact lpc _ (cm _)
    dsimp only [kJ,yL];rw[ao rfl];refine⟨fa,rfl,_,rfl,b,_,2,_,rfl,rfl,SqT.of (e34 _ _ B1),rfl,_,rfl,qp,_,k,_,rfl,rfl,SqT.of (e34 _ _ B3),g1,pa,_,0,_,rfl,rfl,SqT.of g2',rfl,fc,[.ref d],e34 _ _ k1,e34 _ _ k2,rfl,d,pq,ts,j5 Ar k,rfl,rfl,nd,e34 _ _ dd,g3',hlen,fun r2 H5 d5 e5=>?_⟩;have e35:=e34.trans e5;refine⟨_,rfl,b,_,2,_,rfl,rfl,SqT.of (e35 _ _ B1),rfl,_,rfl,qp,_,k,_,rfl,rfl,SqT.of (e35 _ _ B3),g1,pa,_,1,_,rfl,rfl,SqT.of (e5 _ _ g2'),rfl,by show (2:Nat)<=_; decide,fun r3 H6 d6 e6=>?_⟩;have hD6:H6 D=some (.lst zs):=e6 _ _ (e5 _ _ h2);refine⟨hD6,⟨_,rfl⟩,((e.trans e5).trans e6).updNew hn _,j6,hn,?_⟩;have ez:pick ts Ar (ks.take (j+1))=pick ts Ar (ks.take j)++[(nmd ts (j5 Ar k),(Ar.getD k.toNat ([],0)).2)]:=by
     unfold pick;rw[aV,hk,aK];rfl
    rw[ez];exact PcsAt.mono (Tups.upd hD6 _) (PcsAt.snoc (p:=(nmd ts (j5 Ar k),(Ar.getD k.toNat ([],0)).2)) ⟨r3,r2,rfl,d6,e6 _ _ d5⟩ (pz.mono (e5.trans e6).tups))
   ·rintro D σ' H5 zs hD ⟨_,e5,h5,hn5,pz⟩;rw[ab,aZ] at pz;refine⟨D,_,rfl, .inl ⟨SqL.of h5,fun l hl=>?_⟩⟩;have e6:Ext H5 (L2.upd H5 l (.tup zs)):=(Ext.refl _).new hl _;have d6:(L2.upd H5 l (.tup zs)) l=some (.tup zs):=j6;generalize L2.upd H5 l (.tup zs)=H6 at e6 d6;refine⟨by show (3:Nat)<=_; decide,fun r H7 d7 e7=>?_⟩;have e47:=(e5.trans e6).trans e7;refine q r H7 ⟨r1,l,zs,?_,e47 _ _ d4,e7 _ _ d6,pz.mono (e6.trans e7).tups⟩ (E3.trans (ExtT.of (e4.trans e47))) (tab3.ext (e4.trans e47));rw[d7,ab]
theorem jEL {n:Int}{ks:Ag}(h:ks.Pairwise (· < ·))(hb:∀ k∈ks,0<=k/\k<n):lotB n (.tup (ks.map Ob.int))=true:=by
 have hv:(ks.map Ob.int).map val=ks:=by rw[bH]; exact eB _
 show ((ks.map Ob.int).all (upB 0 (n - 1))&&(adj ((ks.map Ob.int).map val)).all id)=true;rw[hv,bG,bC,bC];refine⟨fun x hx=>?_,fun x hx=>?_⟩
 ·obtain⟨k,hk,rfl⟩:=aQ.mp hx;have:=hb k hk;show (decide (0<=k)&&decide (k<=n - 1))=true;rw[aq Aa,aq Aa];rfl
 ·unfold adj at hx;obtain⟨i,hi,rfl⟩:=aQ.mp hx;have hi:=bo.mp hi;refine aq ?_;rw[jGS Aa,jGS Aa];exact bV.mp h i (i+1) Aa Aa Aa
theorem jV1 (ns:Ag):∀ i,i<=ns.length->((ns.take i).Nodup->PyProof.Rows.firstMet (fun i=>ns.getD i 0) i=ns.take i)/\(¬ (ns.take i).Nodup->(PyProof.Rows.firstMet (fun i=>ns.getD i 0) i).length<i):=by
 intro i
 induction i with
 | zero=>intro _; exact⟨fun _=>rfl,fun h=>absurd g4 h⟩
 | succ i ih=>
  intro hi;obtain⟨a1,a2⟩:=ih Aa;have ht:ns.take (i+1)=ns.take i++[ns.getD i 0]:=by
   rw[aV,jGS Aa,aA Aa];rfl
  have hm:∀ k,(PyProof.Rows.firstMet (fun i=>ns.getD i 0) i).any (· ==k)=(ns.take i).any (· ==k):=fun k=>by
   rw[PyProof.Rows.firstMet_any];congr 1;refine List.ext_getElem (by simp; lia) fun j h1 h2=>?_;have:j<ns.length:=by simp at h2; lia
   simp [List.getD,this]
  have hmem:(ns.take i).any (· ==ns.getD i 0)=decide (ns.getD i 0∈ns.take i):=by
   rw[bP,dF,aW];exact⟨fun ⟨x,h1,h2⟩=>(eq_of_beq h2) ▸ h1,fun h=>⟨_,h,eU _⟩⟩
  have hnd:(ns.take i++[ns.getD i 0]).Nodup↔(ns.take i).Nodup/\¬ ns.getD i 0∈ns.take i:=by
   rw[dR];constructor
   ·rintro ⟨h1,_,h3⟩;exact⟨h1,fun z=>h3 _ z _ az rfl⟩
   ·rintro ⟨h1,h2⟩;exact⟨h1,Ad,fun a ha b hb e=>h2 (by rw[aI] at hb; rw[<- hb,<- e]; exact ha)⟩
  rw[ht,hnd,PyProof.Rows.firstMet_succ];unfold PyProof.Rows.step_dedup;rw[hm,hmem];have fl:=PyProof.Rows.firstMet_length_le (fun i=>ns.getD i 0) i;by_cases hin:ns.getD i 0∈ns.take i
  ·rw[aq hin,ao rfl];exact⟨fun h=>absurd hin h.2,fun _=>by lia⟩
  ·rw[aJ hin,am aj];refine⟨fun h=>by rw[a1 h.1],fun h=>?_⟩;have:=a2 fun z=>h ⟨z,hin⟩;rw[aF];show _+1<_;lia
theorem jX8 {ns:Ag}(h:ns.Nodup):(PyProof.Rows.firstMet (fun i=>ns.getD i 0) ns.length).length=ns.length:=by
 rw[(jV1 ns ns.length (ak _)).1 (by rw[aZ]; exact h),aZ]
def lftT (w:Int)(held:Ag):Ag:=(upto w.toNat).filter fun t=>!decide (t∈held)
def lftP (Ar:Ae)(ts:Ag):Ag:=(upto Ar.length).filter fun k=>(j5 Ar k).all fun t=>decide (t∈ts)
theorem jI4 {α:Type}{p:α->Bool}{l:List α}{i:Nat}{x:α}(h:l[i]?=some x):(l.take (i+1)).filter p=(l.take i).filter p++(if p x=true then [x] else []):=by
 rw[aV,h,bw];congr 1;rw[Option.toList,b9];split <;> rfl
theorem jF8 (n:Nat):(upto n).Nodup:=(kT n).ris.imp fun h=>by lia
theorem jGV {f:Int->Ag} :∀ {ks:Ag},(∀ k∈ks,(f k).length<=16)->∀ (i:Nat),ks.length<=i->(ks.flatMap f).length<=16*i
 | [],_,_,_=>by rw[List.flatMap_nil]; exact bu _
 | a::r,h,i,hi=>by
  rw[gt,aF];have h1:=h a az;rw[aP] at hi;have:=jGV (f:=f) (ks:=r) (fun k hk=>h k (aB _ hk)) (i - 1) Aa;lia
theorem jD9 {w:Int}{ts:Ag}(h:ts.Pairwise (· < ·))(b:∀ z∈ts,0<=z/\z<w)(hw:w<=16):ts.length<=16:=by
 have:=yT ts 0 w h b;lia
theorem jBQ {w:Int}{ms:Ag}{Ar:Ae}(g:Good 16 32 w ms Ar){k:Int}(h0:0<=k)(h1:k<Ar.length):(j5 Ar k).length<=16:=by
 have:=g.at (k:=k.toNat) Aa;exact jD9 this.lot.ris this.lot.bnd g.w1
theorem jVD {K:W.Frag}{m:List (Option Nat)}{σ:St}{H:Hp}{Q:VK}{q t:Addr}{tp:Bool}{lot ts:Ag}(hq:H q=some (.tup (lot.map V.int)))(ht:AtS tp H t (ts.map V.int))(hl:lot.length<=1000)(h0:blkσ m σ=[none,some (.ref t)])
  (k:∀ D H',H' D=some (.lst ((lot.map fun x=>decide (x∈ts)).map V.bl))->Ext H H'->H D=none->Q (.ref D) H'):qJ m (kJ 0) yL (tOp (rIn K false) (tVar 0) (tVar 1)) σ Q (Itt K q) H:=by
 refine jBX (xs:=lot.map V.int) (by rw[ab,aw]; lia) (fun D j σ' H' zs=>(∃ v,σ'=[v,some (.ref t)])/\Ext H H'/\H' D=some (.lst zs)/\H D=none/\zs=((lot.take j).map fun x=>decide (x∈ts)).map V.bl) ?_ ?_ ?_ ?_
 ·intro D hD;exact⟨⟨_,h0⟩,(Ext.refl _).new hD _,j6,hD,rfl⟩
 ·rintro D j σ' H' zs hD ⟨_,e,h2,_,rfl⟩;refine⟨e _ _ hq,h2,?_⟩;rw[ab,ab];exact br _ _
 ·rintro D j σ' H' zs x hD hx ⟨⟨v,rfl⟩,e,h2,hn,rfl⟩;obtain⟨z,hz,rfl⟩:∃ z:Int,lot[j]?=some z/\V.int z=x:=by
   rw[aL] at hx;cases hq:lot[j]? with
   | none=>rw[hq] at hx; cases hx
   | some z=>rw[hq] at hx; cases hx; exact⟨z,rfl,rfl⟩
  dsimp only [kJ,yL];rw[ao rfl];refine⟨_,rfl,_,rfl,t,_,rfl,(ht.ext e).or,rfl,kQ _,h2,⟨_,rfl⟩,e.updNew hn _,j6,hn,?_⟩;have:lot.take (j+1)=lot.take j++[z]:=by
   rw[aV,hz];rfl
  rw[this,aK,aK];show _++[V.bl (inV (.int z) (ts.map V.int))]=_;rw[yG];rfl
 ·rintro D σ' H' zs hD ⟨_,e,h2,hn,rfl⟩;rw[ab,aZ] at h2;exact k D H' h2 e hn
theorem jXZ {lot:Ag}{p:Int->Bool} :(lot.map p).all id=lot.all p:=by rw[gj]; rfl
theorem jGJ {Ar:Ae}{ts:Ag} :∀ k∈lftP Ar ts,0<=k/\k<Ar.length:=fun k hk=>(kT Ar.length).bnd k (aS.mp hk).1
theorem jLV (w:Int)(held:Ag):(lftT w held).Nodup:=(jF8 _).sublist da
theorem jRB (w:Int)(held:Ag):(lftT w held).length<=w.toNat:=by
 have:=bb (fun t=>!decide (t∈held)) (upto w.toNat);rw[kU] at this;exact this
theorem jRC (Ar:Ae)(ts:Ag):(lftP Ar ts).length<=Ar.length:=by
 have:=bb (fun k=>(j5 Ar k).all fun t=>decide (t∈ts)) (upto Ar.length);rw[kU] at this;exact this
theorem pc_lt {w:Int}{ms:Ag}{Ar:Ae}(g:Good 16 32 w ms Ar):∀ p∈Ar,p.1.length<64:=fun p hp=>by
 have:=g.pg p hp;have:=jD9 this.lot.ris this.lot.bnd g.w1;lia
theorem jT4 {ts:Ag}(h:ts.Pairwise (· < ·)){a b:Int}(ha:a∈ts)(hb:b∈ts)(hab:a<b):ts.idxOf a<ts.idxOf b:=by
 have ia:=bO.mpr ha;have ib:=bO.mpr hb;have ea:=fX ia;have eb:=fX ib;rcases ie (ts.idxOf a) (ts.idxOf b) with q | q | q
 ·exact q
 ·exfalso;have e2:ts[ts.idxOf a]=ts[ts.idxOf b]:=by congr 1
  lia
 ·exfalso;have:=bV.mp h _ _ ib ia q;lia
theorem jG6 {ts lot:Ag}(h:ts.Pairwise (· < ·))(hl:lot.Pairwise (· < ·)):(plcs ts lot).Pairwise (· < ·):=by
 unfold plcs;rw[bA];refine dU (R:=fun a b=>a<b) (fun {a b} ha hb hab=>?_) (hl.sublist da);have:=jT4 h (aE (aS.mp ha).2) (aE (aS.mp hb).2) hab;lia
theorem jNU {ts lot:Ag}(h:ts.Pairwise (· < ·))(hl:lot.Pairwise (· < ·)):nmd ts lot=plcs ts lot:=jMU ((jG6 h hl).imp fun h=>by lia)
theorem jGH (w:Int)(held:Ag):(lftT w held).Pairwise (· < ·):=(kT _).ris.sublist da
theorem jGI (Ar:Ae)(ts:Ag):(lftP Ar ts).Pairwise (· < ·):=(kT _).ris.sublist da
theorem mem_upto {n:Nat}{t:Int} :t∈upto n↔0<=t/\t<n:=by
 constructor
 ·exact fun h=>(kT n).bnd t h
 ·intro h;unfold upto;exact aQ.mpr ⟨t.toNat,bo.mpr Aa,Aa⟩
theorem jB6 {w:Int}{held:Ag}{t:Int}(w0:0<=w):t∈lftT w held↔(0<=t/\t<w)/\t∉held:=by
 unfold lftT;rw[aS,mem_upto,cg,bR];constructor
 ·rintro ⟨h1,h2⟩;exact⟨Aa,h2⟩
 ·rintro ⟨h1,h2⟩;exact⟨Aa,h2⟩
theorem jCQ {ts:Ag}{t:Int}(h:t∈ts):ts[ts.idxOf t]?=some t/\∀ m,m<ts.idxOf t->ts[m]?≠some t:=by
 have hi:=bO.mpr h;refine⟨by rw[aA hi,fX],fun m hm e=>?_⟩;have hm':m<ts.length:=Aa;rw[aA hm'] at e;have:=List.not_of_lt_findIdx (p:=(· ==t)) (xs:=ts) (i:=m) (by unfold List.idxOf at hm; exact hm);rw[bq e] at this;simp at this
abbrev jEE:Am:=["box","some","held","number","things","apart"]
theorem scBehind:FnScope jEE ["box","some"] (j8 jAT):= {}
structure BhAt (H:Hp)(r:Addr)(w:Int)(ms:Ag)(Ar:Ae)(ts aps:Ag):Prop where
 ex:∃ rb rt rp,H r=some (.tup [.ref rb, .ref rt, .ref rp])/\BoxAt H rb ts.length (nmd ts ms) (pick ts Ar aps)/\H rt=some (.tup (ts.map V.int))/\H rp=some (.tup (aps.map V.int))
def jDW (tb:Addr):Sp:=fun vs H Q _=>∃ (b a:Addr) (w:Int) (ms:Ag) (Ar:Ae) (ks:Ag),vs=[.ref b, .ref a]/\BoxAt H b w ms Ar/\Good 16 32 w ms Ar/\H a=some (.tup (ks.map V.int))/\Ris Ar.length ks/\(ks.flatMap (j5 Ar)).Nodup/\TabP H tb/\
 ∀ r H',BhAt H' r w ms Ar (lftT w (ks.flatMap (j5 Ar))) (lftP Ar (lftT w (ks.flatMap (j5 Ar))))->ExtT tb H H'->TabP H' tb->Q (.ref r) H'
def jVS (T:Txt mg)(CL:Can P w K mg Aq "is_lot" 3 fL fdL ["thing","many"] (spB2 lotB))(CK:Can P w K mg Aq "picked" 2 fK fdK ["box","things","pieces"] (jBS tb))(hr:Room 3 (XOf jEE "behind" jAT P w K mg Aq f ki A Ap s H0 E).A): { t:TS // JSs (XOf jEE "behind" jAT P w K mg Aq f ki A Ap s H0 E) (jE jAT) t} :=
 have nd:=scBehind.nd
 ⟨_,(j9 (yA (jDS (qZ (CL.je (hr.mono Ac) gD (j3 (jv 1 rfl vL) (j3 (jK jW gD T.len Ab (j3 (jH jI (jv 0 rfl vL) (je_int) jC) j7 jF) jF) j7 jG) j4) j4) qF)) (jD (jKU)) jZ)
   (j9 (jR (i:=2) nd rfl qY (jBK j7) jFA)
   (j9 (x6 bX rfl (qP (jv 1 rfl vL)) (jL (i:=3) nd rfl lL) (jD (jEP (je_bm ce ix iy jFL (jv 2 rfl vC) (j3 (jH jI (jH jI (jH jI (jv 0 rfl vL) (je_int) jC) (jv 3 rfl vL) yU) (je_int) jC) j7 jF) jF) jY)) y8)
   (j9 (yA (jO op_lt (jK jPS gD T.len Ab (j3 (jU (jPP rfl) gD T.set Ab (j3 (jv 2 rfl vC) j7 j4) j4) j7 jG) jG) (jK jW gD T.len Ab (j3 (jv 2 rfl vC) j7 j4) j4) (jV _)) (jD (jKU)) jZ)
   (j9 (jR (i:=4) nd rfl qY (jU jT gD T.tuple Ab (j3 (kI (m:=[none,some 2]) (Nc:=["thing","held"]) rfl (jA7 gD T.range (j3 (jH jI (jv 0 rfl vL) (je_int) jC) j7 jF) jF) rfl Ab Ab (jQ (psc:=j8 jAT)) (jJ (N:=jEE) rfl rfl Ab) (fun cl C fp s H=>jL (i:=0) (show (["thing","held"]:Am).Nodup by decide+kernel) rfl yD) (fun cl C fp s H=>qD (jO jD4 (jv 0 rfl jM) (jv 1 rfl kD) jBI)) (fun cl C fp s H=>(jv 0 rfl jM)) kS) j7 jN) jN) jY)
   (j9 (jDB (i:=5) nd rfl lL ⟨by rfl⟩ (m:=[none,none,some 4]) (Nc:=["number","piece","things"]) rfl (jEQ gD T.enumerate (j3 (jH jI (jv 0 rfl vL) (je_int) jC) j7 jF) jF) rfl Ab Ab (jQ (psc:=j8 jAT)) (jJ (N:=jEE) rfl rfl Ab) (fun cl C fp s H=>jAZ (i:=0) (j:=1) rfl (show (["number","piece","things"]:Am).Nodup by decide+kernel) rfl rfl Ab Ab) (fun cl C fp s H=>qD (qZ (jK (jJM rfl) gl_b T.all Ab (j3 (kI (m:=[none,some 2]) (Nc:=["thing","things"]) rfl (jRI (jH kG (jv 1 rfl jM) (je_int) jC)) rfl Ab Ab (jRY Ab) (jJ (N:=["number","piece","things"]) rfl rfl Ab) (fun cl C fp s H=>jL (i:=0) (show (["thing","things"]:Am).Nodup by decide+kernel) rfl yD) (fun cl C fp s H=>kR) (fun cl C fp s H=>(yV jQT (jv 0 rfl jM) (jv 1 rfl kD) jBI)) jP5) j7 jN) jN) qF)) (fun cl C fp s H=>(jv 0 rfl jM)) kS)
   (jD (jP (kP (j3 (CK.je (hr.mono Ac) gD (j3 (jv 0 rfl vL) (j3 (jv 4 rfl vC) (j3 (jv 5 rfl vL) j7 j4) j4) j4) j4) (j3 (jv 4 rfl vC) (j3 (jU jT gD T.tuple Ab (j3 (jv 5 rfl vL) j7 j4) j4) j7 jG) j4) jG))))))))))⟩
theorem jRA {m:List (Option Nat)}{σ:St}{H:Hp}{Q:VK}{l:Addr}{w:Int}{held:Ag}(hl:H l=some (.lst (held.map V.int)))(w0:0<=w)(w1:w<=16)(h0:blkσ m σ=[none,some (.ref l)])
  (q:∀ D H',H' D=some (.lst ((lftT w held).map V.int))->Ext H H'->H D=none->Q (.ref D) H'):qJ m (kJ 0) (tB (tOp (rIn K true) (tVar 0) (tVar 1))) (tVar 0) σ Q (Itr 0 w.toNat) H:=by
 refine jAP (n:=w.toNat) (by rw[aw]; lia) (fun D j σ' H' zs=>(∃ v,σ'=[v,some (.ref l)])/\Ext H H'/\H' D=some (.lst zs)/\H D=none/\zs=(((upto w.toNat).take j).filter fun t=>!decide (t∈held)).map V.int) ?_ ?_ ?_ ?_
 ·intro D hD;exact⟨⟨_,h0⟩,(Ext.refl _).new hD _,j6,hD,rfl⟩
 ·rintro D j σ' H' zs hD hj ⟨_,e,h2,_,rfl⟩;refine⟨h2,?_⟩;rw[ab];exact be (bb _ _) (br _ _)
 ·rintro D j σ' H' zs hD hj ⟨⟨v,rfl⟩,e,h2,hn,rfl⟩;have e0:(0+(j:Int))=(j:Int):=Aa;refine⟨_,rfl,_,rfl,l,_,rfl, .inl (SqL.of (e _ _ hl)),rfl,kQ held,_,rfl,?_⟩;rw[e0,yG,jI4 (jAC hj)];refine ite2 (fun hz=>?_) (fun hz=>?_)
  ·have hz:(!decide ((j:Int)∈held))=true:=hz;refine⟨_,rfl,h2,⟨_,rfl⟩,e.updNew hn _,j6,hn,?_⟩;rw[ao hz,aK];rfl
  ·have hz:¬ (!decide ((j:Int)∈held))=true:=hz;refine⟨⟨_,rfl⟩,e,h2,hn,?_⟩;rw[am hz,ba]
 ·rintro D σ' H' zs hD ⟨_,e,h2,hn,rfl⟩;refine q D H' ?_ e hn;rw[h2];unfold lftT;rw[bK (by rw[kU]; exact ak _)]
theorem jNQ {fd:FuncData}(F:Fun K "behind" "behind" jAT f fd)(T:Txt mg)(CL:Can P w K mg Aq "is_lot" 3 fL fdL ["thing","many"] (spB2 lotB))(CK:Can P w K mg Aq "picked" 2 fK fdK ["box","things","pieces"] (jBS tb)):FnOk P w K mg Aq CX0 4 f fd ["box","some"] (jDW tb):=by
 refine F.ok scBehind (fun vs H Q E h=>?_) (fun ki A Ap s H vs Q E hr h=>?_)
 ·obtain⟨_,_,_,_,_,_,rfl,_⟩:=h;rfl
 ·obtain⟨b,a,w,ms,Ar,ks,rfl,hB,g,ha,rk,hnd,tab,q⟩:=h;refine⟨_,(jVS T CL CK hr).2.h,?_⟩;obtain⟨qm,qp,ps,b1,b2,b3,b4⟩:=id hB.ex;have pl:=b4.len;have w0:=g.w0;have w1:=g.w1;have gpl:=g.pl;have lk:ks.length<=32:=by
   have:=yT ks 0 Ar.length rk.ris rk.bnd;lia
  have l16:∀ k∈ks,(j5 Ar k).length<=16:=fun k hk=>jBQ g (rk.bnd k hk).1 (rk.bnd k hk).2;have tlen:∀ (i:Nat),i<=ks.length->((ks.take i).flatMap (j5 Ar)).length<=512:=fun i hi=>by
   have:=jGV (f:=j5 Ar) (ks:=ks.take i) (fun k hk=>l16 k (bI hk)) 32 (by have:=br i ks; lia);lia
  refine⟨_,rfl,_,rfl,b,_,2,_,rfl,rfl,SqT.of b1,rfl,qp,_,rfl, .inr (SqT.of b3), .ref a, .tup (ks.map Ob.int),_,rfl,jTA ha (by rw[ab]; lia) (Ats.ints ks),fun H1 e1=>⟨_,rfl,?_⟩⟩;rw[pl,jEL rk.ris rk.bnd];refine iteF ?_;refine⟨by show (0:Nat)<=_; decide,fun l H2 d2 e2 n2=>?_⟩;have e02:=e1.trans e2;refine⟨_,rfl,a,rfl,⟨_,SqT.of (e02 _ _ ha)⟩,jP4 (xs:=ks.map V.int) (fun i σ H'=>(∃ v3,σ=[some (.ref b),some (.ref a),some (.ref l),v3,none,none])/\Ext H H'/\H' l=some (.lst (((ks.take i).flatMap (j5 Ar)).map V.int))) ⟨⟨_,rfl⟩,e02,d2⟩ (fun i σ H' _ ⟨_,e,_⟩=>SqT.of (e _ _ ha)) ?_ ?_⟩
  ·rintro i x σ H' hx ⟨⟨v3,rfl⟩,e,h3⟩;obtain⟨k,hk,rfl⟩:∃ z:Int,ks[i]?=some z/\V.int z=x:=by
    rw[aL] at hx;cases hq:ks[i]? with
    | none=>rw[hq] at hx; cases hx
    | some z=>rw[hq] at hx; cases hx; exact⟨z,rfl,rfl⟩
   have hil:i<ks.length:=(ai.mp hk).1;have km:=ay hk;obtain⟨pa,pq,g1,g2,g3⟩:=jCJ b4 (rk.bnd k km).1 (rk.bnd k km).2;refine⟨_,rfl, .inl ⟨rfl,_,SqL.of h3⟩,_,rfl,b,_,2,_,rfl,rfl,SqT.of (e _ _ b1),rfl,_,rfl,qp,_,k,_,rfl,rfl,SqT.of (e _ _ b3),g1,pa,_,0,_,rfl,rfl,SqT.of (e _ _ g2),rfl,l,pq,_,_,rfl,rfl,h3,e _ _ g3,?_,⟨_,rfl⟩,?_,?_⟩
   ·have q1:=tlen i Aa;have q2:=l16 k km;rw[ab,ab,aw];lia
   ·refine fun c o hc=>?_;have nl:c≠l:=fun z=>by
     rw[z] at hc;have:=e1 _ _ hc;rw[n2] at this;cases this
    rw[jA nl];exact e _ _ hc
   ·rw[j6,aV,hk];simp
  ·rintro σ H3 ⟨⟨v3,rfl⟩,e3,h3⟩;rw[ab,aZ] at h3;have tl:=tlen ks.length (ak _);rw[aZ] at tl;generalize hH:ks.flatMap (j5 Ar)=held at h3 hnd q tl;refine⟨_,rfl,l,held,rfl,SqL.of h3,Aa,fun sl S hsl=>⟨sl,S,_,rfl,j6,?_⟩⟩;have e4:Ext H3 (L2.upd H3 sl (.set S (PyProof.Rows.firstMet (fun i=>held.getD i 0) held.length).length)):=(Ext.refl _).new hsl _;rw[jX8 hnd] at e4 ⊢;generalize L2.upd H3 sl (.set S held.length)=H4 at e4;have h4:=e4 _ _ h3;have E4:=e3.trans e4;refine⟨_,rfl,l,_,rfl, .inl (SqL.of h4),_,_,rfl,rfl,_,rfl,iteN (by rw[ab]; exact aJ Aa) ?_⟩;refine⟨_,rfl,b,_,0,_,rfl,rfl,SqT.of (E4 _ _ b1),rfl,w,rfl,Aa,Aa,jRA h4 w0 w1 rfl fun D H5 k5 e5 n5=>?_⟩;refine⟨D,_,rfl, .inl ⟨SqL.of k5,fun t ht=>?_⟩⟩;generalize hT:lftT w held=ts at k5 q;have e6:Ext H5 (L2.upd H5 t (.tup (ts.map V.int))):=(Ext.refl _).new ht _;have d6:(L2.upd H5 t (.tup (ts.map V.int))) t=some (.tup (ts.map V.int)):=j6;generalize L2.upd H5 t (.tup (ts.map V.int))=H6 at e6 d6;have E6:=(E4.trans e5).trans e6;refine⟨_,rfl,b,_,2,_,rfl,rfl,SqT.of (E6 _ _ b1),rfl,true,qp,rfl,⟨_,SqT.of (E6 _ _ b3)⟩,jCW (xs:=ps) (by rw[pl,aw]; lia) (fun D j σ' H' zs=>(∃ v v',σ'=[v,v',some (.ref t)])/\Ext H6 H'/\H' D=some (.lst zs)/\H6 D=none/\zs=(((upto Ar.length).take j).filter fun k=>(j5 Ar k).all fun x=>decide (x∈ts)).map V.int) ?_ ?_ ?_ ?_⟩
   ·intro D hD;exact⟨⟨_,_,rfl⟩,(Ext.refl _).new hD _,j6,hD,rfl⟩
   ·rintro D j σ' H' zs hD ⟨_,e,h2,_,rfl⟩;refine⟨SqT.of (e _ _ (E6 _ _ b3)),h2,?_⟩;rw[ab];exact be (bb _ _) (br _ _)
   ·rintro D j σ' H' zs x X hD hx hX ⟨⟨v,v',rfl⟩,e,h2,hn,rfl⟩;have hj:j<Ar.length:=by
     rw[<- pl];exact(ai.mp hx).1
    obtain⟨x',hx',pa,pq,rfl,c1,c2⟩:=b4.get hj;rw[hx] at hx';cases hx';have e7:Ext H' (L2.upd H' X (.tup [.int (j:Int), .ref pa])):=(Ext.refl _).new hX _;have E7:=(E6.trans e).trans e7;refine⟨X,_,rfl,SqT.of j6,rfl,_,_,rfl,_,_,rfl,rfl,?_⟩;dsimp only [kJ];refine⟨_,rfl,pa,_,0,_,rfl,rfl,SqT.of (E7 _ _ c1),rfl,pq,rfl,⟨_,SqT.of (E7 _ _ c2)⟩,jVD (tp:=true) (E7 _ _ c2) (e7 _ _ (e _ _ d6)) (by have:=jBQ g (k:=j) Aa Aa; unfold j5 at this; rw[bE] at this; lia) rfl fun D2 H8 k8 e8 n8=>?_⟩;refine⟨D2,_,rfl,SqL.of k8,_,rfl,?_⟩;have h8:=e8 _ _ (e7 _ _ h2);have et:j5 Ar (j:Int)=(Ar.getD j ([],0)).1:=by unfold j5; rw[bE]
    have E8:=(e.trans e7).trans e8;rw[jXZ,<- et,jI4 (jAC hj)];refine ite2 (fun hz=>?_) (fun hz=>?_)
    ·refine⟨_,rfl,h8,⟨_,_,rfl⟩,E8.updNew hn _,j6,hn,?_⟩;rw[ao hz,aK];rfl
    ·refine⟨⟨_,_,rfl⟩,E8,h8,hn,?_⟩;rw[am hz,ba]
   ·rintro D σ' H7 zs hD ⟨_,e7,h7,n7,rfl⟩;have hap:((upto Ar.length).take ps.length).filter (fun k=>(j5 Ar k).all fun x=>decide (x∈ts))=lftP Ar ts:=by
     rw[pl,bK (by rw[kU]; exact ak _)];rfl
    rw[hap] at h7;have E7:=E6.trans e7;have tnd:ts.Nodup:=by rw[<- hT]; exact jLV _ _
    have tln:ts.length<=16:=by rw[<- hT]; have:=jRB w held; lia
    have aln:=jRC Ar ts;refine⟨_,rfl,_,rfl,_,rfl,b,t,D,true,false,w,ms,Ar,ts,lftP Ar ts,rfl,hB.mono E7.tups,e7 _ _ d6,h7,tnd,Aa,?_,pc_lt g,jGJ,Aa,tab.ext E7,fun r1 H8 B8 e8 t8=>?_⟩
    ·have:=jD9 g.mr.ris g.mr.bnd w1;lia
    have tab7:=tab.ext E7;have k8:=e8.at tab7 (e7 _ _ d6);have m8:=e8.at tab7 h7;refine⟨_,rfl,_,rfl,D,_,rfl, .inl ⟨SqL.of m8,fun p hp=>?_⟩⟩;have e9:Ext H8 (L2.upd H8 p (.tup ((lftP Ar ts).map V.int))):=(Ext.refl _).new hp _;have d9:(L2.upd H8 p (.tup ((lftP Ar ts).map V.int))) p=some (.tup ((lftP Ar ts).map V.int)):=j6;generalize L2.upd H8 p (.tup ((lftP Ar ts).map V.int))=H9 at e9 d9;refine⟨by show (3:Nat)<=_; decide,fun r HA dA eA=>?_⟩;have e8A:=e9.trans eA;exact q r HA ⟨r1,t,p,dA,B8.mono e8A.tups,e8A _ _ k8,eA _ _ d9⟩ (((ExtT.of E7).trans e8).trans (ExtT.of e8A)) (t8.ext e8A)
abbrev nMask:Am:=["lot"]
theorem scMask:FnScope nMask ["lot"] (j8 sMask):= {}
def jE6:Sp:=fun vs H Q _=>∃ (q:Addr) (ts:Ag),vs=[.ref q]/\H q=some (.tup (ts.map V.int))/\(∀ t∈ts,0<=t/\t<64)/\ts.length<=64/\∀ H',Ext H H'->Q (.int ((maskN ts:Nat):Int)) H'
def maskA (T:Txt mg): { t:TS // JSs (XOf nMask "mask_of" sMask P w K mg Aq f ki A Ap s H0 E) (jE sMask) t} :=
 have nd:=scMask.nd
 ⟨_,(jD (jP (jK (jF0 rfl) gD T.sum Ab (j3 (kI (m:=[none]) (Nc:=["thing"]) rfl (qP (jv 0 rfl vL)) rfl Ab Ab (jQ (psc:=j8 sMask)) (jJ (N:=nMask) rfl rfl Ab) (fun cl C fp s H=>jL (i:=0) (show (["thing"]:Am).Nodup by decide+kernel) rfl yD) (fun cl C fp s H=>kR) (fun cl C fp s H=>(kY jKC (je_int) (jv 0 rfl jM))) y8) j7 jN) jN)))⟩
theorem jLR (ts:Ag)(h:∀ t∈ts,0<=t):(ts.map fun t=>(1:Int)*2 ^ t.toNat).sum=((maskN ts:Nat):Int):=by
 induction ts with
 | nil=>rfl
 | cons t r ih=>
  have e:maskN (t::r)=2 ^ t.toNat+maskN r:=by simp [maskN]
  rw[bv,dk,ih fun x hx=>h x (aB _ hx),e];push_cast;lia
theorem jUN {fd:FuncData}(F:Fun K "mask_of" "mask_of" sMask f fd)(T:Txt mg):FnOk P w K mg Aq CX0 1 f fd ["lot"] jE6:=by
 refine F.ok scMask (fun vs H Q E h=>?_) (fun ki A Ap s H vs Q E hr h=>?_)
 ·obtain⟨_,_,rfl,_⟩:=h;rfl
 ·obtain⟨q,ts,rfl,hq,hb,hl,k⟩:=h;refine⟨_,(maskA T).2.h,?_⟩;refine⟨_,rfl,q,rfl,⟨_,SqT.of hq⟩,jBX (xs:=ts.map V.int) (by rw[ab,aw]; lia) (fun D i σ' H' zs=>(∃ v,σ'=[v])/\Ext H H'/\H' D=some (.lst zs)/\H D=none/\zs=((ts.take i).map fun t=>(1:Int)*2 ^ t.toNat).map V.int) ?_ ?_ ?_ ?_⟩
  ·intro D hD;exact⟨⟨_,rfl⟩,(Ext.refl _).new hD _,j6,hD,rfl⟩
  ·rintro D i σ' H' zs hD ⟨_,e,h2,_,rfl⟩;refine⟨e _ _ hq,h2,?_⟩;rw[ab,ab,bB];lia
  ·rintro D i σ' H' zs x hD hx ⟨⟨v,rfl⟩,e,h2,hn,rfl⟩;obtain⟨z,hz,rfl⟩:∃ z:Int,ts[i]?=some z/\V.int z=x:=by
    rw[aL] at hx;cases hq:ts[i]? with
    | none=>rw[hq] at hx; cases hx
    | some z=>rw[hq] at hx; cases hx; exact⟨z,rfl,rfl⟩
   have hzb:=hb z (ay hz);dsimp only [kJ,yL];rw[ao rfl];refine⟨_,rfl,_,_,rfl,rfl,⟨?_,?_,?_⟩,h2,⟨_,rfl⟩,e.updNew hn _,j6,hn,?_⟩
   ·first | lia | decide
   ·first | lia | decide
   ·first | lia | decide
   ·have:ts.take (i+1)=ts.take i++[z]:=by
     rw[aV,hz];rfl
    rw[this,aK,aK];rfl
  ·rintro D σ' H' zs hD ⟨_,e,h2,hn,rfl⟩;refine⟨D,_,rfl,SqL.of h2,?_⟩;rw[ab,aZ,jLR ts fun t ht=>(hb t ht).1];exact k H' e
def jD1:Sp:=fun vs H Q _=>∃ (b qm:Addr) (x3:V) (w:Int) (mays:Ag),vs=[.ref b]/\H b=some (.tup [.int w, .ref qm,x3])/\H qm=some (.tup (mays.map V.int))/\0<=w/\w<=1000/\∀ l,H l=none->Q (.ref l) (upd H l (.lst ((mus mays w.toNat).map V.int)))
abbrev jNY:Am:=["box","mays"]
theorem scMusts:FnScope jNY ["box"] (j8 jDK):= {}
def jX5 (T:Txt mg): { t:TS // JSs (XOf jNY "musts_of" jDK P w K mg Aq f ki A Ap s H0 E) (jE jDK) t} :=
 have nd:=scMusts.nd
 ⟨_,(j9 (jR (i:=1) nd rfl qY (jH jI (jv 0 rfl vL) (je_int) jC) jF9)
   (jD (jP (kI (m:=[none,some 1]) (Nc:=["thing","mays"]) rfl (jA7 gD T.range (j3 (jH jI (jv 0 rfl vL) (je_int) jC) j7 jF) jF) rfl Ab Ab (jQ (psc:=j8 jDK)) (jJ (N:=jNY) rfl rfl Ab) (fun cl C fp s H=>jL (i:=0) (show (["thing","mays"]:Am).Nodup by decide+kernel) rfl yD) (fun cl C fp s H=>qD (jO jD4 (jv 0 rfl jM) (jv 1 rfl kD) jBI)) (fun cl C fp s H=>(jv 0 rfl jM)) kS))))⟩
theorem jQW {fd:FuncData}(F:Fun K "musts_of" "musts_of" jDK f fd)(T:Txt mg):FnOk P w K mg Aq CX0 1 f fd ["box"] jD1:=by
 refine F.ok scMusts (fun vs H Q E h=>?_) (fun ki A Ap s H vs Q E hr h=>?_)
 ·obtain⟨_,_,_,_,_,rfl,_⟩:=h;rfl
 ·obtain⟨b,qm,x3,w,mays,rfl,hb,hm,w0,w1,q⟩:=h;refine⟨_,(jX5 T).2.h,?_⟩;refine⟨_,rfl,b,_,1,_,rfl,rfl,SqT.of hb,rfl,?_⟩;refine⟨_,rfl,b,_,0,_,rfl,rfl,SqT.of hb,rfl,w,rfl,Aa,Aa,jAP (n:=w.toNat) (by rw[aw]; lia) (fun D i σ' H' ys=>(∃ v,σ'=[v,some (.ref qm)])/\ys=(mus mays i).map V.int/\H'=upd H D (.lst ys)) ?_ ?_ ?_ ?_⟩
  ·intro D hD;exact⟨⟨_,rfl⟩,rfl,rfl⟩
  ·rintro D i σ' H' ys hD hi ⟨_,rfl,rfl⟩;exact⟨j6,by rw[ab]; exact jO3 _ _⟩
  ·rintro D i σ' H' ys hD hi ⟨⟨v,rfl⟩,rfl,rfl⟩;have e0:(0+(i:Int))=(i:Int):=Aa;refine⟨_,rfl,_,rfl,qm,_,rfl, .inr (SqT.of (by rw[jA (jB hm hD)]; exact hm)),rfl,kQ mays,_,rfl,?_⟩;rw[e0,yG];refine ite2 (fun hz=>?_) (fun hz=>?_)
   ·rw[ao rfl] at hz;refine⟨_,rfl,j6,⟨_,rfl⟩,?_,jBB⟩;rw[jKJ,ao hz,aK];rfl
   ·rw[ao rfl] at hz;refine⟨⟨_,rfl⟩,?_,rfl⟩;rw[jKJ,am hz,ba]
  ·rintro D σ' H' ys hD ⟨_,rfl,rfl⟩;exact q D hD
def qL (Ar:Ae)(ds:Ag)(t:Int):Ag:=(upto Ar.length).filter fun k=>decide (t∈j5 Ar k)&&fitS ds (Ar.getD k.toNat ([],0))
def cand (ms:Ag)(Ar:Ae)(ds:Ag)(n:Nat):Bool:=!decide ((n:Int)∈ms)&&decide ((qL Ar ds n).length=1)
def nxt (wi:Nat)(ms:Ag)(Ar:Ae)(ds:Ag):Option (Int×Int):=((List.range wi).find? (cand ms Ar ds)).map fun (n:Nat)=>((n:Int),(qL Ar ds (n:Int)).headD 0)
theorem jR3 {wi:Nat}{ms:Ag}{Ar:Ae}{ds:Ag}(h:∀ n,n<wi->cand ms Ar ds n=false):nxt wi ms Ar ds=none:=by
 have:(List.range wi).find? (cand ms Ar ds)=none:=h9.mpr fun n hn=>by rw[h n (bo.mp hn)]; exact aj
 unfold nxt;rw[this];rfl
theorem jR2 {wi:Nat}{ms:Ag}{Ar:Ae}{ds:Ag}{n:Nat}{k:Int}(hn:n<wi)(hc:cand ms Ar ds n=true)(hk:qL Ar ds n=[k])(h:∀ j,j<n->cand ms Ar ds j=false):nxt wi ms Ar ds=some ((n:Int),k):=by
 have:(List.range wi).find? (cand ms Ar ds)=some n:=iA.mpr ⟨hc,bo.mpr hn,fun j hj=>by rw[h j hj]; rfl⟩;unfold nxt;rw[this];show some ((n:Int),(qL Ar ds n).headD 0)=_;rw[hk];rfl
theorem mus_mem {ms:Ag}{n:Nat}{u:Int} :u∈mus ms n↔0<=u/\u<n/\¬ u∈ms:=by
 unfold mus;rw[aQ];constructor
 ·rintro ⟨k,hk,rfl⟩;obtain⟨h1,h2⟩:=aS.mp hk;have:=bo.mp h1;rw[cg,bR] at h2;exact⟨Aa,Aa,h2⟩
 ·rintro ⟨h0,h1,h2⟩;refine⟨u.toNat,aS.mpr ⟨bo.mpr Aa,?_⟩,Aa⟩;rw[cg,bR,show ((u.toNat:Nat):Int)=u by lia];exact h2
theorem jUX (ms:Ag)(n:Nat):(mus ms n).Pairwise (· < ·):=by
 unfold mus;rw[bA];exact(gq.filter _).imp fun {a b} h=>by lia
theorem jXY {l:Ag}{i:Nat}{u v:Int}(hp:l.Pairwise (· < ·))(hu:l[i]?=some u)(hv:v∈l)(h:v<u):v∈l.take i:=by
 obtain⟨hi,e⟩:=ai.mp hu;have s:l=l.take i++(u::l.drop (i+1)):=by
  rw[<- e,iR,bD]
 rw[s] at hv hp;rcases aN.mp hv with q | q
 ·exact q
 ·exfalso;have p2:=(ci.mp hp).2.1;rcases aG.mp q with q | q
  ·lia
  ·have:=(cB.mp p2).1 v q;lia
def outM (Ar:Ae)(dn:Nat)(n:Nat):Ag:=((upto Ar.length).take n).filter fun k=>fitM dn (Ar.getD k.toNat ([],0))
theorem jKB (Ar:Ae)(dn n:Nat):(outM Ar dn n).length<=n:=by
 unfold outM;refine be (bb _ _) ?_;rw[bB];lia
theorem jVI {Ar:Ae}{i:Nat}{pc:List Int×Int}(h:Ar[i]?=some pc):Ar.getD i ([],0)=pc:=by
 rw[ag,h];rfl
theorem jHM {Ar:Ae}{dn j:Nat}{pc:List Int×Int}(h:Ar[j]?=some pc):outM Ar dn (j+1)=outM Ar dn j++(if fitM dn pc=true then [(j:Int)] else []):=by
 unfold outM;rw[jCF (ai.mp h).1,bw];congr 1;have e:((j:Nat):Int).toNat=j:=Aa;rw[b9,e,jVI h];split <;> rfl
theorem jND {Ar:Ae}{dn:Nat}{ds:Ag}{mt mp wi:Int}{ms:Ag}(hd:Done dn ds)(g:Good mt mp wi ms Ar)(t:Int):(outM Ar dn Ar.length).filter (fun k=>decide (t∈j5 Ar k))=qL Ar ds t:=by
 unfold outM qL;have e:(upto Ar.length).take Ar.length=upto Ar.length:=by
  have:=aZ (l:=upto Ar.length);rw[kU] at this;exact this
 rw[e,List.filter_filter];refine List.filter_congr fun k hk=>?_;have hk:0<=k/\k<Ar.length:=by
  unfold upto at hk;obtain⟨n,hn,rfl⟩:=aQ.mp hk;have:=bo.mp hn;lia
 have hkn:k.toNat<Ar.length:=Aa;rw[jS0 hd (g.at hkn)]
theorem jQR {Ar:Ae}{dn n:Nat}{k:Int}(h:k∈outM Ar dn n):0<=k/\k<Ar.length:=by
 have h:=bI (aS.mp h).1;unfold upto at h;obtain⟨n,hn,rfl⟩:=aQ.mp h;have:=bo.mp hn;lia
abbrev jHR:Am:=["box","held","outside","must","holders"]
theorem scFNext:FnScope jHR ["box","held"] (j8 jC2):= {}
def jJY:Sp:=fun vs H Q _=>∃ (b:Addr) (wi:Int) (ms:Ag) (Ar:Ae) (dn:Nat) (ds:Ag),vs=[.ref b, .int (dn:Int)]/\BoxAt H b wi ms Ar/\Good 16 32 wi ms Ar/\Done dn ds/\
 (nxt wi.toNat ms Ar ds=none->∀ H',Ext H H'->Q .non H')/\∀ t k,nxt wi.toNat ms Ar ds=some (t,k)->∀ a H',H' a=some (.tup [.int t, .int k])->Ext H H'->Q (.ref a) H'
def nextA (T:Txt mg)(CM:Can P w K mg Aq "mask_of" 1 fM fdM ["lot"] jE6)(CU:Can P w K mg Aq "musts_of" 1 fU fdU ["box"] jD1)(hr:Room 1 (XOf jHR "forced_next" jC2 P w K mg Aq f ki A Ap s H0 E).A): { t:TS // JSs (XOf jHR "forced_next" jC2 P w K mg Aq f ki A Ap s H0 E) (jE jC2) t} :=
 have nd:=scFNext.nd
 ⟨_,(j9 (jDB (i:=2) nd rfl lL ⟨by rfl⟩ (m:=[none,none,some 1]) (Nc:=["number","piece","held"]) rfl (jEQ gD T.enumerate (j3 (jH jI (jv 0 rfl vC) (je_int) jC) j7 jF) jF) rfl Ab Ab (jQ (psc:=j8 jC2)) (jJ (N:=jHR) rfl rfl Ab) (fun cl C fp s H=>jAZ (i:=0) (j:=1) rfl (show (["number","piece","held"]:Am).Nodup by decide+kernel) rfl rfl Ab Ab) (fun cl C fp s H=>qD (jO qX (kY jKE (CM.je hr gl_b (j3 (jH kG (jv 1 rfl jM) (je_int) jC) j7 jF) jF) (jv 2 rfl kD)) (je_int) (jV _))) (fun cl C fp s H=>(jv 0 rfl jM)) kS)
   (j9 (x6 bX rfl (y6 (CU.je hr gD (j3 (jv 0 rfl vC) j7 j4) j4)) (jL (i:=3) nd rfl qY) (j9 (jDB (i:=4) nd rfl lL ⟨by rfl⟩ (m:=[none,some 3,some 0]) (Nc:=["number","must","box"]) rfl (y6 (jv 2 rfl vL)) rfl Ab Ab (jQ (psc:=j8 jC2)) (jJ (N:=jHR) rfl rfl Ab) (fun cl C fp s H=>jL (i:=0) (show (["number","must","box"]:Am).Nodup by decide+kernel) rfl yD) (fun cl C fp s H=>qD (jO jD5 (jv 1 rfl kD) (jH kG (jH kG (jH kG (jv 2 rfl kD) (je_int) jC) (jv 0 rfl jM) yU) (je_int) jC) jHQ)) (fun cl C fp s H=>(jv 0 rfl jM)) y8)
   (jD (yA (jO qX (jK jW gD T.len Ab (j3 (jv 4 rfl vL) j7 j4) j4) (je_int) (jV _)) (jD (jP (kP (j3 (jv 3 rfl vC) (j3 (jH jBL (jv 4 rfl vL) (je_int) jC) j7 jF) j4)))) jZ))) kS)
   (jD (jP (qQ)))))⟩
theorem jUM {fd:FuncData}(F:Fun K "forced_next" "forced_next" jC2 f fd)(T:Txt mg)(CM:Can P w K mg Aq "mask_of" 1 fM fdM ["lot"] jE6)(CU:Can P w K mg Aq "musts_of" 1 fU fdU ["box"] jD1):FnOk P w K mg Aq CX0 2 f fd ["box","held"] jJY:=by
 refine F.ok scFNext (fun vs H Q E h=>?_) (fun ki A Ap s H vs Q E hr h=>?_)
 ·obtain⟨_,_,_,_,_,_,rfl,_⟩:=h;rfl
 ·obtain⟨b,wi,ms,Ar,dn,ds,rfl,hB,g,hd,k0,k1⟩:=h;obtain⟨qm,qp,ps,b1,b2,b3,b4⟩:=hB.ex;have pl:=b4.len;have gl:=g.pl;have w0:=g.w0;have w1:=g.w1;refine⟨_,(nextA T CM CU hr).2.h,?_⟩;refine⟨_,rfl,b,_,2,_,rfl,rfl,SqT.of b1,rfl,true,qp,rfl,⟨_,SqT.of b3⟩,jCW (tp:=true) (xs:=ps) (by rw[aw]; lia) (fun D j σ' H' zs=>(∃ v1 v2,σ'=[v1,v2,some (.int (dn:Int))])/\zs=(outM Ar dn j).map V.int/\Ext H H'/\H' D=some (.lst zs)/\H D=none) ?_ ?_ ?_ ?_⟩
  ·intro D hD;exact⟨⟨_,_,rfl⟩,rfl,(Ext.refl _).new hD _,j6,hD⟩
  ·rintro D j σ' H' zs hD ⟨_,rfl,e,h2,_⟩;exact⟨SqT.of (e _ _ b3),h2,by rw[ab]; exact jKB _ _ _⟩
  ·rintro D j σ' H' zs x t hD hx ht ⟨⟨v1,v2,rfl⟩,rfl,e,h2,hn⟩;obtain⟨pc,hpc,hPc⟩:=b4.at hx;obtain⟨pa,pq,rfl,c1,c2⟩:=id hPc;have gp:=g.pg pc (ay hpc);have lt:=yT _ 0 wi gp.lot.ris gp.lot.bnd;have tD:D≠t:=jB h2 ht;have e':=e.new ht (.tup [.int (j:Int), .ref pa]);have h2':(upd H' t (.tup [.int (j:Int), .ref pa])) D=some (.lst ((outM Ar dn j).map V.int)):=by rw[jA tD]; exact h2
   refine⟨t,_,rfl,SqT.of j6,rfl,_,_,rfl,_,_,rfl,rfl,?_⟩;generalize upd H' t (.tup [.int (j:Int), .ref pa])=H5 at e' h2' ⊢;refine⟨_,rfl,pa,_,0,_,rfl,rfl,SqT.of (e' _ _ c1),rfl,pq,pc.1,rfl,e' _ _ c2,fun t ht=>?_,Aa,fun H3 e3=>?_⟩
   ·have:=gp.lot.bnd t ht;lia
   refine⟨_,rfl,_,_,rfl,rfl,rfl,_,rfl,?_⟩;have ez:decide (V.int (Builtin.bitAnd ((maskN pc.1:Nat):Int) (dn:Int))=V.int 0)=fitM dn pc:=by
    unfold fitM;rw[jFS,bP,aW,aW];exact⟨fun h=>by have:=V.int.inj h; lia,fun h=>by rw[h]; rfl⟩
   show if decide (V.int (Builtin.bitAnd ((maskN pc.1:Nat):Int) (dn:Int))=V.int 0)=true then _ else _
   rw[ez];have h23:=e3 _ _ h2';refine ite2 (fun h1=>?_) (fun h1=>?_)
   ·refine⟨_,rfl,h23,⟨_,_,rfl⟩,?_,(e'.trans e3).updNew hn _,j6,hn⟩;rw[jHM hpc,ao h1,aK];rfl
   ·refine⟨⟨_,_,rfl⟩,?_,e'.trans e3,h23,hn⟩;rw[jHM hpc,am h1,ba]
  ·rintro D σ' H1 zs hD ⟨_,rfl,e1,h2,hn⟩;rw[pl] at h2;refine⟨_,rfl,b,qm,_,wi,ms,rfl,e1 _ _ b1,e1 _ _ b2,w0,Aa,fun l hl=>?_⟩;have e2:=e1.new hl (.lst ((mus ms wi.toNat).map V.int));have hD2:(upd H1 l (.lst ((mus ms wi.toNat).map V.int))) D=some (.lst ((outM Ar dn Ar.length).map V.int)):=by rw[jA (jB h2 hl)]; exact h2
   have hl2:(upd H1 l (.lst ((mus ms wi.toNat).map V.int))) l=some (.lst ((mus ms wi.toNat).map V.int)):=j6;generalize upd H1 l (.lst ((mus ms wi.toNat).map V.int))=H2 at e2 hD2 hl2 ⊢;refine⟨l,rfl,⟨_,SqL.of hl2⟩,jCT (xs:=(mus ms wi.toNat).map V.int) (fun i σ H'=>(∃ v3 v4,σ=[some (.ref b),some (.int (dn:Int)),some (.ref D),v3,v4])/\Ext H2 H'/\∀ n:Nat,(n:Int)∈(mus ms wi.toNat).take i->cand ms Ar ds n=false) ⟨⟨_,_,rfl⟩,Ext.refl _,fun n hn=>by cases hn⟩ (fun i σ H' _ ⟨_,e,_⟩=>SqL.of (e _ _ hl2)) ?_ ?_⟩
   ·rintro i x σ H' hx ⟨⟨v3,v4,rfl⟩,e,hnc⟩;obtain⟨u,hu,rfl⟩:∃ z:Int,(mus ms wi.toNat)[i]?=some z/\V.int z=x:=by
     rw[aL] at hx;cases hq:(mus ms wi.toNat)[i]? with
     | none=>rw[hq] at hx; cases hx
     | some z=>rw[hq] at hx; cases hx; exact⟨z,rfl,rfl⟩
    have hum:=mus_mem.mp (ay hu);have E2:=e2.trans e;refine⟨_,rfl,D,rfl,⟨_,SqL.of (e _ _ hD2)⟩,jS7 (xs:=(outM Ar dn Ar.length).map V.int) (by rw[ab,aw]; have:=jKB Ar dn Ar.length; lia) (fun D2 j σ' H'' zs=>(∃ v,σ'=[v,some (.int u),some (.ref b)])/\zs=(((outM Ar dn Ar.length).take j).filter fun k=>decide (u∈j5 Ar k)).map V.int/\Ext H' H''/\H'' D2=some (.lst zs)/\H' D2=none) ?_ ?_ ?_ ?_⟩
    ·intro D2 hD2;exact⟨⟨_,rfl⟩,rfl,(Ext.refl _).new hD2 _,j6,hD2⟩
    ·rintro D2 j σ' H'' zs _ ⟨_,rfl,e3,h3,_⟩;refine⟨e3 _ _ (e _ _ hD2),h3,?_⟩;rw[ab];refine be (bb _ _) ?_;rw[bB];lia
    ·rintro D2 j σ' H'' zs x _ hx ⟨⟨v,rfl⟩,rfl,e3,h3,hn3⟩;obtain⟨z,hz,rfl⟩:∃ z:Int,(outM Ar dn Ar.length)[j]?=some z/\V.int z=x:=by
      rw[aL] at hx;cases hq:(outM Ar dn Ar.length)[j]? with
      | none=>rw[hq] at hx; cases hx
      | some z=>rw[hq] at hx; cases hx; exact⟨z,rfl,rfl⟩
     obtain⟨z0,z1⟩:=jQR (ay hz);obtain⟨pa,pq,wt,at1,c1,c2⟩:=jQK b4 z0 z1;have E3:=E2.trans e3;have tk:(outM Ar dn Ar.length).take (j+1)=(outM Ar dn Ar.length).take j++[z]:=by
      rw[aV,hz];rfl
     refine⟨_,rfl,_,rfl,b,_,2,_,rfl,rfl,SqT.of (E3 _ _ b1),rfl,_,rfl,qp,_,_,_,rfl,rfl,SqT.of (E3 _ _ b3),at1,pa,_,0,_,rfl,rfl,SqT.of (E3 _ _ c1),rfl,pq,_,rfl, .inr (SqT.of (E3 _ _ c2)),rfl,kQ _,_,rfl,?_⟩;have ein:inV (.int u) ((j5 Ar z).map V.int)=decide (u∈j5 Ar z):=yG _ _;show if inV (.int u) ((j5 Ar z).map V.int)=true then _ else _
     rw[ein];refine ite2 (fun hy=>?_) (fun hy=>?_)
     ·refine⟨_,rfl,h3,⟨_,rfl⟩,?_,e3.updNew hn3 _,j6,hn3⟩;rw[tk,bw,List.filter_cons_of_pos (p:=fun k=>decide (u∈j5 Ar k)) (a:=z) hy,aK];rfl
     ·refine⟨⟨_,rfl⟩,?_,e3,h3,hn3⟩;rw[tk,bw,List.filter_cons_of_neg (p:=fun k=>decide (u∈j5 Ar k)) (a:=z) hy,i4,ba]
    ·rintro D2 σ' H3 zs _ ⟨_,rfl,e3,h3,hn3⟩;rw[ab,aZ,jND hd g] at h3;have hle:(qL Ar ds u).length<=Ar.length:=by
      unfold qL;refine be (bb _ _) ?_;rw[kU];exact ak _
     have eu:((u.toNat:Nat):Int)=u:=Aa;refine⟨_,rfl,D2,_,rfl, .inl (SqL.of h3),rfl,_,rfl,ite2 (fun h1=>?_) (fun h1=>?_)⟩
     ·have h1:(qL Ar ds u).length=1:=by
       have:=V.int.inj (aE h1);rw[ab] at this;lia
      obtain⟨kk,hk⟩:=gu.mp h1;rw[hk] at h3;refine⟨_,rfl,_,rfl,D2,_,0,_,rfl,rfl,SqL.of h3,rfl,(by show 2<=sizeLine; decide),fun a H4 y4 x4=>?_⟩;refine k1 u kk ?_ a H4 y4 ((E2.trans e3).trans x4);have:=jR2 (wi:=wi.toNat) (ms:=ms) (Ar:=Ar) (ds:=ds) (n:=u.toNat) (k:=kk) Aa (by
       unfold cand;rw[eu,aq h1,aJ hum.2.2];rfl) (by rw[eu]; exact hk) fun j hj=>?_
      ·rw[eu] at this;exact this
      ·by_cases hm:(j:Int)∈ms
       ·unfold cand;rw[aq hm];rfl
       ·exact hnc j (jXY (jUX _ _) hu (mus_mem.mpr ⟨Aa,Aa,hm⟩) Aa)
     ·refine⟨⟨_,_,rfl⟩,e.trans e3,fun n hn=>?_⟩;have tk:(mus ms wi.toNat).take (i+1)=(mus ms wi.toNat).take i++[u]:=by
       rw[aV,hu];rfl
      rw[tk] at hn;rcases aN.mp hn with q | q
      ·exact hnc n q
      ·have q:(n:Int)=u:=aI.mp q;unfold cand;rw[q];have:¬ (qL Ar ds u).length=1:=fun z=>h1 (aq (by rw[ab,z]; rfl));rw[aJ this,cC]
   ·rintro σ H' ⟨⟨v3,v4,rfl⟩,e,hnc⟩;refine k0 (jR3 fun n hn=>?_) H' (e2.trans e);by_cases hm:(n:Int)∈ms
    ·unfold cand;rw[aq hm];rfl
    ·refine hnc n ?_;rw[ab,aZ];exact mus_mem.mpr ⟨Aa,Aa,hm⟩
def LotAt (H:Hp)(v:V)(ts:Ag):Prop:=∃ q,v= .ref q/\H q=some (.tup (ts.map V.int))
def LotsAt (H:Hp):List V->Af->Prop
 | [],[]=>True
 | v::vs,p::ps=>LotAt H v p/\LotsAt H vs ps
 | _,_=>False
theorem LotAt.mono {H H':Hp}{v:V}{p:Ag}(h:LotAt H v p)(t:TupsK H H'):LotAt H' v p:=let ⟨a,e,q⟩:=h; ⟨a,e,t _ _ q⟩
theorem LotsAt.mono {H H':Hp}(t:TupsK H H'):∀ {vs:List V}{ps:Af},LotsAt H vs ps->LotsAt H' vs ps
 | [],[],_=>trivial
 | _::_,_::_,h=>⟨h.1.mono t,LotsAt.mono t h.2⟩
 | [],_::_,h=>h.elim
 | _::_,[],h=>h.elim
theorem LotsAt.len {H:Hp} :∀ {vs:List V}{ps:Af},LotsAt H vs ps->vs.length=ps.length
 | [],[],_=>rfl
 | _::_,_::_,h=>bL (· +1) (LotsAt.len h.2)
 | [],_::_,h=>h.elim
 | _::_,[],h=>h.elim
theorem LotsAt.at {H:Hp} :∀ {vs:List V}{ps:Af},LotsAt H vs ps->∀ {i:Nat}{v:V},vs[i]?=some v->∃ p,ps[i]?=some p/\LotAt H v p
 | v::vs,p::ps,h,0,_,e=>by cases e; exact⟨p,rfl,h.1⟩
 | v::vs,p::ps,h,i+1,_,e=>LotsAt.at h.2 (i:=i) e
 | [],[],_,_,_,e=>by cases e
 | [],_::_,h,_,_,_=>h.elim
 | _::_,[],h,_,_,_=>h.elim
theorem LotsAt.snoc {H:Hp}{v:V}{p:Ag}(hv:LotAt H v p):∀ {vs:List V}{ps:Af},LotsAt H vs ps->LotsAt H (vs++[v]) (ps++[p])
 | [],[],_=>⟨hv,trivial⟩
 | _::_,_::_,h=>⟨h.1,LotsAt.snoc hv h.2⟩
 | [],_::_,h=>h.elim
 | _::_,[],h=>h.elim
def qV (Ar:Ae)(t:Int):Af:=(Ar.filter fun p=>decide (t∈p.1)).map (·.1)
def holdZ (Ar:Ae)(t:Int):Hp->List V->Nat->Prop:=fun H zs j=>LotsAt H zs (qV (Ar.take j) t)
theorem holdZ.ok (Ar:Ae)(t:Int):ZOk (holdZ Ar t):=⟨fun _=>trivial,fun _ _ _ _ k h=>LotsAt.mono k h,fun _ zs j h=>by
 rw[LotsAt.len h];unfold qV;rw[ab];exact be (bb _ _) (br _ _)⟩
theorem jOY (Ar:Ae)(t:Int):(qV Ar t).length<=Ar.length:=by
 unfold qV;rw[ab];exact bb _ _
theorem jOX {Ar:Ae}{t:Int}{j:Nat}{p:List Int×Int}(h:Ar[j]?=some p)(hp:t∈p.1):qV (Ar.take (j+1)) t=qV (Ar.take j) t++[p.1]:=by
 unfold qV;rw[aV,h,bw,aK];simp [hp]
theorem jRT {Ar:Ae}{t:Int}{j:Nat}{p:List Int×Int}(h:Ar[j]?=some p)(hp:¬ t∈p.1):qV (Ar.take (j+1)) t=qV (Ar.take j) t:=by
 unfold qV;rw[aV,h,bw,aK];simp [hp]
def jKZ (Ar:Ae)(lot:Ag)(m:Int):Bool:=lot.any fun x=>(qV Ar m).all fun h=>decide (x∈h)
def idleB (w:Int)(ms:Ag)(Ar:Ae)(lot:Ag):Bool:=((mus ms w.toNat).filter fun m=>!decide (m∈lot)).any fun m=>jKZ Ar lot m
theorem jOW {m:List (Option Nat)}{σ:St}{H:Hp}{Q:VK}{qp:Addr}{ps:List V}{Ar:Ae}{t:Int}(h3:H qp=some (.tup ps))(h4:PcsAt H ps Ar)(hl:Ar.length<=32)(h0:blkσ m σ=[none,some (.int t)])
  (q:∀ D H' zs,H' D=some (.lst zs)->LotsAt H' zs (qV Ar t)->Ext H H'->H D=none->Q (.ref D) H'):qJ m (kJ 0) (tTest (tOp (rIn K false) (tVar 1) (tOp (rIxT K) (tVar 0) (tC (V.int 0))))) (tOp (rIxT K) (tVar 0) (tC (V.int 0))) σ Q (Itt K qp) H:=by
 refine jCV (xs:=ps) (fun σ'=>∃ v,σ'=[v,some (.int t)]) (holdZ Ar t) (holdZ.ok _ _) h3 (by rw[h4.len,aw]; lia) ⟨_,h0⟩ ?_ fun D H' zs hD e hn hz=>q D H' zs hD (by rw[h4.len] at hz; unfold holdZ at hz; rw[aZ] at hz; exact hz) e hn;rintro j x σ' H' zs hx ⟨v,rfl⟩ e hz R S hR hS;obtain⟨pc,hpc,pa,pq,rfl,c1,c2⟩:=h4.at hx;dsimp only [kJ];refine⟨_,rfl,_,rfl,pa,_,0,_,rfl,rfl,SqT.of (e _ _ c1),rfl,pq,_,rfl, .inr (SqT.of (e _ _ c2)),rfl,kQ _,_,rfl,?_⟩;rw[yG];refine ite2 (fun hz2=>?_) (fun hz2=>?_)
 ·have ht:t∈pc.1:=aE hz2;refine⟨_,rfl,pa,_,0,_,rfl,rfl,SqT.of (e _ _ c1),rfl,hR _ _ _ ⟨_,rfl⟩ (Ext.refl _) ?_⟩;unfold holdZ;rw[jOX hpc ht];exact LotsAt.snoc ⟨pq,rfl,e _ _ c2⟩ hz
 ·have ht:¬ t∈pc.1:=fun y=>hz2 (aq y);refine hS _ _ ⟨_,rfl⟩ (Ext.refl _) ?_;unfold holdZ;rw[jRT hpc ht];exact hz
theorem jM2 {m:List (Option Nat)}{σ:St}{H:Hp}{Q:VK}{l:Addr}{zs:List V}{ls:Af}{x:Int}(hl:H l=some (.lst zs))(hz:LotsAt H zs ls)(hn:ls.length<=100)(h0:blkσ m σ=[none,some (.int x)])
  (q:∀ D H',H' D=some (.lst ((ls.map fun h=>decide (x∈h)).map V.bl))->Ext H H'->H D=none->Q (.ref D) H'):qJ m (kJ 0) yL (tOp (rIn K false) (tVar 1) (tVar 0)) σ Q (Itl K l) H:=by
 refine jAQ (xs:=zs) (fun σ'=>∃ v,σ'=[v,some (.int x)]) (mapZ (ls.map fun h=>decide (x∈h)) V.bl) (mapZ.ok _ _) hl (by rw[hz.len,aw]; lia) ⟨_,h0⟩ ?_ fun D H' ys hD e hn2 hy=>q D H' (by rw[hD,hy.all (by rw[ab,hz.len]; exact ak _)]) e hn2;rintro j v σ' H' ys hx ⟨v',rfl⟩ e hy R S hR hS;obtain⟨p,hp,qa,rfl,c⟩:=hz.at hx;dsimp only [kJ,yL];rw[ao rfl];refine⟨_,rfl,_,rfl,qa,_,rfl, .inr (SqT.of (e _ _ c)),rfl,kQ _,hR _ _ _ ⟨_,rfl⟩ (Ext.refl _) ?_⟩;rw[yG];exact hy.yes (by rw[aL,hp]; rfl)
abbrev nIdle:Am:=["box","number","held","must","holders"]
theorem scIdle:FnScope nIdle ["box","number"] (j8 xH):= {}
def jJZ:Sp:=fun vs H Q _=>∃ (b:Addr) (k w:Int) (ms:Ag) (Ar:Ae),vs=[.ref b, .int k]/\BoxAt H b w ms Ar/\Good 16 32 w ms Ar/\0<=k/\k<Ar.length/\∀ H',Ext H H'->Q (.bl (idleB w ms Ar (j5 Ar k))) H'
def idleA (T:Txt mg)(CU:Can P w K mg Aq "musts_of" 1 fU fdU ["box"] jD1)(hr:Room 1 (XOf nIdle "is_idle" xH P w K mg Aq f ki A Ap s H0 E).A): { t:TS // JSs (XOf nIdle "is_idle" xH P w K mg Aq f ki A Ap s H0 E) (jE xH) t} :=
 have nd:=scIdle.nd
 ⟨_,(j9 (jR (i:=2) nd rfl qY (jH jI (jH jI (jH jI (jv 0 rfl vL) (je_int) jC) (jv 1 rfl vL) yU) (je_int) jC) jF9)
   (j9 (x6 bX rfl (y6 (kI (m:=[none,some 2]) (Nc:=["thing","held"]) rfl (y6 (CU.je hr gD (j3 (jv 0 rfl vL) j7 j4) j4)) rfl Ab Ab (jQ (psc:=j8 xH)) (jJ (N:=nIdle) rfl rfl Ab) (fun cl C fp s H=>jL (i:=0) (show (["thing","held"]:Am).Nodup by decide+kernel) rfl yD) (fun cl C fp s H=>qD (jO jD4 (jv 0 rfl jM) (jv 1 rfl kD) jBI)) (fun cl C fp s H=>(jv 0 rfl jM)) kS)) (jL (i:=3) nd rfl qY) (j9 (jV9 (i:=4) nd rfl qY (kI (m:=[none,some 3]) (Nc:=["piece","must"]) rfl (qP (jH jI (jv 0 rfl vL) (je_int) jC)) rfl Ab Ab (jQ (psc:=j8 xH)) (jJ (N:=nIdle) rfl rfl Ab) (fun cl C fp s H=>jL (i:=0) (show (["piece","must"]:Am).Nodup by decide+kernel) rfl yD) (fun cl C fp s H=>qD (jO jD5 (jv 1 rfl kD) (jH kG (jv 0 rfl jM) (je_int) jC) jHQ)) (fun cl C fp s H=>(jH kG (jv 0 rfl jM) (je_int) jC)) jP5) (by rfl))
   (jD (yA (qZ (jK (jIB rfl) gD T.any Ab (j3 (jRO (m:=[none,some 4]) (Nc:=["thing","holders"]) rfl (qP (jv 2 rfl vC)) rfl Ab Ab (jQ (psc:=j8 xH)) (jJ (N:=nIdle) rfl rfl Ab) (fun cl C fp s H=>jL (i:=0) (show (["thing","holders"]:Am).Nodup by decide+kernel) rfl (jV4 Ab)) (fun cl C fp s H=>kR) (fun cl C fp s H=>(jK (jIC rfl) (gl_bC Ab) T.all Ab (j3 (kI (m:=[none,some 0]) (Nc:=["holder","thing"]) rfl (jLZ (jv 1 rfl (jTH Ab))) rfl Ab Ab (jRX Ab) (jJ (N:=["thing","holders"]) rfl rfl Ab) (fun cl C fp s H=>jL (i:=0) (show (["holder","thing"]:Am).Nodup by decide+kernel) rfl yD) (fun cl C fp s H=>kR) (fun cl C fp s H=>(yV jQS (jv 1 rfl kD) (jv 0 rfl jM) jBI)) y8) j7 jN) jN)) y8) j7 jN) jN) qF) (jD (jP (je_bl))) jZ))) jVL)
   (jD (jP (je_bl)))))⟩
theorem jUQ {fd:FuncData}(F:Fun K "is_idle" "is_idle" xH f fd)(T:Txt mg)(CU:Can P w K mg Aq "musts_of" 1 fU fdU ["box"] jD1):FnOk P w K mg Aq CX0 2 f fd ["box","number"] jJZ:=by
 refine F.ok scIdle (fun vs H Q E h=>?_) (fun ki A Ap s H vs Q E hr h=>?_)
 ·obtain⟨_,_,_,_,_,rfl,_⟩:=h;rfl
 ·obtain⟨b,k,w,ms,Ar,rfl,hB,g,k0,k1,q⟩:=h;refine⟨_,(idleA T CU hr).2.h,?_⟩;obtain⟨qm,qp,ps,b1,b2,b3,b4⟩:=id hB.ex;have pl:=b4.len;have w0:=g.w0;have w1:=g.w1;have gpl:=g.pl;obtain⟨pa,pq,g1,g2,g3⟩:=jCJ b4 k0 k1;have l16:=jBQ g k0 k1;refine⟨_,rfl,b,_,2,_,rfl,rfl,SqT.of b1,rfl,_,rfl,qp,_,k,_,rfl,rfl,SqT.of b3,g1,pa,_,0,_,rfl,rfl,SqT.of g2,rfl,?_⟩;have w0':(w.toNat:Int)=w:=Aa;refine⟨_,rfl,b,qm,_,w,ms,rfl,b1,b2,w0,Aa,fun l0 hl0=>?_⟩;have e1:Ext H (L2.upd H l0 (.lst ((mus ms w.toNat).map V.int))):=(Ext.refl _).new hl0 _;have d1:(L2.upd H l0 (.lst ((mus ms w.toNat).map V.int))) l0=some (.lst ((mus ms w.toNat).map V.int)):=j6;generalize L2.upd H l0 (.lst ((mus ms w.toNat).map V.int))=H1 at e1 d1;have ml:=jO3 ms w.toNat;generalize hlot:j5 Ar k=lot at g3 l16 q;refine⟨l0,rfl,⟨_,SqL.of d1⟩,jAQ (xs:=(mus ms w.toNat).map V.int) (fun σ'=>∃ v,σ'=[v,some (.ref pq)]) (outZ (mus ms w.toNat) (fun m=>!decide (m∈lot)) V.int) (outZ.ok _ _ _) d1 (by rw[ab,aw]; lia) ⟨_,rfl⟩ ?_ ?_⟩
  ·rintro j x σ' H' zs hx ⟨v,rfl⟩ e hz R S hR hS;obtain⟨z,hz1,rfl⟩:=int_at hx;dsimp only [kJ];refine⟨_,rfl,_,rfl,pq,_,rfl, .inr (SqT.of (e _ _ (e1 _ _ g3))),rfl,kQ _,_,rfl,?_⟩;rw[yG];refine ite2 (fun h=>⟨_,rfl,hR _ _ _ ⟨_,rfl⟩ (Ext.refl _) (hz.yes hz1 h)⟩) (fun h=>hS _ _ ⟨_,rfl⟩ (Ext.refl _) (hz.no hz1 (by simpa using h)))
  ·rintro D H2 zs hD e2 nD hz;obtain rfl:=hz.all (by rw[ab]; exact ak _);have E2:=e1.trans e2;generalize hL:(mus ms w.toNat).filter (fun m=>!decide (m∈lot))=L at hD;refine⟨D,rfl,⟨_,SqL.of hD⟩,jCT (xs:=L.map V.int) (fun i σ H'=>(∃ v3 v4,σ=[some (.ref b),some (.int k),some (.ref pq),v3,v4])/\Ext H2 H'/\∀ m∈L.take i,jKZ Ar lot m=false) ⟨⟨_,_,rfl⟩,Ext.refl _,fun m hm=>by rw[hG] at hm; cases hm⟩ (fun i σ H' _ ⟨_,e,_⟩=>SqL.of (e _ _ hD)) ?_ ?_⟩
   ·rintro i x σ H' hx ⟨⟨v3,v4,rfl⟩,e,hno⟩;obtain⟨m,hm,rfl⟩:=int_at hx;have E3:=E2.trans e;refine⟨_,rfl,b,_,2,_,rfl,rfl,SqT.of (E3 _ _ b1),rfl,qp,rfl,⟨_,SqT.of (E3 _ _ b3)⟩,jOW (t:=m) (E3 _ _ b3) (b4.mono E3.tups) Aa rfl fun D2 H4 zs h4 z4 e4 n4=>?_⟩;have E4:=E3.trans e4;have hl4:=jOY Ar m;refine⟨_,rfl,pq,rfl,⟨_,SqT.of (E4 _ _ g3)⟩,jCV (xs:=lot.map V.int) (fun σ'=>∃ v,σ'=[v,some (.ref D2)]) (mapZ (lot.map fun x=>(qV Ar m).all fun h=>decide (x∈h)) V.bl) (mapZ.ok _ _) (E4 _ _ g3) (by rw[ab,aw]; lia) ⟨_,rfl⟩ ?_ ?_⟩
    ·rintro j x σ' H' ys hx ⟨v,rfl⟩ e5 hy R S hR hS;obtain⟨z,hz,rfl⟩:=int_at hx;dsimp only [kJ,yL];rw[ao rfl];refine⟨_,rfl,D2,rfl,⟨_,SqL.of (e5 _ _ h4)⟩,jM2 (e5 _ _ h4) (z4.mono e5.tups) Aa rfl fun D3 H6 h6 e6 n6=>⟨D3,_,rfl,SqL.of h6,hR _ _ _ ⟨_,rfl⟩ e6 ?_⟩⟩;rw[gj];exact hy.yes (by rw[aL,hz]; rfl)
    ·rintro D3 H6 ys h6 e6 n6 hy;obtain rfl:=hy.all (by rw[ab,ab]; exact ak _);refine⟨D3,_,rfl,SqL.of h6,_,rfl,?_⟩;have ea:(lot.map fun x=>(qV Ar m).all fun h=>decide (x∈h)).any id=jKZ Ar lot m:=by
      rw[any_map];rfl
     rw[ea];have e26:=(e.trans e4).trans e6;refine ite2 (fun hz=>?_) (fun hz=>?_)
     ·have:=q H6 (E2.trans e26);have ei:idleB w ms Ar lot=true:=by
       unfold idleB;rw[hL,dF];exact⟨m,ay hm,hz⟩
      rw[ei] at this;exact this
     ·refine⟨⟨_,_,rfl⟩,e26,fun m' hm'=>?_⟩;rw[aV,hm] at hm';rcases aN.mp hm' with y | y
      ·exact hno m' y
      ·have:m'=m:=by simpa using y
       rw[this];simpa using hz
   ·rintro σ H3 ⟨⟨v3,v4,rfl⟩,e3,hno⟩;rw[ab,aZ] at hno;have:=q H3 (E2.trans e3);have ei:idleB w ms Ar lot=false:=by
     unfold idleB;rw[hL,eJ];exact fun m hm=>by rw[hno m hm]; exact aj
    rw[ei] at this;exact this
abbrev Bx:Type:=Int×List Int×Ae
abbrev GB (b:Bx):Prop:=Good 16 32 b.1 b.2.1 b.2.2
abbrev BxAt (H:Hp)(a:Addr)(b:Bx):Prop:=BoxAt H a b.1 b.2.1 b.2.2
def cut (b:Bx)(ts aps:Ag):Bx:=(ts.length,nmd ts b.2.1,pick ts b.2.2 aps)
theorem jNV {ts lot:Ag} :∀ z∈nmd ts lot,0<=z/\z<(ts.length:Int):=fun z hz=>by
 have:=(kW (plcs ts lot)).mem_iff.mp hz;unfold plcs at this;obtain⟨t,ht,rfl⟩:=aQ.mp this;have:=bO.mpr (aE (aS.mp ht).2);lia
theorem jS4 {b:Bx}{ts aps:Ag}(g:GB b)(ht:Ris b.1 ts)(ha:Ris b.2.2.length aps)(hn:∀ k∈aps,∃ t∈j5 b.2.2 k,t∈ts):GB (cut b ts aps):=by
 have l1:=jD9 ht.ris ht.bnd g.w1;have l2:=yT aps 0 b.2.2.length ha.ris ha.bnd;have gp:=g.pl;refine⟨by show (0:Int)<=ts.length; lia,by show (ts.length:Int)<=16; lia,⟨?_,jNV⟩,?_,fun p hp=>?_⟩
 ·show (nmd ts b.2.1).Pairwise (· < ·);rw[jNU ht.ris g.mr.ris];exact jG6 ht.ris g.mr.ris
 ·show ((pick ts b.2.2 aps).length:Int)<=32;unfold pick;rw[ab];lia
 ·obtain⟨k,hk,rfl⟩:=aQ.mp (show p∈pick ts b.2.2 aps from hp);have kb:=ha.bnd k hk;have gk:=g.at (k:=k.toNat) Aa;have gr:(j5 b.2.2 k).Pairwise (· < ·):=gk.lot.ris;refine⟨⟨?_,jNV,?_⟩,gk.lo,gk.hi⟩
  ·show (nmd ts (j5 b.2.2 k)).Pairwise (· < ·);rw[jNU ht.ris gr];exact jG6 ht.ris gr
  ·obtain⟨t,h1,h2⟩:=hn k hk;intro z;have hm:((ts.idxOf t:Nat):Int)∈nmd ts (j5 b.2.2 k):=by
    unfold nmd;refine(kW _).mem_iff.mpr ?_;unfold plcs;exact aQ.mpr ⟨t,aS.mpr ⟨h1,aq h2⟩,rfl⟩
   have z':nmd ts (j5 b.2.2 k)=[]:=z;rw[z'] at hm;cases hm
def lIdle (b:Bx):Option Nat:=(List.range b.2.2.length).find? fun k=>idleB b.1 b.2.1 b.2.2 (j5 b.2.2 k)
def butN (n:Nat)(k:Int):Ag:=(upto n).filter fun x=>!decide (x=k)
abbrev St3:Type:=List Int×List Int×Ag
def lone (b:Bx)(k:Int):St3:=(lftT b.1 (j5 b.2.2 k),lftP b.2.2 (lftT b.1 (j5 b.2.2 k)),[k])
def stp (b:Bx):Option St3:=match lIdle b with
 | some k=>some (upto b.1.toNat,butN b.2.2.length k,[])
 | none=>match nxt b.1.toNat b.2.1 b.2.2 [] with
  | some p=>some (lone b p.2)
  | none=>none
theorem jNS {wi:Nat}{ms:Ag}{Ar:Ae}{ds:Ag}{t k:Int}(h:nxt wi ms Ar ds=some (t,k)):0<=t/\t<wi/\0<=k/\k<Ar.length/\t∈j5 Ar k:=by
 unfold nxt at h;obtain⟨n,hn,e⟩:=gm.mp h;have hc:=i5 hn;have hm:=bo.mp (ic hn);unfold cand at hc;rw[bG,aW] at hc;obtain⟨k',hk'⟩:=gu.mp hc.2;rw[hk'] at e;have e:((n:Int),k')=(t,k):=e;cases e;have:k∈qL Ar ds n:=by rw[hk']; exact aI.mpr rfl
 unfold qL at this;obtain⟨q1,q2⟩:=aS.mp this;rw[bG,aW] at q2;have:=mem_upto.mp q1;exact⟨Aa,Aa,Aa,Aa,q2.1⟩
theorem jH3 (n:Nat)(k:Int):Ris n (butN n k):=⟨(kT n).ris.sublist da,fun z hz=>(kT n).bnd z (aS.mp hz).1⟩
theorem jP8 {α:Type}{p:α->Bool}{l:List α}{x:α}(hx:x∈l)(hp:p x=false):(l.filter p).length<l.length:=by
 induction l with
 | nil=>cases hx
 | cons a r ih=>
  rw[b9];rcases aG.mp hx with rfl | h
  ·rw[hp,am aj,aP];exact Nat.lt_succ_of_le (bb _ _)
  ·have:=ih h;split
   ·rw[aP,aP];lia
   ·rw[aP];lia
theorem jGN {b:Bx}{k:Nat}(h:lIdle b=some k):k<b.2.2.length:=bo.mp (ic h)
structure StOk (b:Bx)(x:St3):Prop where
 t:Ris b.1 x.1
 a:Ris b.2.2.length x.2.1
 n:∀ k∈x.2.1,∃ t∈j5 b.2.2 k,t∈x.1
 l:x.2.1.length<b.2.2.length
 k:x.2.2.length<=1
 kb:∀ k∈x.2.2,0<=k/\k<b.2.2.length
theorem jHA {b:Bx}(g:GB b){k:Int}(h0:0<=k)(h1:k<b.2.2.length):∃ t∈j5 b.2.2 k,0<=t/\t<b.1:=by
 have gk:=g.at (k:=k.toNat) Aa;have ne:j5 b.2.2 k≠ []:=gk.lot.ne;obtain⟨t,ht⟩:=List.exists_mem_of_ne_nil _ ne;exact⟨t,ht,gk.lot.bnd t ht⟩
theorem jMH {w:Int}(w0:0<=w):Ris w (upto w.toNat):=by
 have:=kT w.toNat;rw[show ((w.toNat:Nat):Int)=w by lia] at this;exact this
theorem jJW {b:Bx}(g:GB b){x:St3}(h:stp b=some x):StOk b x:=by
 have w0:=g.w0;unfold stp at h;cases hi:lIdle b with
 | some k=>
  rw[hi] at h;cases h;have hk:=jGN hi;refine⟨jMH w0,jH3 _ _,fun j hj=>?_,?_,bu _,fun j hj=>by cases hj⟩
  ·have hb:=(jH3 _ _).bnd j hj;obtain⟨t,h1,h2⟩:=jHA g hb.1 hb.2;exact⟨t,h1,mem_upto.mpr Aa⟩
  ·show (butN b.2.2.length k).length<_;have:=jP8 (p:=fun x:Int=>!decide (x=(k:Int))) (l:=upto b.2.2.length) (x:=(k:Int)) (mem_upto.mpr Aa) Ad;rw[kU] at this;exact this
 | none=>
  rw[hi] at h;dsimp only at h;cases hx:nxt b.1.toNat b.2.1 b.2.2 [] with
  | none=>rw[hx] at h; cases h
  | some p=>
   rw[hx] at h;cases h;obtain⟨h1,h2,h3,h4,h5⟩:=jNS (t:=p.1) (k:=p.2) hx;have tr:Ris b.1 (lftT b.1 (j5 b.2.2 p.2)):=⟨jGH _ _,fun z hz=>((jB6 w0).mp hz).1⟩;refine⟨tr,⟨jGI _ _,jGJ⟩,fun j hj=>?_,?_,ak _,fun j hj=>by rw[aI.mp hj]; exact⟨h3,h4⟩⟩
   ·have hb:=jGJ j hj;obtain⟨t,q1,q2⟩:=jHA g hb.1 hb.2;have:=bC.mp (aS.mp hj).2 t q1;exact⟨t,q1,aE this⟩
   ·show (lftP b.2.2 _).length<_;have:=jP8 (p:=fun k=>(j5 b.2.2 k).all fun t=>decide (t∈lftT b.1 (j5 b.2.2 p.2))) (l:=upto b.2.2.length) (x:=p.2) (mem_upto.mpr ⟨h3,h4⟩) (by
     rw[List.all_eq_false];refine⟨p.1,h5,fun z=>?_⟩;exact((jB6 w0).mp (aE z)).2 h5)
    rw[kU] at this;exact this
abbrev S4:Type:=Bx×List Int×List Int×Ag
def at_ (l:Ag)(k:Int):Int:=l.getD k.toNat 0
def adv (S:S4)(x:St3):S4:=(cut S.1 x.1 x.2.1,x.1.map (at_ S.2.1),x.2.1.map (at_ S.2.2.1),srt (S.2.2.2++x.2.2.map (at_ S.2.2.1)))
def runS:Nat->S4->S4
 | 0,S=>S
 | n+1,S=>match stp S.1 with
  | none=>S
  | some x=>runS n (adv S x)
structure SOk (S:S4):Prop where
 g:GB S.1
 t:(S.2.1.length:Int)=S.1.1
 p:S.2.2.1.length=S.1.2.2.length
 k:S.2.2.2.length+S.1.2.2.length<=32
theorem jPZ {S:S4}(h:SOk S){x:St3}(hx:stp S.1=some x):SOk (adv S x):=by
 have o:=jJW h.g hx;refine⟨jS4 h.g o.t o.a o.n,?_,?_,?_⟩
 ·show ((x.1.map (at_ S.2.1)).length:Int)=x.1.length;rw[ab]
 ·show (x.2.1.map (at_ S.2.2.1)).length=(pick x.1 S.1.2.2 x.2.1).length;unfold pick;rw[ab,ab]
 ·show (srt (S.2.2.2++x.2.2.map (at_ S.2.2.1))).length+(pick x.1 S.1.2.2 x.2.1).length<=32;unfold pick;rw[jTO,aF,ab,ab];have:=o.l;have:=o.k;have:=h.k;lia
theorem jY1 {S:S4}(h:SOk S){x:St3}(hx:stp S.1=some x):(adv S x).1.2.2.length<S.1.2.2.length:=by
 have o:=jJW h.g hx;show (pick x.1 S.1.2.2 x.2.1).length<_;unfold pick;rw[ab];exact o.l
theorem jN2:∀ (n:Nat) {S:S4},SOk S->SOk (runS n S)
 | 0,_,h=>h
 | n+1,S,h=>by
  unfold runS;cases hx:stp S.1 with
  | none=>exact h
  | some x=>exact jN2 n (jPZ h hx)
def begS (b:Bx):S4:=(b,upto b.1.toNat,upto b.2.2.length,[])
theorem jJN {b:Bx}(g:GB b):SOk (begS b):=by
 have w0:=g.w0;have pl:=g.pl;refine⟨g,?_,kU _,?_⟩
 ·show ((upto b.1.toNat).length:Int)=b.1;rw[kU];lia
 ·show 0+b.2.2.length<=32;lia
def endS (b:Bx):S4:=runS (b.2.2.length+1) (begS b)
theorem jCA {b:Bx}(g:GB b):SOk (endS b):=jN2 _ (jJN g)
theorem jC8 (n:Int):jET 0 (n - 0).toNat=upto n.toNat:=by
 unfold jET upto;rw[Int.sub_zero];exact bF fun i _=>by lia
section
variable {fN:Addr}{fdN:FuncData}
abbrev jNZ:Am:=["box","number"]
theorem scLIdle:FnScope jNZ ["box"] (j8 jDL):= {}
def optI:Option Nat->V
 | none=> .non
 | some k=> .int (k:Int)
def jFZ:Sp:=fun vs H Q _=>∃ (a:Addr) (b:Bx),vs=[.ref a]/\BxAt H a b/\GB b/\∀ H',Ext H H'->Q (optI (lIdle b)) H'
def jXB (T:Txt mg)(CI:Can P w K mg Aq "is_idle" 2 fI fdI ["box","number"] jJZ)(hr:Room 2 (XOf jNZ "least_idle" jDL P w K mg Aq f ki A Ap s H0 E).A): { t:TS // JSs (XOf jNZ "least_idle" jDL P w K mg Aq f ki A Ap s H0 E) (jE jDL) t} :=
 have nd:=scLIdle.nd
 ⟨_,(j9 (x6 bX rfl (jA7 gD T.range (j3 (jK jW gD T.len Ab (j3 (jH jI (jv 0 rfl vL) (je_int) jC) j7 jF) jF) j7 jG) jG) (jL (i:=1) nd rfl lL) (jD (yA (qZ (CI.je hr gD (j3 (jv 0 rfl vL) (j3 (jv 1 rfl vL) j7 j4) j4) j4) qF) (jD (jP (jv 1 rfl vL))) jZ)) kS)
   (jD (jP (qQ))))⟩
theorem jQY {fd:FuncData}(F:Fun K "least_idle" "least_idle" jDL f fd)(T:Txt mg)(CI:Can P w K mg Aq "is_idle" 2 fI fdI ["box","number"] jJZ):FnOk P w K mg Aq CX0 3 f fd ["box"] jFZ:=by
 refine F.ok scLIdle (fun vs H Q E h=>?_) (fun ki A Ap s H vs Q E hr h=>?_)
 ·obtain⟨_,_,rfl,_⟩:=h;rfl
 ·obtain⟨a,b,rfl,hB,g,q⟩:=h;refine⟨_,(jXB T CI hr).2.h,?_⟩;obtain⟨qm,qp,ps,b1,b2,b3,b4⟩:=id hB.ex;have pl:=b4.len;have gpl:=g.pl;refine⟨_,rfl,a,_,2,_,rfl,rfl,SqT.of b1,rfl,qp,_,rfl, .inr (SqT.of b3),(ps.length:Int),rfl,Aa,Aa,jCS (n:=ps.length) (fun i σ H'=>(∃ v,σ=[some (.ref a),v])/\Ext H H'/\∀ j,j<i->idleB b.1 b.2.1 b.2.2 (j5 b.2.2 (j:Nat))=false) ⟨⟨_,rfl⟩,Ext.refl _,fun j hj=>absurd hj (dM _)⟩ ?_ ?_⟩
  ·rintro i σ H' hi ⟨⟨v,rfl⟩,e,hno⟩;have e0:(0+(i:Int))=(i:Int):=Aa;rw[e0];refine⟨_,rfl,_,rfl,a,i,b.1,b.2.1,b.2.2,rfl,hB.mono e.tups,g,Aa,Aa,fun H2 e2=>⟨_,rfl,ite2 (fun hz=>?_) (fun hz=>?_)⟩⟩
   ·have hf:lIdle b=some i:=by
     unfold lIdle;refine iA.mpr ⟨hz,bo.mpr Aa,fun j hj=>by rw[hno j hj]; rfl⟩
    have:=q H2 (e.trans e2);rw[hf] at this;exact⟨_,rfl,this⟩
   ·refine⟨⟨_,rfl⟩,e.trans e2,fun j hj=>?_⟩;by_cases hji:j=i
    ·rw[hji];simpa using hz
    ·exact hno j Aa
  ·rintro σ H' ⟨⟨v,rfl⟩,e,hno⟩;have hf:lIdle b=none:=by
    unfold lIdle;refine h9.mpr fun j hj=>?_;have:=bo.mp hj;rw[hno j Aa];exact aj
   have:=q H' e;rw[hf] at this;exact this
abbrev jJ1:Am:=["places","numbers"]
theorem scTraced:FnScope jJ1 ["places","numbers"] (j8 jBG):= {}
def jAN:Sp:=fun vs H Q _=>∃ (a b:Addr) (ps ns:Ag),vs=[.ref a, .ref b]/\H a=some (.tup (ps.map V.int))/\H b=some (.tup (ns.map V.int))/\(∀ p∈ps,0<=p/\p<ns.length)/\ps.length<=1000/\∀ r H',H' r=some (.tup ((ps.map (at_ ns)).map V.int))->Ext H H'->Q (.ref r) H'
def jTJ (T:Txt mg): { t:TS // JSs (XOf jJ1 "traced" jBG P w K mg Aq f ki A Ap s H0 E) (jE jBG) t} :=
 have nd:=scTraced.nd
 ⟨_,(jD (jP (jU jT gD T.tuple Ab (j3 (kI (m:=[none,some 1]) (Nc:=["place","numbers"]) rfl (qP (jv 0 rfl vL)) rfl Ab Ab (jQ (psc:=j8 jBG)) (jJ (N:=jJ1) rfl rfl Ab) (fun cl C fp s H=>jL (i:=0) (show (["place","numbers"]:Am).Nodup by decide+kernel) rfl yD) (fun cl C fp s H=>kR) (fun cl C fp s H=>(jH kG (jv 1 rfl kD) (jv 0 rfl jM) yU)) y8) j7 jN) jN)))⟩
theorem jNJ {fd:FuncData}(F:Fun K "traced" "traced" jBG f fd)(T:Txt mg):FnOk P w K mg Aq CX0 1 f fd ["places","numbers"] jAN:=by
 refine F.ok scTraced (fun vs H Q E h=>?_) (fun ki A Ap s H vs Q E hr h=>?_)
 ·obtain⟨_,_,_,_,rfl,_⟩:=h;rfl
 ·obtain⟨a,b,ps,ns,rfl,ha,hb,hp,hl,q⟩:=h;refine⟨_,(jTJ T).2.h,?_⟩;refine⟨_,rfl,a,rfl,⟨_,SqT.of ha⟩,jCV (xs:=ps.map V.int) (fun σ'=>∃ v,σ'=[v,some (.ref b)]) (mapZ (ps.map (at_ ns)) V.int) (mapZ.ok _ _) ha (by rw[ab,aw]; lia) ⟨_,rfl⟩ ?_ ?_⟩
  ·rintro j x σ' H' ys hx ⟨v,rfl⟩ e hy R S hR hS;obtain⟨z,hz,rfl⟩:=int_at hx;have hzb:=hp z (ay hz);dsimp only [kJ,yL];rw[ao rfl];refine⟨_,rfl,_,rfl,b,_,z, .int (at_ ns z),rfl,rfl,SqT.of (e _ _ hb),?_,hR _ _ _ ⟨_,rfl⟩ (Ext.refl _) (hy.yes (by rw[aL,hz]; rfl))⟩;have e2:((z.toNat:Nat):Int)=z:=Aa;have:=yQ (xs:=ns.map V.int) (j:=z.toNat) (v:=V.int (at_ ns z)) (by
    have hz':z.toNat<ns.length:=Aa;unfold at_;simp [List.getD,hz'])
   rw[e2] at this;exact this
  ·rintro D H' ys hD e nD hy;obtain rfl:=hy.all (by rw[ab,ab]; exact ak _);exact⟨D,_,rfl, .inl ⟨SqL.of hD,fun l hl=>q l _ j6 (e.new hl _)⟩⟩
abbrev jGB:Am:=["box","idle","things","rest","lone"]
theorem scStepOf:FnScope jGB ["box"] (j8 jB2):= {}
structure StAt (H:Hp)(r:Addr)(b:Bx)(x:St3):Prop where
 ex:∃ rb rt rp rk,H r=some (.tup [.ref rb, .ref rt, .ref rp, .ref rk])/\BxAt H rb (cut b x.1 x.2.1)/\H rt=some (.tup (x.1.map V.int))/\H rp=some (.tup (x.2.1.map V.int))/\H rk=some (.tup (x.2.2.map V.int))
def jBR (tb:Addr):Sp:=fun vs H Q _=>∃ (a:Addr) (b:Bx),vs=[.ref a]/\BxAt H a b/\GB b/\TabP H tb/\(stp b=none->∀ H',Ext H H'->Q .non H')/\∀ x,stp b=some x->∀ r H',StAt H' r b x->ExtT tb H H'->TabP H' tb->Q (.ref r) H'
def jTN (T:Txt mg)(CI:Can P w K mg Aq "least_idle" 3 fI fdI ["box"] jFZ)(CK:Can P w K mg Aq "picked" 2 fK fdK ["box","things","pieces"] (jBS tb))(CN:Can P w K mg Aq "forced_next" 2 fN fdN ["box","held"] jJY)(CB:Can P w K mg Aq "behind" 4 fB fdB ["box","some"] (jDW tb))(hr:Room 4 (XOf jGB "step_of" jB2 P w K mg Aq f ki A Ap s H0 E).A): { t:TS // JSs (XOf jGB "step_of" jB2 P w K mg Aq f ki A Ap s H0 E) (jE jB2) t} :=
 have nd:=scStepOf.nd
 ⟨_,(j9 (jR (i:=1) nd rfl qY (CI.je (hr.mono Ac) gD (j3 (jv 0 rfl vL) j7 j4) j4) jY)
   (j9 (yA (jO jG9 (jv 1 rfl vC) (qQ) (jV _)) (j9 (jR (i:=2) nd rfl lL (jU (jCB rfl) gD T.tuple Ab (j3 (jU jB7 gD T.range Ab (j3 (jH jI (jv 0 rfl vL) (je_int) jC) j7 jF) jF) j7 jG) jG) jY)
   (j9 (jR (i:=3) nd rfl lL (jU jT gD T.tuple Ab (j3 (kI (m:=[none,some 1]) (Nc:=["number","idle"]) rfl (jA7 gD T.range (j3 (jK jW gD T.len Ab (j3 (jH jI (jv 0 rfl vL) (je_int) jC) j7 jF) jF) j7 jG) jG) rfl Ab Ab (jQ (psc:=j8 jB2)) (jJ (N:=jGB) rfl rfl Ab) (fun cl C fp s H=>jL (i:=0) (show (["number","idle"]:Am).Nodup by decide+kernel) rfl yD) (fun cl C fp s H=>qD (jO op_ne (jv 0 rfl jM) (jv 1 rfl kD) (jV _))) (fun cl C fp s H=>(jv 0 rfl jM)) kS) j7 jN) jN) jY)
   (jD (jP (kP (j3 (CK.je (hr.mono Ac) gD (j3 (jv 0 rfl vL) (j3 (jv 2 rfl vL) (j3 (jv 3 rfl vL) j7 j4) j4) j4) j4) (j3 (jv 2 rfl vL) (j3 (jv 3 rfl vL) (j3 (kP j7) j7 qN) j4) j4) jG)))))) jZ)
   (j9 (jR (i:=4) nd rfl lL (CN.je (hr.mono Ac) gD (j3 (jv 0 rfl vL) (j3 (je_int) j7 kN) j4) j4) jY)
   (j9 (yA (jO jG9 (jv 4 rfl vL) (qQ) (jV _)) (jD (jP (kY jD6 (CB.je hr gD (j3 (jv 0 rfl vL) (j3 (kP (j3 (jH jI (jv 4 rfl vL) (je_int) jC) j7 jF)) j7 qN) j4) j4) (kP (j3 (kP (j3 (jH jI (jv 4 rfl vL) (je_int) jC) j7 jF)) j7 qN))))) jZ)
   (jD (jP (qQ)))))))⟩
theorem jNK {fd:FuncData}(F:Fun K "step_of" "step_of" jB2 f fd)(T:Txt mg)(CI:Can P w K mg Aq "least_idle" 3 fI fdI ["box"] jFZ)(CK:Can P w K mg Aq "picked" 2 fK fdK ["box","things","pieces"] (jBS tb))(CN:Can P w K mg Aq "forced_next" 2 fN fdN ["box","held"] jJY)(CB:Can P w K mg Aq "behind" 4 fB fdB ["box","some"] (jDW tb)):FnOk P w K mg Aq CX0 5 f fd ["box"] (jBR tb):=by
 refine F.ok scStepOf (fun vs H Q E h=>?_) (fun ki A Ap s H vs Q E hr h=>?_)
 ·obtain⟨_,_,rfl,_⟩:=h;rfl
 ·obtain⟨a,b,rfl,hB,g,tab,qn,qs⟩:=h;refine⟨_,(jTN T CI CK CN CB hr).2.h,?_⟩;obtain⟨qm,qp,ps,b1,b2,b3,b4⟩:=id hB.ex;have pl:=b4.len;have gpl:=g.pl;have w0:=g.w0;have w1:=g.w1;refine⟨_,rfl,a,b,rfl,hB,g,fun H1 e1=>?_⟩;refine⟨_,rfl,rfl,_,rfl,?_⟩;cases hi:lIdle b with
  | some k=>
   have hk:=jGN hi;have hs:stp b=some (upto b.1.toNat,butN b.2.2.length k,[]):=by unfold stp; rw[hi]
   refine iteT ?_;refine⟨_,rfl,a,_,0,_,rfl,rfl,SqT.of (e1 _ _ b1),rfl,b.1,rfl,fun x hx=>⟨x,0,b.1,rfl,j6,Ac,w0,Aa,fun t ht=>?_⟩⟩;rw[jC8];have e2:Ext H1 (L2.upd (L2.upd H1 x (.rng 0 b.1)) t (.tup ((upto b.1.toNat).map V.int))):=((Ext.refl _).new hx _).new ht _;have d2:(L2.upd (L2.upd H1 x (.rng 0 b.1)) t (.tup ((upto b.1.toNat).map V.int))) t=some (.tup ((upto b.1.toNat).map V.int)):=j6;generalize L2.upd (L2.upd H1 x (.rng 0 b.1)) t (.tup ((upto b.1.toNat).map V.int))=H2 at e2 d2;have E2:=e1.trans e2;refine⟨_,rfl,a,_,2,_,rfl,rfl,SqT.of (E2 _ _ b1),rfl,qp,_,rfl, .inr (SqT.of (E2 _ _ b3)),(ps.length:Int),rfl,Aa,Aa,jL6 (n:=ps.length) (fun σ'=>∃ v,σ'=[v,some (.int (k:Int))]) (outZ (upto b.2.2.length) (fun x=>!decide (x=(k:Int))) V.int) (outZ.ok _ _ _) (by rw[aw]; lia) ⟨_,rfl⟩ ?_ ?_⟩
   ·rintro j σ' H' zs hj ⟨v,rfl⟩ e hz R S hR hS;have e0:(0+(j:Int))=(j:Int):=Aa;rw[e0];dsimp only [kJ];refine⟨_,rfl,_,rfl,rfl,_,rfl,?_⟩;have ed:(!decide (V.int (j:Int)=V.int (k:Int)))=!decide ((j:Int)=(k:Int)):=by
     congr 1;exact decide_eq_decide.mpr ⟨fun h=>V.int.inj h,fun h=>by rw[h]⟩
    rw[ed];refine ite2 (fun h=>⟨_,rfl,hR _ _ _ ⟨_,rfl⟩ (Ext.refl _) (hz.yes (jAC Aa) h)⟩) (fun h=>hS _ _ ⟨_,rfl⟩ (Ext.refl _) (hz.no (jAC Aa) (by simpa using h)))
   ·rintro D H3 zs hD e3 nD hz;have hz:=hz.all (by rw[kU]; lia);subst hz;refine⟨D,_,rfl, .inl ⟨SqL.of hD,fun p hp=>?_⟩⟩;have e4:Ext H3 (L2.upd H3 p (.tup ((butN b.2.2.length k).map V.int))):=(Ext.refl _).new hp _;have d4:(L2.upd H3 p (.tup ((butN b.2.2.length k).map V.int))) p=some (.tup ((butN b.2.2.length k).map V.int)):=j6;show kJ 3 (.ref p) _ (L2.upd H3 p (.tup ((butN b.2.2.length k).map V.int))) _;generalize L2.upd H3 p (.tup ((butN b.2.2.length k).map V.int))=H4 at e4 d4;have E4:=(E2.trans e3).trans e4;have tab4:=tab.ext E4;have t4:=e4 _ _ (e3 _ _ d2);have bl:=(jH3 b.2.2.length k);have bln:=yT _ 0 b.2.2.length bl.ris bl.bnd;refine⟨_,rfl,_,rfl,_,rfl,a,t,p,true,true,b.1,b.2.1,b.2.2,upto b.1.toNat,butN b.2.2.length k,rfl,hB.mono E4.tups,t4,d4,jF8 _,by rw[kU]; lia,?_,pc_lt g,bl.bnd,Aa,tab4,fun r1 H5 B5 e5 t5=>?_⟩
    ·have:=jD9 g.mr.ris g.mr.bnd w1;lia
    refine⟨_,rfl,_,rfl,by show (0:Nat)<=_; decide,fun r2 H6 d6 e6=>?_⟩;refine⟨by show (4:Nat)<=_; decide,fun r3 H7 d7 e7=>?_⟩;have e67:=e6.trans e7;exact qs _ hs r3 H7 ⟨r1,t,p,r2,d7,B5.mono e67.tups,e67 _ _ (e5.at tab4 t4),e67 _ _ (e5.at tab4 d4),e7 _ _ d6⟩ (((ExtT.of E4).trans e5).trans (ExtT.of e67)) (t5.ext e67)
  | none=>
   refine iteF ?_;have dn0:Done 0 []:=⟨fun n=>by rw[cr]; rfl,fun t ht=>by cases ht⟩;refine⟨_,rfl,a,b.1,b.2.1,b.2.2,0,[],rfl,hB.mono e1.tups,g,dn0,fun hn H2 e2=>?_,fun t k hk r H2 d2 e2=>?_⟩
   ·refine⟨_,rfl,rfl,_,rfl,iteF ?_⟩;exact qn (by unfold stp; rw[hi]; show (match nxt b.1.toNat b.2.1 b.2.2 [] with | some p=>some (lone b p.2) | none=>none)=none; rw[hn]) H2 (e1.trans e2)
   ·have hs:stp b=some (lone b k):=by unfold stp; rw[hi]; show (match nxt b.1.toNat b.2.1 b.2.2 [] with | some p=>some (lone b p.2) | none=>none)=_; rw[hk]
    obtain⟨h1,h2,h3,h4,h5⟩:=jNS hk;have E2:=e1.trans e2;have gk:=g.at (k:=k.toNat) Aa;refine⟨_,rfl,rfl,_,rfl,iteT ?_⟩;refine⟨_,rfl,_,rfl,r,_,1,_,rfl,rfl,SqT.of d2,rfl,by show (1:Nat)<=_; decide,fun r2 H3 d3 e3=>?_⟩;have E3:=E2.trans e3;have tab3:=tab.ext E3;have fm: [k].flatMap (j5 b.2.2)=j5 b.2.2 k:=by rw[gt,List.flatMap_nil,ba]
    refine⟨a,r2,b.1,b.2.1,b.2.2,[k],rfl,hB.mono E3.tups,g,d3,⟨ev _ _,fun z hz=>by rw[aI.mp hz]; exact⟨h3,h4⟩⟩,?_,tab3,fun r3 H4 R4 e4 t4=>?_⟩
    ·rw[fm];exact gk.lot.ris.imp fun h=>by lia
    rw[fm] at R4;obtain⟨rb,rt,rp,c1,c2,c3,c4⟩:=R4.ex;refine⟨_,rfl,r,_,1,_,rfl,rfl,SqT.of (e4.at tab3 (e3 _ _ d2)),rfl,by show (1:Nat)<=_; decide,fun r4 H5 d5 e5=>?_⟩;refine⟨by show (1:Nat)<=_; decide,fun r5 H6 d6 e6=>?_⟩;have e56:=e5.trans e6;refine⟨r3,r5,_,_,rfl,rfl,e56 _ _ c1,d6,by show (4:Nat)<=_; decide,fun r6 H7 d7 e7=>?_⟩;have e57:=e56.trans e7;exact qs _ hs r6 H7 ⟨rb,rt,rp,r4,d7,c2.mono e57.tups,e57 _ _ c3,e57 _ _ c4,(e6.trans e7) _ _ d5⟩ (((ExtT.of E3).trans e4).trans (ExtT.of e57)) (t4.ext e57)
end
theorem Tups.ofT {tb:Addr}{H H':Hp}(e:ExtT tb H H')(t:TabP H tb):Tups H H':=fun b xs h=>e.at t h
structure S4At (H:Hp)(r:Addr)(S:S4):Prop where
 ex:∃ rb rt rp rk,H r=some (.tup [.ref rb, .ref rt, .ref rp, .ref rk])/\BxAt H rb S.1/\H rt=some (.tup (S.2.1.map V.int))/\H rp=some (.tup (S.2.2.1.map V.int))/\H rk=some (.tup (S.2.2.2.map V.int))
theorem S4At.mono {H H':Hp}{r:Addr}{S:S4}(h:S4At H r S)(t:Tups H H'):S4At H' r S:=by
 obtain⟨rb,rt,rp,rk,h1,h2,h3,h4,h5⟩:=h.ex;exact⟨rb,rt,rp,rk,t _ _ h1,h2.mono t,t _ _ h3,t _ _ h4,t _ _ h5⟩
def OSt (H:Hp)(v:V)(b:Bx):Prop:=match stp b with
 | none=>v= .non
 | some x=>∃ r,v= .ref r/\StAt H r b x
abbrev jD7:Am:=["box","told","step","taken"]
theorem scTurned:FnScope jD7 ["box"] (j8 qA):= {}
def yM (tb:Addr):Sp:=fun vs H Q _=>∃ (a:Addr) (b:Bx),vs=[.ref a]/\BxAt H a b/\GB b/\TabP H tb/\∀ r H',S4At H' r (endS b)->ExtT tb H H'->TabP H' tb->Q (.ref r) H'
def jMI (T:Txt mg)(CS:Can P w K mg Aq "step_of" 5 fS fdS ["box"] (jBR tb))(CT:Can P w K mg Aq "traced" 1 fT fdT ["places","numbers"] jAN)(hr:Room 5 (XOf jD7 "turned_smaller" qA P w K mg Aq f ki A Ap s H0 E).A): { t:TS // JSs (XOf jD7 "turned_smaller" qA P w K mg Aq f ki A Ap s H0 E) ((jE qA).drop 2) t} :=
 have nd:=scTurned.nd
 ⟨_,(j9 (jKT bX (jO jG9 (jv 2 rfl vL) (qQ) (jV _)) (j9 (jR (i:=3) nd rfl lL (jU jT gD T.tuple Ab (j3 (jK jAR gD T.sorted Ab (j3 (kY jD6 (jH jI (jv 1 rfl vL) (je_int) jC) (CT.je (hr.mono Ac) gD (j3 (jH jI (jv 2 rfl vL) (je_int) jC) (j3 (jH jI (jv 1 rfl vL) (je_int) jC) j7 jF) jF) jF)) j7 yP) yP) j7 jG) jG) jY)
   (j9 (jR (i:=1) nd rfl lL (kP (j3 (jH jI (jv 2 rfl vL) (je_int) jC) (j3 (CT.je (hr.mono Ac) gD (j3 (jH jI (jv 2 rfl vL) (je_int) jC) (j3 (jH jI (jv 1 rfl vL) (je_int) jC) j7 jF) jF) jF) (j3 (CT.je (hr.mono Ac) gD (j3 (jH jI (jv 2 rfl vL) (je_int) jC) (j3 (jH jI (jv 1 rfl vL) (je_int) jC) j7 jF) jF) jF) (j3 (jv 3 rfl vL) j7 j4) jG) jG) jF)) jJT)
   (jD (jR (i:=2) nd rfl lL (CS.je hr gD (j3 (jH jI (jv 1 rfl vL) (je_int) jC) j7 jF) jF) jY)))))
   (jD (jP (jv 1 rfl vL))))⟩
def jTI (T:Txt mg)(CS:Can P w K mg Aq "step_of" 5 fS fdS ["box"] (jBR tb))(CT:Can P w K mg Aq "traced" 1 fT fdT ["places","numbers"] jAN)(hr:Room 5 (XOf jD7 "turned_smaller" qA P w K mg Aq f ki A Ap s H0 E).A): { t:TS // JSs (XOf jD7 "turned_smaller" qA P w K mg Aq f ki A Ap s H0 E) (jE qA) t} :=
 have nd:=scTurned.nd
 ⟨_,(j9 (jR (i:=1) nd rfl lL (kP (j3 (jv 0 rfl vL) (j3 (jU (jCB rfl) gD T.tuple Ab (j3 (jU jB7 gD T.range Ab (j3 (jH jI (jv 0 rfl vL) (je_int) jC) j7 jF) jF) j7 jG) jG) (j3 (jU (jCB rfl) gD T.tuple Ab (j3 (jU jB7 gD T.range Ab (j3 (jK jW gD T.len Ab (j3 (jH jI (jv 0 rfl vL) (je_int) jC) j7 jF) jF) j7 jG) jG) j7 jG) jG) (j3 (kP j7) j7 qN) jG) jG) j4)) jJT) (j9 (jR (i:=2) nd rfl lL (CS.je hr gD (j3 (jv 0 rfl vL) j7 j4) j4) jY) (jMI T CS CT hr).2))⟩
theorem jDG (T:Txt mg)(CS:Can P w K mg Aq "step_of" 5 fS fdS ["box"] (jBR tb))(CT:Can P w K mg Aq "traced" 1 fT fdT ["places","numbers"] jAN)(hr:Room 5 (XOf jD7 "turned_smaller" qA P w K mg Aq f ki A Ap s H0 E).A)
  {D:Ends}{H:Hp}{a r:Addr}{b:Bx}{v:V}{v3:Option V}(g:GB b) (h:S4At H r (begS b)) (hv:OSt H v b) (tab:TabP H tb)
  (k:∀ r H',S4At H' r (endS b)->ExtT tb H H'->TabP H' tb->D.rt (.ref r) H'):
  (jMI T CS CT hr).1 D [some (.ref a),some (.ref r),some v,v3] H:=by
 refine⟨fun m σ H'=>∃ (r:Addr) (S:S4) (v:V) (v3:Option V),σ=[some (.ref a),some (.ref r),some v,v3]/\S4At H' r S/\SOk S/\OSt H' v S.1/\runS m S=endS b/\S.1.2.2.length<m/\ExtT tb H H'/\TabP H' tb,⟨b.2.2.length+1,r,begS b,v,v3,rfl,h,jJN g,hv,rfl,d0 _,ExtT.refl _,tab⟩,?_⟩;rintro m σ H1 ⟨r,S,v,v3,rfl,h1,so,hv,hrun,hm,e1,t1⟩;obtain⟨m',rfl⟩:∃ m',m=m'+1:=⟨m - 1,Aa⟩;refine⟨_,rfl,rfl,_,rfl,?_⟩;unfold OSt at hv;cases hx:stp S.1 with
 | none=>
  rw[hx] at hv;subst hv;refine iteF ⟨_,rfl,k r H1 ?_ e1 t1⟩;rw[<- hrun];unfold runS;rw[hx];exact h1
 | some x=>
  rw[hx] at hv;obtain⟨r2,rfl,hs⟩:=hv;have o:=jJW so.g hx;have gpl:=so.g.pl;have w1:=so.g.w1;have so2:=jPZ so hx;obtain⟨sb,st,sp,sk,c1,c2,c3,c4,c5⟩:=hs.ex;obtain⟨rb,rt,rp,rk,d1,d2,d3,d4,d5⟩:=h1.ex;refine iteT ⟨fun σ' H'=>∃ (r:Addr) (S:S4) (v:V) (v3:Option V),σ'=[some (.ref a),some (.ref r),some v,v3]/\S4At H' r S/\SOk S/\OSt H' v S.1/\runS m' S=endS b/\S.1.2.2.length<m'/\ExtT tb H H'/\TabP H' tb,fun σ' H' q=>⟨m',d0 _,q⟩,?_⟩;have tl:=jD9 o.t.ris o.t.bnd w1;have al:=yT _ 0 _ o.a.ris o.a.bnd;have kl:=so.k;have ok1:=o.k;refine⟨_,rfl,r,_,3,_,rfl,rfl,SqT.of d1,rfl,_,rfl,r2,_,3,_,rfl,rfl,SqT.of c1,rfl,_,rfl,r,_,2,_,rfl,rfl,SqT.of d1,rfl,sk,rp,x.2.2,S.2.2.1,rfl,c5,d4,fun p hp=>by rw[so.p]; exact o.kb p hp,Aa,fun q1 H2 f2 e2=>?_⟩;refine⟨rk,q1,_,_,rfl,rfl,e2 _ _ d5,f2,by rw[ab,ab,ab,aw]; lia,fun q2 H3 f3 e3=>?_⟩;rw[<- aK] at f3;refine⟨q2,S.2.2.2++x.2.2.map (at_ S.2.2.1),rfl,f3,by rw[aF,ab]; lia,fun l ns hl hs1 hp1=>?_⟩;refine⟨l,_,rfl, .inl ⟨SqL.of j6,fun q3 hq3=>?_⟩⟩;rw[jC1 hs1 hp1];have e4:Ext H3 (L2.upd (L2.upd H3 l (.lst ((srt (S.2.2.2++x.2.2.map (at_ S.2.2.1))).map V.int))) q3 (.tup ((srt (S.2.2.2++x.2.2.map (at_ S.2.2.1))).map V.int))):=by
   rw[jC1 hs1 hp1] at hq3;exact((Ext.refl _).new hl _).new hq3 _
  have f4:(L2.upd (L2.upd H3 l (.lst ((srt (S.2.2.2++x.2.2.map (at_ S.2.2.1))).map V.int))) q3 (.tup ((srt (S.2.2.2++x.2.2.map (at_ S.2.2.1))).map V.int))) q3=some (.tup ((srt (S.2.2.2++x.2.2.map (at_ S.2.2.1))).map V.int)):=j6;generalize L2.upd (L2.upd H3 l (.lst ((srt (S.2.2.2++x.2.2.map (at_ S.2.2.1))).map V.int))) q3 (.tup ((srt (S.2.2.2++x.2.2.map (at_ S.2.2.1))).map V.int))=H4 at e4 f4;have E4:=(e2.trans e3).trans e4;have tS:∀ p∈x.1,0<=p/\p<(S.2.1.length:Int):=fun p hp=>by
   have:=o.t.bnd p hp;have:=so.t;lia
  refine⟨_,rfl,r2,_,0,_,rfl,rfl,SqT.of (E4 _ _ c1),rfl,_,rfl,r2,_,1,_,rfl,rfl,SqT.of (E4 _ _ c1),rfl,_,rfl,r,_,1,_,rfl,rfl,SqT.of (E4 _ _ d1),rfl,st,rt,x.1,S.2.1,rfl,E4 _ _ c3,E4 _ _ d3,tS,Aa,fun q4 H5 f5 e5=>?_⟩;have E5:=E4.trans e5;refine⟨_,rfl,r2,_,2,_,rfl,rfl,SqT.of (E5 _ _ c1),rfl,_,rfl,r,_,2,_,rfl,rfl,SqT.of (E5 _ _ d1),rfl,sp,rp,x.2.1,S.2.2.1,rfl,E5 _ _ c4,E5 _ _ d4,fun p hp=>by rw[so.p]; exact o.a.bnd p hp,Aa,fun q5 H6 f6 e6=>?_⟩;refine⟨_,rfl,by show (4:Nat)<=_; decide,fun r3 H7 f7 e7=>?_⟩;have e57:=e6.trans e7;have e47:=e5.trans e57;have E7:=E4.trans e47;have A7:S4At H7 r3 (adv S x):=⟨sb,q4,q5,q3,f7,c2.mono E7.tups,e57 _ _ f5,e7 _ _ f6,e47 _ _ f4⟩;have t7:=t1.ext E7;have B7:BxAt H7 sb (adv S x).1:=c2.mono E7.tups;have lt:=jY1 so hx;have hrun':runS m' (adv S x)=endS b:=by
   rw[<- hrun]
   conv=>rhs; unfold runS
   rw[hx]
  have X7:ExtT tb H H7:=e1.trans (ExtT.of E7);refine⟨_,rfl,r3,_,0,_,rfl,rfl,SqT.of f7,rfl,sb,(adv S x).1,rfl,B7,so2.g,t7,fun hn H8 e8=>?_,fun y hy r4 H8 R8 e8 t8=>?_⟩
  ·exact⟨r3,adv S x, .non,_,rfl,A7.mono e8.tups,so2,by unfold OSt; rw[hn],hrun',Aa,X7.trans (ExtT.of e8),t7.ext e8⟩
  ·exact⟨r3,adv S x, .ref r4,_,rfl,A7.mono (Tups.ofT e8 t7),so2,by unfold OSt; rw[hy]; exact⟨r4,rfl,R8⟩,hrun',Aa,X7.trans e8,t8⟩
theorem jNI {fd:FuncData}(F:Fun K "turned_smaller" "turned_smaller" qA f fd)(T:Txt mg)(CS:Can P w K mg Aq "step_of" 5 fS fdS ["box"] (jBR tb))(CT:Can P w K mg Aq "traced" 1 fT fdT ["places","numbers"] jAN):FnOk P w K mg Aq CX0 6 f fd ["box"] (yM tb):=by
 refine F.ok scTurned (fun vs H Q E h=>?_) (fun ki A Ap s H vs Q E hr h=>?_)
 ·obtain⟨_,_,rfl,_⟩:=h;rfl
 ·obtain⟨a,b,rfl,hB,g,tab,q⟩:=h;refine⟨_,(jTI T CS CT hr).2.h,?_⟩;obtain⟨qm,qp,ps,b1,b2,b3,b4⟩:=id hB.ex;have pl:=b4.len;have gpl:=g.pl;have w0:=g.w0;have w1:=g.w1;refine⟨_,rfl,_,rfl,a,_,0,_,rfl,rfl,SqT.of b1,rfl,b.1,rfl,fun x hx=>⟨x,0,b.1,rfl,j6,Ac,w0,Aa,fun t ht=>?_⟩⟩;rw[jC8];have e2:Ext H (L2.upd (L2.upd H x (.rng 0 b.1)) t (.tup ((upto b.1.toNat).map V.int))):=((Ext.refl _).new hx _).new ht _;have d2:(L2.upd (L2.upd H x (.rng 0 b.1)) t (.tup ((upto b.1.toNat).map V.int))) t=some (.tup ((upto b.1.toNat).map V.int)):=j6;generalize L2.upd (L2.upd H x (.rng 0 b.1)) t (.tup ((upto b.1.toNat).map V.int))=H2 at e2 d2;refine⟨_,rfl,a,_,2,_,rfl,rfl,SqT.of (e2 _ _ b1),rfl,qp,_,rfl, .inr (SqT.of (e2 _ _ b3)),(ps.length:Int),rfl,fun x hx=>⟨x,0,(ps.length:Int),rfl,j6,Ac,Aa,Aa,fun p hp=>?_⟩⟩;rw[jC8,bE,pl];have e3:Ext H2 (L2.upd (L2.upd H2 x (.rng 0 (b.2.2.length:Int))) p (.tup ((upto b.2.2.length).map V.int))):=by
   rw[pl] at hp;exact((Ext.refl _).new hx _).new hp _
  have d3:(L2.upd (L2.upd H2 x (.rng 0 (b.2.2.length:Int))) p (.tup ((upto b.2.2.length).map V.int))) p=some (.tup ((upto b.2.2.length).map V.int)):=j6;generalize L2.upd (L2.upd H2 x (.rng 0 (b.2.2.length:Int))) p (.tup ((upto b.2.2.length).map V.int))=H3 at e3 d3;refine⟨by show (0:Nat)<=_; decide,fun k H4 d4 e4=>?_⟩;refine⟨by show (4:Nat)<=_; decide,fun r H5 d5 e5=>?_⟩;have e35:=e4.trans e5;have E5:Ext H H5:=(e2.trans e3).trans e35;have A5:S4At H5 r (begS b):=⟨a,t,p,k,d5,hB.mono E5.tups,e35 _ _ (e3 _ _ d2),e35 _ _ d3,e5 _ _ d4⟩;have t5:=tab.ext E5;refine⟨_,rfl,a,b,rfl,hB.mono E5.tups,g,t5,fun hn H6 e6=>?_,fun y hy r4 H6 R6 e6 t6=>?_⟩
  ·exact jDG T CS CT hr g (A5.mono e6.tups) (by unfold OSt; rw[hn]) (t5.ext e6) fun r7 H7 a7 e7 t7=>q r7 H7 a7 ((ExtT.of (E5.trans e6)).trans e7) t7
  ·exact jDG T CS CT hr g (A5.mono (Tups.ofT e6 t5)) (by unfold OSt; rw[hy]; exact⟨r4,rfl,R6⟩) t6 fun r7 H7 a7 e7 t7=>q r7 H7 a7 (((ExtT.of E5).trans e6).trans e7) t7
end Eo
namespace L2
open PySem
theorem jOM {X:Cx}{a b c:Expr}{pos:Pos}{ta tb:TE}{tc:TT}(hc:JT X c tc)(ha:JE X a ta)(hb:JE X b tb):JE X (.IfExp c a b pos) (tIf tc ta tb):=⟨jQO hc.h ha.h hb.h⟩
theorem jW7 {a b c:Expr}{pos:Pos}{es:List Expr}{env:Env} :starEach (.IfExp c a b pos::es) env=(false,eval (.IfExp c a b pos) env)::starEach es env:=rfl
end L2
namespace Eo
open PySem L2
def PrAt (H:Hp)(v:V)(c:Int×Nat):Prop:=∃ q,v= .ref q/\H q=some (.tup [.int c.1, .int ((c.2:Nat):Int)])
theorem PrAt.mono {H H':Hp}(t:Tups H H'){v:V}{c:Int×Nat}(h:PrAt H v c):PrAt H' v c:=let ⟨q,e,z⟩:=h; ⟨q,e,t _ _ z⟩
def RowAt (H:Hp)(l:Addr)(cs:List (Int×Nat)):Prop:=∃ vs,H l=some (.lst vs)/\All2 (PrAt H) vs cs
structure ChAt (H:Hp)(L:Addr)(ch:Ch):Prop where
 ex:∃ ls:List Addr,H L=some (.lst (ls.map V.ref))/\ls.Nodup/\All2 (RowAt H) ls ch
theorem RowAt.keep {H H':Hp}{l:Addr}{cs:List (Int×Nat)}(h:RowAt H l cs)(k:∀ xs,H l=some (.lst xs)->H' l=some (.lst xs))(t:Tups H H'):RowAt H' l cs:=let ⟨vs,a,b⟩:=h; ⟨vs,k _ a,b.imp fun _ _=>PrAt.mono t⟩
theorem ChAt.keep {H H':Hp}{L:Addr}{ch:Ch}(h:ChAt H L ch)(k:∀ b xs,H b=some (.lst xs)->H' b=some (.lst xs))(t:Tups H H'):ChAt H' L ch:=by
 obtain⟨ls,a,b,c⟩:=h.ex;exact⟨ls,k _ _ a,b,c.imp fun l cs r=>r.keep (k l) t⟩
theorem ChAt.ext {H H':Hp}{L:Addr}{ch:Ch}(h:ChAt H L ch)(e:Ext H H'):ChAt H' L ch:=h.keep (fun b xs z=>e _ _ z) e.tups
theorem ChAt.len {H:Hp}{L:Addr}{ch:Ch}(h:ChAt H L ch):∃ ls:List Addr,H L=some (.lst (ls.map V.ref))/\ls.length=ch.length:=by
 obtain⟨ls,a,b,c⟩:=h.ex;exact⟨ls,a,c.len⟩
def yI (ms:Ag)(Ar:Ae)(n t:Nat):List (Int×Nat):=
 (if (t:Int)∈ms then [(-1,2 ^ t)] else [])++(((upto Ar.length).take n).filter fun k=>decide ((j5 Ar k).headD 0=(t:Int))).map fun k=>(k,maskN (j5 Ar k))
def chsN (w:Nat)(ms:Ag)(Ar:Ae)(n:Nat):Ch:=(List.range w).map (yI ms Ar n)
def chs (w:Nat)(ms:Ag)(Ar:Ae):Ch:=chsN w ms Ar Ar.length
theorem kZ (w:Nat)(ms:Ag)(Ar:Ae)(n:Nat):(chsN w ms Ar n).length=w:=by
 unfold chsN;rw[ab,cz]
theorem yO {w:Nat}{ms:Ag}{Ar:Ae}{n t:Nat}(h:t<w):(chsN w ms Ar n)[t]?=some (yI ms Ar n t):=by
 unfold chsN;rw[aL,dY h];rfl
theorem jHU {ts:Ag}{t:Nat}(hp:ts.Pairwise (· < ·))(h0:∀ x∈ts,0<=x)(h:(t:Int)∈ts):(maskN ts).testBit t=true:=by
 rw[jA6 ts t hp h0,aq h]
theorem jEI {ts:Ag}{w:Nat}(hp:ts.Pairwise (· < ·))(h0:∀ x∈ts,0<=x/\x<(w:Int)):maskN ts<2 ^ w:=by
 refine Nat.lt_pow_two_of_testBit _ fun i hi=>?_;rw[jA6 ts i hp fun x hx=>(h0 x hx).1,aJ];intro z;have:=(h0 _ z).2;lia
theorem jGR {l:Ag}(h:l≠ []):l.headD 0∈l:=by
 cases l with
 | nil=>exact absurd rfl h
 | cons a r=>exact az ..
theorem qR {w:Int}{ms:Ag}{Ar:Ae}{n:Nat}(g:Good 16 32 w ms Ar):ChOk (chsN w.toNat ms Ar n):=by
 have w0:=g.w0;have w1:=g.w1;have gpl:=g.pl;refine⟨by rw[kZ]; lia,fun t cs h=>?_,fun t cs h c hc=>?_⟩
 ·have ht:t<w.toNat:=by
   have:=(ai.mp h).1
   rwa [kZ] at this
  rw[yO ht] at h;cases h;unfold yI;rw[aF,ab];have:=bb (fun k=>decide ((j5 Ar k).headD 0=(t:Int))) ((upto Ar.length).take n);have:=br n (upto Ar.length);have:=kU Ar.length;have:((upto Ar.length).take n).length<=(upto Ar.length).length:=by rw[bB]; lia
  split <;> simp only [aP,cH] <;> lia
 ·have ht:t<w.toNat:=by
   have:=(ai.mp h).1
   rwa [kZ] at this
  rw[yO ht] at h;cases h;unfold yI at hc;rw[kZ];rcases aN.mp hc with hc | hc
  ·split at hc
   ·rw[aI] at hc;subst hc;exact⟨by simp [cK],gH Ac ht,by show (-1:Int)<= -1; decide,by show (-1:Int)<32; decide⟩
   ·cases hc
  ·obtain⟨k,hk,rfl⟩:=aQ.mp hc;obtain⟨hk1,hk2⟩:=aS.mp hk;have kb:=(kT Ar.length).bnd k (bI hk1);have gp:=g.at (k:=k.toNat) Aa;have hk2:=aE hk2;have hne:j5 Ar k≠ []:=gp.lot.ne;have hm:(t:Int)∈j5 Ar k:=by
    rw[<- hk2];exact jGR hne
   exact⟨jHU gp.lot.ris (fun x hx=>(gp.lot.bnd x hx).1) hm,jEI gp.lot.ris fun x hx=>⟨(gp.lot.bnd x hx).1,by have:=(gp.lot.bnd x hx).2; lia⟩,Aa,Aa⟩
abbrev jBT:Am:=["box","choices","number","piece"]
theorem scChoices:FnScope jBT ["box"] (j8 yN):= {}
def jAY:Sp:=fun vs H Q _=>∃ (b:Addr) (w:Int) (ms:Ag) (Ar:Ae),vs=[.ref b]/\BoxAt H b w ms Ar/\Good 16 32 w ms Ar/\∀ r H',ChAt H' r (chs w.toNat ms Ar)->Ext H H'->Q (.ref r) H'
def jVR (T:Txt mg)(CM:Can P w K mg Aq "mask_of" 1 fM fdM ["lot"] jE6)(hr:Room 1 (XOf jBT "choices_of" yN P w K mg Aq f ki A Ap s H0 E).A): { t:TS // JSs (XOf jBT "choices_of" yN P w K mg Aq f ki A Ap s H0 E) (jEM ((jE yN).getD 1 (.Pass ⟨0,0,0,0⟩))) t} :=
 have nd:=scChoices.nd
 ⟨_,(jD (jEP (je_bm ce iB iC jCM (jH jBL (jv 1 rfl vL) (jH jI (jH jI (jv 3 rfl vL) (je_int) jC) (je_int) jC) jWA) (j3 (kP (j3 (jv 2 rfl vL) (j3 (CM.je hr gD (j3 (jH jI (jv 3 rfl vL) (je_int) jC) j7 jF) jF) j7 jG) j4)) j7 qN) qN) jY))⟩
def jSA (T:Txt mg)(CM:Can P w K mg Aq "mask_of" 1 fM fdM ["lot"] jE6)(hr:Room 1 (XOf jBT "choices_of" yN P w K mg Aq f ki A Ap s H0 E).A): { t:TS // JSs (XOf jBT "choices_of" yN P w K mg Aq f ki A Ap s H0 E) (jE yN) t} :=
 have nd:=scChoices.nd
 ⟨_,(j9 (jDB (i:=1) nd rfl lL ⟨by rfl⟩ (m:=[none,some 0]) (Nc:=["thing","box"]) rfl (jA7 gD T.range (j3 (jH jI (jv 0 rfl vC) (je_int) jC) j7 jF) jF) rfl Ab Ab (jQ (psc:=j8 yN)) (jJ (N:=jBT) rfl rfl Ab) (fun cl C fp s H=>jL (i:=0) (show (["thing","box"]:Am).Nodup by decide+kernel) rfl yD) (fun cl C fp s H=>kR) (fun cl C fp s H=>(jOM (jO jD5 (jv 0 rfl jM) (jH kG (jv 1 rfl kD) (je_int) jC) jHQ) (jBK (j3 (kP (j3 (je_un jSH (je_int)) (j3 (kY jKC (je_int) (jv 0 rfl jM)) j7 yP) se_un)) j7 qN)) (jBK j7))) kS) (j9 (x6 bX rfl (jEQ gD T.enumerate (j3 (jH jI (jv 0 rfl vC) (je_int) jC) j7 jF) jF) (jKV (i:=2) (j:=3) nd rfl rfl Ab Ab) (jVR T CM hr).2 kS) (jD (jP (jv 1 rfl vL)))))⟩
abbrev nFull:Am:=["choices"]
theorem scFull:FnScope nFull ["choices"] (j8 sFull):= {}
def jFD:Sp:=fun vs H Q _=>∃ (L:Addr) (ch:Ch),vs=[.ref L]/\ChAt H L ch/\ch.length<=16/\Q (.int ((fullN ch:Nat):Int)) H
def fullA (T:Txt mg): { t:TS // JSs (XOf nFull "full_mask" sFull P w K mg Aq f ki A Ap s H0 E) (jE sFull) t} :=
 have nd:=scFull.nd
 ⟨_,(jD (jP (kY jEB (kY jKC (je_int) (jK jW gD T.len Ab (j3 (jv 0 rfl vL) j7 j4) j4)) (je_int))))⟩
abbrev nAt:Am:=["choices","mask","least_lacked"]
theorem scAt:FnScope nAt ["choices","mask"] (j8 sAt):= {}
def spAt:Sp:=fun vs H Q _=>∃ (L:Addr) (ch:Ch) (m:Nat),vs=[.ref L, .int (m:Int)]/\ChAt H L ch/\ChOk ch/\m<2 ^ ch.length/\m≠fullN ch/\∀ r H',RowAt H' r (chAt ch m)->Ext H H'->H r=none->Q (.ref r) H'
def atA (T:Txt mg): { t:TS // JSs (XOf nAt "choices_at" sAt P w K mg Aq f ki A Ap s H0 E) (jE sAt) t} :=
 have nd:=scAt.nd
 ⟨_,(j9 (jR (i:=2) nd rfl lL (kY jEB (jT2 PySem.F.plainAttrs_int PySem.F.slot_int_bit_length PySem.F.type_int_bit_length jUY (kY jKE (je_un jW0 (jv 1 rfl vC)) (kY yF (jv 1 rfl vC) (je_int)))) (je_int)) jJV)
   (jD (jP (kI (m:=[none,some 1]) (Nc:=["choice","mask"]) rfl (y6 (jH jBL (jv 0 rfl vL) (jv 2 rfl vL) yU)) rfl Ab Ab (jQ (psc:=j8 sAt)) (jJ (N:=nAt) rfl rfl Ab) (fun cl C fp s H=>jL (i:=0) (show (["choice","mask"]:Am).Nodup by decide+kernel) rfl yD) (fun cl C fp s H=>qD (jO qX (kY jKE (jH kG (jv 0 rfl jM) (je_int) jC) (jv 1 rfl kD)) (je_int) (jV _))) (fun cl C fp s H=>(jv 0 rfl jM)) jP5))))⟩
theorem jDF (ms:Ag)(Ar:Ae)(t:Nat):yI ms Ar 0 t=if (t:Int)∈ms then [(-1,2 ^ t)] else []:=by
 unfold yI;rw[hG];simp
theorem jPK {w n:Nat}{ms:Ag}{Ar:Ae}(hn:n<Ar.length)(t:Nat)(ht:(j5 Ar (n:Int)).headD 0=(t:Int)):chsN w ms Ar (n+1)=(chsN w ms Ar n).set t (yI ms Ar n t++[((n:Int),maskN (j5 Ar n))]):=by
 have key:∀ u,yI ms Ar (n+1) u=yI ms Ar n u++if u=t then [((n:Int),maskN (j5 Ar n))] else []:=fun u=>by
  unfold yI;rw[jCF hn,bw,aK,aY];congr 2;rw[b9,ht];by_cases hu:u=t
  ·subst hu;rw[ao (aq rfl),ao rfl];rfl
  ·rw[am (by rw[aW]; lia),am hu];rfl
 refine List.ext_getElem? fun i=>?_;rw[List.getElem?_set,kZ];by_cases hi:i<w
 ·rw[yO hi,yO hi,key];by_cases h:t=i
  ·subst h;rw[ao rfl,ao rfl,ao hi]
  ·rw[am h,am (fun z=>h z.symm),ba]
 ·rw[de (by rw[kZ]; lia),de (by rw[kZ]; lia)];split
  ·rw[am Aa]
  ·rfl
theorem ChAt.app {H:Hp}{L:Addr}{ch:Ch}{t:Nat}{l:Addr}{ls:List Addr}{vs:List V}{cs:List (Int×Nat)}{v:V}{c:Int×Nat}(hL:H L=some (.lst (ls.map V.ref)))(nd:ls.Nodup)(al:All2 (RowAt H) ls ch)(hl:ls[t]?=some l)(hc:ch[t]?=some cs)(hv:H l=some (.lst vs))(av:All2 (PrAt H) vs cs)(pv:PrAt H v c)(ne:l≠L):
  (L2.upd H l (.lst (vs++[v]))) L=some (.lst (ls.map V.ref))/\All2 (RowAt (L2.upd H l (.lst (vs++[v])))) ls (ch.set t (cs++[c])):=by
 have tu:Tups H (L2.upd H l (.lst (vs++[v]))):=Tups.upd hv _;refine⟨by rw[jA ne.symm]; exact hL,?_⟩;refine All2.of_get (by rw[List.length_set]; exact al.len) fun i a b h1 h2=>?_;rw[List.getElem?_set] at h2;by_cases hi:t=i
 ·subst hi;rw[ao rfl,ao (ai.mp hc).1] at h2;cases h2;rw[hl] at h1;cases h1;exact⟨_,j6,(av.imp fun _ _=>PrAt.mono tu).snoc (pv.mono tu)⟩
 ·rw[am hi] at h2;obtain⟨b',hb',r⟩:=al.get' h1;rw[h2] at hb';cases hb';refine r.keep (fun xs hx=>?_) tu;rw[jA fun z=>hi ?_]
  ·exact hx
  ·exact(io (ai.mp hl).1 nd).mp (by rw[hl,h1,z])
theorem jLP {fd:FuncData}(F:Fun K "choices_of" "choices_of" yN f fd)(T:Txt mg)(CM:Can P w K mg Aq "mask_of" 1 fM fdM ["lot"] jE6):FnOk P w K mg Aq CX0 2 f fd ["box"] jAY:=by
 refine F.ok scChoices (fun vs H Q E h=>?_) (fun ki A Ap s H vs Q E hr h=>?_)
 ·obtain⟨_,_,_,_,rfl,_⟩:=h;rfl
 ·obtain⟨b,w,ms,Ar,rfl,hB,g,q⟩:=h;refine⟨_,(jSA T CM hr).2.h,?_⟩;obtain⟨qm,qp,ps,b1,b2,b3,b4⟩:=id hB.ex;have pl:=b4.len;have w0:=g.w0;have w1:=g.w1;have gpl:=g.pl;refine⟨_,rfl,b,_,0,_,rfl,rfl,SqT.of b1,rfl,w,rfl,Aa,Aa,jAP (n:=w.toNat) (by rw[aw]; lia) (fun D i σ' H' zs=>(∃ v,σ'=[v,some (.ref b)])/\Ext H H'/\H' D=some (.lst zs)/\H D=none/\∃ ls:List Addr,zs=ls.map V.ref/\ls.Nodup/\D∉ls/\(∀ a∈ls,H a=none)/\All2 (RowAt H') ls ((List.range i).map (yI ms Ar 0))) ?_ ?_ ?_ ?_⟩
  ·intro D hD;exact⟨⟨_,rfl⟩,(Ext.refl _).new hD _,j6,hD,[],rfl,g4,Ad,Ad,trivial⟩
  ·rintro D i σ' H' zs hD hi ⟨_,e,h2,_,ls,rfl,_,_,_,al⟩;refine⟨h2,?_⟩;rw[ab,al.len,ab,cz];lia
  ·rintro D i σ' H' zs hD hi ⟨⟨v,rfl⟩,e,h2,hn,ls,rfl,nd,hDl,nol,al⟩;dsimp only [kJ,yL];rw[ao rfl];have e0:(0+(i:Int))=(i:Int):=Aa;have key:∀ (l:Addr) (H2:Hp),Ext H' H2->H' l=none->RowAt H2 l (yI ms Ar 0 i)->H2 D=some (.lst (ls.map V.ref))/\((∃ v,[some (V.int (i:Int)),some (.ref b)]=[v,some (.ref b)])/\Ext H (L2.upd H2 D (.lst (ls.map V.ref++[.ref l])))/\(L2.upd H2 D (.lst (ls.map V.ref++[.ref l]))) D=some (.lst (ls.map V.ref++[.ref l]))/\H D=none/\∃ ls':List Addr,ls.map V.ref++[.ref l]=ls'.map V.ref/\ls'.Nodup/\D∉ls'/\(∀ a∈ls',H a=none)/\All2 (RowAt (L2.upd H2 D (.lst (ls.map V.ref++[.ref l])))) ls' ((List.range (i+1)).map (yI ms Ar 0))):=fun l H2 e2 nl rl=>by
    have hD2:=e2 _ _ h2;have lD:l≠D:=fun z=>by rw[z,h2] at nl; cases nl
    have tu:Tups H2 (L2.upd H2 D (.lst (ls.map V.ref++[.ref l]))):=Tups.upd hD2 _;have kp:∀ a xs,a≠D->H2 a=some (.lst xs)->(L2.upd H2 D (.lst (ls.map V.ref++[.ref l]))) a=some (.lst xs):=fun a xs ha h=>by rw[jA ha]; exact h
    refine⟨hD2,⟨_,rfl⟩,(e.trans e2).updNew hn _,j6,hn,ls++[l],by rw[aK]; rfl,?_,?_,?_,?_⟩
    ·rw[dR];refine⟨nd,Ad,fun a ha b hb z=>?_⟩;rw[aI] at hb;subst hb z;obtain⟨j,hj⟩:=bN ha;obtain⟨cs,_,vs,r,_⟩:=al.get' hj;rw[nl] at r;cases r
    ·rw[aN,aI];rintro (z | z)
     ·exact hDl z
     ·exact lD z.symm
    ·intro a ha;rcases aN.mp ha with z | z
     ·exact nol a z
     ·rw[aI] at z;subst z;cases y:H a with
      | none=>rfl
      | some o=>rw[e _ _ y] at nl; cases nl
    ·rw[gN,aK];refine(All2.of_get al.len fun j a c h1 h2'=>?_).snoc (rl.keep (fun xs=>kp l xs lD) tu);obtain⟨c',hc',r⟩:=al.get' h1;rw[h2'] at hc';cases hc';have aD:a≠D:=fun z=>hDl (z ▸ ay h1);exact r.keep (fun xs hx=>kp a xs aD (e2 _ _ hx)) (e2.tups.trans tu)
   refine⟨_,rfl,_,rfl,b,_,1,_,rfl,rfl,SqT.of (e _ _ b1),rfl,qm,_,rfl, .inr (SqT.of (e _ _ b2)),rfl,kQ ms,_,rfl,?_⟩;rw[e0,yG];refine ite2 (fun hz=>?_) (fun hz=>?_)
   ·have hz:=aE hz;refine⟨_,rfl,_,rfl,_,_,rfl,rfl,⟨Aa,Aa,Ac⟩,by show (2:Nat)<=_; decide,fun r H2 d2 e2=>⟨by show (1:Nat)<=_; decide,fun l H3 d3 e3 n3=>?_⟩⟩;have nl:H' l=none:=by
     cases z:H' l with
     | none=>rfl
     | some o=>rw[e2 _ _ z] at n3; cases n3
    refine key l H3 (e2.trans e3) nl ⟨_,d3,?_⟩;rw[jDF,ao hz];refine⟨⟨r,rfl,?_⟩,trivial⟩;have:(1:Int)*2 ^ (i:Int).toNat=((2 ^ i:Nat):Int):=by
     rw[bE];push_cast;lia
    rw[e3 _ _ d2];show some (HO.tup [V.int (-1),V.int ((1:Int)*2 ^ (i:Int).toNat)])=_;rw[this]
   ·refine⟨by show (0:Nat)<=_; decide,fun l H3 d3 e3 n3=>?_⟩;refine key l H3 e3 n3 ⟨_,d3,?_⟩;rw[jDF,am (fun z=>hz (aq z))];trivial
  ·rintro D σ' H1 zs hD ⟨_,e1,h2,hn,ls,rfl,nd,hDl,nol,al⟩;refine⟨_,rfl,b,_,2,_,rfl,rfl,SqT.of (e1 _ _ b1),rfl,true,qp,rfl,⟨_,SqT.of (e1 _ _ b3)⟩,jRZ (tp:=true) (xs:=ps) (fun i σ H'=>(∃ v2 v3,σ=[some (.ref b),some (.ref D),v2,v3])/\Ext H H'/\H' D=some (.lst (ls.map V.ref))/\All2 (RowAt H') ls (chsN w.toNat ms Ar i)) ⟨⟨_,_,rfl⟩,e1,h2,al⟩ (fun i σ H' ⟨_,e,_⟩=>SqT.of (e _ _ b3)) ?_ ?_⟩
   ·rintro i x t σ H' hx ht ⟨⟨v2,v3,rfl⟩,e,h3,al3⟩;obtain⟨pc,hpc,hPc⟩:=b4.at hx;obtain⟨pa,pq,rfl,c1,c2⟩:=id hPc;have hi:i<Ar.length:=(ai.mp hpc).1;have gp:=g.pg pc (ay hpc);have et:j5 Ar (i:Int)=pc.1:=by
     unfold j5;rw[bE,ag,hpc];rfl
    have lt:=yT _ 0 w gp.lot.ris gp.lot.bnd;have e':=e.new ht (.tup [.int (i:Int), .ref pa]);have k':Ext H' (L2.upd H' t (.tup [.int (i:Int), .ref pa])):=(Ext.refl _).new ht _;refine⟨t,_,rfl,SqT.of j6,rfl,_,_,rfl,_,_,rfl,rfl,?_⟩;have h5:=k' _ _ h3;have al5:=al3.imp fun l cs r=>r.keep (fun xs z=>k' _ _ z) k'.tups;generalize L2.upd H' t (.tup [.int (i:Int), .ref pa])=H5 at e' h5 al5 ⊢;obtain⟨hd,tl,hp1⟩:∃ hd tl,pc.1=hd::tl:=by
     cases z:pc.1 with
     | nil=>exact absurd z gp.lot.ne
     | cons a r=>exact⟨a,r,rfl⟩
    have hb:=gp.lot.bnd hd (by rw[hp1]; exact az ..);have hdl:(j5 Ar (i:Int)).headD 0=((hd.toNat:Nat):Int):=by
     rw[et,hp1];show hd=_;lia
    have hw:hd.toNat<w.toNat:=Aa;obtain⟨l,hl,vs,hv,av⟩:=al5.get (yO hw);have lne:l≠D:=fun z=>hDl (z ▸ ay hl);have iD:atI (ls.map V.ref) hd=some (.ref l):=by
     have:=yQ (xs:=ls.map V.ref) (j:=hd.toNat) (v:= .ref l) (by rw[aL,hl]; rfl)
     rwa [show ((hd.toNat:Nat):Int)=hd by lia] at this
    have c2':H5 pq=some (.tup (pc.1.map V.int)):=e' _ _ c2;refine⟨_,rfl,_,rfl,pa,_,0,_,rfl,rfl,SqT.of (e' _ _ c1),rfl,pq,_,0, .int hd,rfl,rfl,SqT.of c2',by rw[hp1]; exact yQ (j:=0) rfl,D,_,_,_,rfl,rfl,SqL.of h5,iD, .inl ⟨rfl,_,SqL.of hv⟩,_,rfl,_,rfl,pa,_,0,_,rfl,rfl,SqT.of (e' _ _ c1),rfl,pq,pc.1,rfl,c2',fun x hx=>?_,Aa,fun H6 e6=>?_⟩
    ·have:=gp.lot.bnd x hx;lia
    refine⟨by show (2:Nat)<=_; decide,fun r H7 d7 e7=>?_⟩;have E7:=e6.trans e7;have hv7:=E7 _ _ hv;have vl:vs.length<=33:=by
     rw[av.len];exact(qR g).len _ _ (yO hw)
    have ap:=ChAt.app (v:= .ref r) (c:=((i:Int),maskN (j5 Ar (i:Int)))) (E7 _ _ h5) nd (al5.imp fun l cs r=>r.keep (fun xs z=>E7 _ _ z) E7.tups) hl (yO hw) hv7 (av.imp fun _ _=>PrAt.mono E7.tups) ⟨r,rfl,by rw[et]; exact d7⟩ lne;have nH:H l=none:=by
     cases z:H l with
     | none=>rfl
     | some o=>
      exfalso;rw[nol l (ay hl)] at z;cases z
    refine⟨l,_,_,rfl,rfl,hv7,by rw[aw]; lia,⟨_,_,rfl⟩,?_,ap.1,?_⟩
    ·exact(e'.trans E7).updNew nH _
    ·rw[jPK hi hd.toNat hdl];exact ap.2
   ·rintro σ H' ⟨⟨v2,v3,rfl⟩,e,h3,al3⟩;refine⟨_,rfl,q D H' ⟨ls,h3,nd,?_⟩ e⟩;rw[pl] at al3;exact al3
theorem jUR {fd:FuncData}(F:Fun K "full_mask" "full_mask" sFull f fd)(T:Txt mg):FnOk P w K mg Aq CX0 1 f fd ["choices"] jFD:=by
 refine F.ok scFull (fun vs H Q E h=>?_) (fun ki A Ap s H vs Q E hr h=>?_)
 ·obtain⟨_,_,rfl,_⟩:=h;rfl
 ·obtain⟨L,ch,rfl,hL,hw,q⟩:=h;refine⟨_,(fullA T).2.h,?_⟩;obtain⟨ls,h1,h2⟩:=hL.len;refine⟨_,rfl,L,_,rfl, .inl (SqL.of h1),_,_,rfl,rfl,⟨?_,?_,?_⟩,_,_,rfl,rfl,?_⟩
  ·first | lia | decide
  ·rw[ab]; lia
  ·first | lia | decide
  ·have e:(1:Int)*2 ^ (((ls.map V.ref).length:Nat):Int).toNat - 1=((fullN ch:Nat):Int):=by
    rw[ab,h2,bE];unfold fullN;have:=dB ch.length;have e2:((2 ^ ch.length:Nat):Int)=(2:Int) ^ ch.length:=by push_cast; rfl
    lia
   show Q (V.int ((1:Int)*2 ^ (((ls.map V.ref).length:Nat):Int).toNat - 1)) H;rw[e];exact q
theorem ok_at {fd:FuncData}(F:Fun K "choices_at" "choices_at" sAt f fd)(T:Txt mg):FnOk P w K mg Aq CX0 1 f fd ["choices","mask"] spAt:=by
 refine F.ok scAt (fun vs H Q E h=>?_) (fun ki A Ap s H vs Q E hr h=>?_)
 ·obtain⟨_,_,_,rfl,_⟩:=h;rfl
 ·obtain⟨L,ch,m,rfl,hL,ok,hm,hf,q⟩:=h;refine⟨_,(atA T).2.h,?_⟩;obtain⟨ls,h1,nd,al⟩:=hL.ex;have hlow:=jCO hm hf;have w16:=ok.w;refine⟨_,rfl,_,rfl,_,rfl,_,_,rfl,rfl,_,_,rfl,rfl,rfl,_,rfl,rfl,_,_,rfl,rfl,?_⟩;have el:(Builtin.Int.intBits (Builtin.bitAnd (Builtin.bitNot (m:Int)) ((m:Int)+1)):Int) - 1=((lowN m:Nat):Int):=by
   rw[jR9];lia
  show kJ 2 (V.int ((Builtin.Int.intBits (Builtin.bitAnd (Builtin.bitNot (m:Int)) ((m:Int)+1)):Int) - 1)) _ _ _;rw[el];obtain⟨l,hl,vs,hv,av⟩:=al.get (aA hlow);have vl:vs.length<=33:=by
   rw[av.len];exact ok.len _ _ (aA hlow)
  have er:ch.getD (lowN m) []=ch[lowN m]:=by
   rw[ag,aA hlow];rfl
  refine⟨_,rfl,_,rfl,L,_,_,_,rfl,rfl,SqL.of h1,yQ (by rw[aL,hl]; rfl),l,rfl,⟨_,SqL.of hv⟩,jAQ (xs:=vs) (fun σ=>∃ v,σ=[v,some (.int (m:Int))]) (fun H' zs j=>All2 (PrAt H') zs (((ch[lowN m]).take j).filter fun c=>c.2&&&m==0)) ⟨fun H=>trivial,fun H H' zs j t h=>h.imp fun _ _=>PrAt.mono t,fun H zs j h=>?_⟩ hv (by rw[aw]; lia) ⟨_,rfl⟩ ?_ ?_⟩
  ·rw[h.len];exact be (bb _ _) (br _ _)
  ·rintro j x σ' H' zs hx ⟨v,rfl⟩ e hz R S yes no;obtain⟨c,hc,qa,rfl,hq⟩:=av.get' hx;have hq':=e _ _ hq;have et:(ch[lowN m]).take (j+1)=(ch[lowN m]).take j++[c]:=by
    rw[aV,hc];rfl
   refine⟨_,rfl,qa,_,1,_,rfl,rfl,SqT.of hq',rfl,_,rfl,_,_,rfl,rfl,rfl,_,rfl,?_⟩;have ez:decide (V.int (Builtin.bitAnd ((c.2:Nat):Int) (m:Int))=V.int 0)=(c.2&&&m==0):=by
    rw[jFS,bP,aW,g8];exact⟨fun h=>by have:=V.int.inj h; lia,fun h=>by rw[h]; rfl⟩
   show if decide (V.int (Builtin.bitAnd ((c.2:Nat):Int) (m:Int))=V.int 0)=true then _ else _
   rw[ez];refine ite2 (fun h=>?_) (fun h=>?_)
   ·refine⟨_,rfl,yes _ _ _ ⟨_,rfl⟩ (Ext.refl _) ?_⟩;show All2 _ _ (((ch[lowN m]).take (j+1)).filter _);rw[et,bw,b9,ao h];exact hz.snoc ⟨qa,rfl,hq'⟩
   ·refine no _ _ ⟨_,rfl⟩ (Ext.refl _) ?_;show All2 _ _ (((ch[lowN m]).take (j+1)).filter _);rw[et,bw,b9,am h,i4,ba];exact hz
  ·rintro D H' zs hD e hn hz;rw[av.len,aZ] at hz;refine q D H' ⟨zs,hD,?_⟩ e hn;unfold chAt;rw[er];exact hz
end Eo
namespace L2
open PySem
theorem jMR {ks:List (Option Expr)}{vs:List Expr}{pos:Pos}{o:Option Expr} :SwOk (.Dict ks vs pos) o:=⟨fun _ _=>rfl⟩
end L2
namespace Eo
open PySem L2
abbrev natV (n:Nat):V:= .int (n:Int)
structure MetOk (ch:Ch)(ns:List Nat):Prop where
 zero:0∈ns
 bnd:∀ m∈ns,m<2 ^ ch.length
 up:∀ m∈ns,m≠fullN ch->∀ c∈chAt ch m,(m|||c.2)∈ns
def trK (ks:List Nat):List (Key×V):=ks.map fun (k:Nat)=>(Sum.inl (k:Int),V.bl true)
def jTF:Stmt->List Stmt
 | .While _ b _ _=>b
 | _=> []
theorem jIR (n:Nat):∀ ks:List Nat,valV (trK ks) (.inl (n:Int))=if n∈ks then some (.bl true) else none
 | []=>rfl
 | k::ks=>by
  show valV ((Sum.inl (k:Int),V.bl true)::trK ks) _=_;by_cases h:k=n
  ·subst h;rw[jBO rfl,ao (az ..)]
  ·rw[jBP (by intro z; have:=gG z; lia),jIR n ks];by_cases h2:n∈ks
   ·rw[ao h2,ao (aB _ h2)]
   ·rw[am h2,am];intro z;rcases aG.mp z with z | z
    ·exact h z.symm
    ·exact h2 z
theorem jVP {H:Hp}{M:Addr}{ks:List Nat}{m c:Nat}(h:H M=some (.dK (trK ks))):DGet H M (.int (Builtin.bitOr (m:Int) (c:Int))) (if (m|||c)∈ks then some (.bl true) else none):=by
 rw[jCX,<- jIR];exact DGet.k (k:=Sum.inl (((m|||c:Nat):Nat):Int)) h
theorem jVO {H:Hp}{M:Addr}{ks:List Nat}{m c:Nat}(h:H M=some (.dK (trK ks)))(hn:¬ (m|||c)∈ks)(hl:(trK ks).length<sizeLine):DPut H M (.int (Builtin.bitOr (m:Int) (c:Int))) (.bl true) (L2.upd H M (.dK (trK (ks++[m|||c])))):=by
 rw[jCX];have:=DPut.k (k:=Sum.inl (((m|||c:Nat):Nat):Int)) (v:= .bl true) h hl;rw[jK7 _ (by rw[jIR,am hn])] at this;unfold trK;rw[aK];exact this
theorem jB5 {n:Nat}{ks:List Nat}(nd:ks.Nodup)(hb:∀ k∈ks,k<n):ks.length<=n:=by
 have:(ks.map fun k:Nat=>(k:Int)).length<=n:=jNT n _ (bA.mpr (nd.imp fun h=>by lia)) fun t ht=>by
  obtain⟨k,hk,rfl⟩:=aQ.mp ht;have:=hb k hk;lia
 rwa [ab] at this
abbrev nMet:Am:=["choices","full","met","waiting","mask","number","more"]
theorem scMet:FnScope nMet ["choices"] (j8 sMet):= {}
def spMet:Sp:=fun vs H Q _=>∃ (L:Addr) (ch:Ch),vs=[.ref L]/\ChAt H L ch/\ChOk ch/\∀ (r:Addr) (ns:List Nat) (H':Hp),H' r=some (.lst (ns.map natV))->ns.Pairwise (· > ·)->MetOk ch ns->Ext H H'->H r=none->Q (.ref r) H'
def jKL (T:Txt mg)(CA:Can P w K mg Aq "choices_at" 1 fA fdA ["choices","mask"] spAt)(hr:Room 1 (XOf nMet "masks_met" sMet P w K mg Aq f ki A Ap s H0 E).A): { t:TS // JSs (XOf nMet "masks_met" sMet P w K mg Aq f ki A Ap s H0 E) (jTF ((jE sMet).getD 3 (.Pass ⟨0,0,0,0⟩))) t} :=
 have nd:=scMet.nd
 ⟨_,(j9 (jR (i:=4) nd rfl lL (jT2 ce PySem.F.slot_list_pop PySem.F.type_list_pop jX6 (jv 3 rfl vL)) jY)
   (jD (yA (jO op_ne (jv 4 rfl vL) (jv 1 rfl vL) (jV _)) (jD (x6 bX rfl (y6 (CA.je hr gD (j3 (jv 0 rfl vL) (j3 (jv 4 rfl vL) j7 j4) j4) j4)) (jKV (i:=5) (j:=6) nd rfl rfl Ab Ab) (jD (yA (jON (hu_of hr) (kY op_or (jv 4 rfl vL) (jv 6 rfl vL)) (jv 2 rfl vL) rfl) (j9 (jJ4 (hu_of hr) (jv 2 rfl vL) (kY op_or (jv 4 rfl vL) (jv 6 rfl vL)) (je_bl) jJU)
   (jD (jEP (je_bm ce iB iC jCM (jv 3 rfl vL) (j3 (kY op_or (jv 4 rfl vL) (jv 6 rfl vL)) j7 yP) yP) jY))) jZ)) kS)) jZ)))⟩
def metA (T:Txt mg)(CF:Can P w K mg Aq "full_mask" 1 fF fdF ["choices"] jFD)(CA:Can P w K mg Aq "choices_at" 1 fA fdA ["choices","mask"] spAt)(hr:Room 1 (XOf nMet "masks_met" sMet P w K mg Aq f ki A Ap s H0 E).A): { t:TS // JSs (XOf nMet "masks_met" sMet P w K mg Aq f ki A Ap s H0 E) (jE sMet) t} :=
 have nd:=scMet.nd
 ⟨_,(j9 (jR (i:=1) nd rfl lL (CF.je (hr.mono Ac) gD (j3 (jv 0 rfl vL) j7 j4) j4) jY) (j9 (jR (i:=2) nd rfl lL (jRL) jMR) (j9 (jR (i:=3) nd rfl lL (jBK (j3 (je_int) j7 kN)) jFA) (j9 (jKT bX (jO op_gt (jK jW gD T.len Ab (j3 (jv 3 rfl vL) j7 j4) j4) (je_int) (jV _)) (jKL T CA hr).2) (jD (jP (jOO (jH2 rfl) gD T.sorted Ab (j3 (jv 2 rfl vL) j7 j4) (jVA je_bl jXJ) j4)))))))⟩
theorem jR6 (T:Txt mg)(CA:Can P w K mg Aq "choices_at" 1 fA fdA ["choices","mask"] spAt)(hr:Room 1 (XOf nMet "masks_met" sMet P w K mg Aq f ki A Ap s H0 E).A)
  {D:Ends}{H:Hp}{L M W:Addr}{ch:Ch}{ks ws:List Nat}{m:Nat}{v4 v5 v6:Option V}(hL:ChAt H L ch) (ok:ChOk ch) (hM:H M=some (.dK (trK ks))) (hW:H W=some (.lst ((ws++[m]).map natV))) (nd:ks.Nodup) (hb:∀ k∈ks,k<2 ^ ch.length) (hm:m∈ks) (wln:ws.length<=ks.length)
  (nx:∀ (H':Hp) (new:List Nat) (v4 v5 v6:Option V),(∀ b o,H b=some o->b≠M->b≠W->H' b=some o)->H' M=some (.dK (trK (ks++new)))->H' W=some (.lst ((ws++new).map natV))->(ks++new).Nodup->(∀ k∈ks++new,k<2 ^ ch.length)->(m≠fullN ch->∀ c∈chAt ch m,(m|||c.2)∈ks++new)->D.nx [some (.ref L),some (natV (fullN ch)),some (.ref M),some (.ref W),v4,v5,v6] H'):
  (jKL T CA hr).1 D [some (.ref L),some (natV (fullN ch)),some (.ref M),some (.ref W),v4,v5,v6] H:=by
 have MW:M≠W:=fun z=>by rw[z,hW] at hM; cases hM
 have LW:∀ ls:List Addr,H L=some (.lst (ls.map V.ref))->L≠W:=fun ls h z=>by
  rw[z,hW] at h;have h:=HO.lst.inj (bq h);have h2:natV m∈ls.map V.ref:=by rw[<- h]; simp
  obtain⟨a,_,ha⟩:=aQ.mp h2;cases ha
 have rw':∀ l cs,RowAt H l cs->l≠W:=fun l cs ⟨vs,h1,h2⟩ z=>by
  rw[z,hW] at h1;have h1:=HO.lst.inj (bq h1);have h3:vs[ws.length]?=some (natV m):=by rw[<- h1]; simp
  obtain⟨_,_,q,e,_⟩:=h2.get' h3;cases e
 have w16:=ok.w;have hm2:=hb m hm;have wl:((ws++[m]).map natV)[((ws++[m]).map natV).length - 1]?=some (natV m):=by
  rw[ab,aF,aL,bh Ad];simp
 have dl:((ws++[m]).map natV).dropLast=ws.map natV:=by
  rw[aK];simp
 refine⟨_,rfl, .inl ⟨rfl,_,SqL.of hW⟩,W,_,_,rfl,rfl,hW,wl,?_⟩;rw[dl];have hM1:(L2.upd H W (.lst (ws.map natV))) M=some (.dK (trK ks)):=by rw[jA MW]; exact hM
 have hW1:(L2.upd H W (.lst (ws.map natV))) W=some (.lst (ws.map natV)):=j6;have k1:∀ b o,H b=some o->b≠W->(L2.upd H W (.lst (ws.map natV))) b=some o:=fun b o h n=>by rw[jA n]; exact h
 have hL1:ChAt (L2.upd H W (.lst (ws.map natV))) L ch:=by
  obtain⟨ls,a1,a2,a3⟩:=hL.ex;exact⟨ls,k1 _ _ a1 (LW _ a1),a2,a3.imp fun l cs r=>r.keep (fun xs z=>k1 _ _ z (rw' _ _ r)) (Tups.upd hW _)⟩
 generalize L2.upd H W (.lst (ws.map natV))=H1 at hM1 hW1 k1 hL1;refine⟨_,rfl,_,rfl,rfl,_,rfl,?_⟩;have nf:(!decide (natV m=natV (fullN ch)))=true↔m≠fullN ch:=by
  rw[cg,bR];refine not_congr ⟨fun h=>?_,fun h=>by rw[h]⟩;have:=V.int.inj h;lia
 refine ite2 (fun h=>?_) (fun h=>?_)
 ·have h:=nf.mp h;refine⟨_,rfl,_,rfl,L,ch,m,rfl,hL1,ok,hm2,h,fun r H2 ⟨vs,hr2,av⟩ e2 nr=>?_⟩;have hM2:=e2 _ _ hM1;have hW2:=e2 _ _ hW1;have rW:r≠W:=fun z=>by rw[z,hW1] at nr; cases nr
  have rM:r≠M:=fun z=>by rw[z,hM1] at nr; cases nr
  refine⟨r,rfl,⟨_,SqL.of hr2⟩,jCT (xs:=vs) (fun i σ H'=>(∃ v5 v6,σ=[some (.ref L),some (natV (fullN ch)),some (.ref M),some (.ref W),some (natV m),v5,v6])/\(∀ b o,H2 b=some o->b≠M->b≠W->H' b=some o)/\∃ new:List Nat,H' M=some (.dK (trK (ks++new)))/\H' W=some (.lst ((ws++new).map natV))/\(ks++new).Nodup/\(∀ k∈ks++new,k<2 ^ ch.length)/\∀ c∈(chAt ch m).take i,(m|||c.2)∈ks++new) ⟨⟨_,_,rfl⟩,fun b o h _ _=>h,[],by rw[ba]; exact hM2,by rw[ba]; exact hW2,by rw[ba]; exact nd,by rw[ba]; exact hb,fun c hc=>by cases hc⟩ (fun i σ H' _ ⟨_,k,_⟩=>SqL.of (k _ _ hr2 rM rW)) ?_ ?_⟩
  ·rintro i x σ H' hx ⟨⟨v5,v6,rfl⟩,k,new,hM',hW',nd',hb',cl⟩;obtain⟨c,hc,q,rfl,hq⟩:=av.get' hx;have qM:q≠M:=fun z=>by rw[z,hM2] at hq; cases hq
   have qW:q≠W:=fun z=>by rw[z,hW2] at hq; cases hq
   have hcm:=ay hc;obtain⟨u1,u2⟩:=ok.up hm2 h hcm;have tk:(chAt ch m).take (i+1)=(chAt ch m).take i++[c]:=by rw[aV,hc]; rfl
   refine⟨q,_,rfl,SqT.of (k _ _ hq qM qW),rfl,_,_,rfl,_,_,rfl,rfl,?_⟩;refine⟨_,rfl,_,rfl,_,_,rfl,rfl,_,rfl,M,_,rfl,jVP hM',_,rfl,?_⟩;by_cases hin:(m|||c.2)∈ks++new
   ·rw[ao hin];refine iteF ⟨⟨_,_,rfl⟩,k,new,hM',hW',nd',hb',fun c' hc'=>?_⟩;rw[tk] at hc';rcases aN.mp hc' with z | z
    ·exact cl c' z
    ·rw[aI] at z;rw[z];exact hin
   ·rw[am hin];have ndn:(ks++(new++[m|||c.2])).Nodup:=by
     rw[<- aY,dR];refine⟨nd',Ad,fun a ha b hb z=>?_⟩;rw[aI] at hb;exact hin (hb ▸ z ▸ ha)
    have bdn:∀ k∈ks++(new++[m|||c.2]),k<2 ^ ch.length:=fun k hk=>by
     rw[<- aY] at hk;rcases aN.mp hk with z | z
     ·exact hb' k z
     ·rw[aI] at z;rw[z];exact u2
    have sz:(ks++(new++[m|||c.2])).length<=2 ^ 16:=be (jB5 ndn bdn) (cS Ac w16);rw[aF,aF] at sz;have kl:(trK (ks++new)).length<sizeLine:=by
     unfold trK;rw[ab,aF,aw];simp at sz;lia
    refine iteT ⟨_,rfl,_,rfl,_,rfl,_,_,rfl,rfl,M,_,rfl,jVO hM' hin kl,?_⟩;have hW3:(L2.upd H' M (.dK (trK (ks++new++[m|||c.2])))) W=some (.lst ((ws++new).map natV)):=by rw[jA MW.symm]; exact hW'
    have hM3:(L2.upd H' M (.dK (trK (ks++new++[m|||c.2])))) M=some (.dK (trK (ks++(new++[m|||c.2])))):=by rw[j6,aY]
    have k3:∀ b o,H2 b=some o->b≠M->b≠W->(L2.upd H' M (.dK (trK (ks++new++[m|||c.2])))) b=some o:=fun b o hbo n1 n2=>by rw[jA n1]; exact k b o hbo n1 n2
    generalize L2.upd H' M (.dK (trK (ks++new++[m|||c.2])))=H3 at hW3 hM3 k3;refine⟨_,rfl, .inl ⟨rfl,_,SqL.of hW3⟩,_,rfl,_,rfl,_,_,rfl,rfl,W,_,_,rfl,rfl,hW3,?_,⟨_,_,rfl⟩,fun b o hbo n1 n2=>by rw[jA n2]; exact k3 b o hbo n1 n2,new++[m|||c.2],by rw[jA MW]; exact hM3,?_,ndn,bdn,fun c' hc'=>?_⟩
    ·skip
     rw[ab,aF,aw];simp at sz;lia
    ·rw[j6];show some (HO.lst ((ws++new).map natV++[V.int (Builtin.bitOr (m:Int) (c.2:Int))]))=_;rw[jCX,<- aY];exact bL (fun z=>some (HO.lst z)) (aK (f:=natV) (l₁:=ws++new) (l₂:=[m|||c.2])).symm
    ·rw[<- aY,aN];rw[tk] at hc';rcases aN.mp hc' with z | z
     ·exact .inl (cl c' z)
     ·rw[aI] at z;rw[z];exact .inr (aI.mpr rfl)
  ·rintro σ H' ⟨⟨v5,v6,rfl⟩,k,new,hM',hW',nd',hb',cl⟩;have:(chAt ch m).take vs.length=chAt ch m:=by rw[av.len,aZ]
   rw[this] at cl;exact nx H' new _ _ _ (fun b o hbo n1 n2=>k _ _ (e2 _ _ (k1 _ _ hbo n2)) n1 n2) hM' hW' nd' hb' fun _=>cl
 ·have h:m=fullN ch:=cJ fun z=>h (nf.mpr z);exact nx H1 [] _ _ _ (fun b o hbo n1 n2=>k1 _ _ hbo n2) (by rw[ba]; exact hM1) (by rw[ba]; exact hW1) (by rw[ba]; exact nd) (by rw[ba]; exact hb) fun z=>absurd h z
theorem jWX {fd:FuncData}(F:Fun K "masks_met" "masks_met" sMet f fd)(T:Txt mg)(CF:Can P w K mg Aq "full_mask" 1 fF fdF ["choices"] jFD)(CA:Can P w K mg Aq "choices_at" 1 fA fdA ["choices","mask"] spAt):FnOk P w K mg Aq CX0 2 f fd ["choices"] spMet:=by
 refine F.ok scMet (fun vs H Q E h=>?_) (fun ki A Ap s H vs Q E hr h=>?_)
 ·obtain⟨_,_,rfl,_⟩:=h;rfl
 ·obtain⟨L,ch,rfl,hL,ok,q⟩:=h;refine⟨_,(metA T CF CA hr).2.h,?_⟩;have w16:=ok.w;refine⟨_,rfl,L,ch,rfl,hL,w16,?_⟩;refine fun M H1 hM1 e1 nM=>?_;refine⟨by show (1:Nat)<=_; decide,fun W H2 hW2 e2 nW=>?_⟩;have hM2:=e2 _ _ hM1;have nW0:H W=none:=by
   cases z:H W with
   | none=>rfl
   | some o=>rw[e1 _ _ z] at nW; cases nW
  have E2:=e1.trans e2;have pz:(0:Nat)<2 ^ ch.length:=dB _;refine⟨fun n σ H'=>(∃ v4 v5 v6,σ=[some (.ref L),some (natV (fullN ch)),some (.ref M),some (.ref W),v4,v5,v6])/\Ext H H'/\∃ ks ws:List Nat,n=2*(2 ^ ch.length - ks.length)+ws.length/\H' M=some (.dK (trK ks))/\H' W=some (.lst (ws.map natV))/\ks.Nodup/\(∀ k∈ks,k<2 ^ ch.length)/\(∀ k∈ws,k∈ks)/\ws.length<=ks.length/\0∈ks/\∀ k∈ks,k∉ws->k≠fullN ch->∀ c∈chAt ch k,(k|||c.2)∈ks,⟨_,⟨_,_,_,rfl⟩,E2,[0],[0],rfl,hM2,hW2,Ad,fun k hk=>by rw[aI] at hk; lia,fun k hk=>hk,ak _,Ad,fun k h1 h2=>absurd h1 h2⟩,?_⟩;rintro n σ H' ⟨⟨v4,v5,v6,rfl⟩,e,ks,ws,rfl,hM',hW',nd,hb,sub,wl,z0,cl⟩;refine⟨_,rfl,W,_,rfl, .inl (SqL.of hW'),_,_,rfl,rfl,_,rfl,?_⟩;rcases List.eq_nil_or_concat ws with hws | ⟨ws',m,hws⟩
  ·subst hws;refine iteF ?_;have ksl:=jB5 nd hb;have p16:2 ^ ch.length<=2 ^ 16:=cS Ac w16;refine⟨_,rfl,M,trK ks,ks.map fun k:Nat=>(k:Int),true,rfl,rfl,hM',by unfold trK; rw[bH,bH]; rfl,by rw[ab,aw]; lia,fun l ns hl ord pm=>?_⟩;obtain⟨js,rfl⟩:∃ js:List Nat,ns=js.map fun k:Nat=>(k:Int):=by
    refine⟨ns.map Int.toNat,?_⟩;rw[bH];refine(eB ns).symm.trans (bF fun x hx=>?_);obtain⟨k,_,rfl⟩:=aQ.mp (pm.mem_iff.mp hx);show ((k:Nat):Int)=(((k:Nat):Int).toNat:Int);lia
   have pm':js.Perm ks:=by
    have:=pm.map Int.toNat;rw[bH,bH] at this;have e:∀ l:List Nat,l.map (Int.toNat ∘ fun k:Nat=>(k:Int))=l:=fun l=>(bF fun x _=>by show ((x:Nat):Int).toNat=x; lia).trans (eB l)
    rwa [e,e] at this
   refine q l js _ ?_ ?_ ⟨pm'.mem_iff.mpr z0,fun m hm=>hb m (pm'.mem_iff.mp hm),fun m hm hf c hc=>pm'.mem_iff.mpr (cl m (pm'.mem_iff.mp hm) Ad hf c hc)⟩ ((Ext.refl _).trans (e.new hl _)) ?_
   ·rw[j6,bH];rfl
   ·have nj:js.Nodup:=pm'.nodup_iff.mpr nd;have:js.Pairwise (fun (a b:Nat)=>(b:Int)<=(a:Int)):=bA.mp ord;exact(this.and nj).imp fun {a b} h=>by lia
   ·cases z:H l with
    | none=>rfl
    | some o=>rw[e _ _ z] at hl; cases hl
  ·have hws:ws=ws'++[m]:=by rw[hws,List.concat_eq_append]
   subst hws;have lp:decide ((0:Int)<(((ws'++[m]).map natV).length:Int))=true:=by
    rw[aW,ab,aF];show (0:Int)<((ws'.length+1:Nat):Int);lia
   show if decide ((0:Int)<(((ws'++[m]).map natV).length:Int))=true then _ else _
   rw[ao lp];rw[aF] at wl;refine⟨fun σ' H''=>(∃ v4 v5 v6,σ'=[some (.ref L),some (natV (fullN ch)),some (.ref M),some (.ref W),v4,v5,v6])/\Ext H H''/\∃ new:List Nat,H'' M=some (.dK (trK (ks++new)))/\H'' W=some (.lst ((ws'++new).map natV))/\(ks++new).Nodup/\(∀ k∈ks++new,k<2 ^ ch.length)/\(m≠fullN ch->∀ c∈chAt ch m,(m|||c.2)∈ks++new),?_,jR6 T CA hr (ks:=ks) (ws:=ws') (m:=m) (hL.ext e) ok hM' hW' nd hb (sub m Ad) Aa ?_⟩
   ·rintro σ' H'' ⟨hσ,e',new,a1,a2,a3,a4,a5⟩;have sl:=jB5 a3 a4;rw[aF] at sl;refine⟨_,?_,hσ,e',ks++new,ws'++new,rfl,a1,a2,a3,a4,fun k hk=>?_,?_,bf _ z0,fun k hk hkw hf c hc=>?_⟩
    ·rw[aF,aF,aF];simp only [aP,cH];lia
    ·rcases aN.mp hk with z | z
     ·exact bf _ (sub k (bf _ z))
     ·exact aO _ z
    ·rw[aF,aF];lia
    ·by_cases hkm:k=m
     ·subst hkm;exact a5 hf c hc
     ·rcases aN.mp hk with z | z
      ·refine bf _ (cl k z (fun y=>?_) hf c hc);rcases aN.mp y with y | y
       ·exact hkw (bf _ y)
       ·exact hkm (aI.mp y)
      ·exact absurd (aO _ z) hkw
   ·intro H'' new v4 v5 v6 kp a1 a2 a3 a4 a5;refine⟨⟨_,_,_,rfl⟩,fun b o hbo=>?_,new,a1,a2,a3,a4,a5⟩;refine kp b o (e b o hbo) (fun z=>?_) fun z=>?_
    ·rw[z,nM] at hbo; cases hbo
    ·rw[z,nW0] at hbo; cases hbo
end Eo
namespace L2
open PySem
theorem jTK {x:Str}{pos:Pos}{o:Option Expr} :SwOk (.Name x pos) o:=⟨fun _ _=>rfl⟩
end L2
namespace Eo
open PySem L2
structure HpOk (φ:Hp->Prop):Prop where
 keep:∀ (H H':Hp) (D:Addr) (kvs:List (Key×V)),H D=some (.dK kvs)->(∀ b o,H b=some o->b≠D->H' b=some o)->φ H->φ H'
 ext:∀ H H',Ext H H'->φ H->φ H'
abbrev RepT:=Nat->Hp->V->Prop
def RepOk (R:RepT):Prop:=∀ m v,HpOk fun H=>R m H v
def ItAt (R:RepT)(m:Nat)(H:Hp)(v:V)(c:Int×Nat):Prop:=∃ q u,v= .ref q/\H q=some (.tup [.int c.1,u])/\R (m|||c.2) H u
def jFC (ch:Ch)(R:RepT):Sp:=fun vs H Q _=>∃ (l:Addr) (us:List V) (m:Nat),vs=[.ref l]/\H l=some (.lst us)/\m<2 ^ ch.length/\m≠fullN ch/\All2 (ItAt R m H) us (chAt ch m)/\∀ r H',R m H' r->Ext H H'->Q r H'
def gvs (ns:List Nat)(us:List V):List (Key×V):=(ns.zip us).map fun p:Nat×V=>(Sum.inl (p.1:Int),p.2)
structure GotAt (H:Hp)(r:Addr)(ch:Ch)(R:RepT)(ns:List Nat):Prop where
 ex:∃ us,H r=some (.dK (gvs ns us))/\All2 (fun n u=>R n H u) ns us
theorem jFW {R:Nat->V->Prop} :∀ {ns:List Nat}{us:List V}{n:Nat},All2 R ns us->ns.Nodup->n∈ns->∃ u,valV (gvs ns us) (.inl (n:Int))=some u/\R n u
 | [],_,_,_,_,h=>by cases h
 | k::ns,[],_,h,_,_=>h.elim
 | k::ns,u::us,n,h,nd,hm=>by
  show ∃ x,valV ((Sum.inl (k:Int),u)::gvs ns us) _=_/\_;by_cases hk:k=n
  ·subst hk;exact⟨u,jBO rfl,h.1⟩
  ·rw[jBP (by intro z; have:=gG z; lia)];rcases aG.mp hm with z | z
   ·exact absurd z.symm hk
   ·exact jFW h.2 (cF.mp nd).2 z
theorem jCE:∀ {ns:List Nat}{us:List V}{n:Nat},n∉ns->valV (gvs ns us) (.inl (n:Int))=none
 | [],_,_,_=>by
  unfold gvs;rw[List.zip_nil_left];rfl
 | k::ns,[],_,_=>rfl
 | k::ns,u::us,n,h=>by
  show valV ((Sum.inl (k:Int),u)::gvs ns us) _=_;rw[jBP (by intro z; have:=gG z; exact h (by rw[show n=k by lia]; exact az ..))];exact jCE fun z=>h (aB _ z)
theorem jRW {ns:List Nat}{us:List V}{n:Nat}{u:V}(h:ns.length=us.length):gvs (ns++[n]) (us++[u])=gvs ns us++[(Sum.inl (n:Int),u)]:=by
 unfold gvs;rw[List.zip_append h,aK];rfl
section
variable {j:Addr}{Z:Shared->Hp->Prop}{zh:Hp->Prop}{ch:Ch}{R:RepT}
abbrev nGath:Am:=["choices","at_end","join","full","values","mask"]
theorem scGath:FnScope nGath ["choices","at_end","join"] (j8 xF):= {}
def jMX (j:Addr)(zh:Hp->Prop)(ch:Ch)(R:RepT):Sp:=fun vs H Q _=>∃ (L:Addr) (ve:V),vs=[.ref L,ve, .ref j]/\ChAt H L ch/\R (fullN ch) H ve/\zh H/\∀ (r:Addr) (ns:List Nat) (H':Hp),GotAt H' r ch R ns->ns.Pairwise (· > ·)->MetOk ch ns->Ext H H'->H r=none->Q (.ref r) H'
def jP0 (T:Txt mg)(CA:Can P w K mg Aq "choices_at" 1 fA fdA ["choices","mask"] spAt)(CJ:Callee P w K mg Aq Z zh 3 j (jFC ch R))(zs:ZSt Z)(hz:Z s H0)(hr:Room 3 (XOf nGath "gathered" xF P w K mg Aq f ki A Ap s H0 E).A): { t:TS // JSs (XOf nGath "gathered" xF P w K mg Aq f ki A Ap s H0 E) (jEM ((jE xF).getD 2 (.Pass ⟨0,0,0,0⟩))) t} :=
 have nd:=scGath.nd
 ⟨_,(jD (yA (jO qX (jv 5 rfl vC) (jv 3 rfl vL) (jV _)) (jD (jJ4 (hu_of hr) (jv 4 rfl vC) (jv 5 rfl vC) (jv 1 rfl vL) jTK)) (jD (jJ4 (hu_of hr) (jv 4 rfl vC) (jv 5 rfl vC) (jRQ (j:=2) CJ (hr.mono Ac) zs hz rfl rfl vL (j3 (kI (m:=[none,none,some 4,some 5]) (Nc:=["number","more","values","mask"]) rfl (y6 (CA.je (hr.mono Ac) gD (j3 (jv 0 rfl vL) (j3 (jv 5 rfl vC) j7 j4) j4) j4)) rfl Ab Ab (jQ (psc:=j8 xF)) (jJ (N:=nGath) rfl rfl Ab) (fun cl C fp s H=>jAZ (i:=0) (j:=1) rfl (show (["number","more","values","mask"]:Am).Nodup by decide+kernel) rfl rfl Ab Ab) (fun cl C fp s H=>kR) (fun cl C fp s H=>(kP (j3 (jv 0 rfl jM) (j3 (jGQ (hu_of hr) (jv 2 rfl kD) (kY op_or (jv 3 rfl kD) (jv 1 rfl jM)) jSR) j7 jF) j4))) kS) j7 jN) jN) jY))))⟩
def gathA (T:Txt mg)(CF:Can P w K mg Aq "full_mask" 1 fF fdF ["choices"] jFD)(CM:Can P w K mg Aq "masks_met" 2 fM fdM ["choices"] spMet)(CA:Can P w K mg Aq "choices_at" 1 fA fdA ["choices","mask"] spAt)(CJ:Callee P w K mg Aq Z zh 3 j (jFC ch R))(zs:ZSt Z)(hz:Z s H0)(hr:Room 3 (XOf nGath "gathered" xF P w K mg Aq f ki A Ap s H0 E).A): { t:TS // JSs (XOf nGath "gathered" xF P w K mg Aq f ki A Ap s H0 E) (jE xF) t} :=
 have nd:=scGath.nd
 ⟨_,(j9 (jR (i:=3) nd rfl lL (CF.je (hr.mono Ac) gD (j3 (jv 0 rfl vL) j7 j4) j4) jY) (j9 (jR (i:=4) nd rfl qY (jRM) jMR) (j9 (x6 bX rfl (y6 (CM.je (hr.mono Ac) gD (j3 (jv 0 rfl vL) j7 j4) j4)) (jL (i:=5) nd rfl qY) (jP0 T CA CJ zs hz hr).2 kS) (jD (jP (jv 4 rfl vC))))))⟩
theorem jNO {fd:FuncData}(F:Fun K "gathered" "gathered" xF f fd)(T:Txt mg)(CF:Can P w K mg Aq "full_mask" 1 fF fdF ["choices"] jFD)(CM:Can P w K mg Aq "masks_met" 2 fM fdM ["choices"] spMet)(CA:Can P w K mg Aq "choices_at" 1 fA fdA ["choices","mask"] spAt)(CJ:Callee P w K mg Aq Z zh 3 j (jFC ch R))(zs:ZSt Z)(zo:HpOk zh)(ro:RepOk R)(ok:ChOk ch):FnZ P w K mg Aq CX0 Z 4 f fd ["choices","at_end","join"] (jMX j zh ch R):=by
 refine F.okZ scGath (fun vs H Q E h=>?_) (fun ki A Ap s H vs Q E hr hz h=>?_)
 ·obtain⟨_,_,rfl,_⟩:=h;rfl
 ·obtain⟨L,ve,rfl,hL,he,hzh,q⟩:=h;refine⟨_,(gathA T CF CM CA CJ zs hz hr).2.h,?_⟩;have w16:=ok.w;have p16:2 ^ ch.length<=2 ^ 16:=cS Ac w16;refine⟨_,rfl,L,ch,rfl,hL,w16,?_⟩;refine fun D nD=>?_;have e1:Ext H (L2.upd H D (.dK [])):=(Ext.refl _).new nD _;have hD1:(L2.upd H D (.dK [])) D=some (.dK []):=j6;generalize L2.upd H D (.dK [])=H1 at e1 hD1;refine⟨_,rfl,L,ch,rfl,hL.ext e1,ok,fun r ns H2 hr2 srt mt e2 nr=>?_⟩;have hD2:=e2 _ _ hD1;have rD:r≠D:=fun z=>by rw[z,hD1] at nr; cases nr
  have E2:=e1.trans e2;have nsn:ns.Nodup:=srt.imp fun {a b} h=>by lia
  have nsl:=jB5 nsn mt.bnd;refine⟨r,rfl,⟨_,SqL.of hr2⟩,jCT (xs:=ns.map natV) (fun i σ H'=>(∃ v5,σ=[some (.ref L),some ve,some (.ref j),some (natV (fullN ch)),some (.ref D),v5])/\(∀ b o,H2 b=some o->b≠D->H' b=some o)/\GotAt H' D ch R (ns.take i)) ⟨⟨_,rfl⟩,fun b o h _=>h,[],hD2,trivial⟩ (fun i σ H' _ ⟨_,k,_⟩=>SqL.of (k _ _ hr2 rD)) ?_ ?_⟩
  ·rintro i x σ H' hx ⟨⟨v5,rfl⟩,k,us,hD',au⟩;obtain⟨m,hm,rfl⟩:∃ m,ns[i]?=some m/\natV m=x:=by
    rw[aL] at hx;cases hq:ns[i]? with
    | none=>rw[hq] at hx; cases hx
    | some z=>rw[hq] at hx; cases hx; exact⟨z,rfl,rfl⟩
   have hmn:=ay hm;have hm2:=mt.bnd m hmn;have il:i<ns.length:=(ai.mp hm).1;have tk:ns.take (i+1)=ns.take i++[m]:=by rw[aV,hm]; rfl
   have kl:(gvs (ns.take i) us).length<sizeLine:=by
    unfold gvs;rw[ab,List.length_zip,bB,aw];lia
   have kH:∀ b o,H b=some o->H' b=some o:=fun b o h=>k _ _ (E2 _ _ h) fun z=>by rw[z,nD] at h; cases h
   have mi:m∉ns.take i:=fun z=>by
    obtain⟨a,ha⟩:=bN z;have al:a<i:=by have:=(ai.mp ha).1; rw[bB] at this; lia
    rw[ck al] at ha;have:=(io Aa nsn).mp (ha.trans hm.symm);lia
   have fin:∀ (u:V) (H3:Hp),(∀ b o,H' b=some o->H3 b=some o)->R m H3 u->DPut H3 D (natV m) u (L2.upd H3 D (.dK (gvs (ns.take (i+1)) (us++[u]))))/\((∃ v5,[some (V.ref L),some ve,some (.ref j),some (natV (fullN ch)),some (.ref D),some (natV m)]=[some (V.ref L),some ve,some (.ref j),some (natV (fullN ch)),some (.ref D),v5])/\(∀ b o,H2 b=some o->b≠D->(L2.upd H3 D (.dK (gvs (ns.take (i+1)) (us++[u])))) b=some o)/\GotAt (L2.upd H3 D (.dK (gvs (ns.take (i+1)) (us++[u])))) D ch R (ns.take (i+1))):=fun u H3 e3 ru=>by
    have hD3:=e3 _ _ hD';have up:∀ b o,H3 b=some o->b≠D->(L2.upd H3 D (.dK (gvs (ns.take (i+1)) (us++[u])))) b=some o:=fun b o h n=>by rw[jA n]; exact h
    refine⟨?_,⟨_,rfl⟩,fun b o h n=>up b o (e3 _ _ (k b o h n)) n,us++[u],j6,?_⟩
    ·have:=DPut.k (k:=Sum.inl ((m:Nat):Int)) (v:=u) hD3 kl;rw[jK7 _ (jCE mi),<- jRW au.len,<- tk] at this;exact this
    ·rw[tk];refine All2.snoc ?_ ((ro m u).keep _ _ D _ hD3 (by rw[<- tk]; exact up) ru);rw[<- tk];exact au.imp fun n u h=>(ro n u).keep _ _ D _ hD3 up ((ro n u).ext _ _ e3 h)
   refine⟨_,rfl,_,rfl,rfl,_,rfl,?_⟩;have ef:decide (natV m=natV (fullN ch))=true↔m=fullN ch:=by
    rw[aW];exact⟨fun h=>by have:=V.int.inj h; lia,fun h=>by rw[h]⟩
   refine ite2 (fun h=>?_) (fun h=>?_)
   ·have h:=ef.mp h;obtain⟨f1,f2⟩:=fin ve H' (fun b o h=>h) (by rw[h]; exact(ro _ _).ext _ _ kH he);exact⟨_,rfl,_,rfl,_,rfl,D,_,rfl,f1,f2⟩
   ·have h:m≠fullN ch:=fun z=>h (ef.mpr z);refine⟨rfl,_,rfl,_,rfl,L,ch,m,rfl,hL.ext kH,ok,hm2,h,fun r4 H4 ⟨vs4,hr4,av4⟩ e4 n4=>?_⟩;have hD4:=e4 _ _ hD';have vl4:vs4.length<=33:=by
     rw[av4.len];have hlow:=jCO hm2 h;refine be (bb _ _) ?_;rw[ag,aA hlow];exact ok.len _ _ (aA hlow)
    refine⟨r4,rfl,⟨_,SqL.of hr4⟩,jAQ (xs:=vs4) (fun σ=>∃ v1 v2,σ=[v1,v2,some (.ref D),some (natV m)]) (fun H' zs t=>All2 (fun v c=>∃ q u,v= .ref q/\H' q=some (.tup [.int c.1,u])/\R (m|||c.2) H4 u) zs ((chAt ch m).take t)) ⟨fun H=>trivial,fun H H' zs t tu hz=>hz.imp fun v c ⟨q,u,a1,a2,a3⟩=>⟨q,u,a1,tu _ _ a2,a3⟩,fun H zs t hz=>?_⟩ hr4 (by rw[aw]; lia) ⟨_,_,rfl⟩ ?_ ?_⟩
    ·rw[hz.len];exact br _ _
    ·rintro t x σ' H5 zs hx ⟨v1,v2,rfl⟩ e5 hz5 S1 S2 yes no;obtain⟨c,hc,qa,rfl,hq⟩:=av4.get' hx;have hcm:=ay hc;obtain⟨u1,u2⟩:=ok.up hm2 h hcm;have ut:=mt.up m hmn h c hcm;have up:(m|||c.2)∈ns.take i:=by
      obtain⟨a,ha⟩:=bN ut;have al:a<i:=by
       refine cJ fun z=>?_;have a1:=(ai.mp ha);have m1:=(ai.mp hm);rcases eY i a with y | y
       ·have:=bV.mp srt i a il a1.1 y;rw[a1.2,m1.2] at this;lia
       ·have:a=i:=by lia
        subst this;rw[hm] at ha;have:=bq ha;lia
      exact ay (i:=a) (by rw[ck al]; exact ha)
     obtain⟨u,hu,ru⟩:=jFW au (nsn.sublist (dy _ _)) up;have et:(chAt ch m).take (t+1)=(chAt ch m).take t++[c]:=by rw[aV,hc]; rfl
     have dg:DGet H5 D (.int (Builtin.bitOr (m:Int) (c.2:Int))) (some u):=by
      rw[jCX,<- hu];exact DGet.k (k:=Sum.inl (((m|||c.2:Nat):Nat):Int)) (e5 _ _ hD4)
     refine⟨qa,_,rfl,SqT.of (e5 _ _ hq),rfl,_,_,rfl,_,_,rfl,rfl,?_⟩;dsimp only [yL];rw[ao rfl];refine⟨_,rfl,_,rfl,_,rfl,_,rfl,_,_,rfl,rfl,D,u,rfl,dg,by show (2:Nat)<=_; decide,fun r6 H6 d6 e6=>yes _ _ _ ⟨_,_,rfl⟩ e6 ?_⟩;show All2 _ _ ((chAt ch m).take (t+1));rw[et];exact(hz5.imp fun v c ⟨q,u,a1,a2,a3⟩=>⟨q,u,a1,e6 _ _ a2,a3⟩).snoc ⟨r6,u,rfl,d6,(ro _ _).ext _ _ e4 ru⟩
    ·rintro D7 H7 zs hD7 e7 n7 hz7;rw[av4.len,aZ] at hz7;refine⟨zo.ext _ _ (fun b o h=>e7 _ _ (e4 _ _ (kH b o h))) hzh,D7,zs,m,rfl,hD7,hm2,h,hz7.imp fun v c ⟨q,u,a1,a2,a3⟩=>⟨q,u,a1,a2,(ro _ _).ext _ _ e7 a3⟩,fun rr H8 r8 e8=>?_⟩;obtain⟨f1,f2⟩:=fin rr H8 (fun b o h=>e8 _ _ (e7 _ _ (e4 _ _ h))) r8;exact⟨_,rfl,_,rfl,D,_,rfl,f1,f2⟩
  ·rintro σ H' ⟨⟨v5,rfl⟩,k,got⟩;rw[ab,aZ] at got;exact⟨_,rfl,q D ns H' got srt mt (fun b o h=>k _ _ (E2 _ _ h) fun z=>by rw[z,nD] at h; cases h) nD⟩
end
end Eo
namespace L2
open PySem
def spEx {α:Type}(p:α->Prop)(sp:α->Sp):Sp:=fun vs H Q E=>∃ a,p a/\sp a vs H Q E
theorem FnOk.ex {α:Type}{p:α->Prop}{sp:α->Sp}{P:Program}{w:World}{K:W.Frag}{mg:Ak}{Aq:Heap}{CX:CXT}{k:Nat}{f:Addr}{fd:FuncData}{ps:Am}(h:∀ a,p a->FnOk P w K mg Aq CX k f fd ps (sp a)):FnOk P w K mg Aq CX k f fd ps (spEx p sp):=
 ⟨fun vs H Q E ⟨a,pa,q⟩=>(h a pa).len vs H Q E q,fun A Ap s H args us vs Q E hr he hb hv ⟨a,pa,q⟩=>(h a pa).run A Ap s H args us vs Q E hr he hb hv q⟩
theorem Callee.mono {P:Program}{w:World}{K:W.Frag}{mg:Ak}{Aq:Heap}{Z:Shared->Hp->Prop}{zh:Hp->Prop}{i k:Nat}{a:Addr}{sp:Sp}(C:Callee P w K mg Aq Z zh i a sp)(h:i<=k):Callee P w K mg Aq Z zh k a sp:=
 ⟨C.fn,fun A Ap s H us vs Q E hr=>C.run A Ap s H us vs Q E (hr.mono h)⟩
theorem Callee.imp {P:Program}{w:World}{K:W.Frag}{mg:Ak}{Aq:Heap}{Z Z':Shared->Hp->Prop}{zh:Hp->Prop}{k:Nat}{a:Addr}{sp:Sp}(C:Callee P w K mg Aq Z zh k a sp)(h:∀ s H,Z' s H->Z s H):Callee P w K mg Aq Z' zh k a sp:=
 ⟨C.fn,fun A Ap s H us vs Q E hr he hz=>C.run A Ap s H us vs Q E hr he (h _ _ hz)⟩
theorem jW6 {a:Arguments}{b:Expr}{sc:Scope}{pos:Pos}{es:List Expr}{env:Env} :starEach (.Lambda a b sc pos::es) env=(false,eval (.Lambda a b sc pos) env)::starEach es env:=rfl
end L2
namespace Eo
open PySem L2
theorem got0 {H:Hp}{r:Addr}{ch:Ch}{R:RepT}{ns:List Nat}(g:GotAt H r ch R ns)(nd:ns.Pairwise (· > ·))(m:MetOk ch ns):∃ u,DGet H r (.int 0) (some u)/\R 0 H u:=by
 obtain⟨us,h1,h2⟩:=g.ex;obtain⟨u,hu,ru⟩:=jFW h2 (nd.imp fun {a b} h=>by lia) m.zero;refine⟨u,?_,ru⟩;have:=DGet.k (k:=Sum.inl (0:Int)) h1;rw[show valV (gvs ns us) (Sum.inl (0:Int))=some u from hu] at this;exact this
end Eo
namespace L2
open PySem PySem.Spec PyProof.Rows
end L2
namespace Eo
open PySem L2
def qC (pc:List Int×Int):Int:=pc.1.getD 0 0
def cntF (Ar:Ae)(t:Int):Nat:=Ar.countP fun pc=>decide (t<=qC pc)
def lead (Ar:Ae)(t:Int)(i:Nat):Nat:=(Ar.take i).countP fun pc=>decide (qC pc=t)
theorem jI8 (t:Int):∀ Ar:Ae,cntF Ar t=cntF Ar (t+1)+Ar.countP fun pc=>decide (qC pc=t)
 | []=>rfl
 | p::r=>by
  have ih:=jI8 t r;unfold cntF at ih ⊢;rw[cq,cq,cq,ih];by_cases h1:qC p=t
  ·have h2:t<=qC p:=Aa;have h3:¬ t+1<=qC p:=Aa;have h4:¬ t+1<=t:=Aa;simp [h1,h4]
   try lia
  ·by_cases h2:t<=qC p
   ·have h3:t+1<=qC p:=Aa;simp [h1,h2,h3];lia
   ·have h3:¬ t+1<=qC p:=Aa;simp [h1,h2,h3]
theorem jXW (Ar:Ae)(t:Int):cntF Ar t<=Ar.length:=List.countP_le_length
theorem jRG (Ar:Ae)(t:Int):2 ^ cntF Ar (t+1)*(1+lead Ar t Ar.length)<=2 ^ cntF Ar t:=by
 unfold lead;rw[aZ,jI8 t Ar,Nat.pow_add];refine jk _ ?_;have:=Nat.lt_two_pow_self (n:=Ar.countP fun pc=>decide (qC pc=t));lia
theorem jOB {Ar:Ae}{t:Int}{i:Nat}{pc:List Int×Int}(h:Ar[i]?=some pc):lead Ar t (i+1)=lead Ar t i+if qC pc=t then 1 else 0:=by
 unfold lead;rw[aV,h];show ((Ar.take i)++[pc]).countP _=_;rw[List.countP_append,cq,List.countP_nil];simp
theorem jIV {Ar:Ae}{t:Int}(h:Ar.length<=16):2 ^ cntF Ar t<=65536:=by
 have:=jXW Ar t;exact be (cS Ac (be this h)) Ac
def wJ (l:List (Int×Af)):Af:=l.flatMap fun p=>p.2.map fun x=>if p.1<0 then x else p.1::x
def wk (ch:Ch)(m:Nat):Af:=gv ch [[]] wJ m
theorem jH7 (a b:List (Int×Af)):wJ (a++b)=wJ a++wJ b:=jl
theorem jBA (ch:Ch):wk ch (fullN ch)=[[]]:=jVF
theorem jB9 {ch:Ch}{m:Nat}(o:ChOk ch)(h:m<2 ^ ch.length)(hn:m≠fullN ch):wk ch m=wJ ((chAt ch m).map fun c=>(c.1,wk ch (m|||c.2))):=jVE o h hn
theorem jKO (w:Nat):lowN (2 ^ w - 1)=w:=by
 refine jSY ?_ fun j hj=>?_
 ·rw[cU,aJ Aa]
 ·rw[cU,aq hj]
theorem jSX {m c:Nat}(h:c.testBit (lowN m)=true):lowN m<lowN (m|||c):=by
 refine cJ fun z=>?_;have n1:=jEJ (m|||c);rw[bQ] at n1;rcases eY (lowN (m|||c)) (lowN m) with y | y
 ·rw[jGF m _ y] at n1;cases n1
 ·rw[show lowN (m|||c)=lowN m by lia,h,eW] at n1;cases n1
theorem jCD {ch:Ch}(o:ChOk ch){P:Nat->Prop}(h0:P (fullN ch))(hs:∀ m,m<2 ^ ch.length->m≠fullN ch->(∀ c∈chAt ch m,P (m|||c.2))->P m):∀ m,m<2 ^ ch.length->P m:=by
 intro m hm;generalize hk:fullN ch - m=k
 induction k using strongRecOn generalizing m with
 | _ k ih=>
  by_cases hf:m=fullN ch
  ·rw[hf];exact h0
  ·have hlt:m<fullN ch:=by
    unfold fullN at hf ⊢;lia
   refine hs m hm hf fun c hc=>?_;obtain⟨u1,u2⟩:=o.up hm hf hc;exact ih (fullN ch - (m|||c.2)) Aa _ u2 rfl
theorem mem_wJ {l:List (Int×Af)}{x:Ag} :x∈wJ l↔∃ p∈l,∃ y∈p.2,x=if p.1<0 then y else p.1::y:=by
 unfold wJ;rw[eZ];refine exists_congr fun p=>gO fun _=>?_;rw[aQ];exact exists_congr fun y=>gO fun _=>eq_comm
theorem jJO {ch:Ch}(o:ChOk ch):∀ m,m<2 ^ ch.length->∀ x∈wk ch m,(∀ k∈x,0<=k/\k<32)/\x.length+lowN m<=ch.length:=by
 refine jCD o ?_ ?_
 ·intro x hx;rw[jBA,aI] at hx;subst hx;refine⟨fun k hk=>(by cases hk),?_⟩;unfold fullN;rw[jKO];simp
 ·intro m hm hf ih x hx;rw[jB9 o hm hf] at hx;obtain⟨p,hp,y,hy,rfl⟩:=mem_wJ.mp hx;obtain⟨c,hc,rfl⟩:=aQ.mp hp;obtain⟨i1,i2⟩:=ih c hc y hy;obtain⟨m1,m2,m3,m4,m5⟩:=o.mem hm hf hc;have lo:=jSX m1;dsimp only;split
  ·exact⟨i1,Aa⟩
  ·refine⟨fun k hk=>?_,by rw[aP]; lia⟩;rcases aG.mp hk with z | z
   ·subst z;lia
   ·exact i1 k z
theorem jM3 (l:Ag):l.getD 0 0=l.headD 0:=by cases l <;> rfl
theorem jLW (Ar:Ae)(t:Nat)(i:Nat)(hi:i<=Ar.length):(((upto Ar.length).take i).filter fun k=>decide ((j5 Ar k).headD 0=(t:Int))).length=lead Ar t i:=by
 induction i with
 | zero=>rfl
 | succ i ih=>
  have hil:i<Ar.length:=Aa;rw[jCF hil,bw,aF,ih Aa,jOB (aA hil)];congr 1;rw[b9,i4];have e:j5 Ar (i:Int)=Ar[i].1:=by
   unfold j5;rw[bE,ag,aA hil];rfl
  unfold qC;rw[e,jM3];by_cases h:Ar[i].1.headD 0=(t:Int)
  ·rw[ao (aq h),ao h];rfl
  ·rw[am (fun z=>h (aE z)),am h];rfl
theorem jS9 (Ar:Ae){s t:Int}(h:s<=t):cntF Ar t<=cntF Ar s:=by
 unfold cntF;refine List.countP_mono_left fun x _ hx=>?_;have:=aE hx;exact aq Aa
theorem jI3 {α β:Type}(f:α->List β)(B:Nat):∀ (l:List α),(∀ a∈l,(f a).length<=B)->(l.flatMap f).length<=l.length*B
 | [],_=>by simp
 | a::l,h=>by
  rw[gt,aF,aP,Nat.succ_mul];have h1:=h a (az ..);have h2:=jI3 f B l fun x hx=>h x (aB _ hx);lia
theorem jME {w:Int}{ms:Ag}{Ar:Ae}(g:Good 16 32 w ms Ar):∀ m,m<2 ^ (chs w.toNat ms Ar).length->(wk (chs w.toNat ms Ar) m).length<=2 ^ cntF Ar (lowN m:Nat):=by
 have o:ChOk (chs w.toNat ms Ar):=qR g;refine jCD o ?_ ?_
 ·rw[jBA];exact Nat.one_le_two_pow
 ·intro m hm hf ih;have hl:lowN m<w.toNat:=by
   have:=jCO hm hf;unfold chs at this
   rwa [kZ] at this
  rw[jB9 o hm hf];unfold wJ;refine be (jI3 _ (2 ^ cntF Ar ((lowN m:Nat)+1:Int)) _ fun p hp=>?_) ?_
  ·obtain⟨c,hc,rfl⟩:=aQ.mp hp;rw[ab];have lo:=jSX (o.mem hm hf hc).1;exact be (ih c hc) (cS Ac (jS9 Ar Aa))
  ·rw[ab,Nat.mul_comm];refine be (jk _ ?_) (jRG Ar (lowN m:Nat));unfold chAt;refine be (bb _ _) ?_;unfold chs;rw[ag,yO hl];show (yI ms Ar Ar.length (lowN m)).length<=_;unfold yI;rw[aF,ab,jLW Ar _ _ (ak _)];split <;> simp only [aP,cH] <;> lia
theorem jEY (a b:Int):decide (V.int a=V.int b)=decide (a=b):=by
 rw[bP,aW,aW];exact⟨fun h=>V.int.inj h,fun h=>by rw[h]⟩
def LsAt (H:Hp)(us:List V)(ws:Af):Prop:=All2 (fun v x=>∃ a,v=V.ref a/\H a=some (.tup (x.map V.int))) us ws
theorem LsAt.mono {H H':Hp}{us:List V}{ws:Af}(t:Tups H H')(h:LsAt H us ws):LsAt H' us ws:=All2.imp (fun v x ⟨a,e,q⟩=>⟨a,e,t _ _ q⟩) h
def cvs (w:Int)(ms:Ag)(Ar:Ae):Af:=(wk (chs w.toNat ms Ar) 0).map srt
structure MkOk (w:Nat)(t:Nat)(hs:Ag)(m:Nat):Prop where
 lt:m<2 ^ w
 lo:∀ j,j<t->m.testBit j=true
 hi:∀ j,t<=j->j<w->(m.testBit j=true↔(j:Int)∈hs)
theorem MkOk.full {w:Nat}{hs:Ag}{m:Nat}(h:MkOk w w hs m):m=2 ^ w - 1:=jP1 h.lt h.lo
theorem MkOk.held {w t:Nat}{hs:Ag}{m:Nat}(h:MkOk w t hs m)(ht:t<w)(hm:(t:Int)∈hs):MkOk w (t+1) hs m:=by
 refine⟨h.lt,fun j hj=>?_,fun j h1 h2=>h.hi j Aa h2⟩;rcases eY j t with y | y
 ·exact h.lo j y
 ·rw[show j=t by lia];exact(h.hi t (ak _) ht).mpr hm
theorem MkOk.low {w t:Nat}{hs:Ag}{m:Nat}(h:MkOk w t hs m)(ht:t<w)(hm:¬ (t:Int)∈hs):lowN m=t:=
 jSY (eL.mpr fun z=>hm ((h.hi t (ak _) ht).mp z)) h.lo
theorem MkOk.ne {w t:Nat}{hs:Ag}{m:Nat}(h:MkOk w t hs m)(ht:t<w)(hm:¬ (t:Int)∈hs):m≠2 ^ w - 1:=fun z=>by
 have:=h.low ht hm;rw[z,jKO] at this;lia
theorem MkOk.may {w t:Nat}{hs:Ag}{m:Nat}(h:MkOk w t hs m)(ht:t<w):MkOk w (t+1) hs (m|||2 ^ t):=by
 refine⟨ik h.lt (gH Ac ht),fun j hj=>?_,fun j h1 h2=>?_⟩
 ·rw[bQ,cK];rcases eY j t with y | y
  ·rw[h.lo j y];rfl
  ·rw[show j=t by lia,aq rfl,eW]
 ·rw[bQ,cK,aJ Aa,Bool.or_false];exact h.hi j Aa h2
theorem MkOk.piece {w t:Nat}{hs:Ag}{m:Nat}{own:Ag}(h:MkOk w t hs m)(ht:t<w)(l:Lot (w:Int) own)(hd:(t:Int)∈own):MkOk w (t+1) (hs++own) (m|||maskN own):=by
 have b0:∀ x∈own,0<=x:=fun x hx=>(l.bnd x hx).1;refine⟨ik h.lt (jEI l.ris l.bnd),fun j hj=>?_,fun j h1 h2=>?_⟩
 ·rw[bQ,jA6 own j l.ris b0];rcases eY j t with y | y
  ·rw[h.lo j y];rfl
  ·rw[show j=t by lia,aq hd,eW]
 ·rw[bQ,jA6 own j l.ris b0,iZ,aW,aN];exact or_congr (h.hi j Aa h2) Iff.rfl
theorem MkOk.fits {w t:Nat}{hs:Ag}{m:Nat}{own:Ag}(h:MkOk w t hs m)(l:Lot (w:Int) own)(hd:own.headD 0=(t:Int)):(maskN own&&&m==0)=!(own.any fun x=>decide (x∈hs)):=by
 have b0:∀ x∈own,0<=x:=fun x hx=>(l.bnd x hx).1;have ge:∀ x∈own,(t:Int)<=x:=fun x hx=>by
  cases ho:own with
  | nil=>rw[ho] at hx; cases hx
  | cons a r=>
   rw[ho] at hd hx;have hd:a=t:=hd;have lr:=l.ris;rw[ho] at lr;rcases aG.mp hx with z | z
   ·lia
   ·have:=(cB.mp lr).1 x z;lia
 rw[bP,g8,cg,eJ];constructor
 ·intro z x hx hh;have hh:=aE hh;have bx:=l.bnd x hx;have t1:=(h.hi x.toNat (by have:=ge x hx; lia) Aa).mpr (by rw[show ((x.toNat:Nat):Int)=x by lia]; exact hh);have t2:(maskN own).testBit x.toNat=true:=by
   rw[jA6 own _ l.ris b0,aW,show ((x.toNat:Nat):Int)=x by lia];exact hx
  have t3:=bL (fun y=>y.testBit x.toNat) z;simp only [db,t1,t2,cr] at t3;cases t3
 ·intro z;apply dv;intro i;rw[db,cr,jA6 own i l.ris b0];by_cases hi:(i:Int)∈own
  ·have bx:=l.bnd _ hi;have gi:=ge _ hi;rw[aq hi,iw];refine eL.mpr fun y=>?_;exact z _ hi (aq ((h.hi i Aa Aa).mp y))
  ·rw[aJ hi];rfl
def wkI (ch:Ch)(ms:Ag)(Ar:Ae)(m t i:Nat):Af:=wJ (((yI ms Ar i t).filter fun c=>c.2&&&m==0).map fun c=>(c.1,wk ch (m|||c.2)))
theorem jM7 {n:Nat}{ms:Ag}{Ar:Ae}(hn:n<Ar.length)(u:Nat):yI ms Ar (n+1) u=yI ms Ar n u++if (j5 Ar (n:Int)).headD 0=(u:Int) then [((n:Int),maskN (j5 Ar n))] else []:=by
 unfold yI;rw[jCF hn,bw,aK,aY];congr 2;rw[b9];by_cases hu:(j5 Ar (n:Int)).headD 0=(u:Int)
 ·rw[ao (aq hu),ao hu];rfl
 ·rw[am (fun z=>hu (aE z)),am hu];rfl
theorem jQ4 {ch:Ch}{ms:Ag}{Ar:Ae}{m t:Nat}(hb:m.testBit t=false):wkI ch ms Ar m t 0=if (t:Int)∈ms then wk ch (m|||2 ^ t) else []:=by
 unfold wkI;rw[jDF];by_cases h:(t:Int)∈ms
 ·have e:(2 ^ t&&&m==0)=true:=by
   rw[g8];apply dv;intro i;rw[db,cr,cK];by_cases hi:t=i
   ·subst hi;rw[hb,cC]
   ·rw[aJ hi];rfl
  rw[ao h,ao h,b9,ao e];show wJ [(-1,wk ch (m|||2 ^ t))]=_;unfold wJ;rw[gw];exact(bF fun x _=>ao (show (-1:Int)<0 by decide)).trans (eB _)
 ·rw[am h,am h];rfl
theorem jJP {ch:Ch}{ms:Ag}{Ar:Ae}{m t i:Nat}(hi:i<Ar.length):wkI ch ms Ar m t (i+1)=wkI ch ms Ar m t i++if (j5 Ar (i:Int)).headD 0=(t:Int)/\(maskN (j5 Ar (i:Int))&&&m==0)=true then (wk ch (m|||maskN (j5 Ar (i:Int)))).map ((i:Int):: ·) else []:=by
 unfold wkI;rw[jM7 hi,bw,aK,jH7];congr 1;by_cases h1:(j5 Ar (i:Int)).headD 0=(t:Int)
 ·rw[ao h1,b9];by_cases h2:(maskN (j5 Ar (i:Int))&&&m==0)=true
  ·rw[ao h2,ao ⟨h1,h2⟩];show wJ [((i:Int),wk ch (m|||maskN (j5 Ar (i:Int))))]=_;unfold wJ;rw[gw];exact bF fun x _=>am Aa
  ·rw[am h2,am (fun z=>h2 z.2)];rfl
 ·rw[am h1,am (fun z=>h1 z.1)];rfl
theorem jTD {w:Int}{ms:Ag}{Ar:Ae}{m t:Nat}(g:Good 16 32 w ms Ar)(hm:m<2 ^ w.toNat)(hf:m≠2 ^ w.toNat - 1)(hl:lowN m=t)(ht:t<w.toNat):wkI (chs w.toNat ms Ar) ms Ar m t Ar.length=wk (chs w.toNat ms Ar) m:=by
 have o:ChOk (chs w.toNat ms Ar):=qR g;have el:(chs w.toNat ms Ar).length=w.toNat:=kZ _ _ _ _;rw[jB9 o (by rw[el]; exact hm) (by unfold fullN; rw[el]; exact hf)];unfold wkI chAt;have:(chs w.toNat ms Ar).getD (lowN m) []=yI ms Ar Ar.length t:=by
  rw[hl,ag];unfold chs;rw[yO ht];rfl
 rw[this]
theorem jQ5 {ch:Ch}{ms:Ag}{Ar:Ae}{m t i:Nat}(hi:i<=Ar.length):(wkI ch ms Ar m t i).length<=(wkI ch ms Ar m t Ar.length).length:=by
 have key:∀ d i,i+d=Ar.length->(wkI ch ms Ar m t i).length<=(wkI ch ms Ar m t Ar.length).length:=by
  intro d
  induction d with
  | zero=>intro i h; rw[show i=Ar.length by lia]; exact ak _
  | succ d ih=>
   intro i h;refine be ?_ (ih (i+1) Aa);rw[jJP Aa,aF];lia
 exact key (Ar.length - i) i Aa
def jFE (d:Nat):Sp:=fun vs H Q _=>∃ (b h:Addr) (w:Int) (t:Nat) (ms:Ag) (Ar:Ae) (hs:Ag) (m:Nat),vs=[.ref b, .int (t:Int), .ref h]/\BoxAt H b w ms Ar/\Good 16 16 w ms Ar/\(t:Int)<=w/\w - t<=d/\H h=some (.tup (hs.map V.int))/\hs.length<=16*t/\MkOk w.toNat t hs m/\
 ∀ l us H',H' l=some (.lst us)->LsAt H' us (wk (chs w.toNat ms Ar) m)->Ext H H'->Q (.ref l) H'
def spNo:Sp:=fun _ _ _ _=>False
def jG0:Nat->Sp
 | 0=>spNo
 | d+1=>jFE d
theorem ok_no {k:Nat}{f:Addr}{fd:FuncData}{ps:Am} :FnOk P w K mg Aq CX0 k f fd ps spNo:=⟨fun _ _ _ _ h=>h.elim,fun _ _ _ _ _ _ _ _ _ _ _ _ _ h=>h.elim⟩
abbrev nFrom:Am:=["box","thing","held","found","k","own"]
theorem scFrom:FnScope nFrom ["box","thing","held"] (j8 xG):= {}
abbrev XFrom (P:Program)(w:World)(K:W.Frag)(mg:Ak)(Aq:Heap)(f:Addr)(ki:Value)(A:Around)(Ap:List Env)(s:Shared)(H:Hp)(E:XK):Cx:=XOf nFrom "_law_from" xG P w K mg Aq f ki A Ap s H E
def fromL {d:Nat}{sp:Sp}(T:Txt mg)(CF:Can P w K mg Aq "_law_from" (d+1) fF fdF ["box","thing","held"] sp)(hr:Room (d+1) (XFrom P w K mg Aq f ki A Ap s H0 E).A): { t:TS // JSs (XFrom P w K mg Aq f ki A Ap s H0 E) (jEM ((jE xG).getD 4 (.Pass ⟨0,0,0,0⟩))) t} :=
 have nd:=scFrom.nd
 ⟨_,(j9 (jR (i:=5) nd rfl lL (jH jI (jH jI (jH jI (jv 0 rfl vL) (je_int) jC) (jv 4 rfl vC) yU) (je_int) jC) jF9)
   (jD (yA (jt_w (jXH (jO qX (jH jI (jv 5 rfl vL) (je_int) jC) (jv 1 rfl vL) (jV _)) (jV8 (jDS (qZ (jK (jIB rfl) gD T.any Ab (j3 (kI (m:=[none,some 2]) (Nc:=["t","held"]) rfl (qP (jv 5 rfl vL)) rfl Ab Ab (jQ (psc:=j8 xG)) (jJ (N:=nFrom) rfl rfl Ab) (fun cl C fp s H=>jL (i:=0) (show (["t","held"]:Am).Nodup by decide+kernel) rfl yD) (fun cl C fp s H=>kR) (fun cl C fp s H=>(yV jD5 (jv 0 rfl jM) (jv 1 rfl kD) jBI)) y8) j7 jN) jN) qF))))) (jD (jR (i:=3) nd rfl lL (kY jQU (jv 3 rfl vL) (kI (m:=[none,some 4]) (Nc:=["rest","k"]) rfl (y6 (CF.je hr gD (j3 (jv 0 rfl vL) (j3 (kY yF (jv 1 rfl vL) (je_int)) (j3 (kY jD6 (jv 2 rfl vC) (jv 5 rfl vL)) j7 yP) yP) j4) j4)) rfl Ab Ab (jQ (psc:=j8 xG)) (jJ (N:=nFrom) rfl rfl Ab) (fun cl C fp s H=>jL (i:=0) (show (["rest","k"]:Am).Nodup by decide+kernel) rfl yD) (fun cl C fp s H=>kR) (fun cl C fp s H=>(kY jD6 (kP (j3 (jv 1 rfl kD) j7 j4)) (jv 0 rfl jM))) kS)) jJV)) jZ)))⟩
def fromB {d:Nat}{sp:Sp}(T:Txt mg)(CF:Can P w K mg Aq "_law_from" (d+1) fF fdF ["box","thing","held"] sp)(hr:Room (d+1) (XFrom P w K mg Aq f ki A Ap s H0 E).A): { t:TS // JSs (XFrom P w K mg Aq f ki A Ap s H0 E) ((jE xG).drop 4) t} :=
 have nd:=scFrom.nd
 ⟨_,(j9 (x6 bX rfl (jA7 gD T.range (j3 (jK jW gD T.len Ab (j3 (jH jI (jv 0 rfl vL) (je_int) jC) j7 jF) jF) j7 jG) jG) (jL (i:=4) nd rfl qY) (fromL T CF hr).2 kS) (jD (jP (jv 3 rfl vL))))⟩
def fromA {d:Nat}{sp:Sp}(T:Txt mg)(CF:Can P w K mg Aq "_law_from" (d+1) fF fdF ["box","thing","held"] sp)(hr:Room (d+1) (XFrom P w K mg Aq f ki A Ap s H0 E).A): { t:TS // JSs (XFrom P w K mg Aq f ki A Ap s H0 E) (jE xG) t} :=
 have nd:=scFrom.nd
 ⟨_,(j9 (yA (jO qX (jv 1 rfl vL) (jH jI (jv 0 rfl vL) (je_int) jC) (jV _)) (jD (jP (jBK (j3 (kP j7) j7 qN)))) jZ) (j9 (yA (jO jBH (jv 1 rfl vL) (jv 2 rfl vC) jBI) (jD (jP (CF.je hr gD (j3 (jv 0 rfl vL) (j3 (kY yF (jv 1 rfl vL) (je_int)) (j3 (jv 2 rfl vC) j7 j4) yP) j4) j4))) jZ) (j9 (jR (i:=3) nd rfl lL (jBK j7) jFA) (j9 (yA (jO jBH (jv 1 rfl vL) (jH jI (jv 0 rfl vL) (je_int) jC) jHQ) (jD (jR (i:=3) nd rfl lL (CF.je hr gD (j3 (jv 0 rfl vL) (j3 (kY yF (jv 1 rfl vL) (je_int)) (j3 (jv 2 rfl vC) j7 j4) yP) j4) j4) jY)) jZ) (fromB T CF hr).2))))⟩
theorem jFO {d:Nat}(T:Txt mg)(CF:Can P w K mg Aq "_law_from" (d+1) fF fdF ["box","thing","held"] (jG0 d))(hr:Room (d+1) (XFrom P w K mg Aq f ki A Ap s H0 E).A)
  {H H1:Hp}{b h l:Addr}{wi:Int}{t m:Nat}{ms:Ag}{Ar:Ae}{hs:Ag}{us:List V}{v4 v5:Option V}{D:Ends}(hB:BoxAt H b wi ms Ar) (g:Good 16 16 wi ms Ar) (t1:(t:Int)<wi) (hd:wi - t<=d) (hh:H h=some (.tup (hs.map V.int))) (hl:hs.length<=16*t) (mk:MkOk wi.toNat t hs m) (hnt:¬ (t:Int)∈hs)
  (e1:Ext H H1) (hf:H1 l=some (.lst us)) (fc:LsAt H1 us (wkI (chs wi.toNat ms Ar) ms Ar m t 0))
  (q:∀ l us H',H' l=some (.lst us)->LsAt H' us (wk (chs wi.toNat ms Ar) m)->Ext H H'->D.rt (.ref l) H'):
  (fromB T CF hr).1 D [some (.ref b),some (.int (t:Int)),some (.ref h),some (.ref l),v4,v5] H1:=by
 obtain⟨qm,qp,ps,b1,b2,b3,b4⟩:=hB.ex;have pl:=b4.len;have gl:=g.pl;have w0:=g.w0;have w1:=g.w1;have g32:Good 16 32 wi ms Ar:=g.wide Aa Aa;have tw:t<wi.toNat:=Aa;have o:ChOk (chs wi.toNat ms Ar):=qR g32;have el:(chs wi.toNat ms Ar).length=wi.toNat:=kZ _ _ _ _;have all:=jTD (Ar:=Ar) (ms:=ms) g32 mk.lt (mk.ne tw hnt) (mk.low tw hnt) tw;have wlen:(wk (chs wi.toNat ms Ar) m).length<=65536:=be (jME g32 m (by rw[el]; exact mk.lt)) (jIV Aa);refine⟨_,rfl,b,_,2,_,rfl,rfl,SqT.of (e1 _ _ b1),rfl,qp,_,rfl, .inr (SqT.of (e1 _ _ b3)),_,rfl,Aa,Aa,jCS (fun i σ H'=>(∃ l us v4 v5,σ=[some (.ref b),some (.int (t:Int)),some (.ref h),some (.ref l),v4,v5]/\H' l=some (.lst us)/\LsAt H' us (wkI (chs wi.toNat ms Ar) ms Ar m t i))/\Ext H H') ⟨⟨_,_,_,_,rfl,hf,fc⟩,e1⟩ ?_ ?_⟩
 ·rintro i σ H2 hi ⟨⟨l2,us2,v4,v5,rfl,g1,g3⟩,e2⟩;have hil:i<ps.length:=Aa;have hip:i<Ar.length:=Aa;have hy1:ps[i]?=some ps[i]:=aA hil;obtain⟨pc,hpc,pa,pq,hpe,c1,c2⟩:=b4.at hy1;have hlot:=(g.pg pc (ay hpc)).lot;have et:j5 Ar (i:Int)=pc.1:=by
   unfold j5;rw[bE,ag,hpc];rfl
  have lt2:pc.1.length<=16:=by
   have:=yT _ 0 wi hlot.ris hlot.bnd;lia
  have lt0:atI (pc.1.map V.int) 0=some (.int (pc.1.headD 0)):=by
   cases z:pc.1 with
   | nil=>exact absurd z hlot.ne
   | cons a r=>exact yQ (j:=0) rfl
  have at1:atI ps (0+(i:Int))=some (.ref pa):=by rw[iT]; exact yQ (by rw[hy1,hpe])
  have hsu:=jJP (ch:=chs wi.toNat ms Ar) (ms:=ms) (m:=m) (t:=t) hip;rw[et] at hsu;have ul:us2.length<=65536:=by
   rw[g3.len];exact be (jQ5 Aa) (by rw[all]; exact wlen)
  have keep:∀ (v4 v5:Option V) (H3:Hp),Ext H2 H3->wkI (chs wi.toNat ms Ar) ms Ar m t (i+1)=wkI (chs wi.toNat ms Ar) ms Ar m t i->(∃ l us v4' v5',([some (.ref b),some (.int (t:Int)),some (.ref h),some (.ref l2),v4,v5]:St)=[some (.ref b),some (.int (t:Int)),some (.ref h),some (.ref l),v4',v5']/\H3 l=some (.lst us)/\LsAt H3 us (wkI (chs wi.toNat ms Ar) ms Ar m t (i+1)))/\Ext H H3:=fun v4 v5 H3 e3 ez=>⟨⟨l2,us2,v4,v5,rfl,e3 _ _ g1,by rw[ez]; exact g3.mono e3.tups⟩,e2.trans e3⟩;refine⟨_,rfl,b,_,2,_,rfl,rfl,SqT.of (e2 _ _ b1),rfl,_,rfl,qp,_,_,_,rfl,rfl,SqT.of (e2 _ _ b3),at1,pa,_,0,_,rfl,rfl,SqT.of (e2 _ _ c1),rfl,?_⟩;refine⟨_,rfl,pq,_,0,_,rfl,rfl,SqT.of (e2 _ _ c2),lt0,_,rfl,rfl,_,rfl,?_⟩;rw[jEY];refine ite2 (fun h1=>?_) (fun h1=>?_)
  ·have h1:pc.1.headD 0=(t:Int):=aE h1;have fi:=mk.fits (own:=pc.1) (by rw[show ((wi.toNat:Nat):Int)=wi by lia]; exact hlot) h1;refine⟨_,rfl,pq,rfl,⟨_,SqT.of (e2 _ _ c2)⟩,jCV (xs:=pc.1.map V.int) (fun σ=>∃ v,σ=[v,some (.ref h)]) (mapZ pc.1 fun x=>V.bl (decide (x∈hs))) (mapZ.ok _ _) (e2 _ _ c2) (by rw[ab,aw]; lia) ⟨_,rfl⟩ ?_ ?_⟩
   ·rintro j x σ' H' zs hx ⟨v,rfl⟩ e hz S1 S2 yes no;obtain⟨z,hz',rfl⟩:=int_at hx;dsimp only [kJ,yL];rw[ao rfl];refine⟨_,rfl,_,rfl,h,_,rfl, .inr (SqT.of (e _ _ (e2 _ _ hh))),rfl,kQ _,?_⟩;rw[yG];exact yes _ _ _ ⟨_,rfl⟩ (Ext.refl _) (hz.yes hz')
   ·rintro D' H3 zs h2 e3 hn hz;have hz:=hz.all (by rw[ab]; exact ak _);have hz2:zs=(pc.1.map fun x=>decide (x∈hs)).map V.bl:=by rw[hz,bH]; rfl
    rw[hz2] at h2;refine⟨D',_,rfl,SqL.of h2,_,rfl,?_⟩;have ea:((pc.1.map fun x=>decide (x∈hs)).any id)=pc.1.any fun x=>decide (x∈hs):=by rw[any_map]; rfl
    rw[ea];have E3:=e2.trans e3;refine ite2 (fun h3=>?_) (fun h3=>keep _ _ H3 e3 ?_)
    ·have h3:(maskN pc.1&&&m==0)=true:=by rw[fi]; exact h3
     rw[ao ⟨h1,h3⟩] at hsu;cases d with
     | zero=>lia
     | succ d=>
     have htm:(t:Int)∈pc.1:=by rw[<- h1]; exact jGR hlot.ne
     refine⟨_,rfl,_,rfl,_,rfl,_,_,rfl,rfl,_,rfl,_,rfl,h,pq,_,_,rfl,rfl,E3 _ _ hh,E3 _ _ c2,by rw[ab,ab,aw]; lia,fun r H4 hr4 e4=>?_⟩;have E4:=E3.trans e4;refine⟨b,r,wi,t+1,ms,Ar,hs++pc.1,m|||maskN pc.1,rfl,hB.mono E4.tups,g,Aa,Aa,by rw[aK]; exact hr4,by rw[aF]; lia,mk.piece tw (by rw[show ((wi.toNat:Nat):Int)=wi by lia]; exact hlot) htm,fun l5 us5 H5 hl5 hc5 e5=>?_⟩;have E5:=E4.trans e5;have mlt:m|||maskN pc.1<2 ^ (chs wi.toNat ms Ar).length:=by
      rw[el];exact(mk.piece tw (by rw[show ((wi.toNat:Nat):Int)=wi by lia]; exact hlot) htm).lt
     have u5:us5.length<=65536:=by
      rw[hc5.len];exact be (jME g32 _ mlt) (jIV Aa)
     refine⟨l5,rfl,⟨_,SqL.of hl5⟩,jAQ (xs:=us5) (fun σ=>∃ v,σ=[v,some (.int (0+(i:Int)))]) (fun H' zs j=>LsAt H' zs (((wk (chs wi.toNat ms Ar) (m|||maskN pc.1)).take j).map ((i:Int):: ·))) ⟨fun H=>trivial,fun H H' zs j tt h=>h.mono tt,fun H zs j h=>?_⟩ hl5 (by rw[aw]; lia) ⟨_,rfl⟩ ?_ ?_⟩
     ·rw[h.len,ab];exact br _ _
     ·rintro j x σ' H' zs hx ⟨v,rfl⟩ e hz S1 S2 yes no;obtain⟨ks,hks,a,rfl,ha⟩:=hc5.get' hx;have kl:=(jJO o _ mlt ks (ay hks)).2;dsimp only [kJ,yL];rw[ao rfl];refine⟨_,rfl,by rw[aw]; show 1<=_; lia,fun r6 H6 hr6 e6=>⟨_,rfl,r6,a,_,_,rfl,rfl,hr6,e6 _ _ (e _ _ ha),by rw[ab,aw]; show 1+_<=_; lia,fun r7 H7 hr7 e7=>?_⟩⟩;have e67:=e6.trans e7;refine yes _ _ _ ⟨_,rfl⟩ e67 ?_;show LsAt H7 _ (((wk (chs wi.toNat ms Ar) (m|||maskN pc.1)).take (j+1)).map ((i:Int):: ·));rw[aV,hks,aK];refine All2.snoc (LsAt.mono e67.tups hz) ⟨r7,rfl,?_⟩;rw[hr7,iT];rfl
     ·rintro D6 H6 zs h26 e6 hn6 hz6;rw[hc5.len,aZ] at hz6;have zl:zs.length<=65536:=by
       rw[hz6.len,ab,<- hc5.len];exact u5
      refine⟨l2,D6,_,_,rfl,rfl,e6 _ _ (e5 _ _ (e4 _ _ (e3 _ _ g1))),h26,by rw[aw]; lia,fun r7 H7 hr7 e7 hn7=>?_⟩;have E37:=((e3.trans e4).trans e5).trans (e6.trans e7);refine⟨⟨r7,_,_,_,rfl,hr7,?_⟩,e2.trans E37⟩;rw[hsu];exact All2.append (LsAt.mono E37.tups g3) (LsAt.mono e7.tups hz6)
    ·rw[hsu,am,ba];rintro ⟨_,z⟩;rw[fi] at z;exact h3 z
  ·refine iteF (keep _ _ H2 (Ext.refl _) ?_);rw[hsu,am,ba];rintro ⟨z,_⟩;exact h1 (aq z)
 ·rintro σ H2 ⟨⟨l2,us2,v4,v5,rfl,g1,g3⟩,e2⟩;have em:((ps.length:Int)).toNat=Ar.length:=Aa;rw[em,all] at g3;exact⟨_,rfl,q l2 us2 H2 g1 g3 e2⟩
theorem jI2 {fd:FuncData}(d:Nat)(F:Fun K "_law_from" "_law_from" xG f fd)(T:Txt mg)(CF:Can P w K mg Aq "_law_from" (d+1) f fd ["box","thing","held"] (jG0 d)):
  FnOk P w K mg Aq CX0 (d+2) f fd ["box","thing","held"] (jFE d):=by
 refine F.ok scFrom (fun vs H Q E h=>?_) (fun ki A Ap s H vs Q E hr h=>?_)
 ·obtain⟨_,_,_,_,_,_,_,_,rfl,_⟩:=h;rfl
 ·obtain⟨b,h,wi,t,ms,Ar,hs,m,rfl,hB,g,t1,hd,hh,hl,mk,q⟩:=h;obtain⟨qm,qp,ps,b1,b2,b3,b4⟩:=hB.ex;have gl:=g.pl;have w0:=g.w0;have w1:=g.w1;have el:(chs wi.toNat ms Ar).length=wi.toNat:=kZ _ _ _ _;refine⟨_,(fromA T CF hr).2.h,?_⟩;refine⟨_,rfl,_,rfl,b,_,0,_,rfl,rfl,SqT.of b1,rfl,rfl,_,rfl,?_⟩;rw[jEY];refine ite2 (fun h1=>?_) (fun h1=>?_)
  ·have h1:(t:Int)=wi:=aE h1;have tw:t=wi.toNat:=Aa;subst tw;have mf:m=fullN (chs wi.toNat ms Ar):=by
    unfold fullN;rw[el];exact mk.full
   rw[mf,jBA] at q;refine⟨by rw[aw]; show 0<=_; lia,fun r1 H1 hr1 e1=>⟨by rw[aw]; show 1<=_; lia,fun r2 H2 hr2 e2 _=>?_⟩⟩;exact q r2 _ H2 hr2 ⟨⟨r1,rfl,e2 _ _ hr1⟩,trivial⟩ (e1.trans e2)
  ·have h1:¬ (t:Int)=wi:=fun h=>h1 (aq h);have tw:t<wi.toNat:=Aa;refine⟨_,rfl,_,rfl,h,_,rfl, .inr (SqT.of hh),rfl,kQ _,_,rfl,?_⟩;have hd1:∃ d',d=d'+1:=⟨d - 1,Aa⟩;obtain⟨d',rfl⟩:=hd1;have call:∀ (m':Nat) (H1:Hp) (Q':VK),MkOk wi.toNat (t+1) hs m'->Ext H H1->(∀ l us H',H' l=some (.lst us)->LsAt H' us (wk (chs wi.toNat ms Ar) m')->Ext H H'->Q' (.ref l) H')->jG0 (d'+1) [.ref b, .int ((t:Int)+1), .ref h] H1 Q' E0:=fun m' H1 Q' mk' e1 k=>by
    exact⟨b,h,wi,t+1,ms,Ar,hs,m',rfl,hB.mono e1.tups,g,Aa,Aa,e1 _ _ hh,Aa,mk',fun l us H' a1 a2 a3=>k l us H' a1 a2 (e1.trans a3)⟩
   rw[yG];refine ite2 (fun h2=>?_) (fun h2=>?_)
   ·have h2:(t:Int)∈hs:=aE h2;refine⟨_,rfl,_,rfl,_,_,rfl,rfl,_,rfl,call m H _ (mk.held tw h2) (Ext.refl _) fun l us H' a1 a2 a3=>?_⟩;exact q l us H' a1 a2 a3
   ·have h2:¬ (t:Int)∈hs:=fun z=>h2 (aq z);have hb:m.testBit t=false:=eL.mpr fun z=>h2 ((mk.hi t (ak _) tw).mp z);refine⟨by rw[aw]; show 0<=_; lia,fun l1 H1 hl1 e1 _=>?_⟩;refine⟨_,rfl,_,rfl,b,_,1,_,rfl,rfl,SqT.of (e1 _ _ b1),rfl,qm,_,rfl, .inr (SqT.of (e1 _ _ b2)),rfl,kQ _,_,rfl,?_⟩;rw[yG];have hz:=jQ4 (ch:=chs wi.toNat ms Ar) (ms:=ms) (Ar:=Ar) hb;refine ite2 (fun h3=>?_) (fun h3=>?_)
    ·rw[ao (aE h3)] at hz;refine⟨_,rfl,_,rfl,_,_,rfl,rfl,_,rfl,(show jG0 (d'+1) [.ref b, .int ((t:Int)+1), .ref h] H1 (fun x H2=>(fromB T CF hr).1 { nx:=fun x H'=>Q V.non H',rt:=Q} [some (.ref b),some (.int (t:Int)),some (.ref h),some x,none,none] H2) E0 from call (m|||2 ^ t) H1 _ (mk.may tw) e1 fun l us H' a1 a2 a3=>?_)⟩;exact jFO T CF hr hB g Aa hd hh hl mk h2 a3 a1 (by rw[hz]; exact a2) q
    ·rw[am (fun z=>h3 (aq z))] at hz;exact jFO T CF hr hB g Aa hd hh hl mk h2 e1 hl1 (by rw[hz]; trivial) q
theorem jNP {fd:FuncData}(F:Fun K "_law_from" "_law_from" xG f fd)(T:Txt mg)(hm:mg "_law_from" =some (.ref f))(kp:keepIn K (.ref f)=true)(hb:Binds K fd ["box","thing","held"] []):
  ∀ d:Nat,FnOk P w K mg Aq CX0 (d+2) f fd ["box","thing","held"] (jFE d)
 | 0=>jI2 0 F T ⟨ok_no,hm,kp,hb⟩
 | d+1=>jI2 (d+1) F T ⟨jNP F T hm kp hb d,hm,kp,hb⟩
def jDI:Sp:=fun vs H Q _=>∃ (b:Addr) (w:Int) (ms:Ag) (Ar:Ae),vs=[.ref b]/\BoxAt H b w ms Ar/\Good 16 16 w ms Ar/\
 ∀ l us H',H' l=some (.lst us)->LsAt H' us (cvs w ms Ar)->us.length<=65536->Ext H H'->Q (.ref l) H'
abbrev nCovs:Am:=["box"]
theorem scCovs:FnScope nCovs ["box"] (j8 sCovs):= {}
def covsA (T:Txt mg)(CF:Can P w K mg Aq "_law_from" 18 fF fdF ["box","thing","held"] (jFE 16))(hr:Room 18 (XOf nCovs "_law_coverings" sCovs P w K mg Aq f ki A Ap s H0 E).A): { t:TS // JSs (XOf nCovs "_law_coverings" sCovs P w K mg Aq f ki A Ap s H0 E) (jE sCovs) t} :=
 have nd:=scCovs.nd
 ⟨_,(jD (jP (kI (m:=[none]) (Nc:=["some"]) rfl (y6 (CF.je hr gD (j3 (jv 0 rfl vL) (j3 (je_int) (j3 (kP j7) j7 qN) kN) j4) j4)) rfl Ab Ab (jQ (psc:=j8 sCovs)) (jJ (N:=nCovs) rfl rfl Ab) (fun cl C fp s H=>jL (i:=0) (show (["some"]:Am).Nodup by decide+kernel) rfl yD) (fun cl C fp s H=>kR) (fun cl C fp s H=>(jU jJL gl_b T.tuple Ab (j3 (jK jAR gl_b T.sorted Ab (j3 (jv 0 rfl jM) j7 j4) j4) j7 jG) jG)) kS)))⟩
theorem jUZ (w:Nat):MkOk w 0 [] 0:=⟨dB _,fun j hj=>by lia,fun j _ _=>by simp⟩
theorem jUS {fd:FuncData}(F:Fun K "_law_coverings" "_law_coverings" sCovs f fd)(T:Txt mg)(CF:Can P w K mg Aq "_law_from" 18 fF fdF ["box","thing","held"] (jFE 16)):FnOk P w K mg Aq CX0 19 f fd ["box"] jDI:=by
 refine F.ok scCovs (fun vs H Q E h=>?_) (fun ki A Ap s H vs Q E hr h=>?_)
 ·obtain⟨_,_,_,_,rfl,_⟩:=h;rfl
 ·obtain⟨b,wi,ms,Ar,rfl,hB,g,q⟩:=h;have gl:=g.pl;have w0:=g.w0;have w1:=g.w1;have g32:Good 16 32 wi ms Ar:=g.wide Aa Aa;have o:ChOk (chs wi.toNat ms Ar):=qR g32;have el:(chs wi.toNat ms Ar).length=wi.toNat:=kZ _ _ _ _;have z0:0<2 ^ (chs wi.toNat ms Ar).length:=dB _;refine⟨_,(covsA T CF hr).2.h,?_⟩;refine⟨_,rfl,by rw[aw]; show 0<=_; lia,fun r1 H1 hr1 e1=>⟨b,r1,wi,0,ms,Ar,[],0,rfl,hB.mono e1.tups,g,Aa,Aa,hr1,by show 0<=_; lia,jUZ _,fun l us H2 a1 a3 a4=>?_⟩⟩;have ul:us.length<=65536:=by
   rw[a3.len];exact be (jME g32 _ z0) (jIV Aa)
  refine⟨l,rfl,⟨_,SqL.of a1⟩,jAQ (xs:=us) (fun σ=>∃ v,σ=[v]) (fun H' zs j=>LsAt H' zs (((wk (chs wi.toNat ms Ar) 0).take j).map srt)) ⟨fun H=>trivial,fun H H' zs j tt h=>h.mono tt,fun H zs j h=>?_⟩ a1 (by rw[aw]; lia) ⟨_,rfl⟩ ?_ ?_⟩
  ·rw[h.len,ab];exact br _ _
  ·rintro j x σ' H' zs hx ⟨v,rfl⟩ e hz S1 S2 yes no;obtain⟨ks,hks,a,rfl,ha⟩:=a3.get' hx;have kl:=(jJO o _ z0 ks (ay hks)).2;dsimp only [kJ,yL];rw[ao rfl];refine⟨_,rfl,a,ks,rfl,e _ _ ha,Aa,fun l6 ns hl6 sr pm=>⟨l6,_,rfl, .inl ⟨SqL.of j6,fun l7 hl7=>?_⟩⟩⟩;have e6:Ext H' (L2.upd H' l6 (.lst (ns.map V.int))):=(Ext.refl _).new hl6 _;have e7:Ext H' (L2.upd (L2.upd H' l6 (.lst (ns.map V.int))) l7 (.tup (ns.map V.int))):=e6.new hl7 _;refine yes _ _ _ ⟨_,rfl⟩ e7 ?_;show LsAt _ _ (((wk (chs wi.toNat ms Ar) 0).take (j+1)).map srt);rw[aV,hks,aK];refine All2.snoc (LsAt.mono e7.tups hz) ⟨l7,rfl,?_⟩;rw[j6,jC1 sr pm]
  ·rintro D6 H6 zs h26 e6 hn6 hz6;rw[a3.len,aZ] at hz6;exact q D6 zs H6 h26 hz6 (by rw[hz6.len,ab,<- a3.len]; exact ul) ((e1.trans a4).trans e6)
theorem jXX {w:Int}{ms:Ag}{Ar:Ae}{m:Nat}{c:Int×Nat}(hm:m<2 ^ (chs w.toNat ms Ar).length)(hf:m≠fullN (chs w.toNat ms Ar))(hc:c∈chAt (chs w.toNat ms Ar) m):c.1<Ar.length:=by
 have hl:lowN m<w.toNat:=by
  have:=jCO hm hf;unfold chs at this
  rwa [kZ] at this
 obtain⟨h1,_⟩:=aS.mp hc;unfold chs at h1;rw[ag,yO hl] at h1;have h1:c∈yI ms Ar Ar.length (lowN m):=h1;unfold yI at h1;rcases aN.mp h1 with z | z
 ·split at z
  ·rw[aI] at z;rw[z];show (-1:Int)<_;lia
  ·cases z
 ·obtain⟨k,hk,rfl⟩:=aQ.mp z;exact((kT Ar.length).bnd k (bI (aS.mp hk).1)).2
theorem jBV {w:Int}{ms:Ag}{Ar:Ae}{m:Nat}{c:Int×Nat}(hl:lowN m<w.toNat):c∈chAt (chs w.toNat ms Ar) m↔c.2&&&m=0/\((c=(-1,2 ^ lowN m)/\(lowN m:Int)∈ms)\/∃ k:Int,c=(k,maskN (j5 Ar k))/\0<=k/\k<Ar.length/\(j5 Ar k).headD 0=(lowN m:Int)):=by
 unfold chAt;rw[aS,g8,and_comm];refine gO fun _=>?_;unfold chs;rw[ag,yO hl];show c∈yI ms Ar Ar.length (lowN m)↔_;unfold yI;rw[aN];refine or_congr ?_ ?_
 ·by_cases h:(lowN m:Int)∈ms
  ·rw[ao h,aI];exact⟨fun z=>⟨z,h⟩,fun z=>z.1⟩
  ·rw[am h];exact⟨fun z=>(by cases z),fun z=>absurd z.2 h⟩
 ·rw[bK (by rw[kU]; exact ak _),aQ];constructor
  ·rintro ⟨k,hk,rfl⟩;obtain⟨h1,h2⟩:=aS.mp hk;have b:=(kT Ar.length).bnd k h1;exact⟨k,rfl,b.1,b.2,aE h2⟩
  ·rintro ⟨k,rfl,h1,h2,h3⟩;refine⟨k,aS.mpr ⟨?_,aq h3⟩,rfl⟩;unfold upto;exact aQ.mpr ⟨k.toNat,bo.mpr Aa,Aa⟩
structure CovM (w:Int)(ms:Ag)(Ar:Ae)(m:Nat)(x:Ag):Prop where
 nd:x.Nodup
 bnd:∀ k∈x,0<=k/\k<Ar.length
 off:∀ k∈x,∀ t∈j5 Ar k,m.testBit t.toNat=false
 dis:∀ k∈x,∀ k'∈x,k≠k'->∀ t∈j5 Ar k,t∉j5 Ar k'
 cov:∀ t:Nat,t<w.toNat->m.testBit t=false->(t:Int)∉ms->∃ k∈x,(t:Int)∈j5 Ar k
section
variable {w:Int}(g:Good 16 32 w ms Ar)
include g
theorem qB {k:Int}(h0:0<=k)(h1:k<Ar.length):Lot w (j5 Ar k):=(g.at (k:=k.toNat) Aa).lot
theorem jFI {k:Int}(h0:0<=k)(h1:k<Ar.length)(t:Nat):(maskN (j5 Ar k)).testBit t=decide ((t:Int)∈j5 Ar k):=jA6 _ t (qB g h0 h1).ris fun x hx=>((qB g h0 h1).bnd x hx).1
theorem jSV {k:Int}(h0:0<=k)(h1:k<Ar.length){m:Nat} :maskN (j5 Ar k)&&&m=0↔∀ t∈j5 Ar k,m.testBit t.toNat=false:=by
 have l:=qB g h0 h1;constructor
 ·intro h t ht;have bt:=l.bnd t ht;have q:=bL (fun z=>z.testBit t.toNat) h;simp only [db,cr,jFI g h0 h1] at q;rw[show ((t.toNat:Nat):Int)=t by lia,aq ht,iw] at q;exact q
 ·intro h;apply dv;intro i;rw[db,cr,jFI g h0 h1];by_cases hi:(i:Int)∈j5 Ar k
  ·have:=h _ hi;rw[bE] at this;rw[this,cC]
  ·rw[aJ hi];rfl
theorem jA8 {k:Int}(h0:0<=k)(h1:k<Ar.length):(j5 Ar k).headD 0∈j5 Ar k/\∀ t∈j5 Ar k,(j5 Ar k).headD 0<=t:=by
 have l:=qB g h0 h1;refine⟨jGR l.ne,fun t ht=>?_⟩;have r:=l.ris;cases z:j5 Ar k with
 | nil=>rw[z] at ht; cases ht
 | cons a q=>
  rw[z] at ht r;show a<=t;rcases aG.mp ht with y | y
  ·lia
  ·have:=(cB.mp r).1 t y;lia
theorem jFV:∀ m,m<2 ^ (chs w.toNat ms Ar).length->∀ x∈wk (chs w.toNat ms Ar) m,CovM w ms Ar m x:=by
 have o:ChOk (chs w.toNat ms Ar):=qR g;have el:(chs w.toNat ms Ar).length=w.toNat:=kZ _ _ _ _;refine jCD o ?_ ?_
 ·intro x hx;rw[jBA,aI] at hx;subst hx;refine⟨g4,fun k hk=>(by cases hk),fun k hk=>(by cases hk),fun k hk=>(by cases hk),fun t ht hb _=>?_⟩;unfold fullN at hb;rw[el,cU,aq ht] at hb;cases hb
 ·intro m hm hf ih x hx;have hl:lowN m<w.toNat:=by have:=jCO hm hf; rwa [el] at this
  rw[jB9 o hm hf] at hx;obtain⟨p,hp,y,hy,rfl⟩:=mem_wJ.mp hx;obtain⟨c,hc,rfl⟩:=aQ.mp hp;have I:=ih c hc y hy;have offm:∀ k∈y,∀ t∈j5 Ar k,m.testBit t.toNat=false:=fun k hk t ht=>by
   have:=I.off k hk t ht;rw[bQ,gK] at this;exact this.1
  obtain⟨hz,hcase⟩:=(jBV hl).mp hc;rcases hcase with ⟨rfl,hms⟩ | ⟨k,rfl,k0,k1,hd⟩
  ·dsimp only;rw[ao (show (-1:Int)<0 by decide)];refine⟨I.nd,I.bnd,offm,I.dis,fun t ht hb hn=>?_⟩;refine I.cov t ht ?_ hn;rw[bQ,hb,iu,cK,aJ];intro z;subst z;exact hn hms
  ·dsimp only at I hz ⊢;rw[am Aa];have ky:∀ t∈j5 Ar k,∀ k'∈y,t∉j5 Ar k':=fun t ht k' hk' ht'=>by
    have:=I.off k' hk' t ht';have bt:=(qB g k0 k1).bnd t ht;rw[bQ,jFI g k0 k1,show ((t.toNat:Nat):Int)=t by lia,aq ht,eW] at this;cases this
   have hhd:=(jA8 g k0 k1).1;refine⟨cF.mpr ⟨fun z=>ky _ hhd k z hhd,I.nd⟩,fun k' hk'=>?_,fun k' hk' t ht=>?_,fun k1' h1' k2' h2' ne t ht=>?_,fun t ht hb hn=>?_⟩
   ·rcases aG.mp hk' with z | z
    ·rw[z]; exact⟨k0,k1⟩
    ·exact I.bnd k' z
   ·rcases aG.mp hk' with z | z
    ·rw[z] at ht;exact(jSV g k0 k1).mp hz t ht
    ·exact offm k' z t ht
   ·rcases aG.mp h1' with z | z <;> rcases aG.mp h2' with u | u
    ·exact absurd (z.trans u.symm) ne
    ·rw[z] at ht;exact ky t ht _ u
    ·rw[u];intro q;exact ky t q _ z ht
    ·exact I.dis _ z _ u ne t ht
   ·by_cases hk:(t:Int)∈j5 Ar k
    ·exact⟨k,az .., hk⟩
    ·obtain⟨k',h1,h2⟩:=I.cov t ht (by rw[bQ,hb,jFI g k0 k1,aJ hk]; rfl) hn;exact⟨k',aB _ h1,h2⟩
theorem jIQ:∀ m,m<2 ^ (chs w.toNat ms Ar).length->∀ x,CovM w ms Ar m x->∃ y∈wk (chs w.toNat ms Ar) m,∀ k,k∈y↔k∈x:=by
 have o:ChOk (chs w.toNat ms Ar):=qR g;have el:(chs w.toNat ms Ar).length=w.toNat:=kZ _ _ _ _;have w0:=g.w0;refine jCD o ?_ ?_
 ·intro x C;refine⟨[],by rw[jBA]; exact aI.mpr rfl,fun k=>⟨fun z=>(by cases z),fun hk=>?_⟩⟩;exfalso;have b:=C.bnd k hk;have hh:=(jA8 g b.1 b.2).1;have hb:=(qB g b.1 b.2).bnd _ hh;have:=C.off k hk _ hh;unfold fullN at this;rw[el,cU,aq Aa] at this;cases this
 ·intro m hm hf ih x C;have hl:lowN m<w.toNat:=by have:=jCO hm hf; rwa [el] at this
  have hstep:=jB9 o hm hf;by_cases hx:∃ k∈x,(lowN m:Int)∈j5 Ar k
  ·obtain⟨k,hk,ht⟩:=hx;have b:=C.bnd k hk;have hd:(j5 Ar k).headD 0=(lowN m:Int):=by
    obtain⟨h1,h2⟩:=jA8 g b.1 b.2;have h3:=h2 _ ht;have hb:=(qB g b.1 b.2).bnd _ h1;have h4:=C.off k hk _ h1;rcases Int.lt_or_eq_of_le h3 with z | z
    ·have:=jGF m ((j5 Ar k).headD 0).toNat Aa;rw[this] at h4;cases h4
    ·exact z
   have fit:maskN (j5 Ar k)&&&m=0:=(jSV g b.1 b.2).mpr (C.off k hk);have hc:((k,maskN (j5 Ar k)):Int×Nat)∈chAt (chs w.toNat ms Ar) m:=(jBV hl).mpr ⟨fit, .inr ⟨k,rfl,b.1,b.2,hd⟩⟩;have memE:∀ j,j∈x.erase k↔j≠k/\j∈x:=fun j=>C.nd.mem_erase_iff;obtain⟨y,hy,hye⟩:=ih _ hc (x.erase k) ⟨C.nd.erase k,fun j hj=>C.bnd j ((memE j).mp hj).2,fun j hj t ht'=>by
     obtain⟨n1,n2⟩:=(memE j).mp hj;have bj:=C.bnd j n2;have bt:=(qB g bj.1 bj.2).bnd t ht';have:=C.dis j n2 k hk n1 t ht';rw[bQ,C.off j n2 t ht',jFI g b.1 b.2,show ((t.toNat:Nat):Int)=t by lia,aJ this];rfl,fun j1 h1 j2 h2=>C.dis j1 ((memE j1).mp h1).2 j2 ((memE j2).mp h2).2,fun t ht' hb hn=>by
     rw[bQ,gK,jFI g b.1 b.2,bR] at hb;obtain⟨j,hj,hjt⟩:=C.cov t ht' hb.1 hn;exact⟨j,(memE j).mpr ⟨fun z=>hb.2 (z ▸ hjt),hj⟩,hjt⟩⟩
   refine⟨k::y,?_,fun j=>?_⟩
   ·rw[hstep,mem_wJ];exact⟨_,cx hc,y,hy,by dsimp only; rw[am Aa]⟩
   ·rw[aG,hye,memE];constructor
    ·rintro (z | z)
     ·rw[z]; exact hk
     ·exact z.2
    ·intro z;by_cases hj:j=k
     ·exact .inl hj
     ·exact .inr ⟨hj,z⟩
  ·have hms:(lowN m:Int)∈ms:=cJ fun z=>hx (C.cov (lowN m) hl (jEJ m) z);have fit:2 ^ lowN m&&&m=0:=by
    apply dv;intro i;rw[db,cr,cK];by_cases hi:lowN m=i
    ·rw[<- hi,jEJ,cC]
    ·rw[aJ hi];rfl
   have hc:((-1,2 ^ lowN m):Int×Nat)∈chAt (chs w.toNat ms Ar) m:=(jBV hl).mpr ⟨fit, .inl ⟨rfl,hms⟩⟩;obtain⟨y,hy,hye⟩:=ih _ hc x ⟨C.nd,C.bnd,fun j hj t ht'=>by
     have bj:=C.bnd j hj;have bt:=(qB g bj.1 bj.2).bnd t ht';rw[bQ,C.off j hj t ht',iu,cK,aJ];intro z;refine hx ⟨j,hj,?_⟩;rw[z,show ((t.toNat:Nat):Int)=t by lia];exact ht',C.dis,fun t ht' hb hn=>by
     rw[bQ,gK] at hb;exact C.cov t ht' hb.1 hn⟩
   refine⟨y,?_,hye⟩;rw[hstep,mem_wJ];exact⟨_,cx hc,y,hy,by dsimp only; rw[ao Ac]⟩
theorem jQ3:∀ m,m<2 ^ (chs w.toNat ms Ar).length->(wk (chs w.toNat ms Ar) m).Pairwise fun y z=>¬ ∀ k,k∈y↔k∈z:=by
 have o:ChOk (chs w.toNat ms Ar):=qR g;have el:(chs w.toNat ms Ar).length=w.toNat:=kZ _ _ _ _;refine jCD o ?_ ?_
 ·rw[jBA];exact ev _ _
 ·intro m hm hf ih;have hl:lowN m<w.toNat:=by have:=jCO hm hf; rwa [el] at this
  rw[jB9 o hm hf];unfold wJ;rw[List.pairwise_flatMap];have at0:∀ c∈chAt (chs w.toNat ms Ar) m,∀ y∈wk (chs w.toNat ms Ar) (m|||c.2),∀ k∈y,(lowN m:Int)∉j5 Ar k:=fun c hc y hy k hk ht=>by
   have C:=jFV g _ (o.up hm hf hc).2 y hy;have:=C.off k hk _ ht;rw[bE,bQ,(o.mem hm hf hc).1,eW] at this;cases this
  constructor
  ·intro p hp;obtain⟨c,hc,rfl⟩:=aQ.mp hp;rw[bA];refine(eI.mp (ih c hc)).imp fun {y z} h=>?_;obtain⟨hy,hz,h⟩:=h;dsimp only;obtain⟨_,hcase⟩:=(jBV hl).mp hc;rcases hcase with ⟨rfl,hms⟩ | ⟨k,rfl,k0,k1,hd⟩
   ·rw[ao (show (-1:Int)<0 by decide),ao (show (-1:Int)<0 by decide)];exact h
   ·rw[am Aa,am Aa];intro q;refine h fun j=>?_;have kt:(lowN m:Int)∈j5 Ar k:=by rw[<- hd]; exact(jA8 g k0 k1).1
    have ny:k∉y:=fun u=>at0 _ hc y hy k u kt;have nz:k∉z:=fun u=>at0 _ hc z hz k u kt;have qj:=q j;rw[aG,aG] at qj;constructor
    ·intro u;rcases qj.mp (.inr u) with v | v
     ·rw[v] at u; exact absurd u ny
     ·exact v
    ·intro u;rcases qj.mpr (.inr u) with v | v
     ·rw[v] at u; exact absurd u nz
     ·exact v
  ·rw[bA];have pw:(chAt (chs w.toNat ms Ar) m).Pairwise fun a b=>a.1≠b.1:=by
    unfold chAt chs;rw[ag,yO hl];show ((yI ms Ar Ar.length (lowN m)).filter _).Pairwise _;refine ji _ ?_;unfold yI;rw[ci];refine⟨by split <;> simp,?_,fun a ha b hb=>?_⟩
    ·rw[bA];refine ji _ (List.Pairwise.sublist (dy _ _) ?_);exact(kT Ar.length).ris.imp fun {a b} h=>by
      show a≠b;lia
    ·obtain⟨k,hk,rfl⟩:=aQ.mp hb;have bk:=(kT Ar.length).bnd k (bI (aS.mp hk).1);split at ha
     ·rw[aI] at ha;rw[ha];show (-1:Int)≠k;lia
     ·cases ha
   refine(eI.mp pw).imp fun {c d} h=>?_;obtain⟨hc,hd',ne⟩:=h;intro x hx y hy q;obtain⟨u,hu,rfl⟩:=aQ.mp hx;obtain⟨v,hv,rfl⟩:=aQ.mp hy;dsimp only at hu hv q;obtain⟨_,h1⟩:=(jBV hl).mp hc;obtain⟨_,h2⟩:=(jBV hl).mp hd';have one:∀ (k:Int) (z:Ag),0<=k->k<Ar.length->(j5 Ar k).headD 0=(lowN m:Int)->(lowN m:Int)∈j5 Ar k:=fun k z k0 k1 e=>by rw[<- e]; exact(jA8 g k0 k1).1
   rcases h1 with ⟨rfl,_⟩ | ⟨k,rfl,k0,k1,hk⟩ <;> rcases h2 with ⟨rfl,_⟩ | ⟨j,rfl,j0,j1,hj⟩
   ·exact ne rfl
   ·rw[ao (show (-1:Int)<0 by decide),am Aa] at q;exact at0 _ hc u hu j ((q j).mpr (az ..)) (one j v j0 j1 hj)
   ·rw[am Aa,ao (show (-1:Int)<0 by decide)] at q;exact at0 _ hd' v hv k ((q k).mp (az ..)) (one k v k0 k1 hk)
   ·rw[am Aa,am Aa] at q;rcases aG.mp ((q k).mp (az ..)) with z | z
    ·exact ne z
    ·exact at0 _ hd' v hv k z (one k v k0 k1 hk)
end
structure IsCov (w:Int)(ms:Ag)(Ar:Ae)(c:Ag):Prop where
 ris:Ris Ar.length c
 dis:∀ k∈c,∀ k'∈c,k≠k'->∀ t∈j5 Ar k,t∉j5 Ar k'
 cov:∀ t:Int,0<=t->t<w->t∉ms->∃ k∈c,t∈j5 Ar k
section
variable {w:Int}(g:Good 16 32 w ms Ar)
include g
theorem yC {c:Ag} :c∈cvs w ms Ar↔IsCov w ms Ar c:=by
 have z0:0<2 ^ (chs w.toNat ms Ar).length:=dB _;have w0:=g.w0;unfold cvs;rw[aQ];constructor
 ·rintro ⟨x,hx,rfl⟩;have C:=jFV g 0 z0 x hx;have me:∀ k,k∈srt x↔k∈x:=fun k=>(kW x).mem_iff;refine⟨⟨?_,fun k hk=>C.bnd k ((me k).mp hk)⟩,fun k hk k' hk'=>C.dis k ((me k).mp hk) k' ((me k').mp hk'),fun t t0 t1 hn=>?_⟩
  ·exact(gh (jHC x) ((kW x).nodup_iff.mpr C.nd)).imp fun {a b} h=>by lia
  ·obtain⟨k,hk,hkt⟩:=C.cov t.toNat Aa (cr _) (by rw[show ((t.toNat:Nat):Int)=t by lia]; exact hn);exact⟨k,(me k).mpr hk,by rwa [show ((t.toNat:Nat):Int)=t by lia] at hkt⟩
 ·intro C;obtain⟨y,hy,hye⟩:=jIQ g 0 z0 c ⟨C.ris.ris.imp fun {a b} h=>by lia,C.ris.bnd,fun k hk t ht=>cr _,C.dis,fun t ht _ hn=>C.cov t Aa Aa hn⟩;refine⟨y,hy,?_⟩;have ny:=(jFV g 0 z0 y hy).nd;have nc:c.Nodup:=C.ris.ris.imp fun {a b} h=>by lia
  have pm:c.Perm y:=(eS nc ny).mpr fun k=>(hye k).symm;exact(jC1 (C.ris.ris.imp fun {a b} h=>by lia) pm).symm
theorem jI6:(cvs w ms Ar).Nodup:=by
 have z0:0<2 ^ (chs w.toNat ms Ar).length:=dB _;unfold cvs;refine bA.mpr ((jQ3 g 0 z0).imp fun {y z} h e=>h fun k=>?_);rw[<- (kW y).mem_iff,e,(kW z).mem_iff]
end
theorem jGY (w:Int)(ms:Ag)(Ar:Ae):(cvs w ms Ar).length=(wk (chs w.toNat ms Ar) 0).length:=ab ..
theorem mem_nmd {ts lot:Ag}{p:Int} :p∈nmd ts lot↔∃ t∈lot,t∈ts/\p=((ts.idxOf t:Nat):Int):=by
 unfold nmd;rw[(kW _).mem_iff];unfold plcs;rw[aQ];constructor
 ·rintro ⟨t,ht,rfl⟩;obtain⟨h1,h2⟩:=aS.mp ht;exact⟨t,h1,aE h2,rfl⟩
 ·rintro ⟨t,h1,h2,rfl⟩;exact⟨t,aS.mpr ⟨h1,aq h2⟩,rfl⟩
theorem jB1 {ts:Ag}{Ar:Ae}{ks:Ag}{j:Int}(h0:0<=j)(h1:j<ks.length):j5 (pick ts Ar ks) j=nmd ts (j5 Ar (ks.getD j.toNat 0)):=by
 have hj:j.toNat<ks.length:=Aa;unfold pick;show ((ks.map _).getD j.toNat ([],0)).1=_;rw[ag,aL,ag,aA hj];rfl
theorem jJ7 {ts:Ag}{a b:Int}(ha:a∈ts)(hb:b∈ts)(h:((ts.idxOf a:Nat):Int)=((ts.idxOf b:Nat):Int)):a=b:=by
 have e:ts.idxOf a=ts.idxOf b:=Aa;have h1:=(jCQ ha).1;rw[e,(jCQ hb).1] at h1;exact(bq h1).symm
structure SubCov (ms:Ag)(Ar:Ae)(ts ks S:Ag):Prop where
 ris:S.Pairwise (· < ·)
 sub:∀ k∈S,k∈ks
 dis:∀ k∈S,∀ k'∈S,k≠k'->∀ t∈j5 Ar k,t∉j5 Ar k'
 cov:∀ t∈ts,t∉ms->∃ k∈S,t∈j5 Ar k
def kOf (ks c:Ag):Ag:=c.map fun j=>ks.getD j.toNat 0
def jOf (ks S:Ag):Ag:=S.map fun k=>((ks.idxOf k:Nat):Int)
theorem kget {ks:Ag}{j:Int}(h0:0<=j)(h1:j<ks.length):ks.getD j.toNat 0∈ks/\ks[j.toNat]?=some (ks.getD j.toNat 0):=by
 have hj:j.toNat<ks.length:=Aa;rw[ag,aA hj];exact⟨cm hj,rfl⟩
theorem jKP {ks:Ag}{k:Int}(h:k∈ks):ks.getD ((ks.idxOf k:Nat):Int).toNat 0=k:=by
 rw[bE,ag,(jCQ h).1];rfl
theorem jRR {ks:Ag}(r:ks.Pairwise (· < ·)){j:Int}(h0:0<=j)(h1:j<ks.length):((ks.idxOf (ks.getD j.toNat 0):Nat):Int)=j:=by
 obtain⟨a,b⟩:=kget h0 h1;have nd:ks.Nodup:=r.imp fun {a b} h=>by lia
 have hlt:=bO.mpr a;have:=(io hlt nd).mp ((jCQ a).1.trans b.symm);lia
theorem kj {ks S:Ag}(h:∀ k∈S,k∈ks):kOf ks (jOf ks S)=S:=by
 unfold kOf jOf;rw[bH];exact(bF fun k hk=>jKP (h k hk)).trans (eB _)
theorem jGO {ks:Ag}(r:ks.Pairwise (· < ·)){i j:Int}(h0:0<=i)(h1:i<j)(h2:j<ks.length):ks.getD i.toNat 0<ks.getD j.toNat 0:=by
 have hi:i.toNat<ks.length:=Aa;have hj:j.toNat<ks.length:=Aa;rw[ag,ag,aA hi,aA hj];exact bV.mp r _ _ hi hj Aa
theorem jMT {ms:Ag}{Ar:Ae}{ts ks:Ag}(rt:ts.Pairwise (· < ·))(rk:ks.Pairwise (· < ·))(al:∀ k∈ks,∀ t∈j5 Ar k,t∈ts){c:Ag}(C:IsCov (ts.length:Int) (nmd ts ms) (pick ts Ar ks) c):SubCov ms Ar ts ks (kOf ks c):=by
 have pl:(pick ts Ar ks).length=ks.length:=ab ..;have cb:∀ j∈c,0<=j/\j<ks.length:=fun j hj=>by have:=C.ris.bnd j hj; rwa [pl] at this
 refine⟨?_,fun k hk=>?_,fun k hk k' hk' ne t ht ht'=>?_,fun t ht hn=>?_⟩
 ·unfold kOf;rw[bA];exact(eI.mp C.ris.ris).imp fun {a b} h=>jGO rk (cb a h.1).1 h.2.2 (cb b h.2.1).2
 ·obtain⟨j,hj,rfl⟩:=aQ.mp hk;exact(kget (cb j hj).1 (cb j hj).2).1
 ·obtain⟨j,hj,rfl⟩:=aQ.mp hk;obtain⟨j',hj',rfl⟩:=aQ.mp hk';have hts:=al _ (kget (cb j hj).1 (cb j hj).2).1 t ht;refine C.dis j hj j' hj' (fun z=>ne (by rw[z])) ((ts.idxOf t:Nat):Int) ?_ ?_
  ·rw[jB1 (cb j hj).1 (cb j hj).2];exact mem_nmd.mpr ⟨t,ht,hts,rfl⟩
  ·rw[jB1 (cb j' hj').1 (cb j' hj').2];exact mem_nmd.mpr ⟨t,ht',hts,rfl⟩
 ·have hp:ts.idxOf t<ts.length:=bO.mpr ht;obtain⟨j,hj,hjt⟩:=C.cov ((ts.idxOf t:Nat):Int) Aa Aa (fun z=>by
   obtain⟨u,hu,hut,e⟩:=mem_nmd.mp z;exact hn (jJ7 ht hut e ▸ hu))
  rw[jB1 (cb j hj).1 (cb j hj).2] at hjt;obtain⟨u,hu,hut,e⟩:=mem_nmd.mp hjt;exact⟨_,cx hj,jJ7 ht hut e ▸ hu⟩
theorem jPG {ms:Ag}{Ar:Ae}{ts ks:Ag}(rt:ts.Pairwise (· < ·))(rk:ks.Pairwise (· < ·)){S:Ag}(C:SubCov ms Ar ts ks S):IsCov (ts.length:Int) (nmd ts ms) (pick ts Ar ks) (jOf ks S):=by
 have pl:(pick ts Ar ks).length=ks.length:=ab ..;have tp:∀ k∈S,j5 (pick ts Ar ks) ((ks.idxOf k:Nat):Int)=nmd ts (j5 Ar k):=fun k hk=>by
  have hlt:=bO.mpr (C.sub k hk);rw[jB1 Aa Aa,jKP (C.sub k hk)]
 refine⟨⟨?_,fun j hj=>?_⟩,fun j hj j' hj' ne p h1 h2=>?_,fun p p0 p1 hn=>?_⟩
 ·unfold jOf;rw[bA];refine(eI.mp C.ris).imp fun {a b} h=>?_;have:=jT4 rk (C.sub a h.1) (C.sub b h.2.1) h.2.2;lia
 ·obtain⟨k,hk,rfl⟩:=aQ.mp hj;have hlt:=bO.mpr (C.sub k hk);rw[pl];lia
 ·obtain⟨k,hk,rfl⟩:=aQ.mp hj;obtain⟨k',hk',rfl⟩:=aQ.mp hj';rw[tp k hk] at h1;rw[tp k' hk'] at h2;obtain⟨t,ht,hts,e⟩:=mem_nmd.mp h1;obtain⟨u,hu,hus,e'⟩:=mem_nmd.mp h2;have:t=u:=jJ7 hts hus Aa;subst this;exact C.dis k hk k' hk' (fun z=>ne (by rw[z])) t ht hu
 ·have hp:p.toNat<ts.length:=Aa;have ht:ts[p.toNat]∈ts:=cm hp;have ip:((ts.idxOf ts[p.toNat]:Nat):Int)=p:=by
   have:=jRR rt p0 p1;rw[ag,aA hp] at this;exact this
  obtain⟨k,hk,hkt⟩:=C.cov _ ht (fun z=>hn (mem_nmd.mpr ⟨_,z,ht,ip.symm⟩));refine⟨_,cx hk,?_⟩;rw[tp k hk];exact mem_nmd.mpr ⟨_,hkt,ht,ip.symm⟩
section
variable {w:Int}(g:Good 16 32 w ms Ar)
include g
theorem jCN {ts:Ag}{k:Int} :k∈lftP Ar ts↔(0<=k/\k<Ar.length)/\∀ t∈j5 Ar k,t∈ts:=by
 unfold lftP;rw[aS,mem_upto,bC];refine gO fun _=>iE fun t=>iE fun _=>aW
abbrev tsB (w:Int)(Ar:Ae)(tk:Ag):Ag:=lftT w (tk.flatMap (j5 Ar))
abbrev apB (w:Int)(Ar:Ae)(tk:Ag):Ag:=lftP Ar (tsB w Ar tk)
theorem jEG {tk c:Ag}{k:Int} :k∈c.filter (fun k=>!decide (k∈tk))↔k∈c/\k∉tk:=by
 rw[aS,cg,bR]
theorem jSP {tk c:Ag}(C:IsCov w ms Ar c)(h2:∀ k∈tk,k∈c):SubCov ms Ar (tsB w Ar tk) (apB w Ar tk) (c.filter fun k=>!decide (k∈tk)):=by
 have w0:=g.w0;refine⟨C.ris.ris.sublist da,fun k hk=>?_,fun k hk k' hk'=>C.dis k ((jEG g).mp hk).1 k' ((jEG g).mp hk').1,fun t ht hn=>?_⟩
 ·obtain⟨k1,k2⟩:=(jEG g).mp hk;have kb:=C.ris.bnd k k1;refine(jCN g).mpr ⟨kb,fun t ht=>(jB6 w0).mpr ⟨(qB g kb.1 kb.2).bnd t ht,fun z=>?_⟩⟩;obtain⟨k',hk',ht'⟩:=eZ.mp z;exact C.dis k k1 k' (h2 k' hk') (fun q=>k2 (q ▸ hk')) t ht ht'
 ·obtain⟨b,hnp⟩:=(jB6 w0).mp ht;obtain⟨k,hk,hkt⟩:=C.cov t b.1 b.2 hn;exact⟨k,(jEG g).mpr ⟨hk,fun z=>hnp (eZ.mpr ⟨k,z,hkt⟩)⟩,hkt⟩
theorem jKM {tk S:Ag}{k:Int} :k∈srt (tk++S)↔k∈tk\/k∈S:=by rw[(kW _).mem_iff,aN]
section
variable {S:Ag}(r:Ris Ar.length tk)(C:SubCov ms Ar (tsB w Ar tk) (apB w Ar tk) S)
include C r
theorem jMS:∀ k∈S,∀ t∈j5 Ar k,∀ k'∈tk,t∉j5 Ar k':=fun k hk t ht k' hk' z=>((jB6 g.w0).mp (((jCN g).mp (C.sub k hk)).2 t ht)).2 (eZ.mpr ⟨k',hk',z⟩)
theorem jTL:∀ k∈tk,k∉S:=fun k hk z=>by
 have kb:=r.bnd k hk;exact jMS g r C k z _ (jA8 g kb.1 kb.2).1 k hk (jA8 g kb.1 kb.2).1
theorem jL8:(srt (tk++S)).Pairwise (· < ·):=by
 have nS:S.Nodup:=C.ris.imp fun {a b} h=>by lia
 have nT:tk.Nodup:=r.ris.imp fun {a b} h=>by lia
 exact(gh (jHC _) ((kW (tk++S)).nodup_iff.mpr (dR.mpr ⟨nT,nS,fun a ha b hb e=>jTL g r C a ha (e ▸ hb)⟩))).imp fun {a b} h=>by lia
theorem jX2 (dj:∀ k∈tk,∀ k'∈tk,k≠k'->∀ t∈j5 Ar k,t∉j5 Ar k'):IsCov w ms Ar (srt (tk++S)):=by
 have me:=fun k=>jKM g (tk:=tk) (S:=S) (k:=k);have np:=jMS g r C;refine⟨⟨jL8 g r C,fun k hk=>?_⟩,fun k hk k' hk' ne t ht=>?_,fun t t0 t1 hn=>?_⟩
 ·rcases (me k).mp hk with z | z
  ·exact r.bnd k z
  ·exact((jCN g).mp (C.sub k z)).1
 ·rcases (me k).mp hk with z | z <;> rcases (me k').mp hk' with u | u
  ·exact dj k z k' u ne t ht
  ·exact fun q=>np k' u t q k z ht
  ·exact np k z t ht k' u
  ·exact C.dis k z k' u ne t ht
 ·by_cases hT:t∈tk.flatMap (j5 Ar)
  ·obtain⟨k,hk,hkt⟩:=eZ.mp hT;exact⟨k,(me k).mpr (.inl hk),hkt⟩
  ·obtain⟨k,hk,hkt⟩:=C.cov t ((jB6 g.w0).mpr ⟨⟨t0,t1⟩,hT⟩) hn;exact⟨k,(me k).mpr (.inr hk),hkt⟩
end
theorem jSC {tk c:Ag}(r:Ris Ar.length tk)(C:IsCov w ms Ar c)(h2:∀ k∈tk,k∈c):srt (tk++c.filter fun k=>!decide (k∈tk))=c:=by
 refine jN3 (jL8 g r (jSP g C h2)) C.ris.ris fun x=>?_;rw[jKM g,jEG g];constructor
 ·rintro (z | z)
  ·exact h2 x z
  ·exact z.1
 ·intro z;by_cases q:x∈tk
  ·exact .inl q
  ·exact .inr ⟨z,q⟩
end
def lamOf (s:Stmt):Arguments×Expr×Scope×Pos:=match jE s with
 | [.Return (some (.Call _ [_,_, .Lambda a b sc p] _ _)) _]=>(a,b,sc,p)
 | _=>(yE s, .Constant .none 0 ⟨0,0,0,0⟩,j8 s,⟨0,0,0,0⟩)
abbrev lamA:Arguments:=(lamOf xD).1
abbrev lamB:Expr:=(lamOf xD).2.1
abbrev lamS:Scope:=(lamOf xD).2.2.1
abbrev lamP:Pos:=(lamOf xD).2.2.2
abbrev nLam:Am:=["behind"]
theorem scLam:NScope nLam ["behind"] [] lamS:=⟨rfl,rfl,rfl,Ab,rfl,Ab,Ab,fun x h=>by
  have hl:∀ y∈lamS.names,y.2≠ .free:=Ab;exact absurd rfl (hl _ (cw h)),Ab⟩
def RWay (ch:Ch):RepT:=fun m _ v=>v=natV (wk ch m).length
theorem RWay.ok (ch:Ch):RepOk (RWay ch):=fun _ _=>⟨fun _ _ _ _ _ _ h=>h,fun _ _ _ h=>h⟩
theorem jVY (l:List (Int×Af)):(wJ l).length=(l.map fun p=>p.2.length).sum:=by
 unfold wJ;rw[List.length_flatMap];congr 1;refine bF fun p _=>?_;rw[ab]
abbrev qLam:Str:= "ways_of.<locals>.<lambda>"
def jRH (T:Txt mg): { t:TE // JE (cxN P w K mg Aq nLam qLam lamS a (.ref c) cl A Ap s H0) lamB t} :=⟨_,(jK (jF0 rfl) gl_n T.sum Ab (j3 (kI (m:=[none,none]) (Nc:=["number","ways"]) rfl (y6 (jv 0 rfl qS)) rfl Ab Ab (fun y hy hf=>absurd hf (by revert y; decide+kernel)) (jJ (N:=nLam) rfl rfl Ab) (fun cl C fp s H=>jAZ (i:=0) (j:=1) rfl (show (["number","ways"]:Am).Nodup by decide+kernel) rfl rfl Ab Ab) (fun cl C fp s H=>kR) (fun cl C fp s H=>(jv 1 rfl jM)) y8) j7 jN) jN)⟩
def zhW (a c:Addr):Hp->Prop:=fun H=>H a=some (.ext (nlP qLam lamA lamB lamS [] a c))/\H c=some (.ext (ncP qLam c))
theorem zhW.ok (a c:Addr):HpOk (zhW a c):=⟨fun H H' D kvs hD k h=>⟨k _ _ h.1 fun z=>(by rw[<- z,h.1] at hD; cases hD),k _ _ h.2 fun z=>(by rw[<- z,h.2] at hD; cases hD)⟩,fun H H' e h=>⟨e _ _ h.1,e _ _ h.2⟩⟩
theorem jX0 {ch:Ch}(o:ChOk ch)(T:Txt mg):Callee P w K mg Aq ZT (zhW a c) 1 a (jFC ch (RWay ch)):=by
 refine Callee.imp (jXS (fv:=[]) scLam (fun vs H Q E h=>?_) (fun pm ctv us hl=>?_) fun A Ap s H vs Q E hr h=>?_) fun s H _=>⟨⟨fun x y c h=>(by cases h),fun x c h=>(by cases h)⟩,rfl,fun i x v h=>(by cases h)⟩
 ·obtain⟨_,_,_,rfl,_⟩:=h;rfl
 ·match us,hl with
  | [_],_=>rfl
 ·obtain⟨l,us,m,rfl,hl,hm,hf,av,q⟩:=h;refine⟨_,(jRH T).2.h,?_⟩;have vl:us.length<=33:=by
   rw[av.len];have hlow:=jCO hm hf;refine be (bb _ _) ?_;rw[ag,aA hlow];exact o.len _ _ (aA hlow)
  refine⟨_,rfl,l,rfl,⟨_,SqL.of hl⟩,jAQ (xs:=us) (fun σ=>∃ v1 v2,σ=[v1,v2]) (mapZ (chAt ch m) fun c=>natV (wk ch (m|||c.2)).length) (mapZ.ok _ _) hl (by rw[aw]; lia) ⟨_,_,rfl⟩ ?_ ?_⟩
  ·rintro j x σ' H' zs hx ⟨v1,v2,rfl⟩ e hz S1 S2 yes no;obtain⟨c,hc,p,u,rfl,hp,hR⟩:=av.get' hx;have hR:u=natV (wk ch (m|||c.2)).length:=hR;subst hR;refine⟨p,_,rfl,SqT.of (e _ _ hp),rfl,_,_,rfl,_,_,rfl,rfl,?_⟩;dsimp only [yL];rw[ao rfl];exact⟨_,rfl,yes _ _ _ ⟨_,_,rfl⟩ (Ext.refl _) (hz.yes hc)⟩
  ·rintro D H' zs hD e nD hz;have hz:=hz.all (by rw[av.len]; exact ak _);have hz2:zs=((chAt ch m).map fun c=>((wk ch (m|||c.2)).length:Int)).map V.int:=by rw[hz,bH]; rfl
   rw[hz2] at hD;refine⟨D,_,rfl,SqL.of hD,q _ _ ?_ e⟩;show V.int _=natV _;rw[jB9 o hm hf,jVY,bH];congr 1;generalize chAt ch m=cs
   induction cs with
   | nil=>rfl
   | cons a r ih=>
    rw[bv,dk,bv,dk,ih];push_cast;rfl
abbrev nWays:Am:=["choices"]
theorem scWays:FnScope nWays ["choices"] (j8 xD):= {}
abbrev TabW (H:Hp)(tb:Addr):Prop:=TabOk H tb lamP qLam
def jIT:Sp:=spEx (fun x:Addr×Addr×Ch=>ChOk x.2.2) fun x=>jMX x.1 (zhW x.1 x.2.1) x.2.2 (RWay x.2.2)
def jJX (tb:Addr):Sp:=fun vs H Q _=>∃ (L:Addr) (ch:Ch),vs=[.ref L]/\ChAt H L ch/\ChOk ch/\TabW H tb/\∀ (r:Addr) (ns:List Nat) (H':Hp),GotAt H' r ch (RWay ch) ns->ns.Pairwise (· > ·)->MetOk ch ns->ExtT tb H H'->TabW H' tb->H r=none->Q (.ref r) H'
def waysA (T:Txt mg)(CH:PySem.W.CodeHd Aq c0 tb)(BM:BltAt Aq mg)(CG:Can P w K mg Aq "gathered" 4 fG fdG ["choices","at_end","join"] jIT)(hr:Room 4 (XOf nWays "ways_of" xD P w K mg Aq f (.ref c0) A Ap s H0 E).A): { t:TS // JSs (XOf nWays "ways_of" xD P w K mg Aq f (.ref c0) A Ap s H0 E) (jE xD) t} :=
 have nd:=scWays.nd
 ⟨_,(jD (jP (CG.je hr gD (j3 (jv 0 rfl vL) (j3 je_int (j3 (jXM rfl CH BM (fun y hy hf=>absurd hf (by revert y; decide+kernel)) rfl) j7 jW6) kN) j4) j4)))⟩
theorem jUK {fd:FuncData}(F:FunC K "ways_of" "ways_of" xD f fd c0)(T:Txt mg)(CH:PySem.W.CodeHd Aq c0 tb)(BM:BltAt Aq mg)(CG:Can P w K mg Aq "gathered" 4 fG fdG ["choices","at_end","join"] jIT):FnOk P w K mg Aq CX0 5 f fd ["choices"] (jJX tb):=by
 refine F.ok scWays (fun vs H Q E h=>?_) (fun A Ap s H vs Q E hr h=>?_)
 ·obtain⟨_,_,rfl,_⟩:=h;rfl
 ·obtain⟨L,ch,rfl,hL,o,tab,q⟩:=h;refine⟨_,(waysA T CH BM CG hr).2.h,?_⟩;refine⟨_,rfl,tab,fun a c H1 k1 k2 k3 e1 na=>?_⟩;have hL1:ChAt H1 L ch:=hL.keep (fun b xs h=>e1.at tab h) fun b xs h=>e1.at tab h;refine⟨(a,c,ch),o,L,_,rfl,hL1,?_,⟨k1,k2⟩,fun r ns H2 got srt mt e2 n2=>?_⟩
  ·show V.int 1=natV _;rw[jBA];rfl
  ·refine q r ns H2 got srt mt (fun b o hb hn=>e2 _ _ (e1 b o hb hn)) (.inr ⟨c,e2 _ _ k3,e2 _ _ k2⟩) ?_;cases z:H r with
   | none=>rfl
   | some o=>
    by_cases hr:r=tb
    ·rw[hr,k3] at n2;cases n2
    ·rw[e1 _ _ z hr] at n2;cases n2
abbrev nMany:Am:=["box"]
theorem scMany:FnScope nMany ["box"] (j8 sMany):= {}
def jDH (tb:Addr):Sp:=fun vs H Q _=>∃ (b:Addr) (w:Int) (ms:Ag) (Ar:Ae),vs=[.ref b]/\BoxAt H b w ms Ar/\Good 16 32 w ms Ar/\TabW H tb/\∀ H',ExtT tb H H'->TabW H' tb->Q (natV (wk (chs w.toNat ms Ar) 0).length) H'
def manyA (T:Txt mg)(CC:Can P w K mg Aq "choices_of" 2 fC fdC ["box"] jAY)(CW:Can P w K mg Aq "ways_of" 5 fW fdW ["choices"] (jJX tb))(hr:Room 5 (XOf nMany "many" sMany P w K mg Aq f ki A Ap s H0 E).A): { t:TS // JSs (XOf nMany "many" sMany P w K mg Aq f ki A Ap s H0 E) (jE sMany) t} :=
 have nd:=scMany.nd
 ⟨_,(jD (jP (jGQ (hu_of hr) (CW.je hr gD (j3 (CC.je (hr.mono Ac) gD (j3 (jv 0 rfl vL) j7 j4) j4) j7 jG) jG) je_int jC)))⟩
theorem jUO {fd:FuncData}(F:Fun K "many" "many" sMany f fd)(T:Txt mg)(CC:Can P w K mg Aq "choices_of" 2 fC fdC ["box"] jAY)(CW:Can P w K mg Aq "ways_of" 5 fW fdW ["choices"] (jJX tb)):FnOk P w K mg Aq CX0 6 f fd ["box"] (jDH tb):=by
 refine F.ok scMany (fun vs H Q E h=>?_) (fun ki A Ap s H vs Q E hr h=>?_)
 ·obtain⟨_,_,_,_,rfl,_⟩:=h;rfl
 ·obtain⟨b,wi,ms,Ar,rfl,hB,g,tab,q⟩:=h;refine⟨_,(manyA T CC CW hr).2.h,?_⟩;refine⟨_,rfl,b,wi,ms,Ar,rfl,hB,g,fun L H1 hL1 e1=>?_⟩;refine⟨L,_,rfl,hL1,qR g,tab.ext e1,fun r ns H2 got srt mt e2 t2 n2=>?_⟩;obtain⟨u,dg,ru⟩:=got0 got srt mt;have ru:u=natV _:=ru;subst ru;exact⟨r,_,rfl,dg,q H2 ((ExtT.of e1).trans e2) t2⟩
end Eo
section
namespace L2
open PySem
theorem Callee.imp2 {P:Program}{w:World}{K:W.Frag}{mg:Ak}{Aq:Heap}{Z:Shared->Hp->Prop}{zh zh':Hp->Prop}{k:Nat}{a:Addr}{sp sp':Sp}(C:Callee P w K mg Aq Z zh k a sp)(h1:∀ H,zh' H->zh H)(h2:∀ vs H Q E,zh' H->sp' vs H Q E->sp vs H Q E):Callee P w K mg Aq Z zh' k a sp':=
 ⟨fun A Ap s H e z=>C.fn A Ap s H e (h1 H z),fun A Ap s H us vs Q E hr he hz zh r q=>C.run A Ap s H us vs Q E hr he hz (h1 H zh) r (h2 _ _ _ _ zh q)⟩
end L2
namespace Eo
open PySem L2
def wgt (Ar:Ae)(k:Int):Int:=(Ar.getD k.toNat ([],0)).2
def wt (Ar:Ae)(x:Ag):Int:=(x.map (wgt Ar)).sum
def minW (Ar:Ae):Af->Option (Ag)
 | []=>none
 | x::r=>match minW Ar r with
  | none=>some x
  | some y=>if wt Ar y<wt Ar x then some y else some x
def xB (Ar:Ae):Option (Ag)->Option (Ag)->Option (Ag)
 | none,b=>b
 | some x,none=>some x
 | some x,some y=>if wt Ar y<wt Ar x then some y else some x
theorem minW_none {Ar:Ae}{l:Af} :minW Ar l=none↔l=[]:=by
 cases l with
 | nil=>exact⟨fun _=>rfl,fun _=>rfl⟩
 | cons x r=>
  refine⟨fun h=>?_,fun h=>(by cases h)⟩;unfold minW at h;split at h
  ·cases h
  ·split at h <;> cases h
theorem jJ5 (Ar:Ae)(a b c:Option (Ag)):xB Ar (xB Ar a b) c=xB Ar a (xB Ar b c):=by
 cases a with
 | none=>rfl
 | some x=>cases b with
  | none=>rfl
  | some y=>cases c with
   | none=>
    show xB Ar (if wt Ar y<wt Ar x then some y else some x) none=if wt Ar y<wt Ar x then some y else some x
    split <;> rfl
   | some z=>
    show xB Ar (if wt Ar y<wt Ar x then some y else some x) (some z)=xB Ar (some x) (if wt Ar z<wt Ar y then some z else some y);by_cases h1:wt Ar y<wt Ar x <;> by_cases h2:wt Ar z<wt Ar y <;> by_cases h3:wt Ar z<wt Ar x <;> simp only [h1,h2,h3,gc,kf,xB] <;> first | rfl | lia
theorem jBJ (Ar:Ae)(x:Ag)(r:Af):minW Ar (x::r)=xB Ar (some x) (minW Ar r):=by
 rw[minW];cases minW Ar r <;> rfl
theorem jEF (Ar:Ae):∀ (a b:Af),minW Ar (a++b)=xB Ar (minW Ar a) (minW Ar b)
 | [],b=>rfl
 | x::r,b=>by rw[iI,jBJ,jEF Ar r b,jBJ,jJ5]
theorem jMB (Ar:Ae)(c:Int)(x:Ag):wt Ar (c::x)=wgt Ar c+wt Ar x:=by
 unfold wt;rw[bv,dk]
theorem jKK (Ar:Ae)(c:Int):∀ (l:Af),minW Ar (l.map fun x=>if c<0 then x else c::x)=(minW Ar l).map fun x=>if c<0 then x else c::x
 | []=>rfl
 | x::r=>by
  rw[bv,jBJ,jBJ,jKK Ar c r];cases minW Ar r with
  | none=>rfl
  | some y=>
   show (if wt Ar (if c<0 then y else c::y)<wt Ar (if c<0 then x else c::x) then _ else _)=Option.map _ (if wt Ar y<wt Ar x then some y else some x);by_cases hc:c<0
   ·simp only [hc,gc];split <;> rfl
   ·simp only [hc,kf,jMB];by_cases h:wt Ar y<wt Ar x
    ·rw[ao Aa,ao h];rfl
    ·rw[am Aa,am h];rfl
theorem jDY {Ar:Ae}{x:Ag} :∀ {l:Af},minW Ar l=some x->x∈l/\∀ y∈l,wt Ar x<=wt Ar y
 | [],h=>by cases h
 | z::r,h=>by
  rw[jBJ] at h;cases hr:minW Ar r with
  | none=>
   rw[hr] at h;have h:some z=some x:=h;cases h;rw[minW_none.mp hr];exact⟨az .., fun y hy=>by rw[aI] at hy; rw[hy]; exact cQ _⟩
  | some y=>
   rw[hr] at h;obtain⟨i1,i2⟩:=jDY hr;have h:(if wt Ar y<wt Ar z then some y else some z)=some x:=h;split at h
   ·cases h;refine⟨aB _ i1,fun u hu=>?_⟩;rcases aG.mp hu with q | q
    ·rw[q]; lia
    ·exact i2 u q
   ·cases h;refine⟨az .., fun u hu=>?_⟩;rcases aG.mp hu with q | q
    ·rw[q]; exact cQ _
    ·have:=i2 u q;lia
def LtAt (Ar:Ae)(H:Hp)(v:V)(o:Option (Ag)):Prop:=match o with
 | none=>v= .non
 | some x=>∃ q r,v= .ref q/\H q=some (.tup [.int (wt Ar x), .ref r])/\H r=some (.tup (x.map V.int))
theorem LtAt.mono {Ar:Ae}{H H':Hp}{v:V}{o:Option (Ag)}(t:Tups H H')(h:LtAt Ar H v o):LtAt Ar H' v o:=by
 cases o with
 | none=>exact h
 | some x=>obtain⟨q,r,e,h1,h2⟩:=h; exact⟨q,r,e,t _ _ h1,t _ _ h2⟩
def RLt (Ar:Ae)(ch:Ch):RepT:=fun m H v=>LtAt Ar H v (minW Ar (wk ch m))
theorem RLt.ok (Ar:Ae)(ch:Ch):RepOk (RLt Ar ch):=fun m v=>⟨fun H H' D kvs hD k h=>h.mono fun q xs hq=>k _ _ hq fun z=>(by rw[z,hD] at hq; cases hq),fun H H' e h=>h.mono e.tups⟩
def preW (ch:Ch)(m i:Nat):Af:=wJ (((chAt ch m).take i).map fun c=>(c.1,wk ch (m|||c.2)))
theorem jN7 {ch:Ch}{m i:Nat}{c:Int×Nat}(h:(chAt ch m)[i]?=some c):preW ch m (i+1)=preW ch m i++(wk ch (m|||c.2)).map fun x=>if c.1<0 then x else c.1::x:=by
 unfold preW;rw[aV,h,aK,jH7];congr 1;unfold wJ;exact gw _ _
theorem jQF {ch:Ch}{m:Nat}(o:ChOk ch)(h:m<2 ^ ch.length)(hn:m≠fullN ch):preW ch m (chAt ch m).length=wk ch m:=by
 unfold preW;rw[aZ,jB9 o h hn]
def ifOf:Stmt->List Stmt
 | .If _ b _ _=>b
 | _=> []
structure LI where
 a:Addr
 c:Addr
 b:Addr
 w:Int
 ms:Ag
 Ar:Ae
 g:Good 16 32 w ms Ar
abbrev LI.ch (i:LI):Ch:=chs i.w.toNat i.ms i.Ar
abbrev qU:Stmt:=(jE qE).getD 0 (.Pass ⟨0,0,0,0⟩)
abbrev pLBeh:Pos:=match qU with
 | .FunctionDef _ _ _ _ _ _ _ _ _ p=>p
 | _=>⟨0,0,0,0⟩
abbrev qLB:Str:= "lightest.<locals>.lightest_behind"
abbrev nLBeh:Am:=["behind","box","best","number","found","weight"]
theorem scLBeh:NScope nLBeh ["behind"] ["box"] (j8 qU):=⟨rfl,rfl,rfl,Ab,rfl,Ab,Ab,fun x h=>by
  have hl:∀ y∈(j8 qU).names,y.2= .free->y.1= "box" :=Ab;rw[aI];exact hl _ (cw h) rfl,Ab⟩
def spLB:List V->Sp:=fun fv vs H Q E=>∃ i:LI,fv=[.ref i.b]/\BoxAt H i.b i.w i.ms i.Ar/\jFC i.ch (RLt i.Ar i.ch) vs H Q E
section
def lbInA (T:Txt mg): { t:TS // JSs (cxN P w K mg Aq nLBeh qLB (j8 qU) f cd cl A Ap s H0) ((ifOf ((jEM ((jE qU).getD 1 (.Pass ⟨0,0,0,0⟩))).getD 0 (.Pass ⟨0,0,0,0⟩))).drop 1) t} :=
 have nd:=scLBeh.nd
 ⟨_,(jD (yA (jt_w (jw_or (jO jNF (jv 2 rfl qS) (qQ) (jV _)) (jKS (jO op_lt (jv 5 rfl qS) (jH jI (jv 2 rfl qS) (je_int) jC) (jV _))))) (jD (jR (i:=2) nd rfl loc_n (kP (j3 (jv 5 rfl qS) (j3 (jOM (jO op_ge (jv 3 rfl qS) (je_int) (jV _)) (kY jD6 (kP (j3 (jv 3 rfl qS) j7 j4)) (jH jI (jv 4 rfl qS) (je_int) jC)) (jH jI (jv 4 rfl qS) (je_int) jC)) j7 jW7) j4)) jJT)) jZ))⟩
def jV5 (T:Txt mg): { t:TS // JSs (cxN P w K mg Aq nLBeh qLB (j8 qU) f cd cl A Ap s H0) (jEM ((jE qU).getD 1 (.Pass ⟨0,0,0,0⟩))) t} :=
 have nd:=scLBeh.nd
 ⟨_,(jD (yA (jO jG9 (jv 4 rfl qS) (qQ) (jV _)) (j9 (jR (i:=5) nd rfl loc_n (kY yF (jH jI (jv 4 rfl qS) (je_int) jC) (jOM (jO op_ge (jv 3 rfl qS) (je_int) (jV _)) (jH jI (jH jI (jH jI (jv 1 rfl (jVZ Ab)) (je_int) jC) (jv 3 rfl qS) yU) (je_int) jC) (je_int))) jJV) (lbInA T).2) jZ))⟩
def lbehA (T:Txt mg): { t:TS // JSs (cxN P w K mg Aq nLBeh qLB (j8 qU) f cd cl A Ap s H0) (jE qU) t} :=
 have nd:=scLBeh.nd
 ⟨_,(j9 (jR (i:=2) nd rfl loc_n (qQ) jJU) (j9 (x6 bX rfl (y6 (jv 0 rfl qS)) (jRJ (i:=3) (j:=4) nd rfl rfl Ab Ab) (jV5 T).2 y8) (jD (jP (jv 2 rfl qS)))))⟩
theorem lb_in (T:Txt mg){D:Ends}{H:Hp}{l b pq pr:Addr}{ve:V}{c:Int}{Ar:Ae}{y:Ag}{ob:Option (Ag)}(hpq:H pq=some (.tup [.int (wt Ar y), .ref pr]))(hpr:H pr=some (.tup (y.map V.int)))(yl:y.length<=16)(hve:LtAt Ar H ve ob)
  (nx:∀ H' ve',Ext H H'->LtAt Ar H' ve' (xB Ar ob (some (if c<0 then y else c::y)))->D.nx [some (.ref l),some (.ref b),some ve',some (.int c),some (.ref pq),some (.int (wt Ar (if c<0 then y else c::y)))] H'):
  (lbInA (P:=P) (w:=w) (K:=K) (mg:=mg) (Aq:=Aq) (f:=f) (cd:=cd) (cl:=cl) (A:=A) (Ap:=Ap) (s:=s) (H0:=H0) T).1 D [some (.ref l),some (.ref b),some ve,some (.int c),some (.ref pq),some (.int (wt Ar (if c<0 then y else c::y)))] H:=by
 refine⟨_,rfl,rfl,_,rfl,?_⟩;rcases ob with _ | z
 case' none=>
  have hve:ve= .non:=hve;subst hve;have ej:xB Ar none (some (if c<0 then y else c::y))=some (if c<0 then y else c::y):=rfl;refine iteT (iteT ?_)
 case' some=>
  obtain⟨zq,zr,rfl,hz1,hz2⟩:=hve;refine iteF ⟨_,rfl,_,rfl,zq,_,0,_,rfl,rfl,SqT.of hz1,rfl,_,_,rfl,rfl,_,rfl,?_⟩;by_cases hlt:wt Ar (if c<0 then y else c::y)<wt Ar z
  case' neg=>
   rw[aJ hlt];exact iteF (nx H (.ref zq) (Ext.refl _) (by
    show LtAt Ar H (.ref zq) (if _ then _ else _);rw[am hlt];exact⟨zq,zr,rfl,hz1,hz2⟩))
  rw[aq hlt];have ej:xB Ar (some z) (some (if c<0 then y else c::y))=some (if c<0 then y else c::y):=ao hlt;refine iteT ?_
 all_goals
  rw[ej] at nx;refine⟨_,rfl,_,rfl,_,_,rfl,rfl,_,rfl,?_⟩;by_cases hc:c<0
  ·have h0:decide ((0:Int)<=c)=false:=aJ Aa;rw[h0];refine iteF ⟨_,rfl,pq,_,1,_,rfl,rfl,SqT.of hpq,rfl,by show (2:Nat)<=_; decide,fun r4 H4 d4 e4=>nx H4 (.ref r4) e4 ⟨r4,pr,rfl,d4,?_⟩⟩;rw[ao hc];exact e4 _ _ hpr
  ·have h0:decide ((0:Int)<=c)=true:=aq Aa;rw[h0];refine iteT ⟨_,rfl,by show (1:Nat)<=_; decide,fun r2 H2 d2 e2=>⟨_,rfl,pq,_,1,_,rfl,rfl,SqT.of (e2 _ _ hpq),rfl,r2,pr,_,_,rfl,rfl,d2,e2 _ _ hpr,by rw[ab,aw]; show 1+_<=_; lia,fun r3 H3 d3 e3=>⟨by show (2:Nat)<=_; decide,fun r4 H4 d4 e4=>nx H4 (.ref r4) ((e2.trans e3).trans e4) ⟨r4,r3,rfl,d4,?_⟩⟩⟩⟩;rw[am hc];exact e4 _ _ d3
theorem jUP (T:Txt mg):FnN P w K mg Aq 1 "lightest_behind" qLB (yE qU) (jE qU) (j8 qU) ["behind"] ["box"] spLB:=by
 refine jT5 scLBeh (fun fv vs H Q E h=>?_) (fun cl doc pm c ctv us hl=>?_) fun A Ap s H a c cl vs fv Q E hr h=>?_
 ·obtain⟨i,rfl,_,_,_,_,rfl,_⟩:=h;rfl
 ·match us,hl with
  | [_],_=>rfl
 ·obtain⟨⟨_,_,b,w,ms,Ar,g⟩,rfl,hB,l,us,m,rfl,hl,hm,hf,av,q⟩:=h;refine⟨_,(lbehA T).2.h,?_⟩;have o:ChOk (chs w.toNat ms Ar):=qR g;obtain⟨qm,qp,ps,b1,b2,b3,b4⟩:=id hB.ex;have gpl:=g.pl;refine⟨_,rfl,l,rfl,⟨_,SqL.of hl⟩,jCT (xs:=us) (fun i σ H'=>Ext H H'/\∃ ve:V,(∃ v3 v4 v5,σ=[some (.ref l),some (.ref b),some ve,v3,v4,v5])/\LtAt Ar H' ve (minW Ar (preW (chs w.toNat ms Ar) m i))) ⟨Ext.refl _, .non,⟨_,_,_,rfl⟩,rfl⟩ (fun i σ H' _ ⟨e,_⟩=>SqL.of (e _ _ hl)) ?_ ?_⟩
  ·rintro i x σ H' hx ⟨e,ve,⟨v3,v4,v5,rfl⟩,hve⟩;obtain⟨c,hc,p,u,rfl,hp,hR⟩:=av.get' hx;obtain⟨m1,m2,m3,m4,m5⟩:=o.mem hm hf (ay hc);have hsu:=jN7 hc;have hR:LtAt Ar H' u (minW Ar (wk (chs w.toNat ms Ar) (m|||c.2))):=LtAt.mono e.tups hR;have mup:=(o.up hm hf (ay hc)).2;have hmin:minW Ar (preW (chs w.toNat ms Ar) m (i+1))=xB Ar (minW Ar (preW (chs w.toNat ms Ar) m i)) ((minW Ar (wk (chs w.toNat ms Ar) (m|||c.2))).map fun x=>if c.1<0 then x else c.1::x):=by
    rw[hsu,jEF,jKK]
   refine⟨p,_,rfl,SqT.of (e _ _ hp),rfl,_,_,rfl,_,_,rfl,rfl,?_⟩;refine⟨_,rfl,rfl,_,rfl,?_⟩;cases hW:minW Ar (wk (chs w.toNat ms Ar) (m|||c.2)) with
   | none=>
    rw[hW] at hR hmin;have hR:u= .non:=hR;subst hR;refine iteF ⟨e,ve,⟨_,_,_,rfl⟩,?_⟩;rw[hmin];revert hve;cases minW Ar (preW (chs w.toNat ms Ar) m i) with
    | none=>exact id
    | some z=>exact id
   | some y=>
    rw[hW] at hR hmin;obtain⟨pq,pr,rfl,hpq,hpr⟩:=hR;obtain⟨yb,yl⟩:=jJO o _ mup y (jDY hW).1;have w16:=o.w;refine iteT ⟨_,rfl,pq,_,0,_,rfl,rfl,SqT.of hpq,rfl,_,rfl,_,_,rfl,rfl,_,rfl,?_⟩;have y16:y.length<=16:=Aa;refine ite2 (fun h0=>?_) (fun h0=>?_)
    ·have h0:0<=c.1:=aE h0;have hlt:=jXX hm hf (ay hc);obtain⟨pv,hpv,pa,pw,rfl,ha1,ha2⟩:=b4.get (k:=c.1.toNat) Aa;have at1:atI ps c.1=some (.ref pa):=by
      have:=yQ hpv
      rwa [show ((c.1.toNat:Nat):Int)=c.1 by lia] at this
     refine⟨_,rfl,b,_,2,_,rfl,rfl,SqT.of (e _ _ b1),rfl,_,rfl,qp,_,c.1,_,rfl,rfl,SqT.of (e _ _ b3),at1,pa,_,1,_,rfl,rfl,SqT.of (e _ _ ha1),rfl,_,_,rfl,rfl,?_⟩;have ew:wt Ar y+(Ar.getD c.1.toNat ([],0)).2=wt Ar (if c.1<0 then y else c.1::y):=by
      rw[am Aa,jMB];unfold wgt;lia
     show kJ 5 (V.int (wt Ar y+(Ar.getD c.1.toNat ([],0)).2)) _ _ _;rw[ew];exact lb_in T hpq hpr y16 hve fun H2 ve' e2 h2=>⟨e.trans e2,ve',⟨_,_,_,rfl⟩,by rw[hmin]; exact h2⟩
    ·have h0:c.1<0:=Int.not_le.mp fun z=>h0 (aq z);refine⟨_,_,rfl,rfl,?_⟩;have ew:wt Ar y+0=wt Ar (if c.1<0 then y else c.1::y):=by
      rw[ao h0];lia
     show kJ 5 (V.int (wt Ar y+0)) _ _ _;rw[ew];exact lb_in T hpq hpr y16 hve fun H2 ve' e2 h2=>⟨e.trans e2,ve',⟨_,_,_,rfl⟩,by rw[hmin]; exact h2⟩
  ·rintro σ H' ⟨e,ve,⟨v3,v4,v5,rfl⟩,hve⟩;rw[av.len,jQF o hm hf] at hve;exact⟨_,rfl,q ve H' hve e⟩
def zhL (cl:Aj)(i:LI):Hp->Prop:=fun H=>(H i.a=some (.ext (nfP "lightest_behind" qLB (yE qU) (jE qU) (j8 qU) cl i.a i.c))/\H i.c=some (.ext (ncP qLB i.c)))/\BoxAt H i.b i.w i.ms i.Ar
theorem zhL.ok (cl:Aj)(i:LI):HpOk (zhL cl i):=⟨fun H H' D kvs hD k h=>⟨⟨k _ _ h.1.1 fun z=>(by rw[<- z,h.1.1] at hD; cases hD),k _ _ h.1.2 fun z=>(by rw[<- z,h.1.2] at hD; cases hD)⟩,h.2.mono fun b xs hb=>k _ _ hb fun z=>(by rw[z,hD] at hb; cases hb)⟩,fun H H' e h=>⟨⟨e _ _ h.1.1,e _ _ h.1.2⟩,h.2.mono e.tups⟩⟩
theorem jIY (T:Txt mg)(cl:Aj)(i:LI):Callee P w K mg Aq (ZC cl ["box"] [.ref i.b]) (zhL cl i) 1 i.a (jFC i.ch (RLt i.Ar i.ch)):=
 Callee.imp2 (Callee.ofN (jUP T)) (fun H h=>h.1) fun vs H Q E zh q=>⟨i,rfl,zh.2,q⟩
abbrev jKI:Am:=["box","lightest_behind","told"]
theorem scLight:FnScope jKI ["box"] (j8 qE):= {}
abbrev TabL (H:Hp)(tb:Addr):Prop:=TabOk H tb pLBeh qLB
def jMW (cl:Aj)(i:LI):Sp:=jMX i.a (zhL cl i) i.ch (RLt i.Ar i.ch)
theorem fsLB:∀ x∈(["box"]:Am),(j8 qU).names.lookup x=some .free:=by decide+kernel
theorem jXQ:FsAt (XOf jKI "lightest" qE P w K mg Aq f (.ref c0) A Ap s H0 E) ["box"] [0]:=⟨rfl,fun k x h=>by
 match k,h with
 | 0,h=>
  cases h;exact⟨0,rfl,rfl, .inl (show (j8 qE).names.lookup (("box" :String):Str)=some .cell by decide+kernel)⟩
 | k+1,h=>cases h⟩
def jBC (tb:Addr):Sp:=fun vs H Q _=>∃ (b:Addr) (w:Int) (ms:Ag) (Ar:Ae),vs=[.ref b]/\BoxAt H b w ms Ar/\Good 16 32 w ms Ar/\TabL H tb/\
 (minW Ar (wk (chs w.toNat ms Ar) 0)=none->∀ H',ExtT tb H H'->TabL H' tb->Q .non H')/\∀ x,minW Ar (wk (chs w.toNat ms Ar) 0)=some x->∀ r q H',H' r=some (.tup [.int (wt Ar x), .ref q])->H' q=some (.tup ((srt x).map V.int))->ExtT tb H H'->TabL H' tb->Q (.ref r) H'
def jXA (T:Txt mg)(CH:PySem.W.CodeHd Aq c0 tb)(BM:BltAt Aq mg)(CC:Can P w K mg Aq "choices_of" 2 fC fdC ["box"] jAY)(FG:∀ cl i,FnZ P w K mg Aq CX0 (ZC cl ["box"] [.ref i.b]) 4 fG fdG ["choices","at_end","join"] (jMW cl i))(MG:mg "gathered" =some (.ref fG))(KG:keepIn K (.ref fG)=true)(BG:Binds K fdG ["choices","at_end","join"] [])(hr:Room 4 (XOf jKI "lightest" qE P w K mg Aq f (.ref c0) A Ap s H0 E).A): { t:TS // JSs (XOf jKI "lightest" qE P w K mg Aq f (.ref c0) A Ap s H0 E) (jE qE) t} :=
 have nd:=scLight.nd
 ⟨_,(j9 (jT1 (j:=1) nd rfl lL rfl CH BM (jQ (psc:=j8 qE)) rfl rfl) (j9 (jR (i:=2) nd rfl lL (jGQ (hu_of hr) (jRP (G:=fun (i:LI) σ=>jG1 σ [0] [.ref i.b]) (FG _) hr gD MG KG BG (fun i kh s σ H I q=>⟨I.clOk (jQ (psc:=j8 qE)),I.fvOk (jQ (psc:=j8 qE)) fsLB jXQ q⟩) (j3 (CC.je (hr.mono Ac) gD (j3 (jv 0 rfl vC) j7 j4) j4) (j3 (kP (j3 (je_int) (j3 (kP j7) j7 qN) kN)) (j3 (jv 1 rfl vL) j7 j4) qN) jG) jG) je_int jC) jF9) (j9 (yA (jO jNF (jv 2 rfl vL) (qQ) (jV _)) (jD (jP (qQ))) jZ) (jD (jP (kP (j3 (jH jI (jv 2 rfl vL) (je_int) jC) (j3 (jU jT gD T.tuple Ab (j3 (jK jAR gD T.sorted Ab (j3 (jH jI (jv 2 rfl vL) (je_int) jC) j7 jF) jF) j7 jG) jG) j7 jG) jF)))))))⟩
set_option maxHeartbeats 4000000 in
theorem jQX {fd:FuncData}(F:FunC K "lightest" "lightest" qE f fd c0)(T:Txt mg)(CH:PySem.W.CodeHd Aq c0 tb)(BM:BltAt Aq mg)(CC:Can P w K mg Aq "choices_of" 2 fC fdC ["box"] jAY)(FG:∀ cl i,FnZ P w K mg Aq CX0 (ZC cl ["box"] [.ref i.b]) 4 fG fdG ["choices","at_end","join"] (jMW cl i))(MG:mg "gathered" =some (.ref fG))(KG:keepIn K (.ref fG)=true)(BG:Binds K fdG ["choices","at_end","join"] []):FnOk P w K mg Aq CX0 5 f fd ["box"] (jBC tb):=by
 refine F.ok scLight (fun vs H Q E h=>?_) (fun A Ap s H vs Q E hr h=>?_)
 ·obtain⟨_,_,_,_,rfl,_⟩:=h;rfl
 ·obtain⟨b,wi,ms,Ar,rfl,hB,g,tab,q0,q1⟩:=h;refine⟨_,(jXA T CH BM CC FG MG KG BG hr).2.h,?_⟩;refine⟨tab,fun a c H1 k1 k2 k3 e1 na=>?_⟩;have tu1:Tups H H1:=fun b xs h=>e1.at tab h;have hB1:=hB.mono tu1;have tab1:TabL H1 tb:= .inr ⟨c,k3,k2⟩;refine⟨_,rfl,b,wi,ms,Ar,rfl,hB1,g,fun L H2 hL2 e2=>?_⟩;refine⟨by show (0:Nat)<=_; decide,fun t0 H3 d3 e3=>⟨by show (2:Nat)<=_; decide,fun t1 H4 d4 e4=>?_⟩⟩;have E24:=(e2.trans e3).trans e4;refine⟨_,rfl,⟨a,c,b,wi,ms,Ar,g⟩,rfl,L, .ref t1,rfl,hL2.ext (e3.trans e4),?_,⟨⟨E24 _ _ k1,E24 _ _ k2⟩,hB1.mono E24.tups⟩,fun r ns H5 got srt' mt e5 n5=>?_⟩
  ·show LtAt Ar H4 (.ref t1) (minW Ar (wk _ (fullN _)));rw[jBA];exact⟨t1,t0,rfl,d4,e4 _ _ d3⟩
  obtain⟨u,dg,ru⟩:=got0 got srt' mt;refine⟨r,u,rfl,dg,?_⟩;have E25:=E24.trans e5;have x5:ExtT tb H H5:=fun b o hb hn=>E25 _ _ (e1 b o hb hn);have tab5:TabL H5 tb:=tab1.ext E25;refine⟨_,rfl,rfl,_,rfl,?_⟩;have ru:LtAt Ar H5 u (minW Ar (wk (chs wi.toNat ms Ar) 0)):=ru;cases hW:minW Ar (wk (chs wi.toNat ms Ar) 0) with
  | none=>
   rw[hW] at ru;have ru:u= .non:=ru;subst ru;exact iteT (q0 hW H5 x5 tab5)
  | some x=>
   rw[hW] at ru;obtain⟨p,pr,rfl,hp,hpr⟩:=ru;have o:ChOk (chs wi.toNat ms Ar):=qR g;have xl:=(jJO o 0 (dB _) x (jDY hW).1).2;have w16:=o.w;refine iteF ⟨_,rfl,p,_,0,_,rfl,rfl,SqT.of hp,rfl,_,rfl,p,_,1,_,rfl,rfl,SqT.of hp,rfl,pr,x,rfl,hpr,Aa,fun l6 ns6 hl6 sr pm=>⟨l6,_,rfl, .inl ⟨SqL.of j6,fun l7 hl7=>?_⟩⟩⟩;have e6:Ext H5 (L2.upd H5 l6 (.lst (ns6.map V.int))):=(Ext.refl _).new hl6 _;have e7:Ext H5 (L2.upd (L2.upd H5 l6 (.lst (ns6.map V.int))) l7 (.tup (ns6.map V.int))):=e6.new hl7 _;have d7:(L2.upd (L2.upd H5 l6 (.lst (ns6.map V.int))) l7 (.tup (ns6.map V.int))) l7=some (.tup (ns6.map V.int)):=j6;generalize L2.upd (L2.upd H5 l6 (.lst (ns6.map V.int))) l7 (.tup (ns6.map V.int))=H7 at e7 d7;refine⟨by show (2:Nat)<=_; decide,fun r8 H8 d8 e8=>q1 x hW r8 l7 H8 d8 (by rw[e8 _ _ d7,jC1 sr pm]) (fun b o hb hn=>e8 _ _ (e7 _ _ (x5 b o hb hn))) ((tab5.ext e7).ext e8)⟩
end
theorem TabOk.extO {H H':Hp}{T U:Addr}{pos:Pos}{q:Str}(t:TabOk H T pos q)(ne:T≠U)(u:∀ c,H c=some (.ext (ncP q c))->c≠U)(e:ExtT U H H'):TabOk H' T pos q:=by
 rcases t with h | ⟨c,h,h2⟩
 ·exact .inl (e _ _ h ne)
 ·exact .inr ⟨c,e _ _ h ne,e _ _ h2 (u c h2)⟩
structure Tb3 (H:Hp)(tb1 tb2 tb3:Addr):Prop where
 p:TabP H tb1
 w:TabW H tb2
 l:TabL H tb3
 n12:tb1≠tb2
 n13:tb1≠tb3
 n23:tb2≠tb3
def Ex3 (tb1 tb2 tb3:Addr)(H H':Hp):Prop:=∀ b o,H b=some o->b≠tb1->b≠tb2->b≠tb3->H' b=some o
section
variable {H H' H1 H2:Hp}
theorem Tb3.ext (t:Tb3 H tb1 tb2 tb3)(e:Ext H H'):Tb3 H' tb1 tb2 tb3:=⟨t.p.ext e,t.w.ext e,t.l.ext e,t.n12,t.n13,t.n23⟩
theorem Tb3.extP (t:Tb3 H tb1 tb2 tb3)(e:ExtT tb1 H H')(p:TabP H' tb1):Tb3 H' tb1 tb2 tb3:=⟨p,TabOk.extO t.w t.n12.symm (fun c h=>t.p.ne h (by intro _ z; cases z)) e,TabOk.extO t.l t.n13.symm (fun c h=>t.p.ne h (by intro _ z; cases z)) e,t.n12,t.n13,t.n23⟩
theorem Tb3.extW (t:Tb3 H tb1 tb2 tb3)(e:ExtT tb2 H H')(p:TabW H' tb2):Tb3 H' tb1 tb2 tb3:=⟨TabOk.extO t.p t.n12 (fun c h=>t.w.ne h (by intro _ z; cases z)) e,p,TabOk.extO t.l t.n23.symm (fun c h=>t.w.ne h (by intro _ z; cases z)) e,t.n12,t.n13,t.n23⟩
theorem Ex3.of (e:Ext H H'):Ex3 tb1 tb2 tb3 H H':=fun b o h _ _ _=>e b o h
theorem Ex3.ofP (e:ExtT tb1 H H'):Ex3 tb1 tb2 tb3 H H':=fun b o h n _ _=>e b o h n
theorem Ex3.ofW (e:ExtT tb2 H H'):Ex3 tb1 tb2 tb3 H H':=fun b o h _ n _=>e b o h n
theorem Ex3.ofL (e:ExtT tb3 H H'):Ex3 tb1 tb2 tb3 H H':=fun b o h _ _ n=>e b o h n
theorem Ex3.at (e:Ex3 tb1 tb2 tb3 H H')(t:Tb3 H tb1 tb2 tb3){b:Addr}{o:HO}(h:H b=some o)(ho:∀ ps,o≠ .tbl ps:=by intro _ z; cases z):H' b=some o:=e b o h (t.p.ne h ho) (t.w.ne h ho) (t.l.ne h ho)
theorem Ex3.tups (e:Ex3 tb1 tb2 tb3 H H')(t:Tb3 H tb1 tb2 tb3):Tups H H':=fun b xs h=>e.at t h
end
theorem qI {H:Hp} :∀ {us:List V}{ws:Af},LsAt H us ws->TsAt H (ws.map fun x=>Tr.tup (x.map Tr.int)) us
 | [],[],_=>rfl
 | v::us,x::ws,⟨⟨a,e,h⟩,r⟩=>⟨v,us,rfl,⟨a,_,e,h,jT3 x⟩,qI r⟩
theorem jC6:∀ (ws:Af),deps (ws.map fun x=>Tr.tup (x.map Tr.int))<=100
 | []=>by show (0:Nat)<=100; decide
 | x::ws=>by
  refine Nat.max_le.mpr ⟨?_,jC6 ws⟩;show deps (x.map Tr.int)+1<=100;rw[jI5];decide
theorem jSW (ws:Af):eqTs (ws.map fun x=>Tr.tup (x.map Tr.int)) []=decide (ws=[]):=by
 cases ws <;> rfl
theorem jQM {a b:Ag}(h:a.Perm b):a.sum=b.sum:=by
 induction h with
 | nil=>rfl
 | cons x _ ih=>rw[dk,dk,ih]
 | swap x y l=>rw[dk,dk,dk,dk]; lia
 | trans _ _ h1 h2=>exact h1.trans h2
theorem jMA (Ar:Ae)(x:Ag):wt Ar (srt x)=wt Ar x:=by
 unfold wt;exact jQM ((kW x).map _)
abbrev jJ0:Am:=["box","covering"]
theorem scWeight:FnScope jJ0 ["box","covering"] (j8 jBF):= {}
def jAM:Sp:=fun vs H Q _=>∃ (b a:Addr) (w:Int) (ms:Ag) (Ar:Ae) (ks:Ag),vs=[.ref b, .ref a]/\BoxAt H b w ms Ar/\H a=some (.tup (ks.map V.int))/\(∀ k∈ks,0<=k/\k<Ar.length)/\ks.length<=100/\∀ H',Ext H H'->Q (.int (wt Ar ks)) H'
def jTG (T:Txt mg): { t:TS // JSs (XOf jJ0 "_law_weight" jBF P w K mg Aq f ki A Ap s H0 E) (jE jBF) t} :=
 have nd:=scWeight.nd
 ⟨_,(jD (jP (jK (jF0 rfl) gD T.sum Ab (j3 (kI (m:=[none,some 0]) (Nc:=["k","box"]) rfl (qP (jv 1 rfl vL)) rfl Ab Ab (jQ (psc:=j8 jBF)) (jJ (N:=jJ0) rfl rfl Ab) (fun cl C fp s H=>jL (i:=0) (show (["k","box"]:Am).Nodup by decide+kernel) rfl yD) (fun cl C fp s H=>kR) (fun cl C fp s H=>(jH kG (jH kG (jH kG (jv 1 rfl kD) (je_int) jC) (jv 0 rfl jM) yU) (je_int) jC)) y8) j7 jN) jN)))⟩
theorem jNH {fd:FuncData}(F:Fun K "_law_weight" "_law_weight" jBF f fd)(T:Txt mg):FnOk P w K mg Aq CX0 1 f fd ["box","covering"] jAM:=by
 refine F.ok scWeight (fun vs H Q E h=>?_) (fun ki A Ap s H vs Q E hr h=>?_)
 ·obtain⟨_,_,_,_,_,_,rfl,_⟩:=h;rfl
 ·obtain⟨b,a,wi,ms,Ar,ks,rfl,hB,ha,hk,hl,q⟩:=h;refine⟨_,(jTG T).2.h,?_⟩;obtain⟨qm,qp,ps,b1,b2,b3,b4⟩:=id hB.ex;refine⟨_,rfl,a,rfl,⟨_,SqT.of ha⟩,jCV (xs:=ks.map V.int) (fun σ=>∃ v,σ=[v,some (.ref b)]) (mapZ ks fun k=>V.int (wgt Ar k)) (mapZ.ok _ _) ha (by rw[ab,aw]; lia) ⟨_,rfl⟩ ?_ ?_⟩
  ·rintro j x σ' H' zs hx ⟨v,rfl⟩ e hz S1 S2 yes no;obtain⟨k,hk',rfl⟩:=int_at hx;have kb:=hk k (ay hk');obtain⟨pv,hpv,pa,pw,rfl,ha1,ha2⟩:=b4.get (k:=k.toNat) Aa;have at1:atI ps k=some (.ref pa):=by
    have:=yQ hpv
    rwa [show ((k.toNat:Nat):Int)=k by lia] at this
   dsimp only [kJ,yL];rw[ao rfl];exact⟨_,rfl,b,_,2,_,rfl,rfl,SqT.of (e _ _ b1),rfl,_,rfl,qp,_,k,_,rfl,rfl,SqT.of (e _ _ b3),at1,pa,_,1,_,rfl,rfl,SqT.of (e _ _ ha1),rfl,yes _ _ _ ⟨_,rfl⟩ (Ext.refl _) (hz.yes hk')⟩
  ·rintro D H' zs hD e nD hz;have hz:=hz.all (by rw[ab]; exact ak _);have hz2:zs=(ks.map (wgt Ar)).map V.int:=by rw[hz,bH]; rfl
   rw[hz2] at hD;exact⟨D,_,rfl,SqL.of hD,q H' e⟩
section
variable {w:Int}(g:Good 16 32 w ms Ar)
include g
theorem jR4 {ds:Ag}{t k:Int}(h:nxt w.toNat ms Ar ds=some (t,k)):t∉ms/\qL Ar ds t=[k]:=by
 unfold nxt at h;obtain⟨n,hn,e⟩:=gm.mp h;have hc:=i5 hn;unfold cand at hc;rw[bG,aW,cg,bR] at hc;obtain⟨k',hk'⟩:=gu.mp hc.2;rw[hk'] at e;have e:((n:Int),k')=(t,k):=e;cases e;exact⟨hc.1,hk'⟩
theorem jVN {ds:Ag}{k:Int} :fitS ds (Ar.getD k.toNat ([],0))=true↔∀ t∈j5 Ar k,t∉ds:=by
 unfold fitS;rw[cg,eJ];exact iE fun t=>iE fun _=>by rw[aW]
theorem jL0 {ds:Ag}{t k:Int} :k∈qL Ar ds t↔(0<=k/\k<Ar.length)/\t∈j5 Ar k/\∀ u∈j5 Ar k,u∉ds:=by
 unfold qL;rw[aS,mem_upto,bG,aW,jVN g]
theorem jX3 {c tk:Ag}(C:IsCov w ms Ar c){ds:Ag}(hd:∀ t,t∈ds↔∃ k∈tk,t∈j5 Ar k)(hk:∀ k∈tk,k∈c){t k:Int}(h:nxt w.toNat ms Ar ds=some (t,k))(t0:0<=t)(t1:t<w):k∈c:=by
 obtain⟨hm,ho⟩:=jR4 g h;have hkin:k∈qL Ar ds t:=by rw[ho]; exact aI.mpr rfl
 obtain⟨_,ht,hf⟩:=(jL0 g).mp hkin;obtain⟨k',hk',ht'⟩:=C.cov t t0 t1 hm;have nt:k'∉tk:=fun z=>hf t ht ((hd t).mpr ⟨k',z,ht'⟩);have:k'∈qL Ar ds t:=(jL0 g).mpr ⟨C.ris.bnd k' hk',ht',fun u hu z=>by
  obtain⟨k2,h2,hu2⟩:=(hd u).mp z;exact C.dis k' hk' k2 (hk k2 h2) (fun q=>nt (q ▸ h2)) u hu hu2⟩
 rw[ho,aI] at this;rw[<- this];exact hk'
end
abbrev IC (b:Bx)(c:Ag):Prop:=IsCov b.1 b.2.1 b.2.2 c
theorem jQA {a b:Ag}(h:a.Perm b):srt a=srt b:=jC1 (jHC a) ((kW a).trans h)
theorem jFY {a:Ag}(h:a.Pairwise (· < ·)):srt a=a:=jMU (h.imp fun {x y} h=>by lia)
structure Led (B b:Bx)(ks tk:Ag):Prop where
 kr:Ris B.2.2.length ks
 kl:ks.length=b.2.2.length
 tr:Ris B.2.2.length tk
 off:∀ k∈tk,k∉ks
 bk:∀ c,IC b c->IC B (srt (tk++kOf ks c))
 th:∀ c,IC B c->∃ c',IC b c'/\srt (tk++kOf ks c')=c
 wg:∀ j:Int,0<=j->j<ks.length->wgt b.2.2 j=wgt B.2.2 (ks.getD j.toNat 0)
theorem jKQ {n:Nat}{c:Ag}(h:∀ j∈c,0<=j/\j<n):kOf (upto n) c=c:=by
 unfold kOf;refine(bF fun j hj=>?_).trans (eB _);have:=h j hj;rw[ag,jAC Aa];show ((j.toNat:Nat):Int)=j;lia
theorem jRE (B:Bx):Led B B (upto B.2.2.length) [] where
 kr:=kT _
 kl:=kU _
 tr:=⟨List.Pairwise.nil,fun z hz=>by cases hz⟩
 off k hk:=by cases hk
 bk c C:=by
  rw[fz,jKQ C.ris.bnd,jFY C.ris.ris];exact C
 th c C:=⟨c,C,by rw[fz,jKQ C.ris.bnd,jFY C.ris.ris]⟩
 wg j h0 h1:=by
  rw[kU] at h1;rw[ag,jAC Aa];show _=wgt B.2.2 ((j.toNat:Nat):Int);rw[Int.toNat_of_nonneg h0]
theorem jNA {ts:Ag}{Ar:Ae}{ks:Ag}{j:Int}(h0:0<=j)(h1:j<ks.length):wgt (pick ts Ar ks) j=wgt Ar (ks.getD j.toNat 0):=by
 unfold wgt pick;rw[ag,aL,(kget h0 h1).2];rfl
theorem kOf_mem {ks c:Ag}{k:Int} :k∈kOf ks c↔∃ j∈c,ks.getD j.toNat 0=k:=by
 unfold kOf;rw[aQ]
theorem jKR {ks c:Ag}(h:∀ j∈c,0<=j/\j<ks.length){k:Int}(hk:k∈kOf ks c):k∈ks:=by
 obtain⟨j,hj,rfl⟩:=kOf_mem.mp hk;exact(kget (h j hj).1 (h j hj).2).1
theorem jOH {ks:Ag}(r:ks.Pairwise (· < ·)){i j:Int}(i0:0<=i)(i1:i<ks.length)(j0:0<=j)(j1:j<ks.length)(e:ks.getD i.toNat 0=ks.getD j.toNat 0):i=j:=by
 rcases Int.lt_trichotomy i j with h | h | h
 ·have:=jGO r i0 h j1;lia
 ·exact h
 ·have:=jGO r j0 h i1;lia
theorem jOG {ks c:Ag}(r:ks.Pairwise (· < ·))(h:∀ j∈c,0<=j/\j<ks.length)(rc:c.Pairwise (· < ·)):(kOf ks c).Pairwise (· < ·):=by
 unfold kOf;refine bA.mpr (dU (fun {a b} ha hb l=>jGO r (h a ha).1 l (h b hb).2) rc)
theorem jRS {b:Bx}(g:GB b){k:Int}(k0:0<=k)(k1:k<b.2.2.length)(h:idleB b.1 b.2.1 b.2.2 (j5 b.2.2 k)=true){c:Ag}(C:IC b c):k∉c:=fun hk=>by
 unfold idleB at h;obtain⟨m,hm,hi⟩:=dF.mp h;obtain⟨m1,m2⟩:=aS.mp hm;have m2:m∉j5 b.2.2 k:=by simpa using m2
 obtain⟨u0,u1,u2⟩:=mus_mem.mp m1;have w0:=g.w0;obtain⟨q,hq,hqm⟩:=C.cov m u0 Aa u2;unfold jKZ at hi;obtain⟨x,hx,hx2⟩:=dF.mp hi;have qb:=C.ris.bnd q hq;have hin:j5 b.2.2 q∈qV b.2.2 m:=by
  unfold qV;have e:j5 b.2.2 q=(b.2.2[q.toNat]' Aa).1:=by
   unfold j5;rw[ag,aA (show q.toNat<b.2.2.length by lia)];rfl
  rw[e] at hqm ⊢;exact cx (aS.mpr ⟨cm _,aq hqm⟩)
 have hxq:=aE (bC.mp hx2 _ hin);exact C.dis k hk q hq (fun e=>m2 (e ▸ hqm)) x hx hxq
theorem jRD {b:Bx}(g:GB b){x:St3}(h:stp b=some x):Led b (cut b x.1 x.2.1) x.2.1 x.2.2:=by
 have o:=jJW g h;have w0:=g.w0;have kl:x.2.1.length=(cut b x.1 x.2.1).2.2.length:=(ab ..).symm;unfold stp at h;cases hi:lIdle b with
 | some k=>
  rw[hi] at h;cases h;have hk:=jGN hi;have hid:=i5 hi;have al:∀ j∈butN b.2.2.length k,∀ t∈j5 b.2.2 j,t∈upto b.1.toNat:=fun j hj t ht=>by
   have jb:=o.a.bnd j hj;have:=(qB g jb.1 jb.2).bnd t ht;exact mem_upto.mpr Aa
  refine⟨o.a,kl,⟨List.Pairwise.nil,fun z hz=>by cases hz⟩,fun k hk=>(by cases hk),fun c C=>?_,fun c C=>?_,fun j h0 h1=>jNA h0 h1⟩
  ·have S:=jMT (kT _).ris o.a.ris al C;show IC b (srt ([]++kOf (butN b.2.2.length k) c));rw[fz,jFY S.ris];exact⟨⟨S.ris,fun j hj=>o.a.bnd j (S.sub j hj)⟩,S.dis,fun t t0 t1 hn=>S.cov t (mem_upto.mpr Aa) hn⟩
  ·have hko:(k:Int)∉c:=jRS g Aa Aa hid C;have S:SubCov b.2.1 b.2.2 (upto b.1.toNat) (butN b.2.2.length k) c:=⟨C.ris.ris,fun j hj=>aS.mpr ⟨mem_upto.mpr (C.ris.bnd j hj),by simpa using fun e:j=(k:Int)=>hko (e ▸ hj)⟩,C.dis,fun t ht hn=>C.cov t (mem_upto.mp ht).1 (by have:=(mem_upto.mp ht).2; lia) hn⟩;refine⟨jOf (butN b.2.2.length k) c,jPG (kT _).ris o.a.ris S,?_⟩;show srt ([]++kOf (butN b.2.2.length k) (jOf (butN b.2.2.length k) c))=c;rw[fz,kj S.sub,jFY C.ris.ris]
 | none=>
  rw[hi] at h;cases hn:nxt b.1.toNat b.2.1 b.2.2 [] with
  | none=>
   rw[hn] at h;cases h
  | some p=>
   rw[hn] at h;cases h;obtain⟨t,k⟩:=p;obtain⟨t0,t1,k0,k1,htk⟩:=jNS hn;have ef: [k].flatMap (j5 b.2.2)=j5 b.2.2 k:=Ad;have r1:Ris b.2.2.length [k]:=⟨ev _ _,fun z hz=>by rw[aI.mp hz]; exact⟨k0,k1⟩⟩;have dj:∀ i∈[k],∀ j∈[k],i≠j->∀ t∈j5 b.2.2 i,t∉j5 b.2.2 j:=fun i hi j hj ne=>absurd ((aI.mp hi).trans (aI.mp hj).symm) ne;have et:tsB b.1 b.2.2 [k]=lftT b.1 (j5 b.2.2 k):=bL (lftT b.1) ef;have ea:apB b.1 b.2.2 [k]=lftP b.2.2 (lftT b.1 (j5 b.2.2 k)):=bL (lftP b.2.2) et;have al:∀ j∈lftP b.2.2 (lftT b.1 (j5 b.2.2 k)),∀ t∈j5 b.2.2 j,t∈lftT b.1 (j5 b.2.2 k):=fun j hj=>((jCN g).mp hj).2;refine⟨o.a,kl,r1,fun j hj hj2=>?_,fun c C=>?_,fun c C=>?_,fun j h0 h1=>jNA h0 h1⟩
   ·rw[aI.mp hj] at hj2;exact((jB6 w0).mp (al k hj2 t htk)).2 htk
   ·have S:=jMT (jGH _ _) (jGI _ _) al C;rw[<- et] at S;have:=jX2 g r1 S dj;rw[et] at this;exact this
   ·have hkc:∀ j∈[k],j∈c:=fun j hj=>by
     rw[aI.mp hj];exact jX3 g C (tk:=[]) (fun u=>⟨fun z=>(by cases z),fun ⟨_,z,_⟩=>(by cases z)⟩) (fun j hj=>by cases hj) hn t0 Aa
    have S:=jSP g C hkc;have sb:=S.sub;rw[et,ea] at S;refine⟨jOf (lftP b.2.2 (lftT b.1 (j5 b.2.2 k))) (c.filter fun j=>!decide (j∈[k])),jPG (jGH _ _) (jGI _ _) S,?_⟩;show srt ([k]++kOf (lftP b.2.2 (lftT b.1 (j5 b.2.2 k))) (jOf (lftP b.2.2 (lftT b.1 (j5 b.2.2 k))) _))=c;rw[kj S.sub];exact jSC g r1 C hkc
theorem jV7 {ks ks' c:Ag}(h:∀ j∈c,0<=j/\j<ks'.length):kOf (kOf ks ks') c=kOf ks (kOf ks' c):=by
 unfold kOf;rw[bH];refine bF fun j hj=>?_;rw[ag,aL,(kget (h j hj).1 (h j hj).2).2];rfl
theorem jRF {B b b':Bx}{ks tk ks' tk':Ag}(L:Led B b ks tk)(L':Led b b' ks' tk'):Led B b' (kOf ks ks') (srt (tk++kOf ks tk')):=by
 have kb:∀ j∈ks',0<=j/\j<ks.length:=fun j hj=>by rw[L.kl]; exact L'.kr.bnd j hj
 have tb:∀ j∈tk',0<=j/\j<ks.length:=fun j hj=>by rw[L.kl]; exact L'.tr.bnd j hj
 have cb:∀ {c:Ag},IC b' c->∀ j∈c,0<=j/\j<ks'.length:=fun C j hj=>by rw[L'.kl]; exact C.ris.bnd j hj
 have key:∀ {c:Ag},IC b' c->srt (srt (tk++kOf ks tk')++kOf (kOf ks ks') c)=srt (tk++kOf ks (srt (tk'++kOf ks' c))):=fun {c} C=>by
  refine jQA ?_;rw[jV7 (cb C)];refine((kW (tk++kOf ks tk')).append_right _).trans ?_;rw[aY];refine cL tk ?_;have:kOf ks tk'++kOf ks (kOf ks' c)=kOf ks (tk'++kOf ks' c):=(aK ..).symm;rw[this];exact((kW (tk'++kOf ks' c)).map _).symm
 have mt:∀ {k:Int},k∈srt (tk++kOf ks tk')↔k∈tk\/k∈kOf ks tk':=by
  intro k;rw[(kW _).mem_iff,aN]
 refine⟨⟨jOG L.kr.ris kb L'.kr.ris,fun z hz=>L.kr.bnd z (jKR kb hz)⟩,(ab ..).trans L'.kl,⟨?_,fun z hz=>?_⟩,fun k hk hk2=>?_,fun c C=>?_,fun c C=>?_,fun j h0 h1=>?_⟩
 ·have n1:tk.Nodup:=L.tr.ris.imp fun {a b} h=>by lia
  have n2:(kOf ks tk').Nodup:=(jOG L.kr.ris tb L'.tr.ris).imp fun {a b} h=>by lia
  have nd:=(kW (tk++kOf ks tk')).nodup_iff.mpr (dR.mpr ⟨n1,n2,fun a ha c hc e=>L.off a ha (e ▸ jKR tb hc)⟩);exact(gh (jHC _) nd).imp fun {a b} h=>by lia
 ·rcases mt.mp hz with h | h
  ·exact L.tr.bnd z h
  ·exact L.kr.bnd z (jKR tb h)
 ·rcases mt.mp hk with h | h
  ·exact L.off k h (jKR kb hk2)
  ·obtain⟨i,hi,e1⟩:=kOf_mem.mp h;obtain⟨j,hj,e2⟩:=kOf_mem.mp hk2;have:=jOH L.kr.ris (tb i hi).1 (tb i hi).2 (kb j hj).1 (kb j hj).2 (e1.trans e2.symm);exact L'.off i hi (this ▸ hj)
 ·rw[key C];exact L.bk _ (L'.bk c C)
 ·obtain⟨c1,C1,e1⟩:=L.th c C;obtain⟨c2,C2,e2⟩:=L'.th c1 C1;exact⟨c2,C2,by rw[key C2,e2,e1]⟩
 ·have h1':j<ks'.length:=by rw[show (kOf ks ks').length=ks'.length from ab ..] at h1; exact h1
  have e:(kOf ks ks').getD j.toNat 0=ks.getD (ks'.getD j.toNat 0).toNat 0:=by
   unfold kOf;rw[ag,aL,(kget h0 h1').2];rfl
  have b1:=kb _ (kget h0 h1').1;rw[e,L'.wg j h0 h1',L.wg _ b1.1 b1.2]
theorem jN1 {B:Bx} :∀ (n:Nat) {S:S4},SOk S->Led B S.1 S.2.2.1 S.2.2.2->Led B (runS n S).1 (runS n S).2.2.1 (runS n S).2.2.2
 | 0,_,_,h=>h
 | n+1,S,o,h=>by
  unfold runS;cases hx:stp S.1 with
  | none=>exact h
  | some x=>exact jN1 n (jPZ o hx) (jRF h (jRD o.g hx))
theorem jEX {b:Bx}(g:GB b):Led b (endS b).1 (endS b).2.2.1 (endS b).2.2.2:=jN1 _ (jJN g) (jRE b)
def yY (ks tk c:Ag):Ag:=srt (tk++kOf ks c)
def yR (ks c:Ag):Ag:=(upto ks.length).filter fun j=>decide (ks.getD j.toNat 0∈c)
section
variable {B b:Bx}{ks:Ag}(L:Led B b ks tk)(gB:GB B)(gb:GB b)
include L
theorem jAX {c:Ag}(C:IC b c):yR ks (yY ks tk c)=c:=by
 have cb:∀ j∈c,0<=j/\j<ks.length:=fun j hj=>by rw[L.kl]; exact C.ris.bnd j hj
 refine jN3 ((kT ks.length).ris.sublist da) C.ris.ris fun j=>?_;unfold yR yY;rw[aS,mem_upto,aW,(kW _).mem_iff,aN];constructor
 ·rintro ⟨jb,h | h⟩
  ·exact absurd (kget jb.1 jb.2).1 (L.off _ h)
  ·obtain⟨i,hi,e⟩:=kOf_mem.mp h;rw[<- jOH L.kr.ris (cb i hi).1 (cb i hi).2 jb.1 jb.2 e];exact hi
 ·intro hj;exact⟨cb j hj, .inr (kOf_mem.mpr ⟨j,hj,rfl⟩)⟩
theorem jBY {c:Ag}(C:IC B c):yY ks tk (yR ks c)=c/\IC b (yR ks c):=by
 obtain⟨c',C',e⟩:=L.th c C;have e':yR ks c=c':=by
  rw[<- e];exact jAX L C'
 rw[e'];exact⟨e,C'⟩
theorem jMC {c:Ag}(C:IC b c):wt B.2.2 (yY ks tk c)=wt B.2.2 tk+wt b.2.2 c:=by
 have cb:∀ j∈c,0<=j/\j<ks.length:=fun j hj=>by rw[L.kl]; exact C.ris.bnd j hj
 unfold yY;rw[jMA];unfold wt kOf;rw[aK,List.sum_append,bH];congr 2;exact bF fun j hj=>(L.wg j (cb j hj).1 (cb j hj).2).symm
include gB gb
theorem jF1:((cvs b.1 b.2.1 b.2.2).map (yY ks tk)).Perm (cvs B.1 B.2.1 B.2.2):=by
 refine(eS ?_ (jI6 gB)).mpr fun c=>?_
 ·refine bA.mpr (dU (fun {x y} hx hy ne e=>ne ?_) (jI6 gb));rw[<- jAX L ((yC gb).mp hx),<- jAX L ((yC gb).mp hy),e]
 ·rw[aQ,yC gB];constructor
  ·rintro ⟨c',h,rfl⟩;exact L.bk _ ((yC gb).mp h)
  ·intro C;obtain⟨e,C'⟩:=jBY L C;exact⟨_,(yC gb).mpr C',e⟩
theorem jLE:((cvs B.1 B.2.1 B.2.2).map (yR ks)).Perm (cvs b.1 b.2.1 b.2.2):=by
 refine((jF1 L gB gb).symm.map (yR ks)).trans ?_;rw[bH];have:(cvs b.1 b.2.1 b.2.2).map (yR ks ∘ yY ks tk)=cvs b.1 b.2.1 b.2.2:=(bF fun c hc=>jAX L ((yC gb).mp hc)).trans (eB _);rw[this]
theorem jK3:(cvs b.1 b.2.1 b.2.2).length=(cvs B.1 B.2.1 B.2.2).length:=by
 rw[<- (jF1 L gB gb).length_eq,ab]
theorem jSE {x:Ag}{m:Int}(hx:minW b.2.2 (wk (chs b.1.toNat b.2.1 b.2.2) 0)=some x)(hm:m∈(cvs B.1 B.2.1 B.2.2).map (wt B.2.2))(hl:∀ a∈(cvs B.1 B.2.1 B.2.2).map (wt B.2.2),m<=a):wt b.2.2 x+wt B.2.2 tk=m:=by
 obtain⟨x1,x2⟩:=jDY hx;have hs:srt x∈cvs b.1 b.2.1 b.2.2:=cx x1;have C:=(yC gb).mp hs;have a1:=hl _ (cx ((yC gB).mpr (L.bk _ C)));have e1:=jMC L C;rw[jMA] at e1;have a1:m<=wt B.2.2 (yY ks tk (srt x)):=a1;obtain⟨c,hc,rfl⟩:=aQ.mp hm;obtain⟨e,C'⟩:=jBY L ((yC gB).mp hc);have e2:=jMC L C';rw[e] at e2;obtain⟨z,hz,ez⟩:=aQ.mp ((yC gb).mpr C');have:=x2 z hz;rw[<- ez,jMA] at e2;lia
end
theorem jI7 {Ar:Ae}{t:Int} :∀ {c:Ag},c.Nodup->(∀ k∈c,(j5 Ar k).Nodup)->(∀ k∈c,∀ k'∈c,k≠k'->∀ t∈j5 Ar k,t∉j5 Ar k')->(c.flatMap (j5 Ar)).count t=if ∃ k∈c,t∈j5 Ar k then 1 else 0
 | [],_,_,_=>by simp
 | k::c,nd,hn,dj=>by
  obtain⟨n1,n2⟩:=cF.mp nd;have ih:=jI7 (t:=t) n2 (fun k hk=>hn k (aB _ hk)) fun k hk k' hk'=>dj k (aB _ hk) k' (aB _ hk');rw[gt,List.count_append,ih];have e1:(j5 Ar k).count t=if t∈j5 Ar k then 1 else 0:=(hn k (az ..)).count
  rw[e1];by_cases h:t∈j5 Ar k
  ·have no:¬ ∃ k'∈c,t∈j5 Ar k':=fun ⟨k',h1,h2⟩=>dj k (az ..) k' (aB _ h1) (fun e=>n1 (e ▸ h1)) t h h2;rw[ao h,am no,ao ⟨k,az .., h⟩]
  ·rw[am h,jz];by_cases q:∃ k'∈c,t∈j5 Ar k'
   ·rw[ao q,ao (let ⟨k',h1,h2⟩:=q; ⟨k',aB _ h1,h2⟩)]
   ·have nq:¬ ∃ k'∈k::c,t∈j5 Ar k':=fun ⟨k',h1,h2⟩=>by
     rcases aG.mp h1 with rfl | h1
     ·exact h h2
     ·exact q ⟨k',h1,h2⟩
    rw[am q,am nq]
abbrev nCov:Am:=["box","thing","held","number"]
theorem scCov:FnScope nCov ["box","thing"] (j8 sCov):= {}
def jFF:Sp:=fun vs H Q _=>∃ (b a:Addr) (w:Int) (ms:Ag) (Ar:Ae) (c:Ag),vs=[.ref b, .ref a]/\BoxAt H b w ms Ar/\Good 16 32 w ms Ar/\H a=some (.tup (c.map V.int))/\IsCov w ms Ar c/\∀ H',Ext H H'->Q (.bl true) H'
def covA (T:Txt mg)(CL:Can P w K mg Aq "is_lot" 3 fL fdL ["thing","many"] (spB2 lotB))(hr:Room 3 (XOf nCov "is_covering" sCov P w K mg Aq f ki A Ap s H0 E).A): { t:TS // JSs (XOf nCov "is_covering" sCov P w K mg Aq f ki A Ap s H0 E) (jE sCov) t} :=
 have nd:=scCov.nd
 ⟨_,(j9 (yA (jDS (qZ (CL.je hr gD (j3 (jv 1 rfl vL) (j3 (jK jW gD T.len Ab (j3 (jH jI (jv 0 rfl vC) (je_int) jC) j7 jF) jF) j7 jG) j4) j4) qF)) (jD (jP (je_bl))) jZ)
   (j9 (jR (i:=2) nd rfl qY (jBK j7) jFA)
   (j9 (x6 bX rfl (qP (jv 1 rfl vL)) (jL (i:=3) nd rfl lL) (jD (jEP (je_bm ce ix iy jFL (jv 2 rfl vC) (j3 (jH jI (jH jI (jH jI (jv 0 rfl vC) (je_int) jC) (jv 3 rfl vL) yU) (je_int) jC) j7 jF) jF) jY)) y8)
   (jD (jP (jK (jBM rfl) gD T.all Ab (j3 (kI (m:=[none,some 2,some 0]) (Nc:=["one","held","box"]) rfl (jA7 gD T.range (j3 (jH jI (jv 0 rfl vC) (je_int) jC) j7 jF) jF) rfl Ab Ab (jQ (psc:=j8 sCov)) (jJ (N:=nCov) rfl rfl Ab) (fun cl C fp s H=>jL (i:=0) (show (["one","held","box"]:Am).Nodup by decide+kernel) rfl yD) (fun cl C fp s H=>kR) (fun cl C fp s H=>((jOQ (yV op_le (jOP ce iK iL jHS (jv 1 rfl kD) (j3 (jv 0 rfl jM) j7 j4) j4) (je_int) (jV _)) (jHZ ((je_or (yV qX (jOP ce iK iL jHS (jv 1 rfl kD) (j3 (jv 0 rfl jM) j7 j4) j4) (je_int) (jV _)) (jHZ (yV jD5 (jv 0 rfl jM) (jH kG (jv 2 rfl kD) (je_int) jC) jHQ)))))))) kS) j7 jN) jN))))))⟩
theorem jUT {fd:FuncData}(F:Fun K "is_covering" "is_covering" sCov f fd)(T:Txt mg)(CL:Can P w K mg Aq "is_lot" 3 fL fdL ["thing","many"] (spB2 lotB)):FnOk P w K mg Aq CX0 4 f fd ["box","thing"] jFF:=by
 refine F.ok scCov (fun vs H Q E h=>?_) (fun ki A Ap s H vs Q E hr h=>?_)
 ·obtain⟨_,_,_,_,_,_,rfl,_⟩:=h;rfl
 ·obtain⟨b,a,w,ms,Ar,c,rfl,hB,g,ha,C,q⟩:=h;obtain⟨qm,qp,ps,b1,b2,b3,b4⟩:=id hB.ex;have pl:=b4.len;have gl:=g.pl;have w0:=g.w0;have w1:=g.w1;have cl:=yT c 0 _ C.ris.ris C.ris.bnd;have c32:c.length<=32:=Aa;refine⟨_,(covA T CL hr).2.h,?_⟩;have hA:At H (.tup (c.map Ob.int)) (.ref a):=jTA ha (by rw[ab]; lia) (Ats.ints c);refine⟨_,rfl,_,rfl,b,_,2,_,rfl,rfl,SqT.of b1,rfl,qp,_,rfl, .inr (SqT.of b3), .ref a,_,_,rfl,hA,fun H1 e1=>⟨_,rfl,?_⟩⟩;rw[pl,jEL C.ris.ris C.ris.bnd];refine iteF ?_;refine⟨by show (0:Nat)<=_; decide,fun l H2 d2 e2 n2=>?_⟩;have E2:=e1.trans e2;have n16:∀ k∈c,(j5 Ar k).length<=16:=fun k hk=>jBQ g (C.ris.bnd k hk).1 (C.ris.bnd k hk).2;refine⟨_,rfl,a,rfl,⟨_,SqT.of (E2 _ _ ha)⟩,jP4 (xs:=c.map V.int) (fun i σ H'=>(∃ v3,σ=[some (.ref b),some (.ref a),some (.ref l),v3])/\Ext H1 H'/\H' l=some (.lst (((c.take i).flatMap (j5 Ar)).map V.int))) ⟨⟨_,rfl⟩,e2,d2⟩ (fun i σ H' _ ⟨_,e,_⟩=>SqT.of (e _ _ (e1 _ _ ha))) ?_ ?_⟩
  ·rintro i v σ H3 hv ⟨⟨v3,rfl⟩,e3,hl3⟩;obtain⟨k,hk,rfl⟩:=int_at hv;have km:=ay hk;have kb:=C.ris.bnd k km;have E3:=e1.trans e3;obtain⟨pa,pq,g1,g2,g3⟩:=jCJ b4 kb.1 kb.2;have hn:=jGV (f:=j5 Ar) (ks:=c.take i) (fun k hk=>n16 k (bI hk)) 32 (by rw[bB]; lia);have hn2:=n16 k km;refine⟨_,rfl, .inl ⟨rfl,_,SqL.of hl3⟩,_,rfl,b,_,2,_,rfl,rfl,SqT.of (E3 _ _ b1),rfl,_,rfl,qp,_,k,_,rfl,rfl,SqT.of (E3 _ _ b3),g1,pa,_,0,_,rfl,rfl,SqT.of (E3 _ _ g2),rfl,l,pq,_,_,rfl,rfl,hl3,E3 _ _ g3,?_,⟨_,rfl⟩,e3.updNew n2 _,?_⟩
   ·rw[ab,ab,aw];lia
   ·rw[j6];have:c.take (i+1)=c.take i++[k]:=by rw[aV,hk]; rfl
    rw[this,jl,aK];simp
  ·rintro σ H3 ⟨⟨v3,rfl⟩,e3,hl3⟩;rw[ab,aZ] at hl3;have E3:=e1.trans e3;have cnt:∀ t:Int,((c.flatMap (j5 Ar)).map V.int).countP (fun z=>eqV z (.int t))=if ∃ k∈c,t∈j5 Ar k then 1 else 0:=fun t=>by
    rw[jPH];refine jI7 (C.ris.ris.imp fun {a b} h=>by lia) (fun k hk=>?_) C.dis;have kb:=C.ris.bnd k hk;exact(qB g kb.1 kb.2).ris.imp fun {a b} h=>by lia
   refine⟨_,rfl,b,_,0,_,rfl,rfl,SqT.of (E3 _ _ b1),rfl,w,rfl,Aa,Aa,jL6 (n:=w.toNat) (fun σ=>∃ v,σ=[v,some (.ref l),some (.ref b)]) (mapZ (upto w.toNat) fun _=>V.bl true) (mapZ.ok _ _) (by rw[aw]; lia) ⟨_,rfl⟩ ?_ ?_⟩
   ·rintro j σ' H4 zs hj ⟨v,rfl⟩ e hz S1 S2 yes no;have e0:(0+(j:Int))=(j:Int):=Aa;dsimp only [kJ,yL];rw[ao rfl];have hl4:=e _ _ hl3;have E4:=E3.trans e;refine⟨_,rfl, .inl ⟨rfl,_,SqL.of hl4⟩,_,rfl,l,_,_,rfl,rfl,hl4,rfl,kQ _,_,_,rfl,rfl,_,rfl,?_⟩;rw[e0,cnt];by_cases hh:∃ k∈c,(j:Int)∈j5 Ar k
    ·rw[ao hh];refine iteT ⟨_,rfl, .inl ⟨rfl,_,SqL.of hl4⟩,_,rfl,l,_,_,rfl,rfl,hl4,rfl,kQ _,rfl,_,rfl,?_⟩;rw[cnt,ao hh];exact iteT (yes _ _ _ ⟨_,rfl⟩ (Ext.refl _) (hz.yes (jAC hj)))
    ·rw[am hh];refine iteT ⟨_,rfl, .inl ⟨rfl,_,SqL.of hl4⟩,_,rfl,l,_,_,rfl,rfl,hl4,rfl,kQ _,rfl,_,rfl,?_⟩;rw[cnt,am hh];refine iteF ⟨_,rfl,_,rfl,b,_,1,_,rfl,rfl,SqT.of (E4 _ _ b1),rfl,qm,_,rfl, .inr (SqT.of (E4 _ _ b2)),rfl,kQ _,?_⟩;rw[yG,aq (cJ fun z=>hh (C.cov j Aa Aa z))];exact yes _ _ _ ⟨_,rfl⟩ (Ext.refl _) (hz.yes (jAC hj))
   ·rintro D H4 zs h4 e4 n4 hz;have hz:=hz.all (by rw[kU]; exact ak _);have hz2:zs=((upto w.toNat).map fun _=>true).map V.bl:=by rw[hz,bH]; rfl
    rw[hz2] at h4;refine⟨D,_,rfl,SqL.of h4,?_⟩;have:((upto w.toNat).map fun _=>true).all id=true:=by
     rw[gj];exact bC.mpr fun _ _=>rfl
    rw[this];exact q H4 (E3.trans e4)
abbrev eK (b:Bx):Ag:=(endS b).2.2.1
abbrev eT (b:Bx):Ag:=(endS b).2.2.2
abbrev jO0:Am:=["box","covering","told"]
theorem scLBack:FnScope jO0 ["box","covering"] (j8 jDM):= {}
def jBD (tb:Addr):Sp:=fun vs H Q _=>∃ (a ca:Addr) (b:Bx) (c:Ag),vs=[.ref a, .ref ca]/\BxAt H a b/\GB b/\H ca=some (.tup (c.map V.int))/\IC (endS b).1 c/\TabP H tb/\∀ r H',H' r=some (.tup ((yY (eK b) (eT b) c).map V.int))->ExtT tb H H'->TabP H' tb->Q (.ref r) H'
def jXC (T:Txt mg)(CU:Can P w K mg Aq "turned_smaller" 6 fU fdU ["box"] (yM tb))(CC:Can P w K mg Aq "is_covering" 4 fC fdC ["box","thing"] jFF)(CT:Can P w K mg Aq "traced" 1 fT fdT ["places","numbers"] jAN)(hr:Room 6 (XOf jO0 "led_back" jDM P w K mg Aq f ki A Ap s H0 E).A): { t:TS // JSs (XOf jO0 "led_back" jDM P w K mg Aq f ki A Ap s H0 E) (jE jDM) t} :=
 have nd:=scLBack.nd
 ⟨_,(j9 (jR (i:=2) nd rfl lL (CU.je hr gD (j3 (jv 0 rfl vL) j7 j4) j4) jY)
   (j9 (yA (jDS (qZ (CC.je (hr.mono Ac) gD (j3 (jH jI (jv 2 rfl vL) (je_int) jC) (j3 (jv 1 rfl vL) j7 j4) jF) jF) qF)) (jD (jKU)) jZ)
   (jD (jP (jU jT gD T.tuple Ab (j3 (jK jAR gD T.sorted Ab (j3 (kY jD6 (jH jI (jv 2 rfl vL) (je_int) jC) (CT.je (hr.mono Ac) gD (j3 (jv 1 rfl vL) (j3 (jH jI (jv 2 rfl vL) (je_int) jC) j7 jF) j4) j4)) j7 yP) yP) j7 jG) jG)))))⟩
theorem jQZ {fd:FuncData}(F:Fun K "led_back" "led_back" jDM f fd)(T:Txt mg)(CU:Can P w K mg Aq "turned_smaller" 6 fU fdU ["box"] (yM tb))(CC:Can P w K mg Aq "is_covering" 4 fC fdC ["box","thing"] jFF)(CT:Can P w K mg Aq "traced" 1 fT fdT ["places","numbers"] jAN):FnOk P w K mg Aq CX0 7 f fd ["box","covering"] (jBD tb):=by
 refine F.ok scLBack (fun vs H Q E h=>?_) (fun ki A Ap s H vs Q E hr h=>?_)
 ·obtain⟨_,_,_,_,rfl,_⟩:=h;rfl
 ·obtain⟨a,ca,b,c,rfl,hB,g,hc,C,tab,q⟩:=h;refine⟨_,(jXC T CU CC CT hr).2.h,?_⟩;have o:=jCA g;have pl:=o.g.pl;have ok:=o.k;have op:=o.p;have cl:=yT c 0 _ C.ris.ris C.ris.bnd;refine⟨_,rfl,a,b,rfl,hB,g,tab,fun r1 H1 S1 e1 t1=>?_⟩;have T1:=Tups.ofT e1 tab;obtain⟨x0,x1,x2,x3,s0,s1,s2,s3,s4⟩:=S1.ex;have hc1:=T1 _ _ hc;refine⟨_,rfl,r1,_,0,_,rfl,rfl,SqT.of s0,rfl,_,rfl,x0,ca,_,_,_,c,rfl,s1,o.g,hc1,C,fun H2 e2=>⟨_,rfl,iteF ?_⟩⟩;refine⟨_,rfl,r1,_,3,_,rfl,rfl,SqT.of (e2 _ _ s0),rfl,_,rfl,_,rfl,r1,_,2,_,rfl,rfl,SqT.of (e2 _ _ s0),rfl,ca,x2,c,eK b,rfl,e2 _ _ hc1,e2 _ _ s3,fun p hp=>?_,Aa,fun r3 H3 d3 e3=>?_⟩
  ·have:=C.ris.bnd p hp;rw[op];exact this
  refine⟨x3,r3,_,_,rfl,rfl,e3 _ _ (e2 _ _ s4),d3,by rw[ab,ab,ab,aw]; lia,fun r4 H4 d4 e4=>?_⟩;rw[<- aK] at d4;refine⟨r4,_,rfl,d4,by rw[aF,ab]; lia,fun l ns hl ple pm=>?_⟩;have en:ns=yY (eK b) (eT b) c:=jC1 ple pm;subst en;have e5:Ext H4 (L2.upd H4 l (.lst ((yY (eK b) (eT b) c).map V.int))):=(Ext.refl _).new hl _;have d5:(L2.upd H4 l (.lst ((yY (eK b) (eT b) c).map V.int))) l=some (.lst ((yY (eK b) (eT b) c).map V.int)):=j6;generalize L2.upd H4 l (.lst ((yY (eK b) (eT b) c).map V.int))=H5 at e5 d5;refine⟨l,_,rfl, .inl ⟨SqL.of d5,fun r6 hr6=>?_⟩⟩;have e6:Ext H5 (L2.upd H5 r6 (.tup ((yY (eK b) (eT b) c).map V.int))):=(Ext.refl _).new hr6 _;have E6:=(((e2.trans e3).trans e4).trans e5).trans e6;exact q r6 _ j6 (e1.trans (ExtT.of E6)) (t1.ext E6)
abbrev jGC:Am:=["box","covering"]
theorem scLThere:FnScope jGC ["box","covering"] (j8 jB3):= {}
def jAO (tb:Addr):Sp:=fun vs H Q _=>∃ (a ca:Addr) (b:Bx) (c:Ag),vs=[.ref a, .ref ca]/\BxAt H a b/\GB b/\H ca=some (.tup (c.map V.int))/\IC b c/\TabP H tb/\∀ r H',H' r=some (.tup ((yR (eK b) c).map V.int))->ExtT tb H H'->TabP H' tb->Q (.ref r) H'
def jV2 (T:Txt mg)(CU:Can P w K mg Aq "turned_smaller" 6 fU fdU ["box"] (yM tb))(CC:Can P w K mg Aq "is_covering" 4 fC fdC ["box","thing"] jFF)(hr:Room 6 (XOf jGC "led_there" jB3 P w K mg Aq f ki A Ap s H0 E).A): { t:TS // JSs (XOf jGC "led_there" jB3 P w K mg Aq f ki A Ap s H0 E) (jE jB3) t} :=
 have nd:=scLThere.nd
 ⟨_,(j9 (yA (jDS (qZ (CC.je (hr.mono Ac) gD (j3 (jv 0 rfl vL) (j3 (jv 1 rfl vC) j7 j4) j4) j4) qF)) (jD (jKU)) jZ)
   (jD (jP (jU jT gD T.tuple Ab (j3 (kI (m:=[none,none,some 1]) (Nc:=["place","number","covering"]) rfl (jEQ gD T.enumerate (j3 (jH jI (CU.je hr gD (j3 (jv 0 rfl vL) j7 j4) j4) (je_int) jC) j7 jF) jF) rfl Ab Ab (jQ (psc:=j8 jB3)) (jJ (N:=jGC) rfl rfl Ab) (fun cl C fp s H=>jAZ (i:=0) (j:=1) rfl (show (["place","number","covering"]:Am).Nodup by decide+kernel) rfl rfl Ab Ab) (fun cl C fp s H=>qD (jO jD5 (jv 1 rfl jM) (jv 2 rfl kD) jBI)) (fun cl C fp s H=>(jv 0 rfl jM)) kS) j7 jN) jN))))⟩
theorem jNN {fd:FuncData}(F:Fun K "led_there" "led_there" jB3 f fd)(T:Txt mg)(CU:Can P w K mg Aq "turned_smaller" 6 fU fdU ["box"] (yM tb))(CC:Can P w K mg Aq "is_covering" 4 fC fdC ["box","thing"] jFF):FnOk P w K mg Aq CX0 7 f fd ["box","covering"] (jAO tb):=by
 refine F.ok scLThere (fun vs H Q E h=>?_) (fun ki A Ap s H vs Q E hr h=>?_)
 ·obtain⟨_,_,_,_,rfl,_⟩:=h;rfl
 ·obtain⟨a,ca,b,c,rfl,hB,g,hc,C,tab,q⟩:=h;refine⟨_,(jV2 T CU CC hr).2.h,?_⟩;have o:=jCA g;have pl:=o.g.pl;have op:=o.p;refine⟨_,rfl,_,rfl,a,ca,_,_,_,c,rfl,hB,g,hc,C,fun H1 e1=>⟨_,rfl,iteF ?_⟩⟩;refine⟨_,rfl,a,b,rfl,hB.mono e1.tups,g,tab.ext e1,fun r1 H2 S1 e2 t2=>?_⟩;have T2:=Tups.ofT e2 (tab.ext e1);obtain⟨x0,x1,x2,x3,s0,s1,s2,s3,s4⟩:=S1.ex;have hc2:=T2 _ _ (e1 _ _ hc);have l32:(eK b).length<=32:=by rw[op]; lia
  refine⟨r1,_,2,_,rfl,rfl,SqT.of s0,rfl,true,x2,rfl,⟨_,SqT.of s3⟩,jS8 (tp:=true) (xs:=(eK b).map V.int) (fun σ=>∃ v v',σ=[v,v',some (.ref ca)]) (outZ (upto (eK b).length) (fun j=>decide ((eK b).getD j.toNat 0∈c)) V.int) (outZ.ok _ _ _) s3 (by rw[ab,aw]; lia) ⟨_,_,rfl⟩ ?_ ?_⟩
  ·rintro j x Tp σ' H' zs hx ⟨v,v',rfl⟩ e hT hz S3 S4 yes no;obtain⟨z,hz',rfl⟩:=int_at hx;have hj:j<(eK b).length:=(ai.mp hz').1;have ez:(eK b).getD ((j:Nat):Int).toNat 0=z:=by rw[bE,ag,hz']; rfl
   refine⟨Tp,_,rfl,SqT.of hT,rfl,_,_,rfl,_,_,rfl,rfl,?_⟩;refine⟨_,rfl,_,rfl,ca,_,rfl, .inr (SqT.of (e _ _ hc2)),rfl,kQ _,_,rfl,?_⟩;rw[yG];refine ite2 (fun h=>?_) (fun h=>?_)
   ·exact⟨_,rfl,yes _ _ _ ⟨_,_,rfl⟩ (Ext.refl _) (hz.yes (jAC hj) (by rw[ez]; exact h))⟩
   ·exact no _ _ ⟨_,_,rfl⟩ (Ext.refl _) (hz.no (jAC hj) (by rw[ez]; exact eL.mpr h))
  ·rintro D H3 zs h3 e3 n3 hz;have hz:=hz.all (by rw[kU,ab]; exact ak _);have hz:zs=(yR (eK b) c).map V.int:=hz;rw[hz] at h3;refine⟨D,_,rfl, .inl ⟨SqL.of h3,fun r4 hr4=>?_⟩⟩;have e4:Ext H3 (L2.upd H3 r4 (.tup ((yR (eK b) c).map V.int))):=(Ext.refl _).new hr4 _;have E4:=e3.trans e4;exact q r4 _ j6 (((ExtT.of e1).trans e2).trans (ExtT.of E4)) (t2.ext E4)
theorem jQ9 {tb p:Addr}{H:Hp}{xs:List V}{o:HO}(t:TabP H tb)(hp:H p=some (.lst xs)):TabP (L2.upd H p o) tb:=by
 have kp:∀ c u,H c=some u->c≠p->(L2.upd H p o) c=some u:=fun c u h n=>by rw[jA n]; exact h
 rcases t with h | ⟨c,h,h2⟩
 ·exact .inl (kp _ _ h fun z=>by rw[z,hp] at h; cases h)
 ·exact .inr ⟨c,kp _ _ h fun z=>(by rw[z,hp] at h; cases h),kp _ _ h2 fun z=>(by rw[z,hp] at h2; cases h2)⟩
theorem jE1 {K:W.Frag}{m:List (Option Nat)}{te:TE}{σ:St}{H:Hp}{Q:VK}{rest:St}{tb a:Addr}{us:List V}{l:Af}(f:Ag->Ag)(tab:TabP H tb)(ha:H a=some (.lst us))(hu:LsAt H us l)(hn:us.length<PySem.sizeLine)(h0:∃ v,blkσ m σ=v::rest)
  (step:∀ H' x ad (Q':VK),x∈l->ExtT tb H H'->TabP H' tb->H' ad=some (.tup (x.map V.int))->(∀ r H2,H2 r=some (.tup ((f x).map V.int))->ExtT tb H' H2->TabP H2 tb->Q' (.ref r) H2)->te (some (.ref ad)::rest) H' Q')
  (hd:∀ D H' zs,H' D=some (.lst zs)->LsAt H' zs (l.map f)->ExtT tb H H'->TabP H' tb->H D=none->Q (.ref D) H'):qJ m (kJ 0) yL te σ Q (Itl K a) H:=by
 refine jEZ (xs:=us) hn (fun D j σ' H' zs=>(∃ v,σ'=v::rest)/\ExtT tb H H'/\TabP H' tb/\H' D=some (.lst zs)/\LsAt H' zs ((l.take j).map f)) (fun D hD=>⟨h0,ExtT.of ((Ext.refl _).new hD _),tab.ext ((Ext.refl _).new hD _),j6,trivial⟩) (fun D j σ' H' zs hD ⟨_,e,t,h2,hz⟩=>⟨e.at tab ha,h2,?_⟩) ?_ ?_
 ·rw[All2.len hz,ab];exact br _ _
 ·rintro D j σ' H' zs x hD hx ⟨⟨v,rfl⟩,e,t,h2,hz⟩;obtain⟨y,hy,ad,rfl,had⟩:=All2.get' hu hx;dsimp only [kJ,yL];rw[ao rfl];refine step H' y ad _ (ay hy) e t (e.at tab had) fun r H2 d2 e2 t2=>?_;have hD2:=e2.at t h2;have tu:=Tups.upd hD2 (.lst (zs++[.ref r]));refine⟨hD2,⟨_,rfl⟩,fun c o h n=>?_,jQ9 t2 hD2,j6,?_⟩
  ·rw[jA (jB h hD)];exact e2 _ _ (e _ _ h n) n
  ·have et:(l.take (j+1)).map f=(l.take j).map f++[f y]:=by
    rw[aV,hy,aK];rfl
   rw[et];exact All2.snoc (LsAt.mono ((Tups.ofT e2 t).trans tu) hz) ⟨r,rfl,tu _ _ d2⟩
 ·rintro D σ' H' zs hD ⟨_,e,t,h2,hz⟩;rw[All2.len hu,aZ] at hz;exact hd D H' zs h2 hz e t hD
section
variable {fD fV fE:Addr}{fdD fdV fdE:FuncData}
abbrev nLaw:Am:=["script","box","small","things","pieces","taken","every","inner","back","there","found"]
theorem scLaw:FnScope nLaw ["script"] (j8 sLaw):= {}
abbrev XLaw (P:Program)(w:World)(K:W.Frag)(mg:Ak)(Aq:Heap)(f:Addr)(ki:Value)(A:Around)(Ap:List Env)(s:Shared)(H:Hp)(E:XK):Cx:=XOf nLaw "law" sLaw P w K mg Aq f ki A Ap s H E
structure Fx (H:Hp)(b x0 xk lE lI:Addr)(B:Bx)(usE usI:List V):Prop where
 hB:BxAt H b B
 hS:BxAt H x0 (endS B).1
 hk:H xk=some (.tup ((eT B).map V.int))
 hE:H lE=some (.lst usE)
 uE:LsAt H usE (cvs B.1 B.2.1 B.2.2)
 hI:H lI=some (.lst usI)
 uI:LsAt H usI (cvs (endS B).1.1 (endS B).1.2.1 (endS B).1.2.2)
 nE:usE.length<=65536
 nI:usI.length<=65536
theorem Fx.mono {H H':Hp}{b x0 xk lE lI:Addr}{B:Bx}{usE usI:List V}(x:Fx H b x0 xk lE lI B usE usI)(t:Tb3 H tb1 tb2 tb3)(e:Ex3 tb1 tb2 tb3 H H'):Fx H' b x0 xk lE lI B usE usI:=
 have tu:=e.tups t
 ⟨x.hB.mono tu,x.hS.mono tu,tu _ _ x.hk,e.at t x.hE,LsAt.mono tu x.uE,e.at t x.hI,LsAt.mono tu x.uI,x.nE,x.nI⟩
def spLaw (K:W.Frag)(tb1 tb2 tb3:Addr):Sp:=fun vs H Q _=>∃ (a:Addr) (ns:Ag),vs=[.ref a]/\SqL K H a (ns.map V.int)/\ns.length<=63/\TabP H tb1/\TabW H tb2/\TabL H tb3/\tb1≠tb2/\tb1≠tb3/\tb2≠tb3/\∀ H',Q (.bl true) H'
def jSJ (T:Txt mg)(CD:Can P w K mg Aq "_law_drawn" 4 fD fdD ["script","k","things","pieces"] (jBE K))(CU:Can P w K mg Aq "turned_smaller" 6 fU fdU ["box"] (yM tb1))(CV:Can P w K mg Aq "_law_coverings" 19 fV fdV ["box"] jDI)(CM:Can P w K mg Aq "many" 6 fM fdM ["box"] (jDH tb2))(CB:Can P w K mg Aq "led_back" 7 fB fdB ["box","covering"] (jBD tb1))(CE:Can P w K mg Aq "led_there" 7 fE fdE ["box","covering"] (jAO tb1))(CL:Can P w K mg Aq "lightest" 5 fL fdL ["box"] (jBC tb3))(CW:Can P w K mg Aq "_law_weight" 1 fW fdW ["box","covering"] jAM)(hr:Room 19 (XLaw P w K mg Aq f ki A Ap s H0 E).A): { t:TS // JSs (XLaw P w K mg Aq f ki A Ap s H0 E) ((jE sLaw).drop 9) t} :=
 have nd:=scLaw.nd
 ⟨_,(j9 (jR (i:=10) nd rfl lL (CL.je (hr.mono Ac) gD (j3 (jv 2 rfl vL) j7 j4) j4) jY)
   (j9 (yA (jO (jUH hr.units101) (jv 6 rfl vL) (jBK j7) (jV _)) (jD (jP (yV jNF (jv 10 rfl vL) (qQ) (jV _)))) jZ)
   (jD (jP (yV qX (kY yF (jH jI (jv 10 rfl vL) (je_int) jC) (CW.je (hr.mono Ac) gD (j3 (jv 1 rfl vC) (j3 (jv 5 rfl vL) j7 j4) j4) j4)) (jK (jPR rfl) gD T.min Ab (j3 (kI (m:=[none,some 1]) (Nc:=["some","box"]) rfl (y6 (jv 6 rfl vL)) rfl Ab Ab (jQ (psc:=j8 sLaw)) (jJ (N:=nLaw) rfl rfl Ab) (fun cl C fp s H=>jL (i:=0) (show (["some","box"]:Am).Nodup by decide+kernel) rfl yD) (fun cl C fp s H=>kR) (fun cl C fp s H=>(CW.je (hr.mono Ac) gl_b (j3 (jv 1 rfl kD) (j3 (jv 0 rfl jM) j7 j4) j4) j4)) y8) j7 jN) jN) (jV _))))))⟩
def jSK (T:Txt mg)(CD:Can P w K mg Aq "_law_drawn" 4 fD fdD ["script","k","things","pieces"] (jBE K))(CU:Can P w K mg Aq "turned_smaller" 6 fU fdU ["box"] (yM tb1))(CV:Can P w K mg Aq "_law_coverings" 19 fV fdV ["box"] jDI)(CM:Can P w K mg Aq "many" 6 fM fdM ["box"] (jDH tb2))(CB:Can P w K mg Aq "led_back" 7 fB fdB ["box","covering"] (jBD tb1))(CE:Can P w K mg Aq "led_there" 7 fE fdE ["box","covering"] (jAO tb1))(CL:Can P w K mg Aq "lightest" 5 fL fdL ["box"] (jBC tb3))(CW:Can P w K mg Aq "_law_weight" 1 fW fdW ["box","covering"] jAM)(hr:Room 19 (XLaw P w K mg Aq f ki A Ap s H0 E).A): { t:TS // JSs (XLaw P w K mg Aq f ki A Ap s H0 E) ((jE sLaw).drop 8) t} :=
 have nd:=scLaw.nd
 ⟨_,(j9 (yA (jt_w (jw_or (jO (jGA hr.units101) (kI (m:=[none,some 1]) (Nc:=["some","box"]) rfl (y6 (jv 8 rfl vL)) rfl Ab Ab (jQ (psc:=j8 sLaw)) (jJ (N:=nLaw) rfl rfl Ab) (fun cl C fp s H=>jL (i:=0) (show (["some","box"]:Am).Nodup by decide+kernel) rfl yD) (fun cl C fp s H=>kR) (fun cl C fp s H=>(CE.je (hr.mono Ac) gl_b (j3 (jv 1 rfl kD) (j3 (jv 0 rfl jM) j7 j4) j4) j4)) y8) (jv 7 rfl vL) (jV _)) (jKS (jO (jGA hr.units101) (kI (m:=[none,some 1]) (Nc:=["some","box"]) rfl (y6 (jv 9 rfl vL)) rfl Ab Ab (jQ (psc:=j8 sLaw)) (jJ (N:=nLaw) rfl rfl Ab) (fun cl C fp s H=>jL (i:=0) (show (["some","box"]:Am).Nodup by decide+kernel) rfl yD) (fun cl C fp s H=>kR) (fun cl C fp s H=>(CB.je (hr.mono Ac) gl_b (j3 (jv 1 rfl kD) (j3 (jv 0 rfl jM) j7 j4) j4) j4)) y8) (jv 6 rfl vL) (jV _))))) (jD (jP (je_bl))) jZ) (jSJ T CD CU CV CM CB CE CL CW hr).2)⟩
def jSL (T:Txt mg)(CD:Can P w K mg Aq "_law_drawn" 4 fD fdD ["script","k","things","pieces"] (jBE K))(CU:Can P w K mg Aq "turned_smaller" 6 fU fdU ["box"] (yM tb1))(CV:Can P w K mg Aq "_law_coverings" 19 fV fdV ["box"] jDI)(CM:Can P w K mg Aq "many" 6 fM fdM ["box"] (jDH tb2))(CB:Can P w K mg Aq "led_back" 7 fB fdB ["box","covering"] (jBD tb1))(CE:Can P w K mg Aq "led_there" 7 fE fdE ["box","covering"] (jAO tb1))(CL:Can P w K mg Aq "lightest" 5 fL fdL ["box"] (jBC tb3))(CW:Can P w K mg Aq "_law_weight" 1 fW fdW ["box","covering"] jAM)(hr:Room 19 (XLaw P w K mg Aq f ki A Ap s H0 E).A): { t:TS // JSs (XLaw P w K mg Aq f ki A Ap s H0 E) ((jE sLaw).drop 7) t} :=
 have nd:=scLaw.nd
 ⟨_,(j9 (yA (jt_w (jw_or (jO (jGA hr.units101) (jK (jAG hr.units101) gD T.sorted Ab (j3 (jv 8 rfl vL) j7 j4) j4) (jK (jAG hr.units101) gD T.sorted Ab (j3 (jv 6 rfl vL) j7 j4) j4) (jV _)) (jKS (jO (jGA hr.units101) (jK (jAG hr.units101) gD T.sorted Ab (j3 (jv 9 rfl vL) j7 j4) j4) (jK (jAG hr.units101) gD T.sorted Ab (j3 (jv 7 rfl vL) j7 j4) j4) (jV _))))) (jD (jP (je_bl))) jZ) (jSK T CD CU CV CM CB CE CL CW hr).2)⟩
def jSM (T:Txt mg)(CD:Can P w K mg Aq "_law_drawn" 4 fD fdD ["script","k","things","pieces"] (jBE K))(CU:Can P w K mg Aq "turned_smaller" 6 fU fdU ["box"] (yM tb1))(CV:Can P w K mg Aq "_law_coverings" 19 fV fdV ["box"] jDI)(CM:Can P w K mg Aq "many" 6 fM fdM ["box"] (jDH tb2))(CB:Can P w K mg Aq "led_back" 7 fB fdB ["box","covering"] (jBD tb1))(CE:Can P w K mg Aq "led_there" 7 fE fdE ["box","covering"] (jAO tb1))(CL:Can P w K mg Aq "lightest" 5 fL fdL ["box"] (jBC tb3))(CW:Can P w K mg Aq "_law_weight" 1 fW fdW ["box","covering"] jAM)(hr:Room 19 (XLaw P w K mg Aq f ki A Ap s H0 E).A): { t:TS // JSs (XLaw P w K mg Aq f ki A Ap s H0 E) ((jE sLaw).drop 5) t} :=
 have nd:=scLaw.nd
 ⟨_,(j9 (jDB (i:=8) nd rfl lL ⟨by rfl⟩ (m:=[none,some 1]) (Nc:=["some","box"]) rfl (y6 (jv 7 rfl vL)) rfl Ab Ab (jQ (psc:=j8 sLaw)) (jJ (N:=nLaw) rfl rfl Ab) (fun cl C fp s H=>jL (i:=0) (show (["some","box"]:Am).Nodup by decide+kernel) rfl yD) (fun cl C fp s H=>kR) (fun cl C fp s H=>(CB.je (hr.mono Ac) gl_b (j3 (jv 1 rfl kD) (j3 (jv 0 rfl jM) j7 j4) j4) j4)) y8) (j9 (jDB (i:=9) nd rfl lL ⟨by rfl⟩ (m:=[none,some 1]) (Nc:=["some","box"]) rfl (y6 (jv 6 rfl vL)) rfl Ab Ab (jQ (psc:=j8 sLaw)) (jJ (N:=nLaw) rfl rfl Ab) (fun cl C fp s H=>jL (i:=0) (show (["some","box"]:Am).Nodup by decide+kernel) rfl yD) (fun cl C fp s H=>kR) (fun cl C fp s H=>(CE.je (hr.mono Ac) gl_b (j3 (jv 1 rfl kD) (j3 (jv 0 rfl jM) j7 j4) j4) j4)) y8) (jSL T CD CU CV CM CB CE CL CW hr).2))⟩
def lawA (T:Txt mg)(CD:Can P w K mg Aq "_law_drawn" 4 fD fdD ["script","k","things","pieces"] (jBE K))(CU:Can P w K mg Aq "turned_smaller" 6 fU fdU ["box"] (yM tb1))(CV:Can P w K mg Aq "_law_coverings" 19 fV fdV ["box"] jDI)(CM:Can P w K mg Aq "many" 6 fM fdM ["box"] (jDH tb2))(CB:Can P w K mg Aq "led_back" 7 fB fdB ["box","covering"] (jBD tb1))(CE:Can P w K mg Aq "led_there" 7 fE fdE ["box","covering"] (jAO tb1))(CL:Can P w K mg Aq "lightest" 5 fL fdL ["box"] (jBC tb3))(CW:Can P w K mg Aq "_law_weight" 1 fW fdW ["box","covering"] jAM)(hr:Room 19 (XLaw P w K mg Aq f ki A Ap s H0 E).A): { t:TS // JSs (XLaw P w K mg Aq f ki A Ap s H0 E) (jE sLaw) t} :=
 have nd:=scLaw.nd
 ⟨_,(j9 (jR (i:=1) nd rfl qY (CD.je (hr.mono Ac) gD (j3 (jv 0 rfl vL) (j3 (je_int) (j3 (je_int) (j3 (je_int) j7 kN) kN) kN) j4) j4) jY) (j9 (jXI (CU.je (hr.mono Ac) gD (j3 (jv 1 rfl vC) j7 j4) j4) (jKW rfl (jAD (jL (i:=2) nd rfl lL) (jAD (jL (i:=3) nd rfl lL) (jAD (jL (i:=4) nd rfl lL) (jAD (jL (i:=5) nd rfl lL) jGP jAW) jAW) jAW) jAW))) (j9 (jR (i:=6) nd rfl lL (CV.je hr gD (j3 (jv 1 rfl vC) j7 j4) j4) jY) (j9 (jR (i:=7) nd rfl lL (CV.je hr gD (j3 (jv 2 rfl vL) j7 j4) j4) jY) (j9 (yA (jt_w (jw_or (jO op_ne (CM.je (hr.mono Ac) gD (j3 (jv 2 rfl vL) j7 j4) j4) (jK jW gD T.len Ab (j3 (jv 6 rfl vL) j7 j4) j4) (jV _)) (jKS (jO op_ne (CM.je (hr.mono Ac) gD (j3 (jv 1 rfl vC) j7 j4) j4) (jK jW gD T.len Ab (j3 (jv 7 rfl vL) j7 j4) j4) (jV _))))) (jD (jP (je_bl))) jZ) (jSM T CD CU CV CM CB CE CL CW hr).2)))))⟩
variable (T:Txt mg)(CD:Can P w K mg Aq "_law_drawn" 4 fD fdD ["script","k","things","pieces"] (jBE K))(CU:Can P w K mg Aq "turned_smaller" 6 fU fdU ["box"] (yM tb1))(CV:Can P w K mg Aq "_law_coverings" 19 fV fdV ["box"] jDI)(CM:Can P w K mg Aq "many" 6 fM fdM ["box"] (jDH tb2))(CB:Can P w K mg Aq "led_back" 7 fB fdB ["box","covering"] (jBD tb1))(CE:Can P w K mg Aq "led_there" 7 fE fdE ["box","covering"] (jAO tb1))(CL:Can P w K mg Aq "lightest" 5 fL fdL ["box"] (jBC tb3))(CW:Can P w K mg Aq "_law_weight" 1 fW fdW ["box","covering"] jAM)
include T CD CU CV CM CB CE CL CW
theorem jLF (hr:Room 19 (XLaw P w K mg Aq f ki A Ap s H0 E).A)
  {D:Ends}{H:Hp}{b x0 xk lE lI:Addr}{B:Bx}{usE usI:List V}{v0 v3 v4 v8 v9 v10:Option V}(F:Fx H b x0 xk lE lI B usE usI) (g:GB B) (tab:Tb3 H tb1 tb2 tb3) (q:∀ H',D.rt (.bl true) H'):
  (jSJ T CD CU CV CM CB CE CL CW hr).1 D [v0,some (.ref b),some (.ref x0),v3,v4,some (.ref xk),some (.ref lE),some (.ref lI),v8,v9,v10] H:=by
 have o:=jCA g;have L:=jEX g;have same:=jK3 L g o.g;refine⟨_,rfl,x0,_,_,_,rfl,F.hS,o.g,tab.l,fun hn H1 e1 t1=>?_,fun x hx r rq H1 d1 d2 e1 t1=>?_⟩
 ·have F1:=F.mono tab (Ex3.ofL e1);have hw:cvs B.1 B.2.1 B.2.2=[]:=by
   refine dZ.mp (same.symm.trans ?_);rw[jGY,minW_none.mp hn];rfl
  refine⟨_,rfl,by show (0:Nat)<=_; decide,fun m H3 d3 e3 n3=>?_⟩;refine⟨_,[],⟨lE,usE,rfl,e3 _ _ F1.hE,qI (LsAt.mono e3.tups F1.uE)⟩,⟨m,_,rfl,d3,rfl⟩,jC6 _,_,rfl,?_⟩;rw[jSW,aq hw];exact iteT ⟨_,rfl,rfl,q H3⟩
 ·have F1:=F.mono tab (Ex3.ofL e1);have hw:cvs B.1 B.2.1 B.2.2≠ []:=fun z=>by
   rw[z,jGY] at same;rw[dZ.mp same] at hx;cases hx
  refine⟨_,rfl,by show (0:Nat)<=_; decide,fun m0 H3 d3 e3 n3=>?_⟩;refine⟨_,[],⟨lE,usE,rfl,e3 _ _ F1.hE,qI (LsAt.mono e3.tups F1.uE)⟩,⟨m0,_,rfl,d3,rfl⟩,jC6 _,_,rfl,?_⟩;rw[jSW,aJ hw];refine iteF ?_;have tl:(eT B).length<=100:=by
   have:=o.k;show (endS B).2.2.2.length<=100;lia
  refine⟨_,rfl,r,_,0,_,rfl,rfl,SqT.of (e3 _ _ d1),rfl,_,rfl,_,rfl,b,xk,_,_,_,eT B,rfl,F1.hB.mono e3.tups,e3 _ _ F1.hk,L.tr.bnd,tl,fun H4 e4=>?_⟩;have E4:=e3.trans e4;have hE4:=E4 _ _ F1.hE;have uE4:=LsAt.mono E4.tups F1.uE;refine⟨_,_,rfl,rfl,_,rfl,lE,rfl,⟨_,SqL.of hE4⟩,jAQ (xs:=usE) (fun σ=>∃ v,σ=[v,some (.ref b)]) (mapZ (cvs B.1 B.2.1 B.2.2) fun x=>V.int (wt B.2.2 x)) (mapZ.ok _ _) hE4 (by have:=F.nE; rw[aw]; lia) ⟨_,rfl⟩ ?_ ?_⟩
  ·rintro j x2 σ' H' zs hx2 ⟨v,rfl⟩ e hz S1 S2 yes no;obtain⟨ks,hks,ad,rfl,had⟩:=All2.get' uE4 hx2;have C:=(yC g).mp (ay hks);have kl:=yT ks 0 _ C.ris.ris C.ris.bnd;have gpl:=g.pl;dsimp only [kJ,yL];rw[ao rfl];exact⟨_,rfl,_,rfl,b,ad,_,_,_,ks,rfl,(F1.hB.mono E4.tups).mono e.tups,e _ _ had,C.ris.bnd,Aa,fun H5 e5=>yes _ _ _ ⟨_,rfl⟩ e5 (hz.yes hks)⟩
  ·rintro D2 H5 zs hD e5 n5 hz;have hz:=hz.all (by rw[All2.len uE4]; exact ak _);have hz2:zs=((cvs B.1 B.2.1 B.2.2).map (wt B.2.2)).map V.int:=by rw[hz,bH]; rfl
   rw[hz2] at hD;refine⟨D2,_,rfl,SqL.of hD,by rw[ab]; exact List.length_pos_iff.mpr hw,fun m hm hmin=>⟨rfl,?_⟩⟩;rw[aq (show (fun i j=>V.int (i+j)) (wt (endS B).1.2.2 x) (wt B.2.2 (eT B))=V.int m from bL V.int (jSE L g o.g hx hm hmin))];exact q H5
theorem jLG (hr:Room 19 (XLaw P w K mg Aq f ki A Ap s H0 E).A)
  {D:Ends}{H:Hp}{b x0 xk lE lI lB lT:Addr}{B:Bx}{usE usI usB usT:List V}{v0 v3 v4 v10:Option V}(F:Fx H b x0 xk lE lI B usE usI) (g:GB B) (tab:Tb3 H tb1 tb2 tb3) (hb:H lB=some (.lst usB)) (ub:LsAt H usB ((cvs (endS B).1.1 (endS B).1.2.1 (endS B).1.2.2).map (yY (eK B) (eT B)))) (ht:H lT=some (.lst usT)) (ut:LsAt H usT ((cvs B.1 B.2.1 B.2.2).map (yR (eK B)))) (q:∀ H',D.rt (.bl true) H'):
  (jSK T CD CU CV CM CB CE CL CW hr).1 D [v0,some (.ref b),some (.ref x0),v3,v4,some (.ref xk),some (.ref lE),some (.ref lI),some (.ref lB),some (.ref lT),v10] H:=by
 have o:=jCA g;have L:=jEX g;have bl:usB.length<=65536:=by
  rw[All2.len ub,ab,<- All2.len F.uI];exact F.nI
 have tl:usT.length<=65536:=by
  rw[All2.len ut,ab,<- All2.len F.uE];exact F.nE
 have m1:((cvs (endS B).1.1 (endS B).1.2.1 (endS B).1.2.2).map (yY (eK B) (eT B))).map (yR (eK B))=cvs (endS B).1.1 (endS B).1.2.1 (endS B).1.2.2:=by
  rw[bH];exact(bF fun c hc=>jAX L ((yC o.g).mp hc)).trans (eB _)
 have m2:((cvs B.1 B.2.1 B.2.2).map (yR (eK B))).map (yY (eK B) (eT B))=cvs B.1 B.2.1 B.2.2:=by
  rw[bH];exact(bF fun c hc=>(jBY L ((yC g).mp hc)).1).trans (eB _)
 refine⟨_,rfl,lB,rfl,⟨_,SqL.of hb⟩,jE1 (rest:=[some (.ref b)]) (yR (eK B)) tab.p hb ub (by rw[aw]; lia) ⟨_,rfl⟩ (fun H' x ad Q' hx e t hd k=>?_) fun D1 H1 zs1 h1 hz1 e1 t1 n1=>?_⟩
 ·obtain⟨c,hc,rfl⟩:=aQ.mp hx;exact⟨_,rfl,_,rfl,b,ad,B,_,rfl,F.hB.mono (Tups.ofT e tab.p),g,hd,L.bk _ ((yC o.g).mp hc),t,k⟩
 have F1:=F.mono tab (Ex3.ofP e1);have T1:=tab.extP e1 t1;rw[m1] at hz1;refine⟨_,rfl,_,_,⟨D1,_,rfl,h1,qI hz1⟩,⟨lI,_,rfl,F1.hI,qI F1.uI⟩,jC6 _,?_⟩;rw[jAK];refine⟨_,rfl,iteF ?_⟩;have ht1:=(Ex3.ofP (tb2:=tb2) (tb3:=tb3) e1).at tab ht;have ut1:=LsAt.mono (Tups.ofT e1 tab.p) ut;refine⟨_,rfl,lT,rfl,⟨_,SqL.of ht1⟩,jE1 (rest:=[some (.ref b)]) (yY (eK B) (eT B)) T1.p ht1 ut1 (by rw[aw]; lia) ⟨_,rfl⟩ (fun H' x ad Q' hx e t hd k=>?_) fun D2 H2 zs2 h2 hz2 e2 t2 n2=>?_⟩
 ·obtain⟨c,hc,rfl⟩:=aQ.mp hx;exact⟨_,rfl,_,rfl,b,ad,B,_,rfl,F1.hB.mono (Tups.ofT e T1.p),g,hd,(jBY L ((yC g).mp hc)).2,t,k⟩
 have F2:=F1.mono T1 (Ex3.ofP e2);have T2:=T1.extP e2 t2;rw[m2] at hz2;refine⟨_,rfl,_,_,⟨D2,_,rfl,h2,qI hz2⟩,⟨lE,_,rfl,F2.hE,qI F2.uE⟩,jC6 _,?_⟩;rw[jAK];exact⟨_,rfl,iteF (jLF T CD CU CV CM CB CE CL CW hr F2 g T2 q)⟩
theorem jLH (hr:Room 19 (XLaw P w K mg Aq f ki A Ap s H0 E).A)
  {D:Ends}{H:Hp}{b x0 xk lE lI lB lT:Addr}{B:Bx}{usE usI usB usT:List V}{v0 v3 v4 v10:Option V}(F:Fx H b x0 xk lE lI B usE usI) (g:GB B) (tab:Tb3 H tb1 tb2 tb3) (hb:H lB=some (.lst usB)) (ub:LsAt H usB ((cvs (endS B).1.1 (endS B).1.2.1 (endS B).1.2.2).map (yY (eK B) (eT B)))) (ht:H lT=some (.lst usT)) (ut:LsAt H usT ((cvs B.1 B.2.1 B.2.2).map (yR (eK B)))) (q:∀ H',D.rt (.bl true) H'):
  (jSL T CD CU CV CM CB CE CL CW hr).1 D [v0,some (.ref b),some (.ref x0),v3,v4,some (.ref xk),some (.ref lE),some (.ref lI),some (.ref lB),some (.ref lT),v10] H:=by
 have o:=jCA g;have L:=jEX g;refine⟨_,rfl,lB,usB,_,rfl,SqL.of hb,ub,fun l1 us1 ws1 n1 ts1 pm1 so1=>?_⟩;have e1:Ext H (L2.upd H l1 (.lst us1)):=(Ext.refl _).new n1 _;have d1:(L2.upd H l1 (.lst us1)) l1=some (.lst us1):=j6;generalize L2.upd H l1 (.lst us1)=H1 at e1 d1;refine⟨_,rfl,lE,usE,_,rfl,SqL.of (e1 _ _ F.hE),LsAt.mono e1.tups F.uE,fun l2 us2 ws2 n2 ts2 pm2 so2=>?_⟩;have e2:Ext H1 (L2.upd H1 l2 (.lst us2)):=(Ext.refl _).new n2 _;have d2:(L2.upd H1 l2 (.lst us2)) l2=some (.lst us2):=j6;show ∃ ts us,_;generalize L2.upd H1 l2 (.lst us2)=H2 at e2 d2;have ew:ws1=ws2:=jGK ((pm1.trans (jF1 L g o.g)).trans pm2.symm) so1 so2;refine⟨_,_,⟨l1,_,rfl,e2 _ _ d1,qI (LsAt.mono (e1.trans e2).tups ts1)⟩,⟨l2,_,rfl,d2,qI (LsAt.mono e2.tups ts2)⟩,jC6 _,?_⟩;rw[ew,jAK];refine⟨_,rfl,iteF ?_⟩;have E2:=e1.trans e2;refine⟨_,rfl,lT,usT,_,rfl,SqL.of (E2 _ _ ht),LsAt.mono E2.tups ut,fun l3 us3 ws3 n3 ts3 pm3 so3=>?_⟩;have e3:Ext H2 (L2.upd H2 l3 (.lst us3)):=(Ext.refl _).new n3 _;have d3:(L2.upd H2 l3 (.lst us3)) l3=some (.lst us3):=j6;generalize L2.upd H2 l3 (.lst us3)=H3 at e3 d3;have E3:=E2.trans e3;refine⟨_,rfl,lI,usI,_,rfl,SqL.of (E3 _ _ F.hI),LsAt.mono E3.tups F.uI,fun l4 us4 ws4 n4 ts4 pm4 so4=>?_⟩;have e4:Ext H3 (L2.upd H3 l4 (.lst us4)):=(Ext.refl _).new n4 _;have d4:(L2.upd H3 l4 (.lst us4)) l4=some (.lst us4):=j6;show ∃ ts us,_;generalize L2.upd H3 l4 (.lst us4)=H4 at e4 d4;have ew2:ws3=ws4:=jGK ((pm3.trans (jLE L g o.g)).trans pm4.symm) so3 so4;refine⟨_,_,⟨l3,_,rfl,e4 _ _ d3,qI (LsAt.mono (e3.trans e4).tups ts3)⟩,⟨l4,_,rfl,d4,qI (LsAt.mono e4.tups ts4)⟩,jC6 _,?_⟩;rw[ew2,jAK];have E4:=E3.trans e4;exact⟨_,rfl,iteF (jLG T CD CU CV CM CB CE CL CW hr (F.mono tab (Ex3.of E4)) g (tab.ext E4) (E4 _ _ hb) (LsAt.mono E4.tups ub) (E4 _ _ ht) (LsAt.mono E4.tups ut) q)⟩
theorem jLI (hr:Room 19 (XLaw P w K mg Aq f ki A Ap s H0 E).A)
  {D:Ends}{H:Hp}{b x0 xk lE lI:Addr}{B:Bx}{usE usI:List V}{v0 v3 v4 v8 v9 v10:Option V}(F:Fx H b x0 xk lE lI B usE usI) (g:GB B) (tab:Tb3 H tb1 tb2 tb3) (q:∀ H',D.rt (.bl true) H'):
  (jSM T CD CU CV CM CB CE CL CW hr).1 D [v0,some (.ref b),some (.ref x0),v3,v4,some (.ref xk),some (.ref lE),some (.ref lI),v8,v9,v10] H:=by
 have o:=jCA g;have L:=jEX g;refine⟨_,rfl,lI,rfl,⟨_,SqL.of F.hI⟩,jE1 (rest:=[some (.ref b)]) (yY (eK B) (eT B)) tab.p F.hI F.uI (by have:=F.nI; rw[aw]; lia) ⟨_,rfl⟩ (fun H' x ad Q' hx e t hd k=>?_) fun lB H1 usB h1 hz1 e1 t1 n1=>?_⟩
 ·exact⟨_,rfl,_,rfl,b,ad,B,_,rfl,F.hB.mono (Tups.ofT e tab.p),g,hd,(yC o.g).mp hx,t,k⟩
 have F1:=F.mono tab (Ex3.ofP e1);have T1:=tab.extP e1 t1;refine⟨_,rfl,lE,rfl,⟨_,SqL.of F1.hE⟩,jE1 (rest:=[some (.ref b)]) (yR (eK B)) T1.p F1.hE F1.uE (by have:=F.nE; rw[aw]; lia) ⟨_,rfl⟩ (fun H' x ad Q' hx e t hd k=>?_) fun lT H2 usT h2 hz2 e2 t2 n2=>?_⟩
 ·exact⟨_,rfl,_,rfl,b,ad,B,_,rfl,F1.hB.mono (Tups.ofT e T1.p),g,hd,(yC g).mp hx,t,k⟩
 have F2:=F1.mono T1 (Ex3.ofP e2);exact jLH T CD CU CV CM CB CE CL CW hr F2 g (T1.extP e2 t2) ((Ex3.ofP (tb2:=tb2) (tb3:=tb3) e2).at T1 h1) (LsAt.mono (Tups.ofT e2 T1.p) hz1) h2 hz2 q
theorem jWZ {fd:FuncData}(F:Fun K "law" "law" sLaw f fd):FnOk P w K mg Aq CX0 20 f fd ["script"] (spLaw K tb1 tb2 tb3):=by
 refine F.ok scLaw (fun vs H Q E h=>?_) (fun ki A Ap s H vs Q E hr h=>?_)
 ·obtain⟨_,_,rfl,_⟩:=h;rfl
 ·obtain⟨a,ns,rfl,hS,hn,t1,t2,t3,n12,n13,n23,q⟩:=h;have tab:Tb3 H tb1 tb2 tb3:=⟨t1,t2,t3,n12,n13,n23⟩;refine⟨_,(lawA T CD CU CV CM CB CE CL CW hr).2.h,?_⟩;refine⟨_,rfl,a,ns,0,6,10,rfl,hS,Ac,Ac,Ac,Ac,Ac,fun b wi ms Ar H1 hB g16 e1=>?_⟩;have g:GB (wi,ms,Ar):=g16.wide Ac Ac;have o:=jCA g;have L:=jEX g;have same:=jK3 L g o.g;have T1:=tab.ext e1;refine⟨_,rfl,b,(wi,ms,Ar),rfl,hB,g,T1.p,fun r2 H2 S2 e2 t2=>?_⟩;have T2:=T1.extP e2 t2;have x2:Ex3 tb1 tb2 tb3 H1 H2:=Ex3.ofP e2;obtain⟨x0,xt,xp,xk,s0,s1,s2,s3,s4⟩:=S2.ex;have B2:=hB.mono (x2.tups T1);refine⟨r2,_,rfl,SqT.of s0,rfl,_,_,rfl,_,_,rfl,_,_,rfl,_,_,rfl,rfl,?_⟩;refine⟨_,rfl,b,wi,ms,Ar,rfl,B2,g16,fun lE usE H3 h3 u3 n3 e3=>?_⟩;have gs:Good 16 16 (endS (wi,ms,Ar)).1.1 (endS (wi,ms,Ar)).1.2.1 (endS (wi,ms,Ar)).1.2.2:=⟨o.g.w0,o.g.w1,o.g.mr,by
   have h1:=L.kl;have h2:=yT _ 0 _ L.kr.ris L.kr.bnd;have h3:=g16.pl;have h4:(((wi,ms,Ar):Bx).2.2.length:Int)=Ar.length:=rfl;lia,o.g.pg⟩
  refine⟨_,rfl,x0,_,_,_,rfl,s1.mono e3.tups,gs,fun lI usI H4 h4 u4 n4 e4=>?_⟩;have E4:=e3.trans e4;have T4:=T2.ext E4;have F4:Fx H4 b x0 xk lE lI (wi,ms,Ar) usE usI:=⟨B2.mono E4.tups,s1.mono E4.tups,E4 _ _ s4,e4 _ _ h3,LsAt.mono e4.tups u3,h4,u4,n3,n4⟩;have le:usE.length=(wk (chs (endS (wi,ms,Ar)).1.1.toNat (endS (wi,ms,Ar)).1.2.1 (endS (wi,ms,Ar)).1.2.2) 0).length:=by
   rw[All2.len u3,<- jGY,same]
  have li:usI.length=(wk (chs wi.toNat ms Ar) 0).length:=by
   rw[All2.len u4,<- jGY wi ms Ar];exact same
  refine⟨_,rfl,x0,_,_,_,rfl,F4.hS,o.g,T4.w,fun H5 e5 t5=>?_⟩;have T5:=T4.extW e5 t5;have F5:=F4.mono T4 (Ex3.ofW e5);refine⟨_,rfl,lE,_,rfl, .inl (SqL.of F5.hE),rfl,_,rfl,?_⟩;rw[le,aq (show natV _=V.int _ from rfl)];refine iteF ?_;refine⟨_,rfl,b,wi,ms,Ar,rfl,F5.hB,g,T5.w,fun H6 e6 t6=>?_⟩;have T6:=T5.extW e6 t6;have F6:=F5.mono T5 (Ex3.ofW e6);refine⟨_,rfl,lI,_,rfl, .inl (SqL.of F6.hI),rfl,_,rfl,?_⟩;rw[li,aq (show natV _=V.int _ from rfl)];exact iteF (jLI T CD CU CV CM CB CE CL CW hr F6 g T6 q)
end
theorem lenU1 {P:Al->Prop} :∀ {us:Al},us.length=1->(∀ a,P [a])->P us
 | [a],_,h=>h a
theorem lenU2 {P:Al->Prop} :∀ {us:Al},us.length=2->(∀ a b,P [a,b])->P us
 | [a,b],_,h=>h a b
theorem lenU3 {P:Al->Prop} :∀ {us:Al},us.length=3->(∀ a b c,P [a,b,c])->P us
 | [a,b,c],_,h=>h a b c
theorem lenU4 {P:Al->Prop} :∀ {us:Al},us.length=4->(∀ a b c d,P [a,b,c,d])->P us
 | [a,b,c,d],_,h=>h a b c d
abbrev zN (K:W.Frag)(x:Str):=PySem.W.nsIn K mainGlobals x
abbrev zr (f:Addr):Option (Ao):=some (some (.ref f))
abbrev zl (x:Str)(st:Stmt)(oc:Value)(od:Option Addr)(kV dc pm:Value)(an:Option Addr)(cd ct:Value)(sl:Array (Ao)):Option Obj:=some ⟨oc,od, .func (PySem.W.fnOf x x (yE st) (jE st) (j8 st) .none kV dc pm an cd ct),sl⟩
abbrev zc:=PySem.W.codeIn
abbrev zk (K:W.Frag)(f:Addr):=keepIn K (.ref f)
theorem zb1 {K:W.Frag}{x q p1:Str}{st:Stmt}{f:Addr}{fd:FuncData}(F:Fun K x q st f fd)(h:∀ (kV doc pm:Value) (an:Option Addr) (ki ct u1:Value),bindArgs (PySem.W.fnOf x q (yE st) (jE st) (j8 st) .none kV doc pm an ki ct) ⟨[u1],[]⟩=pure [(p1,u1)]:=by intros; rfl):Binds K fd [p1] []:=F.binds fun kV doc pm an ki ct us hl=>lenU1 (P:=fun us=>bindArgs _ ⟨us,[]⟩=pure (List.zip _ us)) hl fun u1=>h kV doc pm an ki ct u1
theorem zb2 {K:W.Frag}{x q p1 p2:Str}{st:Stmt}{f:Addr}{fd:FuncData}(F:Fun K x q st f fd)(h:∀ (kV doc pm:Value) (an:Option Addr) (ki ct u1 u2:Value),bindArgs (PySem.W.fnOf x q (yE st) (jE st) (j8 st) .none kV doc pm an ki ct) ⟨[u1,u2],[]⟩=pure [(p1,u1),(p2,u2)]:=by intros; rfl):Binds K fd [p1,p2] []:=F.binds fun kV doc pm an ki ct us hl=>lenU2 (P:=fun us=>bindArgs _ ⟨us,[]⟩=pure (List.zip _ us)) hl fun u1 u2=>h kV doc pm an ki ct u1 u2
theorem zb3 {K:W.Frag}{x q p1 p2 p3:Str}{st:Stmt}{f:Addr}{fd:FuncData}(F:Fun K x q st f fd)(h:∀ (kV doc pm:Value) (an:Option Addr) (ki ct u1 u2 u3:Value),bindArgs (PySem.W.fnOf x q (yE st) (jE st) (j8 st) .none kV doc pm an ki ct) ⟨[u1,u2,u3],[]⟩=pure [(p1,u1),(p2,u2),(p3,u3)]:=by intros; rfl):Binds K fd [p1,p2,p3] []:=F.binds fun kV doc pm an ki ct us hl=>lenU3 (P:=fun us=>bindArgs _ ⟨us,[]⟩=pure (List.zip _ us)) hl fun u1 u2 u3=>h kV doc pm an ki ct u1 u2 u3
theorem zb4 {K:W.Frag}{x q p1 p2 p3 p4:Str}{st:Stmt}{f:Addr}{fd:FuncData}(F:Fun K x q st f fd)(h:∀ (kV doc pm:Value) (an:Option Addr) (ki ct u1 u2 u3 u4:Value),bindArgs (PySem.W.fnOf x q (yE st) (jE st) (j8 st) .none kV doc pm an ki ct) ⟨[u1,u2,u3,u4],[]⟩=pure [(p1,u1),(p2,u2),(p3,u3),(p4,u4)]:=by intros; rfl):Binds K fd [p1,p2,p3,p4] []:=F.binds fun kV doc pm an ki ct us hl=>lenU4 (P:=fun us=>bindArgs _ ⟨us,[]⟩=pure (List.zip _ us)) hl fun u1 u2 u3 u4=>h kV doc pm an ki ct u1 u2 u3 u4
set_option autoImplicit true
set_option relaxedAutoImplicit true
set_option maxHeartbeats 8000000 in
theorem all_mk {l:PySem.W.OpenLaw}{w:World}{K:W.Frag}{h:Heap}{mg:Ak}{fa f1 f2 f3 f4 f5 f6 f7 f8 f9 f10 f11 f12 f13 f14 f15 f16 f17 f18 f19 f20 f21 f22 f23 f24 f25 f26 f27 f28 f29 f30 f31 f32 f33 f34:Addr}(X:K.In h)(G:h.Ns mainGlobals mg)(hfa:mg "law" =some (.ref fa))
  (a1:zN K "is_whole" =zr f1) (l1:K.lookup f1=zl "is_whole" jC4 oc1 od1 kV1 dc1 pm1 an1 cd1 ct1 sl1) (c1:zc K cd1 "is_whole" =true) (k1:zk K f1=true)
  (a2:zN K "is_rising" =zr f2) (l2:K.lookup f2=zl "is_rising" jAS oc2 od2 kV2 dc2 pm2 an2 cd2 ct2 sl2) (c2:zc K cd2 "is_rising" =true) (k2:zk K f2=true)
  (a3:zN K "is_lot" =zr f3) (l3:K.lookup f3=zl "is_lot" jDN oc3 od3 kV3 dc3 pm3 an3 cd3 ct3 sl3) (c3:zc K cd3 "is_lot" =true) (k3:zk K f3=true)
  (a4:zN K "mask_of" =zr f4) (l4:K.lookup f4=zl "mask_of" sMask oc4 od4 kV4 dc4 pm4 an4 cd4 ct4 sl4) (c4:zc K cd4 "mask_of" =true) (k4:zk K f4=true)
  (a5:zN K "musts_of" =zr f5) (l5:K.lookup f5=zl "musts_of" jDK oc5 od5 kV5 dc5 pm5 an5 cd5 ct5 sl5) (c5:zc K cd5 "musts_of" =true) (k5:zk K f5=true)
  (a6:zN K "picked" =zr f6) (l6:K.lookup f6=zl "picked" yB oc6 od6 kV6 dc6 pm6 an6 cd6 ct6 sl6) (c6:zc K cd6 "picked" =true) (k6:zk K f6=true)
  (a7:zN K "is_covering" =zr f7) (l7:K.lookup f7=zl "is_covering" sCov oc7 od7 kV7 dc7 pm7 an7 cd7 ct7 sl7) (c7:zc K cd7 "is_covering" =true) (k7:zk K f7=true)
  (a8:zN K "choices_of" =zr f8) (l8:K.lookup f8=zl "choices_of" yN oc8 od8 kV8 dc8 pm8 an8 cd8 ct8 sl8) (c8:zc K cd8 "choices_of" =true) (k8:zk K f8=true)
  (a9:zN K "full_mask" =zr f9) (l9:K.lookup f9=zl "full_mask" sFull oc9 od9 kV9 dc9 pm9 an9 cd9 ct9 sl9) (c9:zc K cd9 "full_mask" =true) (k9:zk K f9=true)
  (a10:zN K "choices_at" =zr f10) (l10:K.lookup f10=zl "choices_at" sAt oc10 od10 kV10 dc10 pm10 an10 cd10 ct10 sl10) (c10:zc K cd10 "choices_at" =true) (k10:zk K f10=true)
  (a11:zN K "masks_met" =zr f11) (l11:K.lookup f11=zl "masks_met" sMet oc11 od11 kV11 dc11 pm11 an11 cd11 ct11 sl11) (c11:zc K cd11 "masks_met" =true) (k11:zk K f11=true)
  (a12:zN K "gathered" =zr f12) (l12:K.lookup f12=zl "gathered" xF oc12 od12 kV12 dc12 pm12 an12 cd12 ct12 sl12) (c12:zc K cd12 "gathered" =true) (k12:zk K f12=true)
  (a13:zN K "ways_of" =zr f13) (l13:K.lookup f13=zl "ways_of" xD oc13 od13 kV13 dc13 pm13 an13 cd13 ct13 sl13) (c13:zc K cd13 "ways_of" =true) (k13:zk K f13=true)
  (a14:zN K "many" =zr f14) (l14:K.lookup f14=zl "many" sMany oc14 od14 kV14 dc14 pm14 an14 cd14 ct14 sl14) (c14:zc K cd14 "many" =true) (k14:zk K f14=true)
  (a15:zN K "forced_next" =zr f15) (l15:K.lookup f15=zl "forced_next" jC2 oc15 od15 kV15 dc15 pm15 an15 cd15 ct15 sl15) (c15:zc K cd15 "forced_next" =true) (k15:zk K f15=true)
  (a16:zN K "behind" =zr f16) (l16:K.lookup f16=zl "behind" jAT oc16 od16 kV16 dc16 pm16 an16 cd16 ct16 sl16) (c16:zc K cd16 "behind" =true) (k16:zk K f16=true)
  (a17:zN K "is_idle" =zr f17) (l17:K.lookup f17=zl "is_idle" xH oc17 od17 kV17 dc17 pm17 an17 cd17 ct17 sl17) (c17:zc K cd17 "is_idle" =true) (k17:zk K f17=true)
  (a18:zN K "least_idle" =zr f18) (l18:K.lookup f18=zl "least_idle" jDL oc18 od18 kV18 dc18 pm18 an18 cd18 ct18 sl18) (c18:zc K cd18 "least_idle" =true) (k18:zk K f18=true)
  (a19:zN K "step_of" =zr f19) (l19:K.lookup f19=zl "step_of" jB2 oc19 od19 kV19 dc19 pm19 an19 cd19 ct19 sl19) (c19:zc K cd19 "step_of" =true) (k19:zk K f19=true)
  (a20:zN K "traced" =zr f20) (l20:K.lookup f20=zl "traced" jBG oc20 od20 kV20 dc20 pm20 an20 cd20 ct20 sl20) (c20:zc K cd20 "traced" =true) (k20:zk K f20=true)
  (a21:zN K "turned_smaller" =zr f21) (l21:K.lookup f21=zl "turned_smaller" qA oc21 od21 kV21 dc21 pm21 an21 cd21 ct21 sl21) (c21:zc K cd21 "turned_smaller" =true) (k21:zk K f21=true)
  (a22:zN K "led_back" =zr f22) (l22:K.lookup f22=zl "led_back" jDM oc22 od22 kV22 dc22 pm22 an22 cd22 ct22 sl22) (c22:zc K cd22 "led_back" =true) (k22:zk K f22=true)
  (a23:zN K "led_there" =zr f23) (l23:K.lookup f23=zl "led_there" jB3 oc23 od23 kV23 dc23 pm23 an23 cd23 ct23 sl23) (c23:zc K cd23 "led_there" =true) (k23:zk K f23=true)
  (a24:zN K "lightest" =zr f24) (l24:K.lookup f24=zl "lightest" qE oc24 od24 kV24 dc24 pm24 an24 cd24 ct24 sl24) (c24:zc K cd24 "lightest" =true) (k24:zk K f24=true)
  (a25:zN K "_law_cell_at" =zr f25) (l25:K.lookup f25=zl "_law_cell_at" sCell oc25 od25 kV25 dc25 pm25 an25 cd25 ct25 sl25) (c25:zc K cd25 "_law_cell_at" =true) (k25:zk K f25=true)
  (a26:zN K "_law_pot" =zr f26) (l26:K.lookup f26=zl "_law_pot" sPot oc26 od26 kV26 dc26 pm26 an26 cd26 ct26 sl26) (c26:zc K cd26 "_law_pot" =true) (k26:zk K f26=true)
  (a27:zN K "_law_take" =zr f27) (l27:K.lookup f27=zl "_law_take" sTake oc27 od27 kV27 dc27 pm27 an27 cd27 ct27 sl27) (c27:zc K cd27 "_law_take" =true) (k27:zk K f27=true)
  (a28:zN K "_law_lot" =zr f28) (l28:K.lookup f28=zl "_law_lot" sLot oc28 od28 kV28 dc28 pm28 an28 cd28 ct28 sl28) (c28:zc K cd28 "_law_lot" =true) (k28:zk K f28=true)
  (a29:zN K "_law_box" =zr f29) (l29:K.lookup f29=zl "_law_box" sBox oc29 od29 kV29 dc29 pm29 an29 cd29 ct29 sl29) (c29:zc K cd29 "_law_box" =true) (k29:zk K f29=true)
  (a30:zN K "_law_from" =zr f30) (l30:K.lookup f30=zl "_law_from" xG oc30 od30 kV30 dc30 pm30 an30 cd30 ct30 sl30) (c30:zc K cd30 "_law_from" =true) (k30:zk K f30=true)
  (a31:zN K "_law_coverings" =zr f31) (l31:K.lookup f31=zl "_law_coverings" sCovs oc31 od31 kV31 dc31 pm31 an31 cd31 ct31 sl31) (c31:zc K cd31 "_law_coverings" =true) (k31:zk K f31=true)
  (a32:zN K "_law_weight" =zr f32) (l32:K.lookup f32=zl "_law_weight" jBF oc32 od32 kV32 dc32 pm32 an32 cd32 ct32 sl32) (c32:zc K cd32 "_law_weight" =true) (k32:zk K f32=true)
  (a33:zN K "_law_drawn" =zr f33) (l33:K.lookup f33=zl "_law_drawn" jDO oc33 od33 kV33 dc33 pm33 an33 cd33 ct33 sl33) (c33:zc K cd33 "_law_drawn" =true) (k33:zk K f33=true)
  (a34:zN K "law" =zr f34) (l34:K.lookup f34=zl "law" sLaw oc34 od34 kV34 dc34 pm34 an34 cd34 ct34 sl34) (c34:zc K cd34 "law" =true) (k34:zk K f34=true)
   (z1:zN K "len" =some none) (z2:zN K "range" =some none) (z3:zN K "tuple" =some none) (z4:zN K "sorted" =some none) (z5:zN K "set" =some none) (z6:zN K "list" =some none) (z7:zN K "int" =some none) (z8:zN K "isinstance" =some none) (z9:zN K "bool" =some none) (z10:zN K "str" =some none) (z11:zN K "all" =some none) (z12:zN K "zip" =some none) (z13:zN K "max" =some none) (z14:zN K "min" =some none) (z15:zN K "any" =some none) (z16:zN K "abs" =some none) (z17:zN K "sum" =some none) (z18:zN K "enumerate" =some none) (z19:zN K "dict" =some none) {tb1 cc1:Addr}(cde1:cd6= .ref cc1) (hcd1:codeHdIn K cc1 tb1=true) {tb2 cc2:Addr}(cde2:cd13= .ref cc2) (hcd2:codeHdIn K cc2 tb2=true) {tb3 cc3:Addr}(cde3:cd24= .ref cc3) (hcd3:codeHdIn K cc3 tb3=true) {bmA:Addr}(xb1:zN K "__builtins__" =zr bmA) (xb2:K.lookup bmA=some ⟨.type "module",some builtinsNs, .plain,#[]⟩) (xb3:bmA≠builtinsNs) (xb4:bmA≠mainGlobals):
  ∃ fd:FuncData,(∀ (s:Shared) (v:Value),BindsTo s fd ⟨[v],[]⟩ [("script",v)])/\∀ Aq:Heap,K.In Aq->Aq.Ns mainGlobals mg->FnOk l.prog w K mg Aq CX0 20 fa fd ["script"] (spLaw K tb1 tb2 tb3):=by
 have e:=hfa.symm.trans (gE X G a34);cases e;have T:Txt mg:=⟨bi X G z1,bi X G z2,bi X G z3,bi X G z4,bi X G z5,bi X G z6,bi X G z7,bi X G z8,bi X G z9,bi X G z10,bi X G z11,bi X G z12,bi X G z13,bi X G z14,bi X G z15,bi X G z16,bi X G z17,bi X G z18,bi X G z19⟩;have F1:=kE (st:=jC4) l1 c1 k1;have F2:=kE (st:=jAS) l2 c2 k2;have F3:=kE (st:=jDN) l3 c3 k3;have F4:=kE (st:=sMask) l4 c4 k4;have F5:=kE (st:=jDK) l5 c5 k5;have F6:=kE (st:=yB) l6 c6 k6;have b6:Binds K _ ["box","things","pieces"] []:=zb3 F6;have F7:=kE (st:=sCov) l7 c7 k7;have F8:=kE (st:=yN) l8 c8 k8;have F9:=kE (st:=sFull) l9 c9 k9;have F10:=kE (st:=sAt) l10 c10 k10;have F11:=kE (st:=sMet) l11 c11 k11;have F12:=kE (st:=xF) l12 c12 k12;have F13:=kE (st:=xD) l13 c13 k13;have b13:Binds K _ ["choices"] []:=zb1 F13;have F14:=kE (st:=sMany) l14 c14 k14;have F15:=kE (st:=jC2) l15 c15 k15;have F16:=kE (st:=jAT) l16 c16 k16;have F17:=kE (st:=xH) l17 c17 k17;have F18:=kE (st:=jDL) l18 c18 k18;have F19:=kE (st:=jB2) l19 c19 k19;have F20:=kE (st:=jBG) l20 c20 k20;have F21:=kE (st:=qA) l21 c21 k21;have F22:=kE (st:=jDM) l22 c22 k22;have F23:=kE (st:=jB3) l23 c23 k23;have F24:=kE (st:=qE) l24 c24 k24;have b24:Binds K _ ["box"] []:=zb1 F24;have F25:=kE (st:=sCell) l25 c25 k25;have F26:=kE (st:=sPot) l26 c26 k26;have F27:=kE (st:=sTake) l27 c27 k27;have F28:=kE (st:=sLot) l28 c28 k28;have F29:=kE (st:=sBox) l29 c29 k29;have F30:=kE (st:=xG) l30 c30 k30;have F31:=kE (st:=sCovs) l31 c31 k31;have F32:=kE (st:=jBF) l32 c32 k32;have F33:=kE (st:=jDO) l33 c33 k33;have F34:=kE (st:=sLaw) l34 c34 k34;refine⟨PySem.W.fnOf "law" "law" (yE sLaw) (jE sLaw) (j8 sLaw) .none kV34 dc34 pm34 an34 cd34 ct34,fun s v=> .of_eq rfl,fun Aq KB _=>?_⟩;have M:=fun {x:Str}{f:Addr}(a:PySem.W.nsIn K mainGlobals x=some (some (.ref f)))=>gE X G a;have M':=fun {x:Str}{v:Value}(a:PySem.W.nsIn K mainGlobals x=some (some v))=>gE X G a;have CD1:PySem.W.CodeHd Aq cc1 tb1:=fg KB hcd1;have FC1:FunC K "picked" "picked" yB f6 _ cc1:=⟨_,_,_,_,_,_,_,_,rfl,cde1 ▸ l6,cde1 ▸ c6⟩;have CD2:PySem.W.CodeHd Aq cc2 tb2:=fg KB hcd2;have FC2:FunC K "ways_of" "ways_of" xD f13 _ cc2:=⟨_,_,_,_,_,_,_,_,rfl,cde2 ▸ l13,cde2 ▸ c13⟩;have CD3:PySem.W.CodeHd Aq cc3 tb3:=fg KB hcd3;have FC3:FunC K "lightest" "lightest" qE f24 _ cc3:=⟨_,_,_,_,_,_,_,_,rfl,cde3 ▸ l24,cde3 ▸ c24⟩;have BM:BltAt Aq mg:=⟨bmA,_,gE X G xb1,xb3,xb4,KB _ _ xb2,rfl,rfl,rfl⟩;have C1:Can l.prog w K mg Aq "is_whole" 1 f1 _ ["thing"] spWh:=⟨jNG F1 T,M a1,k1,(zb1 F1)⟩;have C2:Can l.prog w K mg Aq "is_rising" 2 f2 _ ["thing"] (spB risB):=⟨jNL F2 T C1,M a2,k2,(zb1 F2)⟩;have C3:Can l.prog w K mg Aq "is_lot" 3 f3 _ ["thing","many"] (spB2 lotB):=⟨jR0 F3 T C2,M a3,k3,(zb2 F3)⟩;have C4:Can l.prog w K mg Aq "mask_of" 1 f4 _ ["lot"] jE6:=⟨jUN F4 T,M a4,k4,(zb1 F4)⟩;have C5:Can l.prog w K mg Aq "musts_of" 1 f5 _ ["box"] jD1:=⟨jQW F5 T,M a5,k5,(zb1 F5)⟩;have C6:Can l.prog w K mg Aq "picked" 2 f6 _ ["box","things","pieces"] (jBS tb1):=⟨jNM FC1 T CD1 BM,M a6,k6,b6⟩;have C7:Can l.prog w K mg Aq "is_covering" 4 f7 _ ["box","thing"] jFF:=⟨jUT F7 T C3,M a7,k7,(zb2 F7)⟩;have C8:Can l.prog w K mg Aq "choices_of" 2 f8 _ ["box"] jAY:=⟨jLP F8 T C4,M a8,k8,(zb1 F8)⟩;have C9:Can l.prog w K mg Aq "full_mask" 1 f9 _ ["choices"] jFD:=⟨jUR F9 T,M a9,k9,(zb1 F9)⟩;have C10:Can l.prog w K mg Aq "choices_at" 1 f10 _ ["choices","mask"] spAt:=⟨ok_at F10 T,M a10,k10,(zb2 F10)⟩;have C11:Can l.prog w K mg Aq "masks_met" 2 f11 _ ["choices"] spMet:=⟨jWX F11 T C9 C10,M a11,k11,(zb1 F11)⟩;have C12:Can l.prog w K mg Aq "gathered" 4 f12 _ ["choices","at_end","join"] jIT:=⟨FnOk.ex fun x o=>(jNO F12 T C9 C11 C10 ((jX0 o T).mono Ac) ZT.st (zhW.ok _ _) (RWay.ok _) o).ok,M a12,k12,(zb3 F12)⟩;have C13:Can l.prog w K mg Aq "ways_of" 5 f13 _ ["choices"] (jJX tb2):=⟨jUK FC2 T CD2 BM C12,M a13,k13,b13⟩;have C14:Can l.prog w K mg Aq "many" 6 f14 _ ["box"] (jDH tb2):=⟨jUO F14 T C8 C13,M a14,k14,(zb1 F14)⟩;have C15:Can l.prog w K mg Aq "forced_next" 2 f15 _ ["box","held"] jJY:=⟨jUM F15 T C4 C5,M a15,k15,(zb2 F15)⟩;have C16:Can l.prog w K mg Aq "behind" 4 f16 _ ["box","some"] (jDW tb1):=⟨jNQ F16 T C3 C6,M a16,k16,(zb2 F16)⟩;have C17:Can l.prog w K mg Aq "is_idle" 2 f17 _ ["box","number"] jJZ:=⟨jUQ F17 T C5,M a17,k17,(zb2 F17)⟩;have C18:Can l.prog w K mg Aq "least_idle" 3 f18 _ ["box"] jFZ:=⟨jQY F18 T C17,M a18,k18,(zb1 F18)⟩;have C19:Can l.prog w K mg Aq "step_of" 5 f19 _ ["box"] (jBR tb1):=⟨jNK F19 T C18 C6 C15 C16,M a19,k19,(zb1 F19)⟩;have C20:Can l.prog w K mg Aq "traced" 1 f20 _ ["places","numbers"] jAN:=⟨jNJ F20 T,M a20,k20,(zb2 F20)⟩;have C21:Can l.prog w K mg Aq "turned_smaller" 6 f21 _ ["box"] (yM tb1):=⟨jNI F21 T C19 C20,M a21,k21,(zb1 F21)⟩;have C22:Can l.prog w K mg Aq "led_back" 7 f22 _ ["box","covering"] (jBD tb1):=⟨jQZ F22 T C21 C7 C20,M a22,k22,(zb2 F22)⟩;have C23:Can l.prog w K mg Aq "led_there" 7 f23 _ ["box","covering"] (jAO tb1):=⟨jNN F23 T C21 C7,M a23,k23,(zb2 F23)⟩;have C24:Can l.prog w K mg Aq "lightest" 5 f24 _ ["box"] (jBC tb3):=⟨jQX FC3 T CD3 BM C8 (fun cl i=>jNO F12 T C9 C11 C10 ((jIY T cl i).mono Ac) (ZC.st _ _ _) (zhL.ok cl i) (RLt.ok _ _) (qR i.g)) (M a12) k12 (zb3 F12),M a24,k24,b24⟩;have C25:Can l.prog w K mg Aq "_law_cell_at" 1 f25 _ ["script","k"] (jK0 K):=⟨jUU F25 T,M a25,k25,(zb2 F25)⟩;have C26:Can l.prog w K mg Aq "_law_pot" 1 f26 _ ["cell"] spPot:=⟨jWW F26 T,M a26,k26,(zb1 F26)⟩;have C27:Can l.prog w K mg Aq "_law_take" 1 f27 _ ["pot","wide"] yW:=⟨jUL F27,M a27,k27,(zb2 F27)⟩;have C28:Can l.prog w K mg Aq "_law_lot" 2 f28 _ ["pot","wide"] xC:=⟨jWY F28 T C27,M a28,k28,(zb2 F28)⟩;have C29:Can l.prog w K mg Aq "_law_box" 3 f29 _ ["pot","most_things","most_pieces"] spBox:=⟨jX1 F29 T C27 C28,M a29,k29,(zb3 F29)⟩;have C30:Can l.prog w K mg Aq "_law_from" 18 f30 _ ["box","thing","held"] (jFE 16):=⟨jNP F30 T (M a30) k30 (zb3 F30) 16,M a30,k30,(zb3 F30)⟩;have C31:Can l.prog w K mg Aq "_law_coverings" 19 f31 _ ["box"] jDI:=⟨jUS F31 T C30,M a31,k31,(zb1 F31)⟩;have C32:Can l.prog w K mg Aq "_law_weight" 1 f32 _ ["box","covering"] jAM:=⟨jNH F32 T,M a32,k32,(zb2 F32)⟩;have C33:Can l.prog w K mg Aq "_law_drawn" 4 f33 _ ["script","k","things","pieces"] (jBE K):=⟨jR1 F33 T C25 C26 C27 C29,M a33,k33,(zb4 F33)⟩;exact jWZ T C33 C21 C31 C14 C22 C23 C24 C32 F34
theorem walk {l:PySem.W.OpenLaw}{q:Program}{loose:Am}{XP:(Ak)->Heap->Prop}{YP:World->Heap->Prop}{d:DefRec}{K:Params->W.Frag}(hn:l.most=some 63)(hdf:d.params.defaults=[]){tb1 tb2 tb3:Addr}{cc1 cc2 cc3:Addr}
  (hY:∀ (w:World) (h:Heap),YP w h->(K w.params).In h/\∀ T∈[tb1,tb2,tb3],h.get? T=some (tabObj #[])) (hcd:∀ w:World,codeHdIn (K w.params) cc1 tb1=true/\codeHdIn (K w.params) cc2 tb2=true/\codeHdIn (K w.params) cc3 tb3=true) (hKT:∀ w:World,∀ T∈[tb1,tb2,tb3],(K w.params).lookup T=none) (hnd:([tb1,tb2,tb3]:List Addr).Nodup)
  (F:∀ (w:World) (mg:Ak) (fa:Addr) (h:Heap),(K w.params).In h->h.Ns mainGlobals mg->mg d.name=some (.ref fa)->
   ∃ fd:FuncData,(∀ (s:Shared) (u:Value),BindsTo s fd ⟨[u],[]⟩ [("script",u)])/\∀ Aq:Heap,(K w.params).In Aq->Aq.Ns mainGlobals mg->FnOk l.prog w (K w.params) mg Aq CX0 20 fa fd ["script"] (spLaw (K w.params) tb1 tb2 tb3)):
  PySem.W.WalkO q loose XP YP l.row.toRowW d [] (fun f vs=>PySem.call f vs):=
 L2.walk_ofTs (cts:=[(cc1,tb1),(cc2,tb2),(cc3,tb3)]) (n:=63) (k:=20) (x:= "script") (CX:=fun _=>CX0) (sp:=fun w=>spLaw (K w.params) tb1 tb2 tb3) hn Ac hdf ⟨rfl,Ac,Ac⟩ hY (fun w p hp=>by
  obtain⟨_h0,_h1,_h2⟩:=hcd w;simp only [aG,b8,eQ] at hp;rcases hp with rfl | rfl | rfl <;> assumption) hKT F (fun _ H a ns hl hT hS=>⟨a,ns,rfl,hS,hl, .inl (hT _ az), .inl (hT _ (aB _ az)), .inl (hT _ (aB _ (aB _ az))),(by rintro rfl; simp at hnd),(by rintro rfl; simp at hnd),(by rintro rfl; simp at hnd),fun _=>rfl⟩) fun _ _ _ _ _ z=>z
end Eo
open PySem PySem.W PyProof.Rows
set_option maxRecDepth 100000 in
set_option maxHeartbeats 0 in
theorem PySem.Challenge.cw_eachonce_k88_whole_one_to_one_holds : PySem.Challenge.rw_eachonce_k88_whole_one_to_one.Holds := by
 w_on
 refine holds_law Ab fun said=>?_;refine holds_open (q:=Eo.vw) (loose:=[]) (Xt:=fun s=>xlAt Eo.vw [] s&&recOk (RowW.records (OpenRow.toRowW PySem.Challenge.rw_eachonce_k88_whole_one_to_one.row)) s) (XP:=XL Eo.vw []) (Yf:=Hook.obs Eo.kH) (Ya:=Hook.val Eo.kH) (YP:=Hook.says Eo.kH) (N:=4100) Eo.left (Hook.of Eo.kH) (Hook.keeps Eo.kH) (fun s e=>xl_of s (gJ.mp e).1) XL.keeps (by rfl) (by rfl) (by rfl) (fun s e=>recFacts_of (gJ.mp e).2) rfl said Ab ⟨rfl,rfl,rfl,rfl,rfl,Ab⟩ ?hw ?hc
 case hw=>w_witness2
 refine Eo.walk (l:=PySem.Challenge.rw_eachonce_k88_whole_one_to_one) (K:=Eo.kK) rfl rfl (tb1:=45) (cc1:=47) (tb2:=121) (cc2:=125) (tb3:=186) (cc3:=190) (fun w h Y=>⟨PySem.W.km_in_of Y,PySem.W.km_tabs_of Y⟩) (fun w=>⟨by kernel_rfl,by kernel_rfl,by kernel_rfl⟩) (fun w T hm=>by
   simp only [aG,b8,eQ] at hm;rcases hm with rfl | rfl | rfl <;> kernel_rfl) Ac ?F
 case F=>
  intro w mg fa h KX G hmg
  k_fill
  refine' Eo.all_mk KX G hmg _ _ _ _ _ _ _ _ _ _ _ _ _ _ _ _ _ _ _ _ _ _ _ _ _ _ _ _ _ _ _ _ _ _ _ _ _ _ _ _ _ _ _ _ _ _ _ _ _ _ _ _ _ _ _ _ _ _ _ _ _ _ _ _ _ _ _ _ _ _ _ _ _ _ _ _ _ _ _ _ _ _ _ _ _ _ _ _ _ _ _ _ _ _ _ _ _ _ _ _ _ _ _ _ _ _ _ _ _ _ _ _ _ _ _ _ _ _ _ _ _ _ _ _ _ _ _ _ _ _ _ _ _ _ _ _ _ _ _ _ _ _ _ _ _ _ _ _ _ _ _ _ _ _ _ (tb1:=45) rfl (by kernel_rfl) (tb2:=121) rfl (by kernel_rfl) (tb3:=186) rfl (by kernel_rfl) (bmA:=4) (by kernel_rfl) (by kernel_rfl) Ac Ac
  all_goals ((try delta Eo.zN); (try delta Eo.zr); (try delta Eo.zl); (try delta Eo.zc); (try delta Eo.zk); try k_is)
end
